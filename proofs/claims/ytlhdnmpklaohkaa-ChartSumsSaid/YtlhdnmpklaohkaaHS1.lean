/- Contracts and the law of ChartSums, part 1: what was proved of each, callees first. -/
import Derived.Test.YtlhdnmpklaohkaaProg
import Derived.WalkKit
import Derived.WalkSpells
import Derived.Lib.Hide
import Derived.Deep.QuietTactic
import Derived.BigQuiet
import Derived.Deep.Draws
import Derived.Laws.Rows
import Derived.Laws.CopyOwn
import Derived.Deep.OwnRows
import Derived.Outline
import Derived.Laws.AppendOwnNone
import Derived.OwnWalk
import Derived.Maps.AppendAt
import Derived.Laws.StructEq
import Derived.Deep.LoopGhost
import Derived.Deep.CutRange
import Derived.Deep.Slices
import Derived.Deep.Fields
import Derived.Test.YtlhdnmpklaohkaaHK1
namespace Go.Proofs.Ytlhdnmpklaohkaa
open Go.RowKit
def Blk (k : IntKind) (t : TypeId) (w : World) (g : Nat) (L : List Nat) : Prop := w.heap[g]? = some (.cells (L.map fun (d : Nat) => Value.int k (d : Int)).toArray t (0, 0))
section
variable {k : IntKind} {t : TypeId} {w w' : World} {b o g B : Nat} {L : List Nat}
end
section
variable {k : IntKind} {t : TypeId} {w w' : World} {g B B' c : Nat} {A : Option Addr} {L : List Nat}
end
theorem wpList_make_zeros {P : Program} (w : World) {ops : Array Oper} {rest : List Oper} {o : Oper} {a : Act} {Q : Exit → Act → World → Prop}
  (hg : o.guard = none) (l c : Operand) (t : TypeId) (hop : o.op = Op.makeSlice t l c)
  (e : TypeId) (k : IntKind) (i : TypeInfo) (bytes : Nat) (ht : P.underlying t = some (.slice e)) (hi : P.info? e = some i) (hz : i.zero = some (.int k 0)) (hsize : i.size = 1) (hbt : i.bytes = bytes)
  (kl kc : IntKind) (N C : Int) (n : Nat) (hl : a.eval l = .int kl N) (hc : a.eval c = .int kc C) (hN : N = (n : Int)) (hC : C = (n : Int)) (hb8 : bytes ≤ 8) (hn : n ≤ 100000000)
  (hK : ∀ w', Hid (Blk k e w' w.heap.size (List.replicate n 0)) → Below w.heap.size w w' → w.heap.size + 1 = w'.heap.size → wpList P ops Q rest (a.put o.dst (.slice (some ⟨w.heap.size, 0, none⟩) n n)) w') :
  wpList P ops Q (o :: rest) a w := by
 subst hN
 subst hC
 refine wpList_make_row w hg l c t hop e i (.int k 0) ht hi hz hsize rfl kl kc n hl hc ?_ (by omega) ?_
 ·have : i.bytes * n ≤ 8 * n := Nat.mul_le_mul_right _ (by omega)
  omega
 refine hK _ ?_ (below_alloc_new _) (by simp)
 show _ = _
 rw [heap_alloc_new]
 have : madeCells #[Value.int k 0] n = ((List.replicate n 0).map fun (d : Nat) => Value.int k (d : Int)).toArray := by
  apply Array.ext
  ·simp [madeCells]
  ·intro j h1 h2
   simp [madeCells, Nat.mod_one]
 rw [this]
theorem dc_drew {B : Nat} {a w : World} (h : Below B a w) : Below B a w.drew := ⟨h.os, h.tape, h.output, h.size, h.block⟩
open Go.RowKit
section
variable {k : IntKind} {e : TypeId} {w w' : World} {base B : Nat} {v : Value} {A : Option Addr} {L M zs : List Int}
theorem OwnI.alloc (h : OwnI k e w base v L) (o : Obj) : OwnI k e (w.alloc o) base v L := World.ownsRow.alloc h o
end
open Go.RowKit
structure IB (w : World) (b : Nat) (L : List Int) : Prop where
 blk : ∃ t : TypeId, w.heap[b]? = some (.cells (L.map fun (x : Int) => Value.int .i64 x).toArray t (0, 0))
section
variable {w w' : World} {b : Nat} {L : List Int}
theorem IB.lt (h : IB w b L) : b < w.heap.size := by
 obtain ⟨t, h⟩ := h.blk
 rcases Nat.lt_or_ge b w.heap.size with hlt | hge
 ·exact hlt
 ·rw [Array.getElem?_eq_none hge] at h; cases h
theorem IB.cell (h : IB w b L) (i : Nat) (hi : i < L.length) : w.cell? ⟨b, i, none⟩ = some (.int .i64 (L.getD i 0)) := by
 obtain ⟨t, h⟩ := h.blk
 simp [World.cell?, h, hi]
theorem IB.frozen (h : IB w b L) (i : Nat) : w.frozen? ⟨b, i, none⟩ = false := by
 obtain ⟨t, h⟩ := h.blk
 simp [World.frozen?, h]
theorem IB.set (h : IB w b L) (i : Nat) (x : Int) : IB (w.setCell ⟨b, i, none⟩ (.int .i64 x)) b (L.set i x) := by
 obtain ⟨t, h⟩ := h.blk
 exact ⟨t, by simp [World.setCell, Array.getElem?_modify, h, List.map_set]⟩
theorem IB.up (h : IB w b L) {B : Nat} (hb : Below B w w') (hlt : b < B) : IB w' b L := by
 obtain ⟨t, h⟩ := h.blk
 exact ⟨t, (hb.block b hlt).trans h⟩
theorem IB.more (h : IB w b L) (hb : Below w.heap.size w w') : IB w' b L := h.up hb h.lt
theorem IB.drew (h : IB w b L) : IB w.drew b L := ⟨h.blk⟩
theorem IB.alloc (h : IB w b L) (o : Obj) : IB (w.alloc o) b L := h.more (below_alloc_new o)
theorem IB.zeros {t : TypeId} {n : Nat} (h : Blk .i64 t w b (List.replicate n 0)) : IB w b (List.replicate n (0 : Int)) := by
 refine ⟨t, ?_⟩
 unfold Blk at h
 rw [h]
 simp
end
instance : DecidableEq Bal := fun a b => decidable_of_iff (a.acct = b.acct ∧ a.amt = b.amt) (by cases a; cases b; simp)
abbrev bal0 : Bal := ⟨0, 0⟩
theorem ends_par {L : List Acc} {c : Int} {a : Acc} (h : fnd L c = some a) (he : Ends L c) : Ends L a.par := by
 obtain ⟨n, he⟩ := he
 cases n with
 | zero => omega
 | succ n => rw [climbN_some h] at he; exact ⟨n, by simpa using he⟩
theorem climb_some {L : List Acc} {c : Int} {a : Acc} (h : fnd L c = some a) (he : Ends L c) : climb L c = c :: climb L a.par := by
 have h2 := ends_climb (ends_par h he)
 have h3 := ends_climb he
 unfold climb at *
 rw [climbN_some h] at h3 ⊢
 have h4 : (climbN L L.length a.par).length < L.length := by simp at h3; omega
 rw [climbN_more h4 (Nat.le_succ _)]
theorem climb_none {L : List Acc} {c : Int} (h : fnd L c = none) : climb L c = [] := climbN_none h
theorem climb_nodup {L : List Acc} {c : Int} (h : Ends L c) : (climb L c).Nodup := by
 have := ends_climb h
 unfold climb at *
 exact climbN_nodup (by omega)
def kids (L : List Acc) (c : Int) : List Int := (L.filter fun a => decide (a.par = c)).map Acc.code
theorem kids_take_succ {L : List Acc} {c : Int} {k : Nat} (hk : k < L.length) : kids (L.take (k + 1)) c = if (L.getD k acc0).par = c then kids (L.take k) c ++ [(L.getD k acc0).code] else kids (L.take k) c := by
 rw [take_succ_getD (d := acc0) hk]
 unfold kids
 rw [List.filter_append, List.map_append]
 generalize L.getD k acc0 = x
 split
 ·rename_i h; rw [List.filter_cons_of_pos (by simp [h])]; rfl
 ·rename_i h; rw [List.filter_cons_of_neg (by simp [h])]; simp
theorem kids_len {L : List Acc} {c : Int} : (kids L c).length ≤ L.length := by
 unfold kids; rw [List.length_map]; exact List.length_filter_le _ _
def amtB (n : Int) : Bool := decide (-1000000000000 ≤ n) && decide (n ≤ 1000000000000)
open Go.RowKit
structure B2 (w : World) (b o : Nat) (a : Bal) : Prop where
 c0 : w.cell? ⟨b, o, none⟩ = some (.int .i64 a.acct)
 c1 : w.cell? ⟨b, o + 1, none⟩ = some (.int .i64 a.amt)
def BalAt (w : World) (A : Option Addr) (L : List Bal) : Prop := 0 < L.length → ∃ b off, A = some ⟨b, off, none⟩ ∧ b < w.heap.size ∧ ∀ i, i < L.length → B2 w b (off + i * 2) (L.getD i bal0)
structure BB (w : World) (g : Nat) (a : Bal) : Prop where
 cells : B2 w g 0 a
 lt : g < w.heap.size
section
variable {w w' : World} {b o g B : Nat} {a : Acc} {x : Bal} {A : Option Addr} {L : List Acc} {M : List Bal}
theorem B2.up (h : B2 w b o x) (hb : Below B w w') (hlt : b < B) : B2 w' b o x :=
 ⟨(hb.cell (p := ⟨b, o, none⟩) hlt).trans h.c0, (hb.cell (p := ⟨b, o + 1, none⟩) hlt).trans h.c1⟩
theorem BalAt.up (h : BalAt w A M) (hb : Below w.heap.size w w') : BalAt w' A M := fun h0 => by
 obtain ⟨b, off, e, hlt, hc⟩ := h h0
 exact ⟨b, off, e, Nat.lt_of_lt_of_le hlt hb.size, fun i hi => (hc i hi).up hb hlt⟩
theorem BalAt.nil : BalAt w A [] := fun h => absurd h (by simp)
theorem BB.up (h : BB w g x) (hb : Below w.heap.size w w') : BB w' g x := ⟨h.cells.up hb h.lt, Nat.lt_of_lt_of_le h.lt hb.size⟩
end
theorem bb_new (w : World) (t : TypeId) (a : Bal) : BB (w.alloc (.cells #[.int .i64 a.acct, .int .i64 a.amt] t)) w.heap.size a := by
 refine ⟨⟨?_, ?_⟩, by simp⟩ <;> (simp only [World.cell?]; rw [heap_alloc_new]; rfl)
def SlB (w : World) (v : Value) (L : List Bal) : Prop := ∃ A c, v = .slice A L.length c ∧ BalAt w A L
theorem SlB.nil {w : World} : SlB w (.slice none 0 0) [] := ⟨none, 0, rfl, BalAt.nil⟩
def balC (b : Bal) : List Value := [.int .i64 b.acct, .int .i64 b.amt]
def OwnB (e : TypeId) (w : World) (base : Nat) (v : Value) (L : List Bal) : Prop := w.ownsRow base e 2 v L.length (L.flatMap balC)
theorem balC_get : ∀ (L : List Bal) (i : Nat), i < L.length → (L.flatMap balC)[i * 2]? = some (.int .i64 (L.getD i bal0).acct) ∧ (L.flatMap balC)[i * 2 + 1]? = some (.int .i64 (L.getD i bal0).amt)
 | [], i, h => by simp at h
 | a :: L, 0, _ => by simp [balC]
 | a :: L, i + 1, h => by
  have := balC_get L i (by simpa using h)
  have e1 : (i + 1) * 2 = i * 2 + 1 + 1 := by omega
  rw [List.flatMap_cons, e1]
  simpa [balC] using this
theorem OwnB.nil {e : TypeId} {w : World} {base : Nat} : OwnB e w base (.slice none 0 0) [] := World.ownsRow_nil _ _ _ _
theorem OwnB.slb {e : TypeId} {w : World} {base : Nat} {v : Value} {L : List Bal} (h : OwnB e w base v L) : SlB w v L := by
 obtain ⟨h1, h2⟩ := h
 rcases h2 with ⟨rfl, h0⟩ | ⟨g, cap, cur, rfl, hbg, hg, hn, hcap, hsz, hcur⟩
 ·obtain rfl : L = [] := List.eq_nil_of_length_eq_zero h0
  exact SlB.nil
 ·refine ⟨_, cap, rfl, fun _ => ⟨g, 0, rfl, ?_, fun j hj => ?_⟩⟩
  ·rcases Nat.lt_or_ge g w.heap.size with hlt | hge
   ·exact hlt
   ·rw [Array.getElem?_eq_none hge] at hg; cases hg
  ·have key : ∀ i, i < L.length * 2 → w.cell? ⟨g, i, none⟩ = (L.flatMap balC)[i]? := by
    intro i hi
    rw [← hcur, List.getElem?_take, if_pos hi]
    simp only [World.cell?, hg]
    simp
   obtain ⟨k1, k2⟩ := balC_get L j hj
   exact ⟨by rw [Nat.zero_add, key _ (by omega)]; exact k1, by rw [Nat.zero_add, key _ (by omega)]; exact k2⟩
theorem wpList_append_bal {P : Program} (w : World) {ops : Array Oper} {rest : List Oper} {o : Oper} {a : Act} {Q : Exit → Act → World → Prop} (hgd : o.guard = none) (s x : Operand) (t : TypeId)
  (ho : o.op = .call { callee := .builtin .append, args := #[s, x], argTypes := #[t, t] })
  (base : Nat) (e : TypeId) (i : TypeInfo) (bytes : Nat) (ht : P.underlying t = some (.slice e)) (hi : P.info? e = some i) (hz : i.zero = some (.agg #[.int .i64 0, .int .i64 0]))
  (hsize : i.size = 2) (hby : i.bytes = bytes) (hb8 : bytes ≤ 16)
  (v : Value) (L : List Bal) (hs : a.eval s = v) (hown : OwnB e w base v L) (X Y : Int) (c : Nat) (hx : a.eval x = .slice (some ⟨w.heap.size, 0, none⟩) 1 c)
  (hlen : L.length ≤ 100000000) (hbase : base ≤ w.heap.size)
  (h : ∀ v' w', Hid (OwnB e w' base v' (L ++ [⟨X, Y⟩])) → Below base w w' → wpList P ops Q rest (a.put o.dst v') w') : wpList P ops Q (o :: rest) a (w.alloc (.cells #[.int .i64 X, .int .i64 Y] e)) := by
 refine wpList_append_own (w.alloc (.cells #[.int .i64 X, .int .i64 Y] e)) hgd s x t ho base e i (.agg #[.int .i64 0, .int .i64 0]) 2 bytes ht hi hz hsize hby rfl (by decide) v L.length (L.flatMap balC) hs (World.ownsRow.alloc hown _)
  ⟨w.heap.size, 0, none⟩ 1 c [.int .i64 X, .int .i64 Y] hx rfl ?_ ?_ ?_ ?_ ?_ ?_
 ·intro j u hj
  match j, hj with
  | 0, hj =>
   simp at hj; subst hj
   unfold World.cell? Addr.add
   rw [if_pos rfl]
   dsimp only
   rw [heap_alloc_new]
   rfl
  | 1, hj =>
   simp at hj; subst hj
   unfold World.cell? Addr.add
   rw [if_neg (by decide)]
   dsimp only
   rw [heap_alloc_new]
   rfl
  | j + 2, hj => simp at hj
 ·intro u hu
  simp at hu
  rcases hu with rfl | rfl <;> rfl
 ·unfold maxLen; omega
 ·have : (L.length + 1) * bytes ≤ (L.length + 1) * 16 := Nat.mul_le_mul_left _ hb8
  omega
 ·simp; omega
 ·intro v' w' h1 h2 _
  refine h v' w' ?_ ?_
  ·show World.ownsRow _ _ _ _ _ _ _
   rw [List.length_append, List.flatMap_append]
   exact h1
  ·refine ((Below.refl base w).alloc hbase _).grown h2 (by simp; omega) (fun j hj => ?_)
   exact (World.ownsRow.lt hown j hj).1
theorem wpList_append_bg {P : Program} (w : World) {ops : Array Oper} {rest : List Oper} {o : Oper} {a : Act} {Q : Exit → Act → World → Prop} (hgd : o.guard = none) (s x : Operand) (t : TypeId)
  (ho : o.op = .call { callee := .builtin .append, args := #[s, x], argTypes := #[t, t] })
  (base : Nat) (e : TypeId) (i : TypeInfo) (bytes : Nat) (ht : P.underlying t = some (.slice e)) (hi : P.info? e = some i) (hz : i.zero = some (.agg #[.int .i64 0, .int .i64 0]))
  (hsize : i.size = 2) (hby : i.bytes = bytes) (hb8 : bytes ≤ 16)
  (v : Value) (L : List Bal) (hs : a.eval s = v) (hown : OwnB e w base v L) (X Y : Int) (g c : Nat) (hg : g = w.heap.size) (hx : a.eval x = .slice (some ⟨g, 0, none⟩) 1 c)
  (hlen : L.length ≤ 100000000) (hbase : base ≤ w.heap.size)
  (h : ∀ v' w', Hid (OwnB e w' base v' (L ++ [⟨X, Y⟩])) → Below base w w' → wpList P ops Q rest (a.put o.dst v') w') : wpList P ops Q (o :: rest) a (w.alloc (.cells #[.int .i64 X, .int .i64 Y] e)) := by
 subst hg
 exact wpList_append_bal w hgd s x t ho base e i bytes ht hi hz hsize hby hb8 v L hs hown X Y c hx hlen hbase h
theorem infoI_bal : (Try.prog.info? 43).map (fun i => (i.zero, i.size, i.bytes)) = some (some (.agg #[.int .i64 0, .int .i64 0]), 2, 16) := by kernel_rfl
open Go.RowKit
set_option maxRecDepth 20000 in
set_option maxHeartbeats 1600000 in
theorem ckids_any (A : Option Addr) (cp : Nat) (L : List Acc) (c : Int) (w : World) (hz : AccAt w A L) (hl : L.length ≤ 1000) :
  Calls Try.prog 16 #[.slice A L.length cp, .int .i64 c] w fun e w' => ∃ v, e = .returned v ∧ SlI w' v (kids L c) ∧ Below w.heap.size w w' := by
 have hB := Below.refl w.heap.size w
 obtain ⟨n, hn⟩ : ∃ n, L.length = n := ⟨_, rfl⟩
 obtain ⟨s0, hs0⟩ : ∃ s0, w.heap.size = s0 := ⟨_, rfl⟩
 rw [hn] at hl ⊢
 rw [hs0] at hB ⊢
 have HN := Lib.hid hn
 have HZ := Lib.hid hz
 have HS0 := Lib.hid hs0
 obtain ⟨i0, hi, hz0, hz1, hz2⟩ := info_parts infoI_int
 clear hn hz hs0
 go_enter Try.func16, Try.ntmps16
 go_wp2_with fail
 have hO : Hid (OwnI .i64 3 w s0 (.slice none 0 0) (kids (L.take 0) c)) := Lib.hid OwnI.nil
 go_loopg [5, 10] n (fun kx s5 s10 wr => ∃ k : Nat, s10 = .int .i64 k ∧ k ≤ n ∧ n - k ≤ kx ∧ Hid (OwnI .i64 3 wr s0 s5 (kids (L.take k) c)) ∧ Below s0 w wr)
 case atStart => exact ⟨0, rfl, by omega, by omega, hO, hB⟩
 case round =>
  clear hB hO
  obtain ⟨k, rfl, hk, hkx, hO, hB⟩ := hrel
  have hsz : s0 ≤ wr.heap.size := by have := hB.size; have := HS0.out; omega
  by_cases hlt : k < n
  ·have hltz : (k : Int) < (n : Int) := by omega
   obtain ⟨b, off, rfl, hbw, hcs⟩ := HZ.out (by rw [HN.out]; omega)
   obtain ⟨c0, c1, c2, c3⟩ := (hcs k (by rw [HN.out]; exact hlt)).up hB (by have := HS0.out; omega)
   obtain ⟨x, hx⟩ : ∃ x, L.getD k acc0 = x := ⟨_, rfl⟩
   rw [hx] at c0 c1 c2 c3
   have hf := kids_take_succ (L := L) (c := c) (k := k) (by rw [HN.out]; exact hlt)
   rw [hx] at hf
   have hln : Hid ((kids (L.take k) c).length ≤ 100000000) := Lib.hid (by have := kids_len (L := L.take k) (c := c); rw [List.length_take] at this; omega)
   have hB1 : Below s0 w (wr.alloc (.cells #[.int .i64 x.code, .int .i64 x.kind, .int .i64 x.basis, .int .i64 x.par] 26)) := hB.alloc hsz _
   have hO1 := Lib.hid (hO.out.alloc (.cells #[.int .i64 x.code, .int .i64 x.kind, .int .i64 x.basis, .int .i64 x.par] 26))
   have hsz1 : s0 ≤ (wr.alloc (.cells #[.int .i64 x.code, .int .i64 x.kind, .int .i64 x.basis, .int .i64 x.par] 26)).heap.size := by simp; omega
   clear hx hcs
   by_cases he : x.par = c
   ·rw [if_pos he] at hf
    have HF := Lib.hid hf
    have HSZ := Lib.hid hsz1
    have e3 : (x.par == c) = true := by simp [he]
    clear hf he hsz1
    go_wp2_with (at_builtin; refine wpList_append_ig _ rfl (.tmp 18) (.tmp 21) 30 rfl .i64 s0 3 i0 8 Try.underlying30 hi hz0 hz1 hz2 (by omega) u5 _ (by rfl) hO1.out x.code _ 1 (by simp) rfl hln.out HSZ.out ?_; intro v2 w2 ho2 hb2; replace ho2 := ho2.out; rw [← HF.out] at ho2; replace ho2 := Lib.hid ho2; replace hB := hB1.trans hb2; clear hb2)
    go_roundg (n - (k + 1))
    case measure => omega
    case rel => exact ⟨k + 1, by go_num, by omega, by omega, ho2, hB⟩
   ·rw [if_neg he] at hf
    have e3 : (x.par == c) = false := by simp [he]
    rw [← hf] at hO1
    clear hf he
    go_wp2_with fail
    go_roundg (n - (k + 1))
    case measure => omega
    case rel => exact ⟨k + 1, by go_num, by omega, by omega, hO1, hB1⟩
  ·obtain rfl : k = n := by omega
   have hltz : ¬ (k : Int) < (k : Int) := by omega
   have ho := hO.out.sli
   rw [List.take_of_length_le (by rw [HN.out]; omega)] at ho
   have HO := Lib.hid ho
   clear ho
   go_wp2_with fail
   go_ret
   exact ⟨_, rfl, HO.out, hB⟩
theorem cisamt_any (n : Int) (w : World) : Calls Try.prog 41 #[.int .i64 n] w fun e w' => e = .returned (.bool (amtB n)) ∧ w = w' := by
 unfold amtB
 rcases Int.lt_or_le n (-1000000000000) with h | h
 ·have h1 : decide (-1000000000000 ≤ n) = false := decide_eq_false (by omega)
  rw [h1]
  go_enter Try.func41, Try.ntmps41
  go_wp2_with fail
  go_ret
  exact ⟨rfl, rfl⟩
 ·have h1 : decide (-1000000000000 ≤ n) = true := decide_eq_true h
  rw [h1]
  go_enter Try.func41, Try.ntmps41
  go_wp2_with fail
  go_ret
  exact ⟨rfl, rfl⟩
theorem chfew_any (A B : Option Addr) (n m c d : Nat) (w : World) : Calls Try.prog 18 #[.slice A n c, .slice B m d] w fun e w' => e = .returned (.bool (decide (n ≤ 60) && decide (m ≤ 60))) ∧ w = w' := by
 rcases Nat.lt_or_ge 60 n with h | h
 ·have h1 : decide (n ≤ 60) = false := decide_eq_false (by omega)
  have h2 : decide ((n : Int) ≤ 60) = false := decide_eq_false (by omega)
  rw [h1]
  go_enter Try.func18, Try.ntmps18
  go_wp2_with fail
  go_ret
  exact ⟨rfl, rfl⟩
 ·have h1 : decide (n ≤ 60) = true := decide_eq_true (by omega)
  have h2 : decide ((n : Int) ≤ 60) = true := decide_eq_true (by omega)
  rcases Nat.lt_or_ge 60 m with h' | h'
  ·have h3 : decide (m ≤ 60) = false := decide_eq_false (by omega)
   have h4 : decide ((m : Int) ≤ 60) = false := decide_eq_false (by omega)
   rw [h1, h3]
   clear h h'
   go_enter Try.func18, Try.ntmps18
   go_wp2_with fail
   go_ret
   exact ⟨rfl, rfl⟩
  ·have h3 : decide (m ≤ 60) = true := decide_eq_true (by omega)
   have h4 : decide ((m : Int) ≤ 60) = true := decide_eq_true (by omega)
   rw [h1, h3]
   clear h h'
   go_enter Try.func18, Try.ntmps18
   go_wp2_with fail
   go_ret
   exact ⟨rfl, rfl⟩
def addTo8 (L : List Acc) (c : Int) (x : Bal) : Int := if c ∈ climb L x.acct then x.amt else 0
def sumC (L : List Acc) (b : List Bal) (c : Int) : Int := (b.map (addTo8 L c)).sum
theorem sumC_succ {L : List Acc} {b : List Bal} {c : Int} {k : Nat} (hk : k < b.length) : sumC L (b.take (k + 1)) c = sumC L (b.take k) c + addTo8 L c (b.getD k bal0) := by
 rw [take_succ_getD (d := bal0) hk]
 unfold sumC
 rw [List.map_append, List.sum_append]; simp
theorem amtB_is {n : Int} : amtB n = true ↔ -1000000000000 ≤ n ∧ n ≤ 1000000000000 := by unfold amtB; simp
theorem sumC_bound {L : List Acc} {c : Int} : ∀ {b : List Bal}, (∀ x ∈ b, amtB x.amt = true) → -(b.length * 1000000000000 : Int) ≤ sumC L b c ∧ sumC L b c ≤ b.length * 1000000000000
 | [], _ => by simp [sumC]
 | x :: b, h => by
  obtain ⟨h1, h2⟩ := sumC_bound (L := L) (c := c) (b := b) (fun y hy => h y (List.mem_cons_of_mem _ hy))
  have h3 := amtB_is.1 (h x (List.mem_cons_self ..))
  have h4 : sumC L (x :: b) c = addTo8 L c x + sumC L b c := by simp [sumC]
  have h5 : -1000000000000 ≤ addTo8 L c x ∧ addTo8 L c x ≤ 1000000000000 := by unfold addTo8; split <;> omega
  rw [h4]
  simp only [List.length_cons, Int.natCast_add]
  omega
def lastA (b : List Bal) : Nat → Int
 | 0 => 0
 | k + 1 => (b.getD k bal0).acct
def balP (L : List Acc) (b : List Bal) (k : Nat) : Bool := (fnd L (b.getD k bal0).acct).isSome && (decide (lastA b k < (b.getD k bal0).acct) && amtB (b.getD k bal0).amt)
def balTo (L : List Acc) (b : List Bal) : Nat → Bool
 | 0 => true
 | k + 1 => balTo L b k && balP L b k
theorem balTo_le {L : List Acc} {b : List Bal} : ∀ {k m : Nat}, k ≤ m → balTo L b m = true → balTo L b k = true
  | k, m, h, hm => by
    induction m with
    | zero => obtain rfl : k = 0 := by omega
              exact hm
    | succ m ih =>
      rcases Nat.lt_or_ge k (m + 1) with h1 | h1
      · rw [balTo, Bool.and_eq_true] at hm
        exact ih (by omega) hm.1
      · obtain rfl : k = m + 1 := by omega
        exact hm
def balB (L : List Acc) (b : List Bal) : Bool := balTo L b b.length
theorem balB_no {L : List Acc} {b : List Bal} {k : Nat} (hk : k < b.length) (h : balP L b k = false) : balB L b = false := by
 cases h1 : balTo L b b.length with
 | false => exact h1
 | true =>
  have := balTo_le (k := k + 1) (by omega) h1
  rw [balTo, h, Bool.and_false] at this; cases this
theorem balTo_is {L : List Acc} {b : List Bal} : ∀ {k : Nat}, balTo L b k = true ↔ ∀ i, i < k → balP L b i = true
 | 0 => ⟨fun _ i hi => by omega, fun _ => rfl⟩
 | k + 1 => by
  rw [balTo, Bool.and_eq_true, balTo_is]
  constructor
  ·rintro ⟨h1, h2⟩ i hi
   rcases Nat.lt_or_ge i k with h3 | h3
   ·exact h1 i h3
   ·obtain rfl : i = k := by omega
    exact h2
  ·intro h; exact ⟨fun i hi => h i (by omega), h k (by omega)⟩
theorem balP_is {L : List Acc} {b : List Bal} {k : Nat} : balP L b k = true ↔ (∃ a, fnd L (b.getD k bal0).acct = some a) ∧ lastA b k < (b.getD k bal0).acct ∧ amtB (b.getD k bal0).amt = true := by
 unfold balP
 rw [Bool.and_eq_true, Bool.and_eq_true, decide_eq_true_eq, Option.isSome_iff_exists]
structure Bals (L : List Acc) (b : List Bal) : Prop where
 fnd : ∀ k, k < b.length → ∃ a, fnd L (b.getD k bal0).acct = some a
 up : ∀ k, k < b.length → lastA b k < (b.getD k bal0).acct
 amt : ∀ x ∈ b, amtB x.amt = true
theorem balB_bals {L : List Acc} {b : List Bal} (h : balB L b = true) : Bals L b := by
 have h1 := balTo_is.1 h
 refine ⟨fun k hk => (balP_is.1 (h1 k hk)).1, fun k hk => (balP_is.1 (h1 k hk)).2.1, fun x hx => ?_⟩
 obtain ⟨k, hk, rfl⟩ := mem_getD_acc (d := bal0) hx
 exact (balP_is.1 (h1 k hk)).2.2
def okS (L : List Acc) (b : List Bal) (a : Acc) : Bool := amtB (sumC L b a.code)
def rollE (L : List Acc) (b : List Bal) : Int := if (eiB L && balB L b) = true then if L.all (okS L b) = true then 0 else 2 else 1
def pick0 (l : List Bal) : List Bal := l.filter fun x => decide (x.amt ≠ 0)
def rowsB (L : List Acc) (f : Int → Int) : List Bal := pick0 (L.map fun a => ⟨a.code, f a.code⟩)
def rollL (L : List Acc) (b : List Bal) : List Bal := if rollE L b = 0 then rowsB L (sumC L b) else []
theorem rowsB_succ {L : List Acc} {f : Int → Int} {k : Nat} (hk : k < L.length) : rowsB (L.take (k + 1)) f = if f (L.getD k acc0).code = 0 then rowsB (L.take k) f else rowsB (L.take k) f ++ [⟨(L.getD k acc0).code, f (L.getD k acc0).code⟩] := by
 rw [take_succ_getD (d := acc0) hk]
 unfold rowsB pick0
 rw [List.map_append, List.filter_append]
 generalize L.getD k acc0 = x
 simp only [List.map_cons, List.map_nil]
 split
 ·rename_i h; rw [List.filter_cons_of_neg (by simp [h])]; simp
 ·rename_i h; rw [List.filter_cons_of_pos (by simp [h])]; rfl
theorem rowsB_len {L : List Acc} {f : Int → Int} : (rowsB L f).length ≤ L.length := by
 unfold rowsB pick0
 exact Nat.le_trans (List.length_filter_le _ _) (by simp)
theorem rollE_bad {L : List Acc} {b : List Bal} (h : (eiB L && balB L b) = false) : rollE L b = 1 := by unfold rollE; rw [h]; rfl
theorem rollE_range {L : List Acc} {b : List Bal} (h : (eiB L && balB L b) = true) (h2 : L.all (okS L b) = false) : rollE L b = 2 := by unfold rollE; rw [h, h2]; rfl
theorem rollE_ok {L : List Acc} {b : List Bal} (h : (eiB L && balB L b) = true) (h2 : L.all (okS L b) = true) : rollE L b = 0 := by unfold rollE; rw [h, h2]; rfl
theorem rollL_ok {L : List Acc} {b : List Bal} (h : rollE L b = 0) : rollL L b = rowsB L (sumC L b) := by unfold rollL; rw [if_pos h]
theorem rollL_bad {L : List Acc} {b : List Bal} (h : rollE L b ≠ 0) : rollL L b = [] := by unfold rollL; rw [if_neg h]
theorem map_set_at {L : List Acc} {F : Acc → Int} {i : Nat} {v : Int} (hS : Srt L) (hi : i < L.length) : (L.map F).set i v = L.map fun a => if a.code = (L.getD i acc0).code then v else F a := by
 apply List.ext_getElem
 ·simp
 ·intro j h1 h2
  have hj : j < L.length := by simpa using h2
  rw [List.getElem_set, List.getElem_map, List.getElem_map]
  have hg : ∀ k (h : k < L.length), L[k] = L.getD k acc0 := fun k h => by rw [List.getD_eq_getElem?_getD, List.getElem?_eq_getElem h]; rfl
  rw [hg j hj]
  by_cases hij : i = j
  ·subst hij; rw [if_pos rfl, if_pos rfl]
  ·rw [if_neg hij, if_neg (fun e => hij (hS.inj hj hi e).symm)]
def wayS (base : Int → Int) (full : List Int) (amt : Int) (j : Nat) (a : Acc) : Int := base a.code + if a.code ∈ full.take j then amt else 0
theorem wayS_step {L : List Acc} {base : Int → Int} {full : List Int} {amt : Int} {j i : Nat} (hS : Srt L) (hn : full.Nodup) (hj : j < full.length) (hi : i < L.length) (hc : (L.getD i acc0).code = full.getD j 0) :
  (L.map (wayS base full amt j)).getD i 0 = base (full.getD j 0) ∧ (L.map (wayS base full amt j)).set i (base (full.getD j 0) + amt) = L.map (wayS base full amt (j + 1)) := by
 have hnm : full.getD j 0 ∉ full.take j := by
  intro hm
  obtain ⟨t, ht, e⟩ := mem_getD_acc (d := (0 : Int)) hm
  have ht2 : t < j := by rw [List.length_take] at ht; omega
  have e2 : full.getD t 0 = full.getD j 0 := by
   rw [← e, List.getD_eq_getElem?_getD, List.getD_eq_getElem?_getD, List.getElem?_take, if_pos ht2]
  rw [List.nodup_iff_pairwise_ne, List.pairwise_iff_getElem] at hn
  have := hn t j (by omega) hj ht2
  rw [List.getD_eq_getElem?_getD, List.getD_eq_getElem?_getD, List.getElem?_eq_getElem hj, List.getElem?_eq_getElem (show t < full.length by omega)] at e2
  exact this e2
 constructor
 ·rw [List.getD_eq_getElem?_getD, List.getElem?_map, List.getElem?_eq_getElem hi]
  have hg : L[i] = L.getD i acc0 := by rw [List.getD_eq_getElem?_getD, List.getElem?_eq_getElem hi]; rfl
  show wayS base full amt j L[i] = _
  rw [hg]
  unfold wayS
  rw [hc, if_neg hnm]; omega
 ·rw [map_set_at hS hi]
  apply List.map_congr_left
  intro a ha
  rw [hc]
  unfold wayS
  by_cases h : a.code = full.getD j 0
  ·rw [if_pos h, h, if_pos ((take_mem_succ hj).2 (.inr rfl))]
  ·rw [if_neg h]
   congr 1
   by_cases h2 : a.code ∈ full.take j
   ·rw [if_pos h2, if_pos ((take_mem_succ hj).2 (.inl h2))]
   ·rw [if_neg h2, if_neg (fun h3 => ((take_mem_succ hj).1 h3).elim h2 (fun h4 => h h4.symm))]
theorem wayS_start {L : List Acc} {base : Int → Int} {full : List Int} {amt : Int} : L.map (wayS base full amt 0) = L.map fun a => base a.code := by
 apply List.map_congr_left
 intro a _
 unfold wayS
 simp
theorem wayS_end {L : List Acc} {b : List Bal} {k : Nat} (hk : k < b.length) : L.map (wayS (sumC L (b.take k)) (climb L (b.getD k bal0).acct) (b.getD k bal0).amt (climb L (b.getD k bal0).acct).length) = L.map fun a => sumC L (b.take (k + 1)) a.code := by
 apply List.map_congr_left
 intro a _
 unfold wayS
 rw [sumC_succ hk, List.take_length]
 rfl
set_option maxRecDepth 20000 in
set_option maxHeartbeats 3200000 in
theorem carebal_any (A B : Option Addr) (cp d : Nat) (L : List Acc) (b : List Bal) (w : World) (hz : AccAt w A L) (hy : BalAt w B b) (hl : L.length ≤ 1000) (hm : b.length ≤ 1000) (hS : Srt L) :
    Calls Try.prog 39 #[.slice A L.length cp, .slice B b.length d] w fun e w' => e = .returned (.bool (balB L b)) ∧ Below w.heap.size w w' := by
  have hB := Below.refl w.heap.size w
  have hI := fun y w h => cidx_any A cp L y w h hl hS
  obtain ⟨n, hn⟩ : ∃ n, L.length = n := ⟨_, rfl⟩
  obtain ⟨m, hm2⟩ : ∃ m, b.length = m := ⟨_, rfl⟩
  rw [hn] at hl hI ⊢
  rw [hm2] at hm ⊢
  have HN := Lib.hid hn
  have HM := Lib.hid hm2
  have HZ := Lib.hid hz
  have HY := Lib.hid hy
  have HI := Lib.hid hI
  clear hn hm2 hz hy hI hS
  go_enter Try.func39, Try.ntmps39
  go_wp2_with fail
  go_loopg [5, 12] m (fun kx s5 s12 wr => ∃ k : Nat, s5 = .int .i64 (lastA b k) ∧ s12 = .int .i64 k ∧ k ≤ m ∧ m - k ≤ kx ∧ Hid (balTo L b k = true) ∧ Below w.heap.size w wr)
  case atStart => exact ⟨0, rfl, rfl, by omega, by omega, Lib.hid rfl, hB⟩
  case round =>
    clear hB
    obtain ⟨k, rfl, rfl, hk, hkx, HC, hB⟩ := hrel
    by_cases hlt : k < m
    · have hltz : (k : Int) < (m : Int) := by omega
      obtain ⟨bb, off, rfl, hbw, hcs⟩ := HY.out (by rw [HM.out]; omega)
      obtain ⟨c0, c1⟩ := (hcs k (by rw [HM.out]; exact hlt)).up hB hbw
      have hno := fun h => balB_no (L := L) (b := b) (k := k) (by rw [HM.out]; exact hlt) h
      have hyes : balTo L b (k + 1) = balP L b k := by rw [balTo, HC.out, Bool.true_and]
      have hla : lastA b (k + 1) = (b.getD k bal0).acct := rfl
      have hp : balP L b k = ((fnd L (b.getD k bal0).acct).isSome && (decide (lastA b k < (b.getD k bal0).acct) && amtB (b.getD k bal0).amt)) := rfl
      generalize b.getD k bal0 = x at *
      have HX := Lib.hid hla
      have HB1 := Lib.hid (below_new hB (.cells #[.int .i64 x.acct, .int .i64 x.amt] 43))
      have HAB := Lib.hid (bb_new wr 43 x)
      have hi := HI.out x.acct _ (HZ.out.up HB1.out)
      have ha := fun w => cisamt_any x.amt w
      clear hcs hla
      cases hf : (fnd L x.acct).isSome
      · rw [hf] at hi hp
        have E := Lib.hid (hno (hp.trans (by simp)))
        have HI1 := Lib.hid hi
        clear hi hf hp hyes hno ha
        go_wp2_with (go_at_call 38; refine HI1.out.mono ?_; rintro e w1 ⟨i, rfl, -, hb⟩; replace hB := below_more HB1.out hb; clear hb)
        go_ret
        exact ⟨by rw [E.out]; rfl, hB⟩
      · rw [hf, Bool.true_and] at hp
        rw [hf] at hi
        have HI1 := Lib.hid hi
        clear hi hf
        rcases Int.lt_or_le (lastA b k) x.acct with h1 | h1
        · have e1 : decide (x.acct ≤ lastA b k) = false := decide_eq_false (by omega)
          rw [decide_eq_true h1, Bool.true_and] at hp
          cases hq : amtB x.amt
          all_goals
            rw [hq] at ha hp
            have HA := Lib.hid ha
            have HP := Lib.hid hp
            have HYes := Lib.hid hyes
            have HNo := Lib.hid hno
            clear ha hp hyes hno hq h1
            go_wp2_with (first
              | (go_at_call 38; refine HI1.out.mono ?_; rintro e w1 ⟨i, rfl, -, hb⟩; obtain ⟨⟨z0, z1⟩, zlt⟩ := HAB.out.up hb; simp only [Nat.zero_add] at z1; replace hB := below_more HB1.out hb; clear hb)
              | (go_at_call 41; refine (HA.out _).mono ?_; rintro e w2 ⟨rfl, rfl⟩))
            first
              | (have E : Hid (balB L b = false) := Lib.hid (HNo.out HP.out)
                 go_ret
                 exact ⟨by rw [E.out]; rfl, hB⟩)
              | (have HC2 : Hid (balTo L b (k + 1) = true) := Lib.hid (by rw [HYes.out, HP.out])
                 go_roundg (m - (k + 1))
                 case measure => omega
                 case rel => exact ⟨k + 1, by rw [HX.out], by go_num, by omega, by omega, HC2, hB⟩)
        · have e1 : decide (x.acct ≤ lastA b k) = true := decide_eq_true h1
          rw [decide_eq_false (show ¬ lastA b k < x.acct by omega), Bool.false_and] at hp
          have E := Lib.hid (hno hp)
          clear hp hyes hno ha h1
          go_wp2_with (go_at_call 38; refine HI1.out.mono ?_; rintro e w1 ⟨i, rfl, -, hb⟩; obtain ⟨⟨z0, z1⟩, zlt⟩ := HAB.out.up hb; simp only [Nat.zero_add] at z1; replace hB := below_more HB1.out hb; clear hb)
          go_ret
          exact ⟨by rw [E.out]; rfl, hB⟩
    · obtain rfl : k = m := by omega
      have hltz : ¬ (k : Int) < (k : Int) := by omega
      have E : Hid (balB L b = true) := Lib.hid (by have := HC.out; rw [← HM.out] at this; exact this)
      generalize lastA b k = z at *
      go_wp2_with fail
      go_ret
      exact ⟨by rw [E.out]; rfl, hB⟩
set_option maxRecDepth 20000 in
set_option maxHeartbeats 3200000 in
theorem csums_any (A B : Option Addr) (cp d : Nat) (L : List Acc) (b : List Bal) (w : World) (hz : AccAt w A L) (hy : BalAt w B b) (hl : L.length ≤ 1000) (hm : b.length ≤ 1000) (hG : Good L) (hb : Bals L b) :
  Calls Try.prog 40 #[.slice A L.length cp, .slice B b.length d] w fun e w' => ∃ g, e = .returned (.slice (some ⟨g, 0, none⟩) L.length L.length) ∧ IB w' g (L.map fun a => sumC L b a.code) ∧ Below w.heap.size w w' := by
 have hI := fun y w h => cidx_any A cp L y w h hl hG.srt
 obtain ⟨n, hn⟩ : ∃ n, L.length = n := ⟨_, rfl⟩
 obtain ⟨m, hm2⟩ : ∃ m, b.length = m := ⟨_, rfl⟩
 obtain ⟨s0, hs0⟩ : ∃ s0, w.heap.size = s0 := ⟨_, rfl⟩
 have hz0 : (List.replicate n 0 : List Int) = L.map fun a => sumC L (b.take 0) a.code := by
  rw [← hn, List.take_zero]
  have : (fun a : Acc => sumC L [] a.code) = fun _ => (0 : Int) := rfl
  rw [this, List.map_const']
 rw [hn] at hl hI ⊢
 rw [hm2] at hm ⊢
 have HN := Lib.hid hn
 have HM := Lib.hid hm2
 have HZ := Lib.hid hz
 have HY := Lib.hid hy
 have HI := Lib.hid hI
 have HG := Lib.hid hG
 have HBL := Lib.hid hb
 have HS0 := Lib.hid hs0
 have HZ0 := Lib.hid hz0
 obtain ⟨i0, hi, hz1, hz2, hz3⟩ := info_parts infoI_int
 clear hn hm2 hz hy hI hG hb hs0 hz0
 go_enter Try.func40, Try.ntmps40
 go_wp2_with (at_make; refine wpList_make_zeros _ rfl (.tmp 11) (.tmp 11) 30 rfl 3 .i64 i0 8 Try.underlying30 hi hz1 hz2 hz3 .i64 .i64 _ _ n rfl rfl rfl rfl (by omega) (by omega) ?_; intro w1 hb1 hB1 hs1)
 have hI1 := IB.zeros hb1.out
 rw [HZ0.out] at hI1
 have HI1 := Lib.hid hI1
 rw [HS0.out] at hB1 HI1 hs1
 clear hb1 hI1
 rw [HS0.out]
 go_loopg [15] m (fun kx s15 wr => ∃ k : Nat, s15 = .int .i64 k ∧ k ≤ m ∧ m - k ≤ kx ∧ Hid (IB wr s0 (L.map fun a => sumC L (b.take k) a.code)) ∧ Below s0 w wr)
 case atStart => exact ⟨0, rfl, by omega, by omega, HI1, hB1⟩
 case round =>
  clear hB1 HI1 hs1
  obtain ⟨k, rfl, hk, hkx, HIB, hB⟩ := hrel
  by_cases hlt : k < m
  ·have hltz : (k : Int) < (m : Int) := by omega
   obtain ⟨bb, off, rfl, hbw, hcs⟩ := HY.out (by rw [HM.out]; omega)
   have hbs : bb < s0 := by have := HS0.out; omega
   have a2 := hcs k (by rw [HM.out]; exact hlt)
   obtain ⟨c0, c1⟩ := a2.up hB hbs
   have hend := wayS_end (L := L) (b := b) (k := k) (by rw [HM.out]; exact hlt)
   obtain ⟨ax, hax⟩ := HBL.out.fnd k (by rw [HM.out]; exact hlt)
   have hamt := amtB_is.1 (HBL.out.amt _ (getD_mem_acc (d := bal0) (show k < b.length by rw [HM.out]; exact hlt)))
   have hbound : ∀ c, -(1000 * 1000000000000 : Int) ≤ sumC L (b.take k) c ∧ sumC L (b.take k) c ≤ 1000 * 1000000000000 := fun c => by
    have h1 := sumC_bound (L := L) (c := c) (b := b.take k) (fun x hx => HBL.out.amt x (List.mem_of_mem_take hx))
    have h2 : (b.take k).length ≤ 1000 := by rw [List.length_take]; omega
    have h3 : ((b.take k).length : Int) ≤ 1000 := by omega
    omega
   obtain ⟨x, hx⟩ : ∃ x, b.getD k bal0 = x := ⟨_, rfl⟩
   rw [hx] at c0 c1 a2 hend hax hamt
   have hfl : (climb L x.acct).length ≤ L.length := ends_climb (HG.out.ends _)
   have hnd : (climb L x.acct).Nodup := climb_nodup (HG.out.ends _)
   have hf0 : climbN L (L.length + 1 - 0) x.acct = (climb L x.acct).drop 0 := rfl
   obtain ⟨full, hfull⟩ : ∃ full, climb L x.acct = full := ⟨_, rfl⟩
   rw [hfull] at hend hfl hnd hf0
   rw [HN.out] at hfl hf0
   obtain ⟨base, hbase⟩ : ∃ base, sumC L (b.take k) = base := ⟨_, rfl⟩
   rw [hbase] at hend hbound
   have HIB2 : Hid (IB wr s0 (L.map (wayS base full x.amt 0))) := Lib.hid (by rw [wayS_start, ← hbase]; exact HIB.out)
   have HEND := Lib.hid hend
   have HND := Lib.hid hnd
   have HF0 := Lib.hid hf0
   have HBD := Lib.hid hbound
   have HX := Lib.hid hx
   have hsz : s0 ≤ wr.heap.size := by have := hB.size; have := HS0.out; omega
   have HB1 := Lib.hid (hB.alloc hsz (.cells #[.int .i64 x.acct, .int .i64 x.amt] 43))
   have HAB := Lib.hid (bb_new wr 43 x)
   have HIB3 := Lib.hid (HIB2.out.alloc (.cells #[.int .i64 x.acct, .int .i64 x.amt] 43))
   have hix := HI.out x.acct _ (HZ.out.up (by rw [HS0.out]; exact HB1.out))
   have HIX := Lib.hid hix
   obtain ⟨gb, hgb⟩ : ∃ gb, wr.heap.size = gb := ⟨_, rfl⟩
   have HGB := Lib.hid hgb
   have hne : s0 ≠ gb := by have := HIB.out.lt; omega
   clear hcs a2 hend hx hnd hf0 hbound hfull hbase hax hix HIB HIB2 hgb
   obtain ⟨am1, am2⟩ := hamt
   go_wp2_with (go_at_call 38; refine HIX.out.mono ?_; rintro e w2 ⟨i, rfl, hfa, hb⟩; have HFA := Lib.hid hfa; have hB2 := HB1.out.trans (hb.mono (by (simp; omega))); have HAB2 := Lib.hid (HAB.out.up hb); have HIB4 := Lib.hid (HIB3.out.more hb); clear hb hfa)
   rw [HGB.out] at HAB2
   rw [HGB.out]
   clear HB1 HAB HIB3 HIX hB c0 c1
   go_loopg [8, 9] n (fun kx s8 s9 W => ∃ (j i : Nat) (y : Int), s8 = .int .i64 i ∧ s9 = .bool (fnd L y).isSome ∧ j ≤ full.length ∧ n - j ≤ kx ∧ Hid (FoundAt L y i) ∧ Hid (climbN L (n + 1 - j) y = full.drop j) ∧ Hid (IB W s0 (L.map (wayS base full x.amt j))) ∧ Hid (BB W gb x) ∧ Below s0 w W)
   case atStart => exact ⟨0, i, x.acct, rfl, rfl, by omega, by omega, HFA, HF0, HIB4, HAB2, hB2⟩
   case round =>
    clear HFA HF0 HIB4 HAB2 hB2
    obtain ⟨j, i, y, rfl, rfl, hj, hjx, HFA, HD, HIB, HAB, hB⟩ := hrel
    cases hc : fnd L y with
    | none =>
     have hdr : full.drop j = [] := by rw [← HD.out, climbN_none hc]
     have hjl : j = full.length := by have := congrArg List.length hdr; rw [List.length_drop] at this; simp at this; omega
     have HIB2 : Hid (IB wr s0 (L.map fun a => sumC L (b.take (k + 1)) a.code)) := Lib.hid (by rw [← HEND.out, ← hjl]; exact HIB.out)
     clear hdr hjl hc
     go_wp2_with fail
     go_roundg (m - (k + 1))
     case measure => omega
     case rel => exact ⟨k + 1, by go_num, by omega, by omega, HIB2, hB⟩
    | some a =>
     obtain ⟨hil, hie⟩ := HFA.out a hc
     have hst : climbN L (n + 1 - j) y = y :: climbN L (n - j) a.par := by
      rw [show n + 1 - j = (n - j) + 1 by omega, climbN_some hc]
     have hd1 : full.drop j = y :: climbN L (n - j) a.par := by rw [← HD.out, hst]
     have hjl : j < full.length := by have := congrArg List.length hd1; rw [List.length_drop] at this; simp at this; omega
     have hd2 := drop_getD (d := (0 : Int)) hjl
     rw [hd1] at hd2
     injection hd2 with hy2 hd3
     have HD2 : Hid (climbN L (n + 1 - (j + 1)) a.par = full.drop (j + 1)) := Lib.hid (by rw [← hd3]; congr 1; omega)
     have hci : (L.getD i acc0).code = full.getD j 0 := by rw [hie, ← hy2]; exact (fnd_some hc).2
     obtain ⟨hw1, hw2⟩ := wayS_step (L := L) (base := base) (full := full) (amt := x.amt) (j := j) (i := i) HG.out.srt HND.out hjl hil hci
     have hibl : i < (L.map (wayS base full x.amt j)).length := by simpa using hil
     have hcell := HIB.out.cell i hibl
     have hfz := HIB.out.frozen i
     have hset := HIB.out.set i (base (full.getD j 0) + x.amt)
     rw [hw1] at hcell
     rw [hw2] at hset
     obtain ⟨bd1, bd2⟩ := HBD.out (full.getD j 0)
     generalize base (full.getD j 0) = S at *
     have HSET := Lib.hid hset
     rw [HN.out] at hil
     have hiz : (i : Int) < (n : Int) := by omega
     have hgs : s0 < wr.heap.size := HIB.out.lt
     have hsz2 : s0 ≤ wr.heap.size := by omega
     have hABs : BB (wr.setCell ⟨s0, i, none⟩ (.int .i64 (S + x.amt))) gb x :=
      ⟨⟨(World.cell?_setCell_other wr _ _ _ (fun e => hne (by injection e))).trans HAB.out.cells.c0, (World.cell?_setCell_other wr _ _ _ (fun e => hne (by injection e))).trans HAB.out.cells.c1⟩, by simpa [World.setCell] using HAB.out.lt⟩
     have HABS := Lib.hid hABs
     obtain ⟨⟨z0, z1⟩, zlt⟩ := HAB.out
     simp only [Nat.zero_add] at z1
     obtain ⟨ba, offa, rfl, hbwa, hcsa⟩ := HZ.out (by rw [HN.out]; omega)
     have hbsa : ba < s0 := by have := HS0.out; omega
     have a4 := hcsa i (by rw [HN.out]; exact hil)
     rw [hie] at a4
     have HA4 := Lib.hid a4
     have hjn : j < n := by omega
     clear hst hd1 hd3 hy2 hc hie hci hw1 hw2 hset hABs hcsa a4 HFA hibl
     go_wp2_with fail
     go_region
     have HB1 : Hid (Below s0 w (wr.setCell ⟨s0, i, none⟩ (.int .i64 (S + x.amt))).drew) := Lib.hid (dc_drew (Below.setCell (p := ⟨s0, i, none⟩) hB (Nat.le_refl _) _))
     have HI1 : Hid (IB (wr.setCell ⟨s0, i, none⟩ (.int .i64 (S + x.amt))).drew s0 (L.map (wayS base full x.amt (j + 1)))) := Lib.hid HSET.out.drew
     have HA1 : Hid (BB (wr.setCell ⟨s0, i, none⟩ (.int .i64 (S + x.amt))).drew gb x) := Lib.hid ⟨⟨HABS.out.cells.c0, HABS.out.cells.c1⟩, HABS.out.lt⟩
     generalize (wr.setCell ⟨s0, i, none⟩ (.int .i64 (S + x.amt))).drew = W1 at *
     have hsz1 : s0 ≤ W1.heap.size := by have := HB1.out.size; have := HS0.out; omega
     have hix := HI.out a.par W1 (HZ.out.up (by rw [HS0.out]; exact HB1.out))
     have HIX := Lib.hid hix
     obtain ⟨e0, e1, e2, e3⟩ := HA4.out.up HB1.out hbsa
     clear hix z0 z1 zlt hcell hfz HSET HABS bd1 bd2 hB HIB HAB hgs hsz2
     go_wp2_with (go_at_call 38; refine HIX.out.mono ?_; rintro e w3 ⟨i3, rfl, hfa, hb⟩; replace hfa := Lib.hid hfa; have hB3 := HB1.out.trans (hb.mono hsz1); have HIB3 := Lib.hid (HI1.out.more hb); have HAB3 := Lib.hid (HA1.out.up hb); clear hb)
     go_roundg (n - (j + 1))
     case measure => omega
     case rel => exact ⟨j + 1, i3, a.par, rfl, rfl, by omega, by omega, hfa, HD2, HIB3, HAB3, hB3⟩
  ·obtain rfl : k = m := by omega
   have hltz : ¬ (k : Int) < (k : Int) := by omega
   have hI3 := HIB.out
   rw [List.take_of_length_le (by rw [HM.out]; omega)] at hI3
   have HI3 := Lib.hid hI3
   clear hI3
   go_wp2_with fail
   go_ret
   exact ⟨_, rfl, HI3.out, by rw [HS0.out]; exact hB⟩
set_option maxRecDepth 20000 in
set_option maxHeartbeats 3200000 in
theorem croll_any (A B : Option Addr) (cp d : Nat) (L : List Acc) (b : List Bal) (w : World) (hz : AccAt w A L) (hy : BalAt w B b) (hl : L.length ≤ 1000) (hm : b.length ≤ 1000) :
  Calls Try.prog 23 #[.slice A L.length cp, .slice B b.length d] w fun e w' => ∃ v, e = .returned (.tuple #[v, .int .i64 (rollE L b)]) ∧ SlB w' v (rollL L b) ∧ Below w.heap.size w w' := by
 have hB := Below.refl w.heap.size w
 have h1 := fun w h => cischart_any A cp L w h hl
 cases he : eiB L
 ·have E := rollE_bad (L := L) (b := b) (by rw [he]; rfl)
  have R := rollL_bad (L := L) (b := b) (by rw [E]; decide)
  rw [he] at h1
  rw [E, R]
  generalize L.length = n at *
  generalize b.length = m at *
  have H1 := Lib.hid h1
  have HZ := Lib.hid hz
  clear h1 he hz hy E R
  go_enter Try.func23, Try.ntmps23
  go_wp2_with (go_at_call 36; refine (H1.out _ (HZ.out.up hB)).mono ?_; rintro e w1 ⟨rfl, hb⟩; replace hB := below_more hB hb; clear hb)
  go_ret2
  exact ⟨_, rfl, SlB.nil, hB⟩
 have hG := eiB_good he
 rw [he] at h1
 have h2 := fun w h h' => carebal_any A B cp d L b w h h' hl hm hG.srt
 cases hb0 : balB L b
 ·have E := rollE_bad (L := L) (b := b) (by rw [hb0, Bool.and_false])
  have R := rollL_bad (L := L) (b := b) (by rw [E]; decide)
  rw [hb0] at h2
  rw [E, R]
  generalize L.length = n at *
  generalize b.length = m at *
  have H1 := Lib.hid h1
  have H2 := Lib.hid h2
  have HZ := Lib.hid hz
  have HY := Lib.hid hy
  clear h1 h2 he hz hy hb0 E R hG
  go_enter Try.func23, Try.ntmps23
  go_wp2_with (first
   | (go_at_call 36; refine (H1.out _ (HZ.out.up hB)).mono ?_; rintro e w1 ⟨rfl, hb⟩; replace hB := below_more hB hb; clear hb)
   | (go_at_call 39; refine (H2.out _ (HZ.out.up hB) (HY.out.up hB)).mono ?_; rintro e w1 ⟨rfl, hb⟩; replace hB := below_more hB hb; clear hb))
  go_ret2
  exact ⟨_, rfl, SlB.nil, hB⟩
 have hok : (eiB L && balB L b) = true := by rw [he, hb0]; rfl
 have hBL := balB_bals hb0
 rw [hb0] at h2
 have h3 := fun w h h' => csums_any A B cp d L b w h h' hl hm hG hBL
 have hP : ∀ a, okS L b a = amtB (sumC L b a.code) := fun _ => rfl
 have hE1 := fun h => rollE_range (L := L) (b := b) hok h
 have hE0 := fun h => rollE_ok (L := L) (b := b) hok h
 have hR0 := fun h => rollL_ok (L := L) (b := b) h
 have hR1 := fun h => rollL_bad (L := L) (b := b) h
 generalize rollE L b = re at *
 generalize rollL L b = rl at *
 generalize okS L b = P at *
 generalize sumC L b = f at *
 obtain ⟨n, hn⟩ : ∃ n, L.length = n := ⟨_, rfl⟩
 obtain ⟨m, hm2⟩ : ∃ m, b.length = m := ⟨_, rfl⟩
 rw [hn] at hl h1 h2 h3 ⊢
 rw [hm2] at hm h2 h3 ⊢
 have HN := Lib.hid hn
 have HZ := Lib.hid hz
 have HY := Lib.hid hy
 have H1 := Lib.hid h1
 have H2 := Lib.hid h2
 have H3 := Lib.hid h3
 have HP := Lib.hid hP
 have HE1 := Lib.hid hE1
 have HE0 := Lib.hid hE0
 have HR1 := Lib.hid hR1
 have HR0 := Lib.hid hR0
 obtain ⟨i0, hi, hz1, hz2, hz3⟩ := info_parts infoI_bal
 clear hn hm2 hz hy h1 h2 h3 he hb0 hok hG hBL hP hE1 hE0 hR1 hR0
 go_enter Try.func23, Try.ntmps23
 go_wp2_with (first
  | (go_at_call 36; refine (H1.out _ (HZ.out.up hB)).mono ?_; rintro e w1 ⟨rfl, hb⟩; replace hB := below_more hB hb; clear hb)
  | (go_at_call 39; refine (H2.out _ (HZ.out.up hB) (HY.out.up hB)).mono ?_; rintro e w1 ⟨rfl, hb⟩; replace hB := below_more hB hb; clear hb)
  | (go_at_call 40; refine (H3.out _ (HZ.out.up hB) (HY.out.up hB)).mono ?_; rintro e w2 ⟨g, rfl, hib, hb⟩; replace hB := below_more hB hb; have HIB := Lib.hid hib; clear hb hib))
 obtain ⟨s1, hs1⟩ : ∃ s1, w2.heap.size = s1 := ⟨_, rfl⟩
 have hws : w.heap.size ≤ s1 := by rw [← hs1]; exact hB.size
 have hgs : g < s1 := by rw [← hs1]; exact HIB.out.lt
 have hB1 : Below s1 w2 w2 := Below.refl _ _
 have HB := Lib.hid hB
 have HS1 := Lib.hid hs1
 clear hs1 hB
 have hO : Hid (OwnB 43 w2 s1 (.slice none 0 0) (rowsB (L.take 0) f)) := Lib.hid OwnB.nil
 go_loopg [6, 22] n (fun kx s6 s22 wr => ∃ k : Nat, s22 = .int .i64 k ∧ k ≤ n ∧ n - k ≤ kx ∧ Hid ((L.take k).all P = true) ∧ Hid (OwnB 43 wr s1 s6 (rowsB (L.take k) f)) ∧ Below s1 w2 wr)
 case atStart => exact ⟨0, rfl, by omega, by omega, Lib.hid rfl, hO, hB1⟩
 case round =>
  clear hB1 hO
  obtain ⟨k, rfl, hk, hkx, HA, hO, hB⟩ := hrel
  have hsz : s1 ≤ wr.heap.size := by have := hB.size; have := HS1.out; omega
  by_cases hlt : k < n
  ·have hltz : (k : Int) < (n : Int) := by omega
   have hcg := (hB.cell (p := ⟨g, k, none⟩) hgs).trans (HIB.out.cell k (by simp; rw [HN.out]; exact hlt))
   have hgd : (L.map fun a => f a.code).getD k 0 = f (L.getD k acc0).code := by
    rw [List.getD_eq_getElem?_getD, List.getElem?_map, List.getD_eq_getElem?_getD, List.getElem?_eq_getElem (show k < L.length by rw [HN.out]; exact hlt)]; rfl
   rw [hgd] at hcg
   obtain ⟨ba, offa, rfl, hbwa, hcsa⟩ := HZ.out (by rw [HN.out]; omega)
   obtain ⟨c0, c1, c2, c3⟩ := ((hcsa k (by rw [HN.out]; exact hlt)).up HB.out hbwa).up hB (by omega)
   have htk := rowsB_succ (L := L) (f := f) (k := k) (by rw [HN.out]; exact hlt)
   have hno := fun h => all_false_getD (d := acc0) (p := P) (L := L) (k := k) (by rw [HN.out]; exact hlt) h
   have h9 := take_all_getD (d := acc0) (p := P) L k (by rw [HN.out]; exact hlt)
   have hpx := HP.out (L.getD k acc0)
   have hln : Hid ((rowsB (L.take k) f).length ≤ 100000000) := Lib.hid (by have := rowsB_len (L := L.take k) (f := f); rw [List.length_take] at this; omega)
   generalize L.getD k acc0 = x at *
   have ha := fun w => cisamt_any (f x.code) w
   obtain ⟨S, hS⟩ : ∃ S, f x.code = S := ⟨_, rfl⟩
   rw [hS] at hcg htk hpx ha
   have H9 := Lib.hid h9
   have HNo := Lib.hid hno
   clear hcsa hgd hS h9 hno
   cases hq : amtB S
   ·rw [hq] at ha hpx
    have E := Lib.hid (HE1.out (HNo.out hpx))
    have R := Lib.hid (HR1.out (by rw [E.out]; decide))
    have HAm := Lib.hid ha
    clear ha hpx hq htk
    go_wp2_with (go_at_call 41; refine (HAm.out _).mono ?_; rintro e w3 ⟨rfl, rfl⟩)
    go_ret2
    exact ⟨_, by rw [E.out]; rfl, by rw [R.out]; exact SlB.nil, HB.out.trans (hB.mono hws)⟩
   ·rw [hq] at ha hpx
    have HAm := Lib.hid ha
    have HA2 : Hid ((L.take (k + 1)).all P = true) := Lib.hid (by rw [H9.out, HA.out, hpx]; rfl)
    clear ha hpx hq
    by_cases h0 : S = 0
    ·rw [if_pos h0] at htk
     have e0 : (S != 0) = false := by simp [h0]
     have hO2 : Hid (OwnB 43 wr s1 u6 (rowsB (L.take (k + 1)) f)) := Lib.hid (by rw [htk]; exact hO.out)
     clear h0 htk
     go_wp2_with (go_at_call 41; refine (HAm.out _).mono ?_; rintro e w3 ⟨rfl, rfl⟩)
     go_roundg (n - (k + 1))
     case measure => omega
     case rel => exact ⟨k + 1, by go_num, by omega, by omega, HA2, hO2, hB⟩
    ·rw [if_neg h0] at htk
     have e0 : (S != 0) = true := by simp [h0]
     have HTK := Lib.hid htk
     clear h0 htk
     go_wp2_with (first
      | (go_at_call 41; refine (HAm.out _).mono ?_; rintro e w3 ⟨rfl, rfl⟩)
      | (at_builtin; refine wpList_append_bg _ rfl (.tmp 32) (.tmp 40) 34 rfl s1 43 i0 16 Try.underlying34 hi hz1 hz2 hz3 (by omega) u6 _ (by rfl) hO.out x.code S _ 1 (by first | rfl | simp) rfl hln.out hsz ?_; intro v2 w4 ho2 hb2; replace ho2 := ho2.out; rw [← HTK.out] at ho2; replace ho2 := Lib.hid ho2; replace hB := hB.trans hb2; clear hb2))
     go_roundg (n - (k + 1))
     case measure => omega
     case rel => exact ⟨k + 1, by go_num, by omega, by omega, HA2, ho2, hB⟩
  ·obtain rfl : k = n := by omega
   have hltz : ¬ (k : Int) < (k : Int) := by omega
   have E := Lib.hid (HE0.out (by have := HA.out; rwa [List.take_of_length_le (by rw [HN.out]; omega)] at this))
   have ho := hO.out.slb
   rw [List.take_of_length_le (by rw [HN.out]; omega), ← HR0.out E.out] at ho
   have HO := Lib.hid ho
   clear ho
   go_wp2_with fail
   go_ret2
   exact ⟨_, by rw [E.out]; rfl, HO.out, HB.out.trans (hB.mono hws)⟩
def ofStep (c : Int) (n : Int) (x : Bal) : Int := if x.acct = c then wrap64 (n + x.amt) else n
def ofW (b : List Bal) (c : Int) : Int := b.foldl (ofStep c) 0
theorem ofW_succ {b : List Bal} {c : Int} {k : Nat} (hk : k < b.length) : ofW (b.take (k + 1)) c = ofStep c (ofW (b.take k) c) (b.getD k bal0) := by
 unfold ofW
 rw [take_succ_getD (d := bal0) hk, List.foldl_append]; rfl
set_option maxRecDepth 20000 in
set_option maxHeartbeats 1600000 in
theorem rof8_any (B : Option Addr) (d : Nat) (b : List Bal) (c : Int) (w : World) (hy : BalAt w B b) (hm : b.length ≤ 100000) :
  Calls Try.prog 28 #[.slice B b.length d, .int .i64 c] w fun e w' => e = .returned (.int .i64 (ofW b c)) ∧ w = w' := by
 obtain ⟨m, hm2⟩ : ∃ m, b.length = m := ⟨_, rfl⟩
 rw [hm2] at hm ⊢
 have HM := Lib.hid hm2
 have HY := Lib.hid hy
 clear hm2 hy
 go_enter Try.func28, Try.ntmps28
 go_wp2_with fail
 go_loopg [5, 6] m (fun kx s5 s6 wr => ∃ k : Nat, s5 = .int .i64 (ofW (b.take k) c) ∧ s6 = .int .i64 k ∧ k ≤ m ∧ m - k ≤ kx ∧ w = wr)
 case atStart => exact ⟨0, rfl, rfl, by omega, by omega, rfl⟩
 case round =>
  obtain ⟨k, rfl, rfl, hk, hkx, rfl⟩ := hrel
  by_cases hlt : k < m
  ·have hltz : (k : Int) < (m : Int) := by omega
   obtain ⟨bb, off, rfl, hbw, hcs⟩ := HY.out (by rw [HM.out]; omega)
   obtain ⟨c0, c1⟩ := hcs k (by rw [HM.out]; exact hlt)
   have hs := ofW_succ (b := b) (c := c) (k := k) (by rw [HM.out]; exact hlt)
   generalize b.getD k bal0 = x at *
   generalize ofW (b.take k) c = S at *
   unfold ofStep at hs
   clear hcs
   by_cases he : x.acct = c
   ·rw [if_pos he] at hs
    have e0 : (x.acct == c) = true := by simp [he]
    have HS := Lib.hid hs
    clear hs he
    go_wp2_with fail
    go_roundg (m - (k + 1))
    case measure => omega
    case rel => exact ⟨k + 1, by rw [HS.out], by go_num, by omega, by omega, rfl⟩
   ·rw [if_neg he] at hs
    have e0 : (x.acct == c) = false := by simp [he]
    have HS := Lib.hid hs
    clear hs he
    go_wp2_with fail
    go_roundg (m - (k + 1))
    case measure => omega
    case rel => exact ⟨k + 1, by rw [HS.out], by go_num, by omega, by omega, rfl⟩
  ·obtain rfl : k = m := by omega
   have hltz : ¬ (k : Int) < (k : Int) := by omega
   have E : Hid (ofW b c = ofW (b.take k) c) := Lib.hid (by rw [List.take_of_length_le (by rw [HM.out]; omega)])
   generalize ofW (b.take k) c = S at *
   go_wp2_with fail
   go_ret
   exact ⟨by rw [E.out]; rfl, rfl⟩
theorem rollL_len {L : List Acc} {b : List Bal} : (rollL L b).length ≤ L.length := by
 unfold rollL; split
 ·exact rowsB_len
 ·simp
def sumI {α : Type} (l : List α) (f : α → Int) : Int := (l.map f).sum
theorem sumI_nil {α : Type} {f : α → Int} : sumI [] f = 0 := rfl
theorem sumI_cons {α : Type} {a : α} {l : List α} {f : α → Int} : sumI (a :: l) f = f a + sumI l f := by simp [sumI]
theorem sumI_app {α : Type} {l m : List α} {f : α → Int} : sumI (l ++ m) f = sumI l f + sumI m f := by simp [sumI]
theorem sumI_congr {α : Type} {l : List α} {f g : α → Int} (h : ∀ x ∈ l, f x = g x) : sumI l f = sumI l g := by unfold sumI; rw [List.map_congr_left h]
theorem sumI_zero {α : Type} : ∀ {l : List α} {f : α → Int}, (∀ x ∈ l, f x = 0) → sumI l f = 0
 | [], _, _ => rfl
 | a :: l, f, h => by rw [sumI_cons, h a (List.mem_cons_self ..), sumI_zero fun x hx => h x (List.mem_cons_of_mem _ hx)]; rfl
theorem sumI_add {α : Type} : ∀ {l : List α} {f g : α → Int}, sumI l (fun x => f x + g x) = sumI l f + sumI l g
 | [], _, _ => rfl
 | a :: l, f, g => by rw [sumI_cons, sumI_cons, sumI_cons, sumI_add]; omega
theorem sumI_mul {α : Type} {z : Int} : ∀ {l : List α} {f : α → Int}, sumI l (fun x => f x * z) = sumI l f * z
 | [], _ => by simp [sumI]
 | a :: l, f => by rw [sumI_cons, sumI_cons, sumI_mul, Int.add_mul]
theorem sumI_swap {α β : Type} {m : List β} {f : α → β → Int} : ∀ {l : List α}, sumI l (fun x => sumI m (f x)) = sumI m (fun y => sumI l (fun x => f x y))
 | [] => by rw [sumI_nil]; exact (sumI_zero fun _ _ => rfl).symm
 | a :: l => by
  rw [sumI_cons, sumI_swap, ← sumI_add]
  exact sumI_congr fun y _ => (sumI_cons (f := fun x => f x y)).symm
theorem sumI_map {α β : Type} {h : α → β} {l : List α} {f : β → Int} : sumI (l.map h) f = sumI l (fun x => f (h x)) := by unfold sumI; rw [List.map_map]; rfl
theorem sumI_filter {α : Type} {p : α → Bool} : ∀ {l : List α} {f : α → Int}, sumI (l.filter p) f = sumI l (fun x => if p x = true then f x else 0)
 | [], _ => rfl
 | a :: l, f => by
  rw [sumI_cons, List.filter_cons]
  split
  ·rw [sumI_cons, sumI_filter]
  ·rw [sumI_filter]; omega
def inI (c : Int) (l : List Int) : Int := if c ∈ l then 1 else 0
def eqI (x c : Int) : Int := if x = c then 1 else 0
theorem Srt.pair {L : List Acc} (h : Srt L) : L.Pairwise (fun x y => x.code ≠ y.code) := by
 rw [List.pairwise_iff_getElem]
 intro i j hi hj hij
 have := h.mono i j hij hj
 rw [List.getD_eq_getElem?_getD, List.getD_eq_getElem?_getD, List.getElem?_eq_getElem hi, List.getElem?_eq_getElem hj] at this
 simp only [Option.getD_some] at this
 omega
theorem sum_uniq {g : Acc → Int} : ∀ {L : List Acc}, L.Pairwise (fun x y => x.code ≠ y.code) → ∀ {a : Acc}, a ∈ L → sumI L (fun x => if x.code = a.code then g x else 0) = g a
 | [], _, a, h => by cases h
 | x :: L, hp, a, h => by
  rw [List.pairwise_cons] at hp
  rw [sumI_cons]
  rcases List.mem_cons.1 h with rfl | h
  ·rw [if_pos rfl, sumI_zero fun y hy => by rw [if_neg (fun e => hp.1 y hy e.symm)]]; omega
  ·rw [if_neg (hp.1 a h), sum_uniq hp.2 h]; omega
theorem Srt.uniq {L : List Acc} (h : Srt L) {g : Acc → Int} {a : Acc} (ha : a ∈ L) : sumI L (fun x => if x.code = a.code then g x else 0) = g a := sum_uniq h.pair ha
theorem kids_sum {L : List Acc} {c : Int} {f : Int → Int} : sumI (kids L c) f = sumI L (fun x => if x.par = c then f x.code else 0) := by
 unfold kids
 rw [sumI_map, sumI_filter]
 exact sumI_congr fun x _ => by simp
theorem kids_at {L : List Acc} (h : Srt L) {c : Int} {a : Acc} (ha : a ∈ L) : sumI (kids L c) (fun k => eqI k a.code) = eqI a.par c := by
 rw [kids_sum]
 rw [show (fun x : Acc => if x.par = c then eqI x.code a.code else 0) = fun x => if x.code = a.code then (if x.par = c then 1 else 0) else 0 from funext fun x => by unfold eqI; split <;> split <;> rfl]
 rw [h.uniq (g := fun x => if x.par = c then 1 else 0) ha]
 rfl
theorem climb_step {L : List Acc} (hG : Good L) {a : Acc} (ha : a ∈ L) (k : Int) : inI k (climb L a.code) = eqI k a.code + inI k (climb L a.par) := by
 have hf := hG.srt.fnd_mem ha
 have hc := climb_some hf (hG.ends _)
 have hn := climb_nodup (hG.ends a.code)
 rw [hc] at hn ⊢
 rw [List.nodup_cons] at hn
 unfold inI eqI
 by_cases h : k = a.code
 ·subst h; rw [if_pos (List.mem_cons_self ..), if_pos rfl, if_neg hn.1]; omega
 ·rw [if_neg h]
  by_cases h2 : k ∈ climb L a.par
  ·rw [if_pos (List.mem_cons_of_mem _ h2), if_pos h2]; omega
  ·rw [if_neg h2, if_neg (fun h3 => (List.mem_cons.1 h3).elim h h2)]; omega
theorem climb_len {L : List Acc} (hG : Good L) {a : Acc} (ha : a ∈ L) : (climb L a.code).length = (climb L a.par).length + 1 := by
 rw [climb_some (hG.srt.fnd_mem ha) (hG.ends _)]; rfl
theorem eqI_comm {x y : Int} : eqI x y = eqI y x := by
 unfold eqI
 by_cases h : x = y
 ·rw [if_pos h, if_pos h.symm]
 ·rw [if_neg h, if_neg (fun e => h e.symm)]
theorem tree_at {L : List Acc} (hG : Good L) {c : Int} (hc : ∃ a ∈ L, a.code = c) : ∀ (n : Nat) (x : Int), (climb L x).length ≤ n → inI c (climb L x) = eqI x c + sumI (kids L c) (fun k => inI k (climb L x)) := by
 intro n
 induction n with
 | zero =>
  intro x hx
  have h0 : climb L x = [] := List.eq_nil_of_length_eq_zero (by omega)
  rw [h0]
  have hxc : x ≠ c := by
   rintro rfl
   obtain ⟨a, ha, e⟩ := hc
   have := climb_len hG ha
   rw [e, h0] at this; simp at this
  rw [sumI_zero fun k _ => by unfold inI; simp]
  unfold inI eqI
  rw [if_neg hxc]; simp
 | succ n ih =>
  intro x hx
  cases hf : fnd L x with
  | none =>
   have h0 : climb L x = [] := climb_none hf
   exact ih x (by rw [h0]; simp)
  | some a =>
   obtain ⟨ha, e⟩ := fnd_some hf
   subst e
   have hl := climb_len hG ha
   have h1 := ih a.par (by omega)
   rw [climb_step hG ha c, h1, sumI_congr (fun k _ => climb_step hG ha k), sumI_add, kids_at hG.srt ha, eqI_comm (x := c)]
theorem root_at {L : List Acc} (hG : Good L) : ∀ (n : Nat) (a : Acc), a ∈ L → (climb L a.code).length ≤ n → sumI (kids L 0) (fun k => inI k (climb L a.code)) = 1 := by
 intro n
 induction n with
 | zero =>
  intro a ha hx
  have := climb_len hG ha
  omega
 | succ n ih =>
  intro a ha hx
  have hl := climb_len hG ha
  rw [sumI_congr (fun k _ => climb_step hG ha k), sumI_add, kids_at hG.srt ha]
  by_cases h0 : a.par = 0
  ·rw [h0, climb_none hG.srt.fnd_zero, sumI_zero fun k _ => by unfold inI; simp]; rfl
  ·obtain ⟨p, hp⟩ := parentsB_fnd hG.pars ha h0
   obtain ⟨hpm, hpc⟩ := fnd_some hp
   rw [← hpc, ih p hpm (by rw [hpc]; omega)]
   rw [hpc]
   unfold eqI
   rw [if_neg h0]; rfl
def ofS (b : List Bal) (c : Int) : Int := sumI b (fun y => if y.acct = c then y.amt else 0)
def roomI (b : List Bal) : Int := sumI b (fun _ => 1000000000000)
theorem roomI_le : ∀ {b : List Bal} {k : Nat}, b.length ≤ k → roomI b ≤ (k : Int) * 1000000000000
 | [], k, _ => by show (0 : Int) ≤ _; exact Int.mul_nonneg (by omega) (by decide)
 | y :: b, 0, h => by simp at h
 | y :: b, k + 1, h => by
  have := roomI_le (b := b) (k := k) (by simpa using h)
  show sumI (y :: b) _ ≤ _
  rw [sumI_cons]
  have e : ((k + 1 : Nat) : Int) * 1000000000000 = 1000000000000 + (k : Int) * 1000000000000 := by rw [Int.natCast_add, Int.add_mul]; omega
  rw [e]
  exact Int.add_le_add_left this _
theorem ofW_fold {c : Int} : ∀ (b : List Bal) (n : Int), (∀ y ∈ b, amtB y.amt = true) → -1000000000000000 + roomI b ≤ n → n ≤ 1000000000000000 - roomI b → b.foldl (ofStep c) n = n + ofS b c := by
 intro b
 induction b with
 | nil => intro n _ _ _; simp [ofS, sumI]
 | cons y b ih =>
  intro n h h1 h2
  have ha := amtB_is.1 (h y (List.mem_cons_self ..))
  have hr : roomI (y :: b) = 1000000000000 + roomI b := sumI_cons
  have ho : ofS (y :: b) c = (if y.acct = c then y.amt else 0) + ofS b c := sumI_cons
  rw [hr] at h1 h2
  have hr0 : 0 ≤ roomI b := by
   have : ∀ l : List Bal, 0 ≤ roomI l := by
    intro l
    induction l with
    | nil => exact Int.le_refl _
    | cons z l ih2 =>
     have : roomI (z :: l) = 1000000000000 + roomI l := sumI_cons
     omega
   exact this b
  have hs : ofStep c n y = n + if y.acct = c then y.amt else 0 := by
   unfold ofStep
   split
   ·exact IntWalk.wrap64_in _ ⟨by omega, by omega⟩
   ·omega
  have hb : -1000000000000 ≤ (if y.acct = c then y.amt else 0 : Int) ∧ (if y.acct = c then y.amt else 0 : Int) ≤ 1000000000000 := by split <;> omega
  rw [List.foldl_cons, hs, ho]
  generalize (if y.acct = c then y.amt else 0 : Int) = z at *
  rw [ih _ (fun z hz => h z (List.mem_cons_of_mem _ hz)) (by omega) (by omega)]
  omega
theorem room_1000 {b : List Bal} (hl : b.length ≤ 1000) : roomI b ≤ 1000000000000000 := by
 have := roomI_le hl
 exact this
theorem ofW_ofS {b : List Bal} {c : Int} (h : ∀ y ∈ b, amtB y.amt = true) (hl : b.length ≤ 1000) : ofW b c = ofS b c := by
 have := room_1000 hl
 unfold ofW
 rw [ofW_fold b 0 h (by omega) (by omega)]; omega
theorem ofS_bound {c : Int} : ∀ {l : List Bal}, (∀ y ∈ l, amtB y.amt = true) → -roomI l ≤ ofS l c ∧ ofS l c ≤ roomI l := by
 intro l
 induction l with
 | nil => intro _; exact ⟨Int.le_refl _, Int.le_refl _⟩
 | cons y l ih =>
  intro h
  have h1 := ih fun z hz => h z (List.mem_cons_of_mem _ hz)
  have h2 := amtB_is.1 (h y (List.mem_cons_self ..))
  have hr : roomI (y :: l) = 1000000000000 + roomI l := sumI_cons
  have h3 : ofS (y :: l) c = (if y.acct = c then y.amt else 0) + ofS l c := sumI_cons
  have h4 : -1000000000000 ≤ (if y.acct = c then y.amt else 0 : Int) ∧ (if y.acct = c then y.amt else 0 : Int) ≤ 1000000000000 := by split <;> omega
  rw [h3, hr]
  omega
theorem addTo8_in {L : List Acc} {c : Int} {y : Bal} : addTo8 L c y = inI c (climb L y.acct) * y.amt := by
 unfold addTo8 inI; split <;> omega
theorem sumC_sumI {L : List Acc} {b : List Bal} {c : Int} : sumC L b c = sumI b (fun y => inI c (climb L y.acct) * y.amt) := by
 unfold sumC
 show sumI b (addTo8 L c) = _
 exact sumI_congr fun y _ => addTo8_in
theorem sumC_tree {L : List Acc} (hG : Good L) {b : List Bal} {a : Acc} (ha : a ∈ L) : sumC L b a.code = ofS b a.code + sumI (kids L a.code) (sumC L b) := by
 have h1 : ∀ y ∈ b, inI a.code (climb L y.acct) * y.amt = (if y.acct = a.code then y.amt else 0) + sumI (kids L a.code) (fun k => inI k (climb L y.acct) * y.amt) := by
  intro y _
  rw [tree_at hG ⟨a, ha, rfl⟩ _ y.acct (Nat.le_refl _), sumI_mul, Int.add_mul]
  congr 1
  unfold eqI; split <;> omega
 rw [sumC_sumI, sumI_congr h1, sumI_add, sumI_swap]
 congr 1
 exact sumI_congr fun k _ => sumC_sumI.symm
theorem sumC_roots {L : List Acc} (hG : Good L) {b : List Bal} (hb : Bals L b) : sumI L (fun x => if x.par = 0 then sumC L b x.code else 0) = sumI b (fun y => y.amt) := by
 rw [← kids_sum, sumI_congr (fun k _ => sumC_sumI), sumI_swap]
 refine sumI_congr fun y hy => ?_
 rw [sumI_mul]
 obtain ⟨k, hk, rfl⟩ := mem_getD_acc (d := bal0) hy
 obtain ⟨a, ha⟩ := hb.fnd k hk
 obtain ⟨hm, hc⟩ := fnd_some ha
 rw [← hc, root_at hG _ a hm (Nat.le_refl _)]
 omega
theorem ofS_pick {l : List Bal} {c : Int} : ofS (pick0 l) c = ofS l c := by
 unfold ofS pick0
 rw [sumI_filter]
 refine sumI_congr fun y _ => ?_
 by_cases h : y.amt = 0
 ·rw [if_neg (by simp [h])]; split <;> simp [h]
 ·rw [if_pos (by simp [h])]
theorem ofS_rows {L : List Acc} (hS : Srt L) {f : Int → Int} {a : Acc} (ha : a ∈ L) : ofS (rowsB L f) a.code = f a.code := by
 unfold rowsB
 rw [ofS_pick]
 unfold ofS
 rw [sumI_map]
 exact hS.uniq (g := fun x => f x.code) ha
theorem rowsB_amt {L : List Acc} {f : Int → Int} (h : ∀ a ∈ L, amtB (f a.code) = true) : ∀ y ∈ rowsB L f, amtB y.amt = true := by
 intro y hy
 unfold rowsB pick0 at hy
 obtain ⟨a, ha, rfl⟩ := List.mem_map.1 (List.mem_filter.1 hy).1
 exact h a ha
structure Rolled (L : List Acc) (b : List Bal) : Prop where
 good : Good L
 bals : Bals L b
 sums : ∀ a ∈ L, amtB (sumC L b a.code) = true
 rows : rollL L b = rowsB L (sumC L b)
theorem rollE_rolled {L : List Acc} {b : List Bal} (h : rollE L b = 0) : Rolled L b := by
 have hr := rollL_ok h
 unfold rollE at h
 split at h
 ·rename_i h1
  split at h
  ·rename_i h2
   rw [Bool.and_eq_true] at h1
   rw [List.all_eq_true] at h2
   exact ⟨eiB_good h1.1, balB_bals h1.2, fun a ha => h2 a ha, hr⟩
  ·cases h
 ·cases h
theorem Rolled.of {L : List Acc} {b : List Bal} (h : Rolled L b) (hl : L.length ≤ 1000) {a : Acc} (ha : a ∈ L) : ofW (rollL L b) a.code = sumC L b a.code := by
 rw [h.rows, ofW_ofS (rowsB_amt h.sums) (Nat.le_trans rowsB_len hl), ofS_rows h.good.srt ha]
theorem kids_mem {L : List Acc} {c k : Int} (h : k ∈ kids L c) : ∃ a ∈ L, a.code = k := by
 unfold kids at h
 obtain ⟨a, ha, e⟩ := List.mem_map.1 h
 exact ⟨a, (List.mem_filter.1 ha).1, e⟩
theorem sumI_take {α : Type} {d : α} {l : List α} {f : α → Int} {k : Nat} (hk : k < l.length) : sumI (l.take (k + 1)) f = sumI (l.take k) f + f (l.getD k d) := by
 rw [take_succ_getD (d := d) hk, sumI_app, sumI_cons, sumI_nil]; omega
theorem sumI_bound {α : Type} {f : α → Int} : ∀ {l : List α} {k : Nat}, l.length ≤ k → (∀ x ∈ l, -1000000000000 ≤ f x ∧ f x ≤ 1000000000000) → -((k : Int) * 1000000000000) ≤ sumI l f ∧ sumI l f ≤ (k : Int) * 1000000000000
 | [], k, _, _ => by
  have : (0 : Int) ≤ (k : Int) * 1000000000000 := Int.mul_nonneg (by omega) (by decide)
  rw [sumI_nil]; omega
 | y :: l, 0, h, _ => by simp at h
 | y :: l, k + 1, h, hf => by
  have h1 := sumI_bound (f := f) (l := l) (k := k) (by simpa using h) fun x hx => hf x (List.mem_cons_of_mem _ hx)
  have h2 := hf y (List.mem_cons_self ..)
  rw [sumI_cons]
  have e : ((k + 1 : Nat) : Int) * 1000000000000 = 1000000000000 + (k : Int) * 1000000000000 := by rw [Int.natCast_add, Int.add_mul]; omega
  rw [e]
  generalize (k : Int) * 1000000000000 = T at *
  omega
theorem sumI_60 {α : Type} {f : α → Int} {l : List α} (h : l.length ≤ 60) (hf : ∀ x ∈ l, -1000000000000 ≤ f x ∧ f x ≤ 1000000000000) : -60000000000000 ≤ sumI l f ∧ sumI l f ≤ 60000000000000 := sumI_bound h hf
def kidS (L : List Acc) (b : List Bal) (a : Acc) (j : Nat) : Int := ofS b a.code + sumI ((kids L a.code).take j) (sumC L b)
def rootF (L : List Acc) (b : List Bal) (x : Acc) : Int := if x.par = 0 then sumC L b x.code else 0
set_option maxRecDepth 20000 in
set_option maxHeartbeats 6400000 in
theorem law_chsums (A : Option Addr) (len c : Nat) (L : List Acc) (B : Option Addr) (lb cb : Nat) (b : List Bal) (w : World) (hlen : L.length = len) (hz : AccAt w A L) (hlb : b.length = lb) (hy : BalAt w B b) :
  Calls Try.prog 8 #[.slice A len c, .slice B lb cb] w fun e w' => e = .returned (.bool true) ∧ Below w.heap.size w w' := by
 have hB := Below.refl w.heap.size w
 have HZ := Lib.hid hz
 have HY := Lib.hid hy
 clear hz hy
 have hf1 := fun w => chfew_any A B len lb c cb w
 by_cases h1 : len ≤ 60 ∧ lb ≤ 60
 ·obtain ⟨hl1, hl2⟩ := h1
  rw [decide_eq_true hl1, decide_eq_true hl2] at hf1
  have HF1 := Lib.hid hf1
  have r1 := fun w h h' => croll_any A B c cb L b w h h' (by omega) (by omega)
  rw [hlen, hlb] at r1
  by_cases hE : rollE L b = 0
  ·have R := rollE_rolled hE
   rw [hE] at r1
   have hO1 := fun k w h => rof8_any B cb b k w h (by omega)
   have hOb : ∀ k, ofW b k = ofS b k := fun k => ofW_ofS R.bals.amt (by omega)
   rw [hlb] at hO1
   have hK := fun k w h => ckids_any A c L k w h (by omega)
   rw [hlen] at hK
   have hR1 : (rollL L b).length ≤ 60 := by have := rollL_len (L := L) (b := b); omega
   have hRo : ∀ a ∈ L, ofW (rollL L b) a.code = sumC L b a.code := fun a ha => R.of (by omega) ha
   generalize rollL L b = R1 at *
   obtain ⟨n1, hn1⟩ : ∃ n1, R1.length = n1 := ⟨_, rfl⟩
   have hO2 := fun A2 d2 k w h => rof8_any A2 d2 R1 k w h (by omega)
   rw [hn1] at hO2
   have HN1 := Lib.hid hn1
   have HLN := Lib.hid hlen
   have HLB := Lib.hid hlb
   have HR := Lib.hid R
   have HR1 := Lib.hid r1
   have HO1 := Lib.hid hO1
   have HO2 := Lib.hid hO2
   have HOB := Lib.hid hOb
   have HRO := Lib.hid hRo
   have HK := Lib.hid hK
   have hl1z : (len : Int) ≤ 60 := by omega
   clear hf1 hlen hlb hE R r1 hO1 hOb hK hR1 hRo hn1 hO2
   go_enter Try.func8, Try.ntmps8
   go_wp2_with (first
    | (go_at_call 10; refine (chawake_any _).mono ?_; rintro e w1 ⟨rfl, hb⟩; replace hB := below_more hB hb; clear hb)
    | (go_at_call 18; refine (HF1.out _).mono ?_; rintro e w2 ⟨rfl, rfl⟩)
    | (go_at_call 23; refine (HR1.out _ (HZ.out.up hB) (HY.out.up hB)).mono ?_; rintro e w4 ⟨v1, rfl, hs1, hb⟩; replace hB := below_more hB hb; obtain ⟨A1, d1, hv1, hI1⟩ := hs1; rw [HN1.out] at hv1; subst hv1; have HI1 := Lib.hid hI1; clear hb hI1))
   go_loopg [8, 9] lb (fun kx s8 s9 wr => ∃ k : Nat, s8 = .int .i64 (sumI (b.take k) Bal.amt) ∧ s9 = .int .i64 k ∧ k ≤ lb ∧ lb - k ≤ kx ∧ wr = w4)
   case atStart => exact ⟨0, rfl, rfl, by omega, by omega, rfl⟩
   case round =>
    obtain ⟨k, rfl, rfl, hk, hkx, rfl⟩ := hrel
    by_cases hlt : k < lb
    ·have hltz : (k : Int) < (lb : Int) := by omega
     obtain ⟨bb, off, rfl, hbw, hcs⟩ := HY.out (by rw [HLB.out]; omega)
     obtain ⟨c0, c1⟩ := (hcs k (by rw [HLB.out]; exact hlt)).up hB hbw
     have hst := sumI_take (d := bal0) (f := Bal.amt) (l := b) (k := k) (by rw [HLB.out]; exact hlt)
     have ham := amtB_is.1 (HR.out.bals.amt _ (getD_mem_acc (d := bal0) (show k < b.length by rw [HLB.out]; exact hlt)))
     obtain ⟨bd1, bd2⟩ := sumI_60 (f := Bal.amt) (l := b.take k) (by rw [List.length_take]; omega) (fun x hx => amtB_is.1 (HR.out.bals.amt x (List.mem_of_mem_take hx)))
     generalize b.getD k bal0 = x at *
     generalize sumI (b.take k) Bal.amt = S at *
     have HST := Lib.hid hst
     obtain ⟨am1, am2⟩ := ham
     clear hcs hst
     go_wp2_with fail
     go_roundg (lb - (k + 1))
     case measure => omega
     case rel => exact ⟨k + 1, by rw [HST.out], by go_num, by omega, by omega, rfl⟩
    ·obtain rfl : k = lb := by omega
     have hltz : ¬ (k : Int) < (k : Int) := by omega
     have hall : sumI (b.take k) Bal.amt = sumI b Bal.amt := by rw [List.take_of_length_le (by rw [HLB.out]; omega)]
     rw [hall]
     obtain ⟨bd1, bd2⟩ := sumI_60 (f := Bal.amt) (l := b) (by rw [HLB.out]; exact hl2) (fun x hx => amtB_is.1 (HR.out.bals.amt x hx))
     have hroots : sumI L (rootF L b) = sumI b Bal.amt := sumC_roots HR.out.good HR.out.bals
     obtain ⟨T, hT⟩ : ∃ T, sumI b Bal.amt = T := ⟨_, rfl⟩
     rw [hT] at hroots ⊢
     have HRT := Lib.hid hroots
     clear hall hT hroots bd1 bd2
     go_wp2_with fail
     go_loopg [7, 10] len (fun kx s7 s10 W => ∃ i : Nat, s7 = .int .i64 (sumI (L.take i) (rootF L b)) ∧ s10 = .int .i64 i ∧ i ≤ len ∧ len - i ≤ kx ∧ Hid (BalAt W A1 R1) ∧ Below w.heap.size w W)
     case atStart => exact ⟨0, rfl, rfl, by omega, by omega, HI1, hB⟩
     case round =>
      clear hB HI1
      obtain ⟨i, rfl, rfl, hi, hix, HI1, hB⟩ := hrel
      by_cases hil : i < len
      ·have hilz : (i : Int) < (len : Int) := by omega
       obtain ⟨ba, offa, rfl, hbwa, hcsa⟩ := HZ.out (by rw [HLN.out]; omega)
       have a4 := hcsa i (by rw [HLN.out]; exact hil)
       have hst := sumI_take (d := acc0) (f := rootF L b) (l := L) (k := i) (by rw [HLN.out]; exact hil)
       have ham := getD_mem_acc (d := acc0) (show i < L.length by rw [HLN.out]; exact hil)
       obtain ⟨bd1, bd2⟩ := sumI_60 (f := rootF L b) (l := L.take i) (by rw [List.length_take]; omega) (fun x hx => by
        unfold rootF
        have := amtB_is.1 (HR.out.sums x (List.mem_of_mem_take hx))
        split <;> omega)
       obtain ⟨a, ha⟩ : ∃ a, L.getD i acc0 = a := ⟨_, rfl⟩
       rw [ha] at a4 hst ham
       have HA4 := Lib.hid a4
       obtain ⟨c0, c1, c2, c3⟩ := a4.up hB hbwa
       generalize sumI (L.take i) (rootF L b) = S at *
       have HST := Lib.hid hst
       have HAM := Lib.hid ham
       have hsa := amtB_is.1 (HR.out.sums a ham)
       have htree := sumC_tree HR.out.good (b := b) ham
       have hro := HRO.out a ham
       have hobw := HOB.out a.code
       have hk0 : kidS L b a 0 = ofS b a.code := by unfold kidS; rw [List.take_zero, sumI_nil]; omega
       have hkl := kids_len (L := L) (c := a.code)
       rw [HLN.out] at hkl
       have o1 := HO1.out a.code
       rw [hobw, ← hk0] at o1
       have O1 := Lib.hid o1
       have kk := HK.out a.code
       obtain ⟨U, hU⟩ : ∃ U, kids L a.code = U := ⟨_, rfl⟩
       obtain ⟨nu, hnu⟩ : ∃ nu, U.length = nu := ⟨_, rfl⟩
       rw [hU] at kk hkl htree
       rw [hnu] at hkl
       have hkend : kidS L b a nu = sumC L b a.code := by
        unfold kidS
        rw [htree, hU, List.take_of_length_le (by omega)]
       have HKE := Lib.hid hkend
       have HU := Lib.hid hU
       have HNU := Lib.hid hnu
       have KK := Lib.hid kk
       have HRA := Lib.hid hro
       obtain ⟨sa1, sa2⟩ := hsa
       clear hcsa a4 hst ham htree hro hobw hk0 o1 kk hU hnu hkend ha
       go_wp2_with (first
        | (go_at_call 28; refine (O1.out _ (HY.out.up hB)).mono ?_; rintro e w5 ⟨rfl, rfl⟩)
        | (go_at_call 16; refine (KK.out _ (HZ.out.up hB)).mono ?_; rintro e w6 ⟨v3, rfl, hs3, hb⟩; have HI2 := Lib.hid (HI1.out.up hb); have hB2 := below_more hB hb; obtain ⟨A3, d3, hv3, hI3⟩ := hs3; rw [HNU.out] at hv3; subst hv3; have HI3 := Lib.hid hI3; clear hb hI3))
       clear hB HI1 O1 KK c0 c1 c2 c3
       go_loopg [11, 13] nu (fun kx s11 s13 W => ∃ j : Nat, s11 = .int .i64 (kidS L b a j) ∧ s13 = .int .i64 j ∧ j ≤ nu ∧ nu - j ≤ kx ∧ W = w6)
       case atStart => exact ⟨0, rfl, rfl, by omega, by omega, rfl⟩
       case round =>
        obtain ⟨j, rfl, rfl, hj, hjx, rfl⟩ := hrel
        by_cases hjn : j < nu
        ·have hjz : (j : Int) < (nu : Int) := by omega
         obtain ⟨bk, offk, rfl, hbk, hck⟩ := HI3.out (by rw [HNU.out]; omega)
         have hcell := hck j (by rw [HNU.out]; exact hjn)
         have hst2 : kidS L b a (j + 1) = kidS L b a j + sumC L b (U.getD j 0) := by
          unfold kidS
          rw [HU.out, sumI_take (d := (0 : Int)) (by rw [HNU.out]; exact hjn)]; omega
         obtain ⟨ax, hax, hae⟩ := kids_mem (L := L) (c := a.code) (k := U.getD j 0) (by rw [HU.out]; exact getD_mem_acc (by rw [HNU.out]; exact hjn))
         have hro := HRO.out ax hax
         have hsx := amtB_is.1 (HR.out.sums ax hax)
         rw [hae] at hro hsx
         have hkb : -1000000000000000 ≤ kidS L b a j ∧ kidS L b a j ≤ 1000000000000000 := by
          unfold kidS
          have b1 := ofS_bound (l := b) (c := a.code) HR.out.bals.amt
          have b2 : roomI b ≤ 60000000000000 := roomI_le (k := 60) (by rw [HLB.out]; exact hl2)
          have b3 := sumI_60 (f := sumC L b) (l := (kids L a.code).take j) (by rw [List.length_take]; omega) (fun z hz => by
           obtain ⟨az, haz, e9⟩ := kids_mem (List.mem_of_mem_take hz)
           have := amtB_is.1 (HR.out.sums az haz)
           rw [e9] at this; exact this)
          omega
         have o2 := HO2.out A1 d1 (U.getD j 0)
         rw [hro] at o2
         generalize U.getD j 0 = ka at *
         generalize sumC L b ka = sk at *
         generalize kidS L b a j = S2 at *
         have HST2 := Lib.hid hst2
         have O2 := Lib.hid o2
         obtain ⟨kb1, kb2⟩ := hkb
         obtain ⟨sx1, sx2⟩ := hsx
         clear hck hst2 o2 hro hax hae
         go_wp2_with (go_at_call 28; refine (O2.out _ HI2.out).mono ?_; rintro e w7 ⟨rfl, rfl⟩)
         go_roundg (nu - (j + 1))
         case measure => omega
         case rel => exact ⟨j + 1, by rw [HST2.out], by go_num, by omega, by omega, rfl⟩
        ·obtain rfl : j = nu := by omega
         have hjz : ¬ (j : Int) < (j : Int) := by omega
         rw [HKE.out]
         have o2 := HO2.out A1 d1 a.code
         rw [HRA.out] at o2
         have hrf : rootF L b a = if a.par = 0 then sumC L b a.code else 0 := rfl
         generalize sumC L b a.code = SA at *
         have O2 := Lib.hid o2
         have ess : (SA != SA) = false := by simp
         obtain ⟨c0, c1, c2, c3⟩ := HA4.out.up hB2 hbwa
         clear o2
         by_cases hp0 : a.par = 0
         ·rw [if_pos hp0] at hrf
          have ep : (a.par == 0) = true := by simp [hp0]
          have HS2 : Hid (S + SA = sumI (L.take (i + 1)) (rootF L b)) := Lib.hid (by rw [HST.out, hrf])
          clear hrf hp0
          go_wp2_with (go_at_call 28; refine (O2.out _ HI2.out).mono ?_; rintro e w7 ⟨rfl, rfl⟩)
          go_roundg (len - (i + 1))
          case measure => omega
          case rel => exact ⟨i + 1, by rw [HS2.out], by go_num, by omega, by omega, HI2, hB2⟩
         ·rw [if_neg hp0] at hrf
          have ep : (a.par == 0) = false := by simp [hp0]
          have HS2 : Hid (S = sumI (L.take (i + 1)) (rootF L b)) := Lib.hid (by rw [HST.out, hrf]; omega)
          clear hrf hp0
          go_wp2_with (go_at_call 28; refine (O2.out _ HI2.out).mono ?_; rintro e w7 ⟨rfl, rfl⟩)
          go_roundg (len - (i + 1))
          case measure => omega
          case rel => exact ⟨i + 1, by rw [HS2.out], by go_num, by omega, by omega, HI2, hB2⟩
      ·obtain rfl : i = len := by omega
       have hilz : ¬ (i : Int) < (i : Int) := by omega
       have hend : sumI (L.take i) (rootF L b) = T := by rw [List.take_of_length_le (by rw [HLN.out]; omega)]; exact HRT.out
       rw [hend]
       have ett : (T == T) = true := by simp
       clear hend HRT
       go_wp2_with fail
       go_ret
       exact ⟨rfl, hB⟩
  ·have hrl := rollL_bad (L := L) (b := b) hE
   rw [hrl] at r1
   have e0 : (rollE L b != 0) = true := by simp [hE]
   generalize rollE L b = E1 at *
   have HR1 := Lib.hid r1
   clear hf1 hlen hlb r1 hrl hE
   go_enter Try.func8, Try.ntmps8
   go_wp2_with (first
    | (go_at_call 10; refine (chawake_any _).mono ?_; rintro e w1 ⟨rfl, hb⟩; replace hB := below_more hB hb; clear hb)
    | (go_at_call 18; refine (HF1.out _).mono ?_; rintro e w2 ⟨rfl, rfl⟩)
    | (go_at_call 23; refine (HR1.out _ (HZ.out.up hB) (HY.out.up hB)).mono ?_; rintro e w4 ⟨v1, rfl, ⟨A1, d1, hv1, -⟩, hb⟩; replace hv1 : v1 = .slice A1 0 d1 := hv1; subst hv1; replace hB := below_more hB hb; clear hb))
   go_ret
   exact ⟨rfl, hB⟩
 ·have hff : (decide (len ≤ 60) && decide (lb ≤ 60)) = false := by
   rw [Bool.and_eq_false_iff]
   by_cases h2 : len ≤ 60
   ·exact .inr (decide_eq_false fun h3 => h1 ⟨h2, h3⟩)
   ·exact .inl (decide_eq_false h2)
  rw [hff] at hf1
  have HF1 := Lib.hid hf1
  clear hf1 hlen hlb hff h1
  go_enter Try.func8, Try.ntmps8
  go_wp2_with (first
   | (go_at_call 10; refine (chawake_any _).mono ?_; rintro e w1 ⟨rfl, hb⟩; replace hB := below_more hB hb; clear hb)
   | (go_at_call 18; refine (HF1.out _).mono ?_; rintro e w2 ⟨rfl, rfl⟩))
  go_ret
  exact ⟨rfl, hB⟩
open Go.ChangeShapes Go.WideShapes Go.ChangeAt Go.WideMaps Go.WideElems Go.RowKit Go.Deep
theorem open_ibals {H : Type} {enc : TypeId × Value → H} {P : Program} {W : World} {b0 : Nat} {T E I : TypeId} {f0 f1 : Field} {v : Value} {d : DataW H} {p : List MemPlace} (hT : P.underlying T = some (.slice E)) (hE : P.underlying E = some (.struct #[f0, f1]))
  (hone : oneCellFields P #[f0, f1] = true) (hC : P.cellsOf E = 2) (hty : ([f0, f1].all fun f => f.type == I) = true) (hI : P.underlying I = some (.int .i64))
  (hval : Value.okWide P W .any b0 T v) (h : DataW.Trod enc P W 0 (fun _ => true) true T v d p) :
  ∃ A len cap L, v = .slice A len cap ∧ L.length = len ∧ len ≤ 9223372036854775807 ∧ BalAt W A L := by
 obtain ⟨A, len, cap, rfl, hmax, X, hX⟩ := open_irows hT hE hone hC hty hI (by simp) hval h
 refine ⟨A, len, cap, (List.range len).map fun k => ⟨X k 0, X k 1⟩, rfl, by simp, hmax, fun h0 => ?_⟩
 obtain ⟨b, off, e, hlt, hc⟩ := hX (by simpa using h0)
 refine ⟨b, off, e, hlt, fun i hi => ?_⟩
 have hi2 : i < len := by simpa using hi
 have hg : ((List.range len).map fun k => (⟨X k 0, X k 1⟩ : Bal)).getD i bal0 = ⟨X i 0, X i 1⟩ := by
  rw [List.getD_eq_getElem?_getD, List.getElem?_map, List.getElem?_range hi2]; rfl
 rw [hg]
 exact ⟨hc i hi2 0 (by simp), hc i hi2 1 (by simp)⟩
end Go.Proofs.Ytlhdnmpklaohkaa
