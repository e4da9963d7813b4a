/- Contracts of the functions that the statement reaches, part 1: what was proved of each, callees first. -/
import Derived.Test.YtbfbijokhlkekaaDoorProg
import Derived.WalkKit
import Derived.WalkSpells
import Derived.Lib.Hide
import Derived.Deep.QuietTactic
import Derived.BigQuiet
import Derived.Deep.Draws
import Derived.Laws.Rows
import Derived.Laws.CopyOwn
import Derived.Deep.OwnRows
import Derived.Outline
import Derived.Lib.ItoaNum
import Derived.Shelf.Small.Bits
import Derived.Shelf.Small.Wraps
import Derived.Shelf.Strconv.Itoa0
import Derived.Shelf.Strconv.Itoa1
import Derived.Shelf.LaysM
import Derived.Shelf.Strconv.Itoa2
import Derived.Shelf.Strconv.AppendUint10
import Derived.Shelf.Strings.Prefix
import Derived.Shelf.Bits.Mul64
import Derived.Laws.BytesString
import Derived.Laws.Cells
import Derived.Laws.RangeAny
import Derived.Lib.OthersKept
/- Words for memory: a row of unsigned numbers that a slice reads as, and a block that is known whole. -/
namespace Go.Proofs.YtbfbijokhlkekaaDoor
open Go.RowKit

/-- The k-th number of a list, 0 behind its end. -/
def nth (L : List Nat) (k : Nat) : Nat := L.getD k 0
theorem nth_lt {L : List Nat} {k : Nat} (h : k < L.length) : nth L k = L[k] := by simp [nth, h]
theorem nth_ge {L : List Nat} {k : Nat} (h : L.length ≤ k) : nth L k = 0 := by simp [nth, h]
theorem nth_all {L : List Nat} {b : Nat} (h : ∀ d ∈ L, d < b) (hb : 0 < b) (k : Nat) : nth L k < b := by
  rcases Nat.lt_or_ge k L.length with hk | hk
  · rw [nth_lt hk]; exact h _ (List.getElem_mem hk)
  · rw [nth_ge hk]; exact hb

/-- The cells of a row: from offset o of block b on lie the numbers L. -/
def Cells (k : IntKind) (w : World) (b o : Nat) (L : List Nat) : Prop := ∀ j, j < L.length → w.cell? ⟨b, o + j, none⟩ = some (.int k (nth L j))

/-- Block g holds just the numbers L, and none of its cells is frozen. -/
def Blk (k : IntKind) (t : TypeId) (w : World) (g : Nat) (L : List Nat) : Prop := w.heap[g]? = some (.cells (L.map fun (d : Nat) => Value.int k (d : Int)).toArray t (0, 0))

section
variable {k : IntKind} {t : TypeId} {w w' : World} {b o g B : Nat} {L : List Nat}
theorem Cells.keep (h : Cells k w b o L) (hk : ∀ j, w'.cell? ⟨b, j, none⟩ = w.cell? ⟨b, j, none⟩) : Cells k w' b o L := fun j hj => (hk _).trans (h j hj)
theorem Cells.below (h : Cells k w b o L) (hb : Below B w w') (hB : b < B) : Cells k w' b o L := h.keep fun _ => hb.cell (by exact hB)
theorem Cells.grown {row : Option Nat} (h : Cells k w b o L) (hg : w.grownBy w' row) (hB : b < w.heap.size) (hr : some b ≠ row) : Cells k w' b o L :=
  h.keep fun _ => World.cell?_of_block (hg.block b hB hr)
theorem Cells.take (h : Cells k w b o L) (n : Nat) : Cells k w b o (L.take n) := fun j hj => by
  have h1 : j < n ∧ j < L.length := by rw [List.length_take] at hj; omega
  rw [h j h1.2]; simp [nth, h1.1]
theorem Cells.drop (h : Cells k w b o L) (n : Nat) : Cells k w b (o + n) (L.drop n) := fun j hj => by
  have h1 : n + j < L.length := by simp [List.length_drop] at hj; omega
  have h2 := h (n + j) h1
  rw [Nat.add_assoc, h2]; simp [nth]
theorem Blk.lt (h : Blk k t w g L) : g < w.heap.size := by
  rcases Nat.lt_or_ge g w.heap.size with hlt | hge
  · exact hlt
  · unfold Blk at h; rw [Array.getElem?_eq_none hge] at h; cases h
theorem Blk.cell (h : Blk k t w g L) (i : Nat) (hi : i < L.length) : w.cell? ⟨g, i, none⟩ = some (.int k (nth L i)) := by
  unfold Blk at h
  simp [World.cell?, h, nth, hi]
theorem Blk.frozen (h : Blk k t w g L) (i : Nat) : w.frozen? ⟨g, i, none⟩ = false := by
  unfold Blk at h
  simp [World.frozen?, h]
theorem Blk.cells (h : Blk k t w g L) : Cells k w g 0 L := fun j hj => by simpa using h.cell j hj
theorem Blk.set_ (h : Blk k t w g L) (i x : Nat) : Blk k t (w.setCell ⟨g, i, none⟩ (.int k x)) g (L.set i x) := by
  unfold Blk at h ⊢
  simp [World.setCell, Array.getElem?_modify, h, List.map_set]
theorem Blk.setI (h : Blk k t w g L) (i : Nat) {v : Int} {x : Nat} (hv : v = (x : Int)) : Blk k t (w.setCell ⟨g, i, none⟩ (.int k v)) g (L.set i x) := by
  subst hv; exact h.set_ i x
theorem Blk.far (h : Blk k t w g L) {p : Addr} (hp : g ≠ p.block) (u : Value) : Blk k t (w.setCell p u) g L := (Below.heap_setCell w p u g hp).trans h
theorem Blk.drew (h : Blk k t w g L) : Blk k t w.drew g L := h
theorem Blk.drewN (h : Blk k t w g L) (n : Nat) : Blk k t (w.drewN n) g L := h
theorem Blk.alloc (h : Blk k t w g L) (o : Obj) : Blk k t (w.alloc o) g L := (Below.heap_alloc w o g h.lt).trans h
theorem Blk.below (h : Blk k t w g L) (hb : Below B w w') (hg : g < B) : Blk k t w' g L := (hb.block g hg).trans h
theorem Blk.grown {row : Option Nat} (h : Blk k t w g L) (hb : w.grownBy w' row) (hg : some g ≠ row) : Blk k t w' g L := (hb.block g h.lt hg).trans h
end

/-- The slice value '.slice A L.length c' reads as the numbers L, in a block below B. -/
structure Row (k : IntKind) (w : World) (B : Nat) (A : Option Addr) (c : Nat) (L : List Nat) : Prop where
  len : L.length ≤ c
  spot : 0 < L.length → ∃ b o, A = some ⟨b, o, none⟩ ∧ b < B ∧ Cells k w b o L
section
variable {k : IntKind} {t : TypeId} {w w' : World} {g B B' c : Nat} {A : Option Addr} {L : List Nat}
theorem Row.keep (h : Row k w B A c L) (hk : ∀ b j, b < B → w'.cell? ⟨b, j, none⟩ = w.cell? ⟨b, j, none⟩) : Row k w' B A c L :=
  ⟨h.len, fun hp => by obtain ⟨b, o, e, hb, hc⟩ := h.spot hp; exact ⟨b, o, e, hb, hc.keep fun j => hk b j hb⟩⟩
theorem Row.more (h : Row k w B A c L) (hB : B ≤ B') : Row k w B' A c L := ⟨h.len, fun hp => by obtain ⟨b, o, e, hb, hc⟩ := h.spot hp; exact ⟨b, o, e, by omega, hc⟩⟩
theorem Row.below (h : Row k w B A c L) (hb : Below B w w') : Row k w' B A c L := h.keep fun b _ hB => hb.cell (by exact hB)
theorem Row.drewN (h : Row k w B A c L) (n : Nat) : Row k (w.drewN n) B A c L := h.keep fun _ _ _ => rfl
theorem Row.drew (h : Row k w B A c L) : Row k w.drew B A c L := h.keep fun _ _ _ => rfl
theorem Row.alloc (h : Row k w B A c L) (hB : B ≤ w.heap.size) (o : Obj) : Row k (w.alloc o) B A c L := h.keep fun b j hb => World.cell?_alloc_lt w o _ (by show b < _; omega)
theorem Row.setCell (h : Row k w B A c L) {p : Addr} (hB : B ≤ p.block) (u : Value) : Row k (w.setCell p u) B A c L :=
  h.keep fun b j hb => World.cell?_setCell_other w p _ u (fun e => by subst e; exact absurd hB (by show ¬ B ≤ b; omega))
theorem Row.nil (k : IntKind) (w : World) (B : Nat) (A : Option Addr) (c : Nat) : Row k w B A c [] := ⟨Nat.zero_le _, fun h => absurd h (by simp)⟩
theorem Row.take (h : Row k w B A c L) (n : Nat) : Row k w B A c (L.take n) :=
  ⟨by have := h.len; rw [List.length_take]; omega, fun hp => by
    obtain ⟨b, o, e, hb, hc⟩ := h.spot (by rw [List.length_take] at hp; omega)
    exact ⟨b, o, e, hb, hc.take n⟩⟩
theorem Row.ofBlk (h : Blk k t w g L) (hB : g < B) (hc : L.length ≤ c) : Row k w B (some ⟨g, 0, none⟩) c L := ⟨hc, fun _ => ⟨g, 0, rfl, hB, h.cells⟩⟩
end

/-- The slice value v owns the numbers L, in a block of the call's own (from block number base on), or is nil and owns none. -/
def Own (k : IntKind) (e : TypeId) (w : World) (base : Nat) (v : Value) (L : List Nat) : Prop := w.ownsRow base e 1 v L.length (L.map fun (d : Nat) => Value.int k (d : Int))
theorem Own.nil (k : IntKind) (e : TypeId) (w : World) (base : Nat) : Own k e w base (.slice none 0 0) [] := World.ownsRow_nil _ _ _ _
theorem Own.row {k : IntKind} {e : TypeId} {w : World} {base : Nat} {v : Value} {L : List Nat} (h : Own k e w base v L) :
    ∃ A c, v = .slice A L.length c ∧ Row k w w.heap.size A c L := by
  obtain ⟨h1, h2⟩ := h
  rcases h2 with ⟨rfl, h0⟩ | ⟨g, cap, cur, rfl, hbg, hg, hn, hcap, hsz, hcur⟩
  · obtain rfl : L = [] := List.eq_nil_of_length_eq_zero h0
    exact ⟨none, 0, rfl, Row.nil _ _ _ _ _⟩
  · refine ⟨_, cap, rfl, hn, fun _ => ⟨g, 0, rfl, ?_, fun j hj => ?_⟩⟩
    · rcases Nat.lt_or_ge g w.heap.size with hlt | hge
      · exact hlt
      · rw [Array.getElem?_eq_none hge] at hg; cases hg
    · have h3 : cur.toList[j]? = some (Value.int k (nth L j)) := by
        have : (cur.toList.take (L.length * 1))[j]? = some (Value.int k (nth L j)) := by
          rw [hcur, List.getElem?_map, List.getElem?_eq_getElem hj, nth_lt hj]; rfl
        rw [List.getElem?_take] at this
        split at this
        · exact this
        · cases this
      simp only [World.cell?, hg, Nat.zero_add]
      simpa using h3
theorem Own.drewN {k : IntKind} {e : TypeId} {w : World} {base : Nat} {v : Value} {L : List Nat} (h : Own k e w base v L) (n : Nat) : Own k e (w.drewN n) base v L := h
/-- 'append' of one number to a row of the call's own; the number lies in a new block of one cell. -/
theorem wpList_append_num {P : Program} (w : World) {ops : Array Oper} {rest : List Oper} {o : Oper} {a : Act} {Q : Exit → Act → World → Prop} (hgd : o.guard = none) (s x : Operand) (t : TypeId)
    (ho : o.op = .call { callee := .builtin .append, args := #[s, x], argTypes := #[t, t] })
    (k : IntKind) (base : Nat) (e : TypeId) (i : TypeInfo) (bytes : Nat) (ht : P.underlying t = some (.slice e)) (hi : P.info? e = some i) (hz : i.zero = some (.int k 0))
    (hsize : i.size = 1) (hby : i.bytes = bytes) (hb8 : bytes ≤ 8)
    (v : Value) (L : List Nat) (hs : a.eval s = v) (hown : Own k e w base v L) (X : Int) (d : Nat) (hX : X = (d : Int)) (c : Nat) (hx : a.eval x = .slice (some ⟨w.heap.size, 0, none⟩) 1 c)
    (hlen : L.length ≤ 100000000) (hbase : base ≤ w.heap.size)
    (h : ∀ v' w', Hid (Own k e w' base v' (L ++ [d])) → Below base w w' → wpList P ops Q rest (a.put o.dst v') w') : wpList P ops Q (o :: rest) a (w.alloc (.cells #[.int k X] e)) := by
  subst hX
  refine wpList_append_own (w.alloc (.cells #[.int k (d : Int)] e)) hgd s x t ho base e i (.int k 0) 1 bytes ht hi hz hsize hby rfl (by decide) v L.length (L.map fun (d : Nat) => Value.int k (d : Int)) hs (World.ownsRow.alloc hown _)
    ⟨w.heap.size, 0, none⟩ 1 c [.int k (d : Int)] hx rfl ?_ ?_ ?_ ?_ ?_ ?_
  · intro j u hj
    match j, hj with
    | 0, hj =>
      simp at hj; subst hj
      unfold World.cell? Addr.add
      rw [if_pos rfl]
      dsimp only
      rw [heap_alloc_new]
      rfl
  · intro u hu; simp at hu; subst hu; rfl
  · unfold maxLen; omega
  · have : (L.length + 1) * bytes ≤ (L.length + 1) * 8 := Nat.mul_le_mul_left _ hb8
    omega
  · simp; omega
  · intro v' w' h1 h2 _
    refine h v' w' ?_ ?_
    · show World.ownsRow _ _ _ _ _ _ _
      rw [List.length_append, List.map_append]
      exact h1
    · refine ((Below.refl base w).alloc hbase _).grown h2 (by simp; omega) (fun j hj => ?_)
      exact (World.ownsRow.lt hown j hj).1

theorem below_alloc_new {w : World} (o : Obj) : Below w.heap.size w (w.alloc o) := (Below.refl _ _).alloc (Nat.le_refl _) _
/-- 'make' of n zeros: a block of its own, known whole. -/
theorem wpList_make_zeros {P : Program} (w : World) {ops : Array Oper} {rest : List Oper} {o : Oper} {a : Act} {Q : Exit → Act → World → Prop}
    (hg : o.guard = none) (l c : Operand) (t : TypeId) (hop : o.op = Op.makeSlice t l c)
    (e : TypeId) (k : IntKind) (i : TypeInfo) (bytes : Nat) (ht : P.underlying t = some (.slice e)) (hi : P.info? e = some i) (hz : i.zero = some (.int k 0)) (hsize : i.size = 1) (hbt : i.bytes = bytes)
    (kl kc : IntKind) (N C : Int) (n : Nat) (hl : a.eval l = .int kl N) (hc : a.eval c = .int kc C) (hN : N = (n : Int)) (hC : C = (n : Int)) (hb8 : bytes ≤ 8) (hn : n ≤ 100000000)
    (hK : ∀ w', Hid (Blk k e w' w.heap.size (List.replicate n 0)) → Below w.heap.size w w' → w.heap.size + 1 = w'.heap.size → wpList P ops Q rest (a.put o.dst (.slice (some ⟨w.heap.size, 0, none⟩) n n)) w') :
    wpList P ops Q (o :: rest) a w := by
  subst hN
  subst hC
  refine wpList_make_row w hg l c t hop e i (.int k 0) ht hi hz hsize rfl kl kc n hl hc ?_ (by omega) ?_
  · have : i.bytes * n ≤ 8 * n := Nat.mul_le_mul_right _ (by omega)
    omega
  refine hK _ ?_ (below_alloc_new _) (by simp)
  show _ = _
  rw [heap_alloc_new]
  have : madeCells #[Value.int k 0] n = ((List.replicate n 0).map fun (d : Nat) => Value.int k (d : Int)).toArray := by
    apply Array.ext
    · simp [madeCells]
    · intro j h1 h2
      simp [madeCells, Nat.mod_one]
  rw [this]

theorem splice_map {α β : Type} (f : α → β) (L : List α) (o : Nat) (cs : List α) : splice (L.map f) o (cs.map f) = (splice L o cs).map f := by simp [splice]
theorem splice_all {α : Type} (L cs : List α) (h : L.length = cs.length) : splice L 0 cs = cs := by simp [splice, ← h]
/-- 'copy' of a whole row into a block that is known whole. -/
theorem wpList_copy_row {P : Program} {w : World} {ops : Array Oper} {rest : List Oper} {o : Oper} {a : Act} {Q : Exit → Act → World → Prop} (hgd : o.guard = none) (d s : Operand) (dT sT : TypeId)
    (ho : o.op = .call { callee := .builtin .copy, args := #[d, s], argTypes := #[dT, sT] }) (elem : TypeId) (hu : P.underlying dT = some (.slice elem)) (hsz : (P.info? elem).map (·.size) = some 1)
    (k : IntKind) (t : TypeId) (g dLen dCap sCap : Nat) (A : Option Addr) (M L : List Nat) (hd : a.eval d = .slice (some ⟨g, 0, none⟩) dLen dCap) (hs : a.eval s = .slice A L.length sCap)
    (hg : Blk k t w g M) (hR : Row k w g A sCap L) (hfit : L.length ≤ dLen) (hM : dLen ≤ M.length)
    (h : ∀ w', Hid (Blk k t w' g (splice M 0 L)) → Below g w w' → wpList P ops Q rest (a.put o.dst (goInt L.length)) w') :
    wpList P ops Q (o :: rest) a w := by
  refine wpList_copy_splice hgd d s dT sT ho elem hu hsz (some ⟨g, 0, none⟩) A dLen dCap L.length sCap hd hs g 0 (M.map fun (d : Nat) => Value.int k (d : Int)) t hg (L.map fun (d : Nat) => Value.int k (d : Int)) ?_ ?_ ?_ ?_ g w (Below.refl _ _) (Nat.le_refl _) ?_
  · simp only [List.length_map]; exact (Nat.min_eq_left hfit).symm
  · intro hp
    refine ⟨rfl, ?_⟩
    obtain ⟨b, o, e, _, hc⟩ := hR.spot (by simpa using hp)
    refine ⟨_, e, fun j v hj => ?_⟩
    have hjl : j < L.length := by
      rcases Nat.lt_or_ge j L.length with h1 | h1
      · exact h1
      · rw [List.getElem?_eq_none (by simpa using h1)] at hj; cases hj
    have h2 := hc j hjl
    have h3 : v = .int k (nth L j) := by
      rw [List.getElem?_map, List.getElem?_eq_getElem hjl] at hj
      simp at hj
      rw [← hj, nth_lt hjl]
    rw [h3, ← h2]
    unfold Addr.add
    split
    · rename_i h0; subst h0; simp
    · rfl
  · simpa using Nat.le_trans hfit hM
  · intro v hv
    obtain ⟨d, _, rfl⟩ := List.mem_map.1 hv
    rfl
  · intro w' h1 h2
    have h3 := h1.out
    rw [splice_map] at h3
    have h4 := h w' h3 h2
    simpa using h4

/-- Where the numbers of a row end when the zeros at its end are left out. -/
def trimN (L : List Nat) : Nat → Nat
  | 0 => 0
  | n + 1 => if nth L n = 0 then trimN L n else n + 1
theorem trimN_le (L : List Nat) (n : Nat) : trimN L n ≤ n := by
  induction n with
  | zero => simp [trimN]
  | succ n ih => unfold trimN; split <;> omega

/-- The order of two numbers as -1, 0, 1. -/
def cmpZ (x y : Nat) : Int := if x < y then -1 else if x = y then 0 else 1
/-- Of two rows of one length: the order of the highest numbers below n in which they differ. -/
def cmpDown (L M : List Nat) : Nat → Int
  | 0 => 0
  | n + 1 => if nth L n = nth M n then cmpDown L M n else cmpZ (nth L n) (nth M n)
def cmpL (L M : List Nat) : Int := if L.length = M.length then cmpDown L M L.length else cmpZ L.length M.length

/-- A quiet contract at a world that has drawn before: the draws add up. -/
theorem quiet_more {P : Program} {f : FuncId} {args : Array Value} {w : World} {a n : Nat} {v : Value}
    (h : ∀ W : World, Calls P f args W fun e w' => e = .returned v ∧ ∃ m, w' = W.drewN m) :
    Calls P f args (w.drewN (a + n)) fun e w'' => e = .returned v ∧ ∃ m, w'' = w.drewN (a + m) :=
  (h _).mono fun _ _ ⟨he, m, hm⟩ => ⟨he, n + m, by rw [hm, World.drewN_drewN, Nat.add_assoc]⟩
theorem quiet_one {P : Program} {f : FuncId} {args : Array Value} {w : World} {n : Nat} {v : Value}
    (h : ∀ W : World, Calls P f args W fun e w' => e = .returned v ∧ ∃ m, w' = W.drewN m) :
    Calls P f args (w.drewN n) fun e w'' => e = .returned v ∧ ∃ m, w'' = w.drewN m :=
  (h _).mono fun _ _ ⟨he, m, hm⟩ => ⟨he, n + m, by rw [hm, World.drewN_drewN]⟩
theorem same_quiet {P : Program} {f : FuncId} {args : Array Value} {v : Value} (h : ∀ W : World, Calls P f args W fun e w' => e = .returned v ∧ W = w') :
    ∀ W : World, Calls P f args W fun e w' => e = .returned v ∧ ∃ m, w' = W.drewN m := fun W => (h W).mono fun _ _ ⟨he, hw⟩ => ⟨he, 0, by rw [← hw]; rfl⟩

theorem drew3 (w : World) (a b c : Nat) : ((w.drewN a).drewN b).drewN c = w.drewN (a + b + c) := by rw [World.drewN_drewN, World.drewN_drewN, Nat.add_assoc]

theorem grown_refl (w : World) (row : Option Nat) : w.grownBy w row := World.grownBy.refl w _
theorem grown_set {a w : World} {g : Nat} (h : a.grownBy w (some g)) (i : Nat) (u : Value) : a.grownBy (w.setCell ⟨g, i, none⟩ u) (some g) :=
  ⟨h.os, h.tape, h.output, by simpa [World.setCell] using h.size, fun j hj hne => (Below.heap_setCell w _ u j (by rintro rfl; exact hne rfl)).trans (h.block j hj hne)⟩
theorem grown_drewN {a w : World} {row : Option Nat} (h : a.grownBy w row) (n : Nat) : a.grownBy (w.drewN n) row := ⟨h.os, h.tape, h.output, h.size, h.block⟩
theorem grown_below {B g : Nat} {a w w' : World} (h : Below B a w) (hg : w.grownBy w' (some g)) (hB : B ≤ g) (hs : B ≤ w.heap.size) : Below B a w' :=
  ⟨hg.os.trans h.os, hg.tape.trans h.tape, hg.output.trans h.output, Nat.le_trans h.size hg.size, fun i hi => (hg.block i (by omega) (by intro e; injection e; omega)).trans (h.block i hi)⟩
theorem grown_none_below {B : Nat} {a w w' : World} (h : Below B a w) (hg : w.grownBy w' none) (hs : B ≤ w.heap.size) : Below B a w' :=
  ⟨hg.os.trans h.os, hg.tape.trans h.tape, hg.output.trans h.output, Nat.le_trans h.size hg.size, fun i hi => (hg.block i (by omega) (by simp)).trans (h.block i hi)⟩
theorem below_drewN {B : Nat} {a w : World} (h : Below B a w) (n : Nat) : Below B a (w.drewN n) := ⟨h.os, h.tape, h.output, h.size, h.block⟩

theorem ret_int {k : IntKind} {a b : Int} (h : a = b) : Ending.returned (.int k a) = .returned (.int k b) := by rw [h]
end Go.Proofs.YtbfbijokhlkekaaDoor

/- Numbers in a base, and decimal texts. -/
namespace Go.Proofs.YtbfbijokhlkekaaDoor
open Go.Lib (decDigits)

/-- The number with some limbs in base b, the lowest one first. -/
def valB (b : Nat) : List Nat → Nat
  | [] => 0
  | d :: r => d + b * valB b r
theorem valB_append (b : Nat) (l m : List Nat) : valB b (l ++ m) = valB b l + b ^ l.length * valB b m := by
  induction l with
  | nil => simp [valB]
  | cons d r ih =>
    simp only [List.cons_append, valB, ih, List.length_cons, Nat.pow_succ, Nat.mul_add]
    rw [Nat.add_assoc, ← Nat.mul_assoc, Nat.mul_comm (b ^ r.length) b]
theorem valB_lt {b : Nat} {l : List Nat} (h : ∀ d ∈ l, d < b) : valB b l < b ^ l.length := by
  induction l with
  | nil => simp [valB]
  | cons d r ih =>
    have h1 := h d (by simp)
    have h2 := ih fun x hx => h x (by simp [hx])
    simp only [valB, List.length_cons, Nat.pow_succ]
    have h3 : b * (valB b r + 1) ≤ b * b ^ r.length := Nat.mul_le_mul_left b h2
    rw [Nat.mul_add] at h3
    rw [Nat.mul_comm (b ^ r.length)]
    omega
theorem valB_zeros (b n : Nat) : valB b (List.replicate n 0) = 0 := by
  induction n with
  | zero => rfl
  | succ n ih => simp [List.replicate_succ, valB, ih]
theorem valB_drop (b : Nat) (L : List Nat) (k : Nat) (h : k < L.length) : valB b (L.drop k) = nth L k + b * valB b (L.drop (k + 1)) := by
  rw [List.drop_eq_getElem_cons h, valB, nth_lt h]

/-- The last k decimal digits of r. -/
def padk : Nat → Nat → List UInt8
  | 0, _ => []
  | k + 1, r => padk k (r / 10) ++ [UInt8.ofNat (48 + r % 10)]
theorem padk_length (k r : Nat) : (padk k r).length = k := by
  induction k generalizing r with
  | zero => rfl
  | succ k ih => simp [padk, ih]
theorem dec_pad (k q r : Nat) (hq : 0 < q) (hr : r < 10 ^ k) : decDigits (q * 10 ^ k + r) = decDigits q ++ padk k r := by
  induction k generalizing r with
  | zero => simp at hr; subst hr; simp [padk]
  | succ k ih =>
    have e : q * 10 ^ (k + 1) = 10 * (q * 10 ^ k) := by rw [Nat.pow_succ]; rw [← Nat.mul_assoc, Nat.mul_comm]
    have hp : 0 < 10 ^ k := Nat.pow_pos (by omega)
    have hge : 1 ≤ q * 10 ^ k := Nat.mul_pos hq hp
    rw [decDigits, dif_neg (by omega), e]
    have e1 : (10 * (q * 10 ^ k) + r) / 10 = q * 10 ^ k + r / 10 := by omega
    have e2 : (10 * (q * 10 ^ k) + r) % 10 = r % 10 := by omega
    rw [Nat.pow_succ] at hr
    rw [e1, e2, ih (r / 10) (by omega), padk, List.append_assoc]

/-- The digits of the limbs from the highest to the lowest one, p for each. -/
def lowPads (p : Nat) : List Nat → List UInt8
  | [] => []
  | d :: r => lowPads p r ++ padk p d
theorem lowPads_length (p : Nat) (l : List Nat) : (lowPads p l).length = p * l.length := by
  induction l with
  | nil => rfl
  | cons d r ih => simp [lowPads, ih, padk_length, Nat.mul_add]
theorem valB_pos (b : Nat) (l : List Nat) (top : Nat) (ht : 0 < top) (hb : 0 < b) : 0 < valB b (l ++ [top]) := by
  rw [valB_append]
  have : 0 < b ^ l.length * valB b [top] := Nat.mul_pos (Nat.pow_pos hb) (by simp [valB, ht])
  omega
theorem dec_limbs (p : Nat) (l : List Nat) (top : Nat) (ht : 0 < top) (hl : ∀ d ∈ l, d < 10 ^ p) : decDigits (valB (10 ^ p) (l ++ [top])) = decDigits top ++ lowPads p l := by
  induction l with
  | nil => simp [valB, lowPads]
  | cons d r ih =>
    have h1 : d < 10 ^ p := hl d (by simp)
    have h2 := ih fun x hx => hl x (by simp [hx])
    have hv := valB_pos (10 ^ p) r top ht (Nat.pow_pos (by omega))
    simp only [List.cons_append, valB, lowPads]
    rw [Nat.add_comm, Nat.mul_comm, dec_pad p _ d hv h1, h2, List.append_assoc]

/-- The number with some decimal digits. -/
def numOf (l : List UInt8) : Nat := l.foldl (fun n c => 10 * n + (c.toNat - 48)) 0
theorem numOf_snoc (l : List UInt8) (c : UInt8) : numOf (l ++ [c]) = 10 * numOf l + (c.toNat - 48) := by simp [numOf]
def isDig (c : UInt8) : Bool := decide (48 ≤ c.toNat) && decide (c.toNat ≤ 57)
theorem isDig_iff {c : UInt8} : isDig c = true ↔ 48 ≤ c.toNat ∧ c.toNat ≤ 57 := by simp [isDig]
/-- A text of digits, of which the first one is 0 only if it is the only one. -/
def okNum (l : List UInt8) : Bool := l.all isDig && (l == [48] || (l.length != 0 && l.head? != some 48))
theorem numOf_pos {l : List UInt8} (hd : ∀ c ∈ l, isDig c = true) (h0 : l ≠ []) (h : l.head? ≠ some 48) : 0 < numOf l := by
  match l, h0, h, hd with
  | c :: r, _, h, hd =>
    clear h0
    have hc := isDig_iff.1 (hd c (by simp))
    have h48 : c.toNat ≠ 48 := fun e => h (by
      have : c = 48 := by apply UInt8.toNat_inj.1; rw [e]; rfl
      simp [this])
    have key : ∀ (r : List UInt8) (n : Nat), 0 < n → 0 < r.foldl (fun n c => 10 * n + (c.toNat - 48)) n := by
      intro r
      induction r with
      | nil => intro n hn; exact hn
      | cons d s ih => intro n hn; exact ih _ (by show 0 < 10 * n + _; omega)
    exact key r _ (by show 0 < 10 * 0 + _; omega)
theorem dec_small {d : Nat} (h : d < 10) : decDigits d = [UInt8.ofNat (48 + d)] := by rw [decDigits, dif_pos h]
theorem dec_numOf (l : List UInt8) (hd : ∀ c ∈ l, isDig c = true) (h0 : l ≠ []) (h : l = [48] ∨ l.head? ≠ some 48) : decDigits (numOf l) = l := by
  suffices H : ∀ (n : Nat) (l : List UInt8), l.length = n → (∀ c ∈ l, isDig c = true) → l ≠ [] → (l.length = 1 ∨ l.head? ≠ some 48) → decDigits (numOf l) = l by
    refine H _ l rfl hd h0 ?_
    rcases h with h | h
    · left; simp [h]
    · right; exact h
  intro n
  induction n with
  | zero => intro l hl _ h0; exact absurd (List.eq_nil_of_length_eq_zero hl) h0
  | succ n ih =>
    intro l hl hd h0 h
    obtain ⟨i, c, rfl⟩ : ∃ i c, l = i ++ [c] := ⟨l.dropLast, l.getLast h0, (List.dropLast_concat_getLast h0).symm⟩
    have hc := isDig_iff.1 (hd c (by simp))
    have ec : UInt8.ofNat (48 + (c.toNat - 48)) = c := by
      rw [show 48 + (c.toNat - 48) = c.toNat by omega]; simp
    rw [numOf_snoc]
    by_cases hi : i = []
    · subst hi
      show decDigits (10 * 0 + _) = _
      rw [dec_small (by omega), Nat.mul_zero, Nat.zero_add, ec]; rfl
    · have hh : (i ++ [c]).head? = i.head? := by cases i with | nil => exact absurd rfl hi | cons a b => rfl
      have hl1 : (i ++ [c]).length ≠ 1 := by cases i with | nil => exact absurd rfl hi | cons a b => simp
      have h' : i.head? ≠ some 48 := by rcases h with h | h; exact absurd h hl1; rwa [hh] at h
      have hdi : ∀ x ∈ i, isDig x = true := fun x hx => hd x (by simp [hx])
      have hp := numOf_pos hdi hi h'
      have := dec_pad 1 (numOf i) (c.toNat - 48) hp (by omega)
      rw [show 10 * numOf i = numOf i * 10 ^ 1 by omega, this, ih i (by simpa using hl) hdi hi (.inr h')]
      have e2 : (c.toNat - 48) % 10 = c.toNat - 48 := by omega
      simp [padk, e2, ec]
theorem dec_head (n : Nat) (hn : 0 < n) : (decDigits n).head? ≠ some 48 ∧ decDigits n ≠ [] := by
  induction n using Nat.strongRecOn with
  | _ n ih =>
    rw [decDigits]
    split
    · rename_i h
      refine ⟨?_, by simp⟩
      simp only [List.head?_cons, ne_eq, Option.some.injEq]
      intro e
      have := congrArg UInt8.toNat e
      simp at this
      omega
    · rename_i h
      have := ih (n / 10) (by omega) (by omega)
      refine ⟨?_, by simp⟩
      rw [List.head?_append]
      cases hd : (decDigits (n / 10)).head? with
      | none => rw [List.head?_eq_none_iff] at hd; exact absurd hd this.2
      | some x => simp; intro e; subst e; exact this.1 hd
end Go.Proofs.YtbfbijokhlkekaaDoor

/- The loops over limbs as functions on lists, and what they keep. -/
namespace Go.Proofs.YtbfbijokhlkekaaDoor

/-- All numbers of a row are limbs. -/
def Lim (L : List Nat) : Prop := ∀ d ∈ L, d < 1000000000
theorem Lim.nth {L : List Nat} (h : Lim L) (k : Nat) : nth L k < 1000000000 := nth_all h (by omega) k
theorem Lim.set {L : List Nat} (h : Lim L) (i : Nat) {x : Nat} (hx : x < 1000000000) : Lim (L.set i x) := fun d hd => by
  rcases List.mem_or_eq_of_mem_set hd with h1 | h1
  · exact h d h1
  · omega
theorem Lim.take {L : List Nat} (h : Lim L) (n : Nat) : Lim (L.take n) := fun d hd => h d (List.mem_of_mem_take hd)
theorem Lim.drop {L : List Nat} (h : Lim L) (n : Nat) : Lim (L.drop n) := fun d hd => h d (List.mem_of_mem_drop hd)

/-- 'addTo': after k rounds, the row into which B is added from place o on, and the carry. -/
def addSt (o : Nat) (B M : List Nat) : Nat → List Nat × Nat
  | 0 => (M, 0)
  | k + 1 => ((addSt o B M k).1.set (o + k) ((nth (addSt o B M k).1 (o + k) + (addSt o B M k).2 + nth B k) % 1000000000),
      (nth (addSt o B M k).1 (o + k) + (addSt o B M k).2 + nth B k) / 1000000000)
theorem addSt_succ (o : Nat) (B M : List Nat) (k : Nat) : addSt o B M (k + 1) = ((addSt o B M k).1.set (o + k) ((nth (addSt o B M k).1 (o + k) + (addSt o B M k).2 + nth B k) % 1000000000),
      (nth (addSt o B M k).1 (o + k) + (addSt o B M k).2 + nth B k) / 1000000000) := rfl
theorem addSt_ok {o : Nat} {B M : List Nat} (hB : Lim B) (hM : Lim M) (k : Nat) :
    Lim (addSt o B M k).1 ∧ (addSt o B M k).2 ≤ 1 ∧ (addSt o B M k).1.length = M.length := by
  induction k with
  | zero => exact ⟨hM, by simp [addSt], rfl⟩
  | succ k ih =>
    obtain ⟨h1, h2, h3⟩ := ih
    refine ⟨h1.set _ (Nat.mod_lt _ (by omega)), ?_, by simp [addSt, h3]⟩
    have a := h1.nth (o + k)
    have b := hB.nth k
    simp only [addSt]
    omega

/-- 'subtract': after k rounds, the row from which B is taken away, and what was borrowed. -/
def subSt (B M : List Nat) : Nat → List Nat × Nat
  | 0 => (M, 0)
  | k + 1 => if nth (subSt B M k).1 k < (subSt B M k).2 + nth B k
      then ((subSt B M k).1.set k (nth (subSt B M k).1 k + 1000000000 - ((subSt B M k).2 + nth B k)), 1)
      else ((subSt B M k).1.set k (nth (subSt B M k).1 k - ((subSt B M k).2 + nth B k)), 0)
theorem subSt_succ (B M : List Nat) (k : Nat) : subSt B M (k + 1) = if nth (subSt B M k).1 k < (subSt B M k).2 + nth B k
      then ((subSt B M k).1.set k (nth (subSt B M k).1 k + 1000000000 - ((subSt B M k).2 + nth B k)), 1)
      else ((subSt B M k).1.set k (nth (subSt B M k).1 k - ((subSt B M k).2 + nth B k)), 0) := rfl
theorem subSt_ok {B M : List Nat} (hB : Lim B) (hM : Lim M) (k : Nat) :
    Lim (subSt B M k).1 ∧ (subSt B M k).2 ≤ 1 ∧ (subSt B M k).1.length = M.length := by
  induction k with
  | zero => exact ⟨hM, by simp [subSt], rfl⟩
  | succ k ih =>
    obtain ⟨h1, h2, h3⟩ := ih
    have a := h1.nth k
    have b := hB.nth k
    rw [subSt_succ]
    split
    · exact ⟨h1.set _ (by omega), by simp, by simp [h3]⟩
    · exact ⟨h1.set _ (by omega), by simp, by simp [h3]⟩

/-- One round of a product: x times the number j of B is added to place o + j, with a carry. -/
def mulRow (x o : Nat) (B M : List Nat) : Nat → List Nat × Nat
  | 0 => (M, 0)
  | j + 1 => ((mulRow x o B M j).1.set (o + j) ((x * nth B j + nth (mulRow x o B M j).1 (o + j) + (mulRow x o B M j).2) % 1000000000),
      (x * nth B j + nth (mulRow x o B M j).1 (o + j) + (mulRow x o B M j).2) / 1000000000)
theorem mulRow_succ (x o : Nat) (B M : List Nat) (j : Nat) : mulRow x o B M (j + 1) =
    ((mulRow x o B M j).1.set (o + j) ((x * nth B j + nth (mulRow x o B M j).1 (o + j) + (mulRow x o B M j).2) % 1000000000),
      (x * nth B j + nth (mulRow x o B M j).1 (o + j) + (mulRow x o B M j).2) / 1000000000) := rfl
theorem mul_lt_lim {x y : Nat} (hx : x < 1000000000) (hy : y < 1000000000) : x * y ≤ 999999998000000001 := by
  have : x * y ≤ 999999999 * 999999999 := Nat.mul_le_mul (by omega) (by omega)
  omega
theorem mul_lt_limI {x y : Nat} (hx : x < 1000000000) (hy : y < 1000000000) : (x : Int) * (y : Int) ≤ 999999998000000001 := by
  have h := mul_lt_lim hx hy
  have e : ((x * y : Nat) : Int) = (x : Int) * (y : Int) := by simp
  omega
theorem mul_nonnegI (x y : Nat) : 0 ≤ (x : Int) * (y : Int) := by
  have e : ((x * y : Nat) : Int) = (x : Int) * (y : Int) := by simp
  omega
theorem mulRow_ok {x o : Nat} {B M : List Nat} (hx : x < 1000000000) (hB : Lim B) (hM : Lim M) (j : Nat) :
    Lim (mulRow x o B M j).1 ∧ (mulRow x o B M j).2 < 1000000000 ∧ (mulRow x o B M j).1.length = M.length := by
  induction j with
  | zero => exact ⟨hM, by simp [mulRow], rfl⟩
  | succ j ih =>
    obtain ⟨h1, h2, h3⟩ := ih
    have a := h1.nth (o + j)
    have b := mul_lt_lim hx (hB.nth j)
    rw [mulRow_succ]
    exact ⟨h1.set _ (Nat.mod_lt _ (by omega)), by show _ / _ < _; omega, by simp [h3]⟩

/-- A product: after i rounds. -/
def mulSt (A B M : List Nat) : Nat → List Nat
  | 0 => M
  | i + 1 => (mulRow (nth A i) i B (mulSt A B M i) B.length).1.set (i + B.length) (mulRow (nth A i) i B (mulSt A B M i) B.length).2
theorem mulSt_succ (A B M : List Nat) (i : Nat) : mulSt A B M (i + 1) =
    (mulRow (nth A i) i B (mulSt A B M i) B.length).1.set (i + B.length) (mulRow (nth A i) i B (mulSt A B M i) B.length).2 := rfl
theorem mulSt_ok {A B M : List Nat} (hA : Lim A) (hB : Lim B) (hM : Lim M) (i : Nat) : Lim (mulSt A B M i) ∧ (mulSt A B M i).length = M.length := by
  induction i with
  | zero => exact ⟨hM, rfl⟩
  | succ i ih =>
    obtain ⟨a, b, c⟩ := mulRow_ok (o := i) (hA.nth i) hB ih.1 B.length
    rw [mulSt_succ]
    exact ⟨a.set _ b, by simp [c, ih.2]⟩
end Go.Proofs.YtbfbijokhlkekaaDoor

/- The limbs of a text of digits. -/
namespace Go.Proofs.YtbfbijokhlkekaaDoor

/-- The digit at place i. -/
def digAt (s : List UInt8) (i : Nat) : Nat := (s.getD i 0).toNat - 48
/-- 'readDigits': after i digits. -/
def rdSt (s : List UInt8) (M : List Nat) : Nat → List Nat
  | 0 => M
  | i + 1 => (rdSt s M i).set ((s.length - 1 - i) / 9) (nth (rdSt s M i) ((s.length - 1 - i) / 9) * 10 + digAt s i)
theorem rdSt_succ (s : List UInt8) (M : List Nat) (i : Nat) : rdSt s M (i + 1) = (rdSt s M i).set ((s.length - 1 - i) / 9) (nth (rdSt s M i) ((s.length - 1 - i) / 9) * 10 + digAt s i) := rfl
theorem nth_set_eq {L : List Nat} {i x : Nat} (h : i < L.length) : nth (L.set i x) i = x := by simp [nth, h]
theorem nth_set_ne {L : List Nat} {i j x : Nat} (h : i ≠ j) : nth (L.set i x) j = nth L j := by simp [nth, List.getElem?_set_ne h]
theorem drop_set_low {L : List Nat} {i k x : Nat} (h : i < k) : (L.set i x).drop k = L.drop k := by rw [List.drop_set]; simp [h]
theorem nth_zeros (n k : Nat) : nth (List.replicate n 0) k = 0 := by
  simp only [nth, List.getD_eq_getElem?_getD, List.getElem?_replicate]
  split <;> simp

/-- What the limbs are while the digits of a text of n ones are read, of which the first i make the number N. -/
structure RdInv (n m i N : Nat) (M : List Nat) : Prop where
  len : M.length = m
  low : ∀ j, j < (n - i) / 9 → nth M j = 0
  cur : nth M ((n - i) / 9) < 10 ^ (9 - (n - i) % 9)
  lim : Lim M
  val : N = valB 1000000000 (M.drop ((n - i) / 9 + 1)) * 10 ^ (9 - (n - i) % 9) + nth M ((n - i) / 9)
theorem digAt_lt {s : List UInt8} {i : Nat} (hd : ∀ c ∈ s, isDig c = true) (hi : i < s.length) : digAt s i < 10 := by
  have := isDig_iff.1 (hd s[i] (List.getElem_mem hi))
  simp only [digAt, List.getD_eq_getElem?_getD, List.getElem?_eq_getElem hi, Option.getD_some]
  omega
theorem numOf_take {s : List UInt8} {i : Nat} (hi : i < s.length) : numOf (s.take (i + 1)) = 10 * numOf (s.take i) + digAt s i := by
  rw [List.take_succ_eq_append_getElem hi, numOf_snoc]
  simp [digAt, hi]
theorem rd_step {n m i N d : Nat} {M : List Nat} (hm : m = (n + 8) / 9) (hi : i < n) (hd : d < 10) (h : RdInv n m i N M) :
    RdInv n m (i + 1) (10 * N + d) (M.set ((n - 1 - i) / 9) (nth M ((n - 1 - i) / 9) * 10 + d)) := by
    obtain ⟨h1, h2, h3, h4, h5⟩ := h
    subst h5
    have hdig := hd
    have eS : n - 1 - i = (n - i) - 1 := by omega
    rw [eS]
    suffices H : ∀ R, R = n - (i + 1) → RdInv n m (n - R) _ (M.set ((n - i - 1) / 9) (nth M ((n - i - 1) / 9) * 10 + d)) by
      have := H _ rfl
      rwa [show n - (n - (i + 1)) = i + 1 by omega] at this
    intro R0 hR0
    have hRR : n - (n - R0) = n - i - 1 := by omega
    have hRn : n - i ≤ n := by omega
    have hR1 : 1 ≤ n - i := by omega
    suffices H : (M.set ((n - i - 1) / 9) (nth M ((n - i - 1) / 9) * 10 + d)).length = m ∧ (∀ j, j < (n - i - 1) / 9 → nth (M.set ((n - i - 1) / 9) (nth M ((n - i - 1) / 9) * 10 + d)) j = 0) ∧
        nth (M.set ((n - i - 1) / 9) (nth M ((n - i - 1) / 9) * 10 + d)) ((n - i - 1) / 9) < 10 ^ (9 - (n - i - 1) % 9) ∧ Lim (M.set ((n - i - 1) / 9) (nth M ((n - i - 1) / 9) * 10 + d)) ∧
        10 * (valB 1000000000 (M.drop ((n - i) / 9 + 1)) * 10 ^ (9 - (n - i) % 9) + nth M ((n - i) / 9)) + d =
          valB 1000000000 ((M.set ((n - i - 1) / 9) (nth M ((n - i - 1) / 9) * 10 + d)).drop ((n - i - 1) / 9 + 1)) * 10 ^ (9 - (n - i - 1) % 9) + nth (M.set ((n - i - 1) / 9) (nth M ((n - i - 1) / 9) * 10 + d)) ((n - i - 1) / 9) by
      exact ⟨H.1, by rw [hRR]; exact H.2.1, by rw [hRR]; exact H.2.2.1, H.2.2.2.1, by rw [hRR]; exact H.2.2.2.2⟩
    clear hRR hR0 R0 eS hi
    generalize n - i = R at *
    by_cases hc : R % 9 = 0
    · obtain ⟨k, rfl⟩ : ∃ k, R = 9 * (k + 1) := ⟨R / 9 - 1, by omega⟩
      have e1 : (9 * (k + 1) - 1) / 9 = k := by omega
      have e2 : (9 * (k + 1) - 1) % 9 = 8 := by omega
      have e3 : 9 * (k + 1) / 9 = k + 1 := by omega
      have e4 : 9 * (k + 1) % 9 = 0 := by omega
      rw [e3] at h2 h3
      rw [e4] at h3
      rw [e1, e2, e3, e4]
      have hz : nth M k = 0 := h2 k (by omega)
      have hk : k < M.length := by omega
      rw [hz]
      refine ⟨by simp [h1], ?_, ?_, ?_, ?_⟩
      · intro j hj; rw [nth_set_ne (by omega)]; exact h2 j (by omega)
      · rw [nth_set_eq hk]; omega
      · exact h4.set _ (by omega)
      · rw [nth_set_eq hk, drop_set_low (by omega)]
        rcases Nat.lt_or_ge (k + 1) M.length with hl | hl
        · rw [valB_drop _ _ _ hl]
          simp only [Nat.sub_zero, Nat.reducePow, Nat.reduceSub]
          omega
        · rw [List.drop_of_length_le (by omega), List.drop_of_length_le hl, nth_ge hl]
          simp [valB]
    · have e1 : (R - 1) / 9 = R / 9 := by omega
      have e2 : (R - 1) % 9 = R % 9 - 1 := by omega
      rw [e1, e2]
      have hk : R / 9 < M.length := by omega
      have e3 : 9 - (R % 9 - 1) = (9 - R % 9) + 1 := by omega
      refine ⟨by simp [h1], ?_, ?_, ?_, ?_⟩
      · intro j hj; rw [nth_set_ne (by omega)]; exact h2 j hj
      · rw [nth_set_eq hk, e3, Nat.pow_succ]; omega
      · have : (10 : Nat) ^ (9 - R % 9) ≤ 10 ^ 8 := Nat.pow_le_pow_right (by omega) (by omega)
        exact h4.set _ (by omega)
      · rw [nth_set_eq hk, drop_set_low (by omega), e3, Nat.pow_succ, ← Nat.mul_assoc, Nat.mul_add]
        generalize valB 1000000000 (M.drop (R / 9 + 1)) * 10 ^ (9 - R % 9) = q
        omega
theorem rd_inv {s : List UInt8} (hd : ∀ c ∈ s, isDig c = true) (i : Nat) (hi : i ≤ s.length) : RdInv s.length ((s.length + 8) / 9) i (numOf (s.take i)) (rdSt s (List.replicate ((s.length + 8) / 9) 0) i) := by
  induction i with
  | zero =>
    refine ⟨by simp [rdSt], fun j _ => nth_zeros _ _, ?_, ?_, ?_⟩
    · rw [rdSt, nth_zeros]; exact Nat.pow_pos (by omega)
    · intro d hd; have := (List.mem_replicate.1 hd).2; omega
    · rw [rdSt, nth_zeros, List.drop_replicate, valB_zeros]; simp [numOf]
  | succ i ih =>
    rw [rdSt_succ, numOf_take (by omega)]
    exact rd_step rfl (by omega) (digAt_lt hd (by omega)) (ih (by omega))
/-- Before digit i: the limb that it goes to has room for it. -/
theorem rd_room {n m i N : Nat} {M : List Nat} (h : RdInv n m i N M) (hm : m = (n + 8) / 9) (hi : i < n) :
    (n - 1 - i) / 9 < m ∧ nth M ((n - 1 - i) / 9) < 100000000 := by
  refine ⟨by omega, ?_⟩
  by_cases hc : (n - i) % 9 = 0
  · rw [h.low _ (by omega)]; omega
  · have e1 : (n - 1 - i) / 9 = (n - i) / 9 := by omega
    rw [e1]
    have : (10 : Nat) ^ (9 - (n - i) % 9) ≤ 10 ^ 8 := Nat.pow_le_pow_right (by omega) (by omega)
    have := h.cur
    omega
theorem rd_end {n m N : Nat} {M : List Nat} (h : RdInv n m n N M) (hm : 0 < m) : valB 1000000000 M = N := by
  have := h.val
  rw [this]
  simp only [Nat.sub_self, Nat.zero_div, Nat.zero_mod, Nat.sub_zero]
  have hv := valB_drop 1000000000 M 0 (by rw [h.len]; exact hm)
  rw [List.drop_zero] at hv
  rw [hv]
  simp only [Nat.reducePow, Nat.zero_add]
  omega

/-- Leaving out the zeros at the end does not change the number, and makes the highest limb no zero. -/
theorem trimN_val (b : Nat) (L : List Nat) (n : Nat) (hn : n ≤ L.length) : valB b (L.take (trimN L n)) = valB b (L.take n) := by
  induction n with
  | zero => simp [trimN]
  | succ n ih =>
    unfold trimN
    split
    · rename_i h
      rw [ih (by omega), List.take_succ_eq_append_getElem (by omega), valB_append, ← nth_lt (by omega), h]
      simp [valB]
    · rfl
theorem trimN_top (L : List Nat) (n : Nat) (h : 0 < trimN L n) : nth L (trimN L n - 1) ≠ 0 := by
  induction n with
  | zero => simp [trimN] at h
  | succ n ih =>
    by_cases h0 : nth L n = 0
    · rw [trimN, if_pos h0] at h ⊢; exact ih h
    · rw [trimN, if_neg h0]; exact h0
theorem nth_take {L : List Nat} {n k : Nat} (h : k < n) : nth (L.take n) k = nth L k := by
  simp only [nth, List.getD_eq_getElem?_getD, List.getElem?_take, h, if_true]
end Go.Proofs.YtbfbijokhlkekaaDoor

/- What the loops over limbs come to as numbers. -/
namespace Go.Proofs.YtbfbijokhlkekaaDoor

theorem valB_set (b : Nat) : ∀ (L : List Nat) (i v : Nat), i < L.length → valB b (L.set i v) + b ^ i * nth L i = valB b L + b ^ i * v
  | [], i, v, h => by simp at h
  | d :: r, 0, v, _ => by simp [valB, nth]; omega
  | d :: r, i + 1, v, h => by
    have ih := valB_set b r i v (by simpa using h)
    have e : nth (d :: r) (i + 1) = nth r i := by simp [nth]
    simp only [List.set_cons_succ, valB, e, Nat.pow_succ]
    grind
theorem valB_take_succ (b : Nat) (L : List Nat) (k : Nat) (h : k < L.length) : valB b (L.take (k + 1)) = valB b (L.take k) + b ^ k * nth L k := by
  rw [List.take_succ_eq_append_getElem h, valB_append, List.length_take, Nat.min_eq_left (by omega), nth_lt h]
  simp [valB]
theorem valB_take_over (b : Nat) (L : List Nat) (k : Nat) (h : L.length ≤ k) : valB b (L.take k) = valB b L := by rw [List.take_of_length_le h]

theorem mulRow_val {x o : Nat} {B M : List Nat} (ho : o + B.length ≤ M.length) (j : Nat) (hj : j ≤ B.length) (hM : Lim M) (hB : Lim B) (hx : x < 1000000000) :
    valB 1000000000 (mulRow x o B M j).1 + 1000000000 ^ (o + j) * (mulRow x o B M j).2 = valB 1000000000 M + 1000000000 ^ o * (x * valB 1000000000 (B.take j)) := by
  induction j with
  | zero => simp [mulRow, valB]
  | succ j ih =>
    replace ih := ih (by omega)
    have hl := (mulRow_ok (o := o) hx hB hM j).2.2
    rw [mulRow_succ, valB_take_succ _ _ _ (by omega)]
    have hs := valB_set 1000000000 (mulRow x o B M j).1 (o + j) ((x * nth B j + nth (mulRow x o B M j).1 (o + j) + (mulRow x o B M j).2) % 1000000000) (by omega)
    generalize mulRow x o B M j = q at *
    obtain ⟨Q, y⟩ := q
    dsimp only at *
    have ht := Nat.div_add_mod (x * nth B j + nth Q (o + j) + y) 1000000000
    generalize (x * nth B j + nth Q (o + j) + y) % 1000000000 = r at *
    generalize (x * nth B j + nth Q (o + j) + y) / 1000000000 = c at *
    generalize valB 1000000000 (Q.set (o + j) r) = V at *
    generalize valB 1000000000 Q = VQ at *
    generalize valB 1000000000 M = VM at *
    generalize valB 1000000000 (B.take j) = VB at *
    generalize nth B j = bj at *
    generalize nth Q (o + j) = qj at *
    rw [← Nat.add_assoc, Nat.pow_succ]
    have e : (1000000000 : Nat) ^ (o + j) = 1000000000 ^ o * 1000000000 ^ j := Nat.pow_add _ _ _
    rw [e] at hs ih ⊢
    generalize (1000000000 : Nat) ^ o = po at *
    generalize (1000000000 : Nat) ^ j = pj at *
    have h1 : po * pj * (1000000000 * c + r) = po * pj * (x * bj + qj + y) := by rw [ht]
    clear ht e hl hj ho hx hB hM
    grind

/-- Behind the places that were written there are zeros. -/
theorem mulRow_high {x o : Nat} {B M : List Nat} (j k : Nat) (hk : o + j ≤ k) : nth (mulRow x o B M j).1 k = nth M k := by
  induction j with
  | zero => rfl
  | succ j ih => rw [mulRow_succ]; rw [nth_set_ne (by omega)]; exact ih (by omega)
theorem mulSt_val {A B M : List Nat} (hA : Lim A) (hB : Lim B) (hM : Lim M) (hz : ∀ k, nth M k = 0) (hl : M.length = A.length + B.length) (h0 : valB 1000000000 M = 0) (i : Nat) (hi : i ≤ A.length) :
    valB 1000000000 (mulSt A B M i) = valB 1000000000 (A.take i) * valB 1000000000 B ∧ (∀ k, i + B.length ≤ k → nth (mulSt A B M i) k = 0) := by
  induction i with
  | zero => exact ⟨by simp [mulSt, valB, h0], fun k _ => hz k⟩
  | succ i ih =>
    obtain ⟨ih1, ih2⟩ := ih (by omega)
    have hok := mulSt_ok hA hB hM i
    have hr := mulRow_val (x := nth A i) (o := i) (B := B) (M := mulSt A B M i) (by rw [hok.2]; omega) B.length (Nat.le_refl _) hok.1 hB (hA.nth i)
    have hro := mulRow_ok (x := nth A i) (o := i) (hA.nth i) hB hok.1 B.length
    have hh := mulRow_high (x := nth A i) (o := i) (B := B) (M := mulSt A B M i) B.length (i + B.length) (Nat.le_refl _)
    have hh2 := fun k hk => mulRow_high (x := nth A i) (o := i) (B := B) (M := mulSt A B M i) B.length k hk
    rw [ih2 _ (Nat.le_refl _)] at hh
    rw [mulSt_succ, valB_take_succ _ _ _ (by omega)]
    have hs := valB_set 1000000000 (mulRow (nth A i) i B (mulSt A B M i) B.length).1 (i + B.length) (mulRow (nth A i) i B (mulSt A B M i) B.length).2 (by rw [hro.2.2, hok.2]; omega)
    refine ⟨?_, fun k hk => ?_⟩
    · rw [hh] at hs
      rw [List.take_of_length_le (Nat.le_refl _)] at hr
      generalize valB 1000000000 ((mulRow (nth A i) i B (mulSt A B M i) B.length).1.set (i + B.length) (mulRow (nth A i) i B (mulSt A B M i) B.length).2) = V at *
      generalize valB 1000000000 (mulRow (nth A i) i B (mulSt A B M i) B.length).1 = V1 at *
      generalize 1000000000 ^ (i + B.length) * (mulRow (nth A i) i B (mulSt A B M i) B.length).2 = V2 at *
      rw [Nat.mul_zero, Nat.add_zero] at hs
      rw [hs, hr, ih1, Nat.add_mul, Nat.mul_assoc]
    · rw [nth_set_ne (by omega), hh2 k (by omega)]
      exact ih2 k (by omega)
/-- The product of two rows. -/
theorem mul_val {A B : List Nat} (hA : Lim A) (hB : Lim B) : valB 1000000000 (mulSt A B (List.replicate (A.length + B.length) 0) A.length) = valB 1000000000 A * valB 1000000000 B := by
  have := (mulSt_val (M := List.replicate (A.length + B.length) 0) hA hB (fun d hd => by have := (List.mem_replicate.1 hd).2; omega) (nth_zeros _) (by simp) (valB_zeros _ _) A.length (Nat.le_refl _)).1
  rwa [List.take_of_length_le (Nat.le_refl _)] at this

theorem addSt_val {o : Nat} {B M : List Nat} (hB : Lim B) (hM : Lim M) (k : Nat) (hk : o + k ≤ M.length) :
    valB 1000000000 (addSt o B M k).1 + 1000000000 ^ (o + k) * (addSt o B M k).2 = valB 1000000000 M + 1000000000 ^ o * valB 1000000000 (B.take k) := by
  induction k with
  | zero => simp [addSt, valB]
  | succ k ih =>
    replace ih := ih (by omega)
    have hl := (addSt_ok (o := o) hB hM k).2.2
    rw [addSt_succ]
    have hs := valB_set 1000000000 (addSt o B M k).1 (o + k) ((nth (addSt o B M k).1 (o + k) + (addSt o B M k).2 + nth B k) % 1000000000) (by omega)
    have hbt : valB 1000000000 (B.take (k + 1)) = valB 1000000000 (B.take k) + 1000000000 ^ k * nth B k := by
      rcases Nat.lt_or_ge k B.length with h | h
      · exact valB_take_succ _ _ _ h
      · rw [valB_take_over _ _ _ h, valB_take_over _ _ _ (by omega), nth_ge h]; simp
    rw [hbt]
    generalize addSt o B M k = q at *
    obtain ⟨Q, y⟩ := q
    dsimp only at *
    have ht := Nat.div_add_mod (nth Q (o + k) + y + nth B k) 1000000000
    generalize (nth Q (o + k) + y + nth B k) % 1000000000 = r at *
    generalize (nth Q (o + k) + y + nth B k) / 1000000000 = c at *
    generalize valB 1000000000 (Q.set (o + k) r) = V at *
    generalize valB 1000000000 Q = VQ at *
    generalize valB 1000000000 M = VM at *
    generalize valB 1000000000 (B.take k) = VB at *
    generalize nth B k = bj at *
    generalize nth Q (o + k) = qj at *
    rw [← Nat.add_assoc, Nat.pow_succ]
    have e : (1000000000 : Nat) ^ (o + k) = 1000000000 ^ o * 1000000000 ^ k := Nat.pow_add _ _ _
    rw [e] at hs ih ⊢
    generalize (1000000000 : Nat) ^ o = po at *
    generalize (1000000000 : Nat) ^ k = pj at *
    have h1 : po * pj * (1000000000 * c + r) = po * pj * (qj + y + bj) := by rw [ht]
    clear ht e hl hk hB hM hbt
    grind
/-- The difference of two rows, with what was borrowed. -/
theorem subSt_val {B M : List Nat} (hB : Lim B) (hM : Lim M) (k : Nat) (hk : k ≤ M.length) :
    valB 1000000000 (subSt B M k).1 + valB 1000000000 (B.take k) = valB 1000000000 M + 1000000000 ^ k * (subSt B M k).2 := by
  induction k with
  | zero => simp [subSt, valB]
  | succ k ih =>
    replace ih := ih (by omega)
    obtain ⟨h1, h2, hl⟩ := subSt_ok hB hM k
    have a := h1.nth k
    have b := hB.nth k
    rw [subSt_succ]
    have hbt : valB 1000000000 (B.take (k + 1)) = valB 1000000000 (B.take k) + 1000000000 ^ k * nth B k := by
      rcases Nat.lt_or_ge k B.length with h | h
      · exact valB_take_succ _ _ _ h
      · rw [valB_take_over _ _ _ h, valB_take_over _ _ _ (by omega), nth_ge h]; simp
    rw [hbt]
    have hs := fun v => valB_set 1000000000 (subSt B M k).1 k v (by omega)
    generalize subSt B M k = q at *
    obtain ⟨Q, y⟩ := q
    dsimp only at *
    rw [Nat.pow_succ]
    generalize (1000000000 : Nat) ^ k = pj at *
    split
    · rename_i hlt
      have hs' := hs (nth Q k + 1000000000 - (y + nth B k))
      obtain ⟨v, hv⟩ : ∃ v, nth Q k + 1000000000 - (y + nth B k) = v := ⟨_, rfl⟩
      have hv2 : v + (y + nth B k) = nth Q k + 1000000000 := by omega
      rw [hv] at hs' ⊢
      dsimp only
      have h3 : pj * (v + (y + nth B k)) = pj * (nth Q k + 1000000000) := by rw [hv2]
      clear hs hv hv2 hbt hl a b h1 h2 hB hM hk hlt
      grind
    · rename_i hge
      have hs' := hs (nth Q k - (y + nth B k))
      obtain ⟨v, hv⟩ : ∃ v, nth Q k - (y + nth B k) = v := ⟨_, rfl⟩
      have hv2 : v + (y + nth B k) = nth Q k := by omega
      rw [hv] at hs' ⊢
      dsimp only
      have h3 : pj * (v + (y + nth B k)) = pj * nth Q k := by rw [hv2]
      clear hs hv hv2 hbt hl a b h1 h2 hB hM hk hge
      grind
end Go.Proofs.YtbfbijokhlkekaaDoor

/- 'addTo' adds a row into another one, in place. -/
namespace Go.Proofs.YtbfbijokhlkekaaDoor
open Go.RowKit

set_option maxHeartbeats 800000 in
theorem addTo_any (g o n c : Nat) (A' : Option Addr) (c' : Nat) (M L : List Nat) (w : World) (hn : o + n ≤ M.length) (hm : M.length ≤ 3000000) (hl : L.length ≤ 1000000)
    (hM : Lim M) (hL : Lim L) (hblk : Blk .u32 68 w g M) (hR : Row .u32 w g A' c' L) :
    Calls Tryd.prog 66 #[.slice (some ⟨g, o, none⟩) n c, .slice A' L.length c'] w fun e w' => e = .returned (.tuple #[]) ∧ Blk .u32 68 w' g (addSt o L M n).1 ∧ w.grownBy w' (some g) := by
  generalize hl' : L.length = l at *
  have HL := Lib.hid hl'
  clear hl'
  go_enter Tryd.func66, Tryd.ntmps66
  go_wp2
  go_loopw [4, 9] (fun cv iv wr => ∃ k : Nat, k ≤ n ∧ iv = .int .i64 k ∧ cv = .int .u32 (addSt o L M k).2 ∧ Blk .u32 68 wr g (addSt o L M k).1 ∧ w.grownBy wr (some g)) (fun _ iv _ => n - (intOf iv).toNat)
  case atStart => exact ⟨0, Nat.zero_le _, rfl, rfl, hblk, grown_refl _ _⟩
  case round =>
    obtain ⟨k, hk, rfl, rfl, hb, hgr⟩ := hrel
    obtain ⟨h1, h2, h3⟩ := addSt_ok (o := o) hL hM k
    have HS := Lib.hid (addSt_succ o L M k)
    generalize hs : addSt o L M k = s at *
    have HK := Lib.hid hs
    clear hs
    obtain ⟨S, x⟩ := s
    dsimp only at *
    by_cases hlt : k < n
    · have hc := hb.cell (o + k) (by omega)
      have hfr := hb.frozen (o + k)
      have b1 := h1.nth (o + k)
      have b2 := hL.nth k
      by_cases hkl : k < l
      · obtain ⟨b', o', rfl, hbg, hcell'⟩ := hR.spot (by rw [HL.out]; omega)
        have hc' := (hcell'.grown hgr (by have := hblk.lt; omega) (by intro e; injection e; omega)) k (by rw [HL.out]; exact hkl)
        clear hcell'
        go_wp2
        go_roundw
        case rel =>
          have E := HS.out
          have e1 := hb.set_ (o + k) ((nth S (o + k) + x + nth L k) % 1000000000)
          exact ⟨k + 1, by omega, by go_num, by rw [E]; simp, by rw [E]; simpa using e1, grown_set hgr _ _⟩
        case measure => simp [intOf]; omega
      · have hz : nth L k = 0 := nth_ge (by rw [HL.out]; omega)
        have HZ := Lib.hid hz
        clear hz
        go_wp2
        go_roundw
        case rel =>
          have E := HS.out
          have e1 := hb.set_ (o + k) ((nth S (o + k) + x + nth L k) % 1000000000)
          exact ⟨k + 1, by omega, by go_num, by rw [E]; simp [HZ.out], by rw [E]; simpa [HZ.out] using e1, grown_set hgr _ _⟩
        case measure => simp [intOf]; omega
    · obtain rfl : k = n := by omega
      go_wp2
      go_end0
      exact ⟨rfl, by rw [HK.out]; exact hb, hgr⟩
end Go.Proofs.YtbfbijokhlkekaaDoor

/- 'trim' leaves out the zeros at the end of a row. -/
namespace Go.Proofs.YtbfbijokhlkekaaDoor
open Go.RowKit

set_option maxHeartbeats 400000 in
theorem trim_any (A : Option Addr) (c b o : Nat) (L : List Nat) (w : World) (hl : L.length ≤ 4000000) (hc : L.length ≤ c)
    (hA : 0 < L.length → A = some ⟨b, o, none⟩) (hcell : Cells .u32 w b o L) :
    Calls Tryd.prog 63 #[.slice A L.length c] w fun e w' => e = .returned (.slice A (trimN L L.length) c) ∧ w = w' := by
  generalize hn : L.length = n at *
  have HN := Lib.hid hn
  clear hn
  have HA := Lib.hid hA
  clear hA
  go_enter Tryd.func63, Tryd.ntmps63
  go_wp2
  go_loop [3] (fun v => ∃ k : Nat, k ≤ n ∧ v = .int .i64 k ∧ Hid (trimN L k = trimN L n)) (fun v => (intOf v).toNat)
  case atStart => exact ⟨n, Nat.le_refl _, rfl, rfl⟩
  case round =>
    obtain ⟨k, hk, rfl, ht⟩ := hrel
    rcases Nat.eq_zero_or_pos k with rfl | hpos
    · have hd : decide ((0 : Int) < ((0 : Nat) : Int)) = false := by simp
      go_wp2
      go_ret
      exact ⟨by rw [← ht.out]; rfl, rfl⟩
    · obtain ⟨m, rfl⟩ : ∃ m, k = m + 1 := ⟨k - 1, by omega⟩
      have h1 : ((0 : Int) < ((m + 1 : Nat) : Int)) := by omega
      have hc := hcell m (by rw [HN.out]; omega)
      obtain rfl := HA.out (by omega)
      by_cases hz : nth L m = 0
      · go_wp2
        go_round
        case rel => exact ⟨m, by omega, rfl, by have := ht.out; rw [trimN, if_pos hz] at this; exact this⟩
        case measure => simp [intOf]
      · go_wp2
        go_ret
        exact ⟨by have := ht.out; rw [trimN, if_neg hz] at this; rw [← this]; rfl, rfl⟩
end Go.Proofs.YtbfbijokhlkekaaDoor

/- 'copied' returns a new row with the same numbers; 'add' and 'subtract' return a new row each. -/
namespace Go.Proofs.YtbfbijokhlkekaaDoor
open Go.RowKit

theorem info68 : (Tryd.prog.info? 68).map (fun i => (i.zero, i.size, i.bytes)) = some (some (.int .u32 0), 1, 4) := by kernel_rfl
theorem size68 : (Tryd.prog.info? 68).map (·.size) = some 1 := by kernel_rfl

set_option maxHeartbeats 800000 in
theorem copied_any (A : Option Addr) (c : Nat) (L : List Nat) (w : World) (hl : L.length ≤ 3000000) (hR : Row .u32 w w.heap.size A c L) :
    Calls Tryd.prog 56 #[.slice A L.length c] w fun e w' => e = .returned (.slice (some ⟨w.heap.size, 0, none⟩) L.length L.length) ∧ Blk .u32 68 w' w.heap.size L ∧ Below w.heap.size w w' := by
  obtain ⟨i0, hi, hz0, hz1, hz2⟩ := info_parts info68
  generalize hl' : L.length = l at *
  have HL := Lib.hid hl'
  clear hl'
  go_enter Tryd.func56, Tryd.ntmps56
  go_wp2_with (first
    | (refine wpList_make_zeros _ rfl (.tmp 5) (.tmp 5) 23 rfl 68 .u32 i0 4 Tryd.underlying23 hi hz0 hz1 hz2 .i64 .i64 _ _ l rfl rfl rfl rfl (by omega) (by omega) ?_; intro w1 hb1 hB1 hs1)
    | (refine wpList_copy_row rfl (.tmp 7) (.tmp 8) 23 23 rfl 68 Tryd.underlying23 size68 .u32 68 w.heap.size l l c A (List.replicate l 0) L rfl (by rw [HL.out]; rfl) hb1.out (hR.below hB1) (by rw [HL.out]; omega) (by simp) ?_; intro w2 hb2 hB2))
  go_ret
  refine ⟨rfl, ?_, hB1.trans hB2⟩
  have := hb2.out
  rwa [splice_all _ _ (by simp [HL.out])] at this

set_option maxHeartbeats 800000 in
theorem add_long (A A' : Option Addr) (c c' : Nat) (L M : List Nat) (w : World) (hl : L.length ≤ 1000000) (hml : M.length ≤ L.length)
    (hL : Lim L) (hM : Lim M) (hR : Row .u32 w w.heap.size A c L) (hR' : Row .u32 w w.heap.size A' c' M) :
    Calls Tryd.prog 50 #[.slice A L.length c, .slice A' M.length c'] w fun e w' =>
      let R := (addSt 0 M (L ++ [0]) (L.length + 1)).1
      e = .returned (.slice (some ⟨w.heap.size, 0, none⟩) (trimN R (L.length + 1)) (L.length + 1)) ∧ Blk .u32 68 w' w.heap.size R ∧ Below w.heap.size w w' := by
  obtain ⟨i0, hi, hz0, hz1, hz2⟩ := info_parts info68
  generalize hl' : L.length = l at *
  generalize hm' : M.length = m at *
  have HL := Lib.hid hl'
  have HM := Lib.hid hm'
  clear hl' hm'
  have hno : ¬ l < m := by omega
  go_enter Tryd.func50, Tryd.ntmps50
  go_wp2_with (first
    | (refine wpList_make_zeros _ rfl (.tmp 15) (.tmp 15) 23 rfl 68 .u32 i0 4 Tryd.underlying23 hi hz0 hz1 hz2 .i64 .i64 _ _ (l + 1) rfl rfl (by omega) (by omega) (by omega) (by omega) ?_; intro w1 hb1 hB1 hs1)
    | (refine wpList_copy_row rfl (.tmp 17) (.tmp 18) 23 23 rfl 68 Tryd.underlying23 size68 .u32 68 w.heap.size (l + 1) (l + 1) c A (List.replicate (l + 1) 0) L rfl (by rw [HL.out]; rfl) hb1.out (hR.below hB1) (by rw [HL.out]; omega) (by simp) ?_; intro w2 hb2 hB2)
    | fail)
  have hb3 := hb2.out
  have e1 : splice (List.replicate (l + 1) 0) 0 L = L ++ [0] := by
    simp [splice, HL.out]
  rw [e1] at hb3
  have hlen : (L ++ [0]).length = l + 1 := by simp [HL.out]
  have hA := addTo_any w.heap.size 0 (l + 1) (l + 1) A' c' (L ++ [0]) M w2 (by omega) (by omega) (by rw [HM.out]; omega)
    (by intro d hd; rcases List.mem_append.1 hd with h | h; exact hL d h; simp at h; omega) hM hb3 ((hR'.below hB1).below hB2)
  rw [HM.out] at hA
  clear hlen e1 hb2 hb1 hb3
  refine hA.mono ?_
  rintro e w3 ⟨rfl, hb4, hg4⟩
  have hB4 : Below w.heap.size w w3 := grown_below (hB1.trans hB2) hg4 (Nat.le_refl _) (hB1.trans hB2).size
  have H4 := Lib.hid hb4
  have ok := addSt_ok (o := 0) hM (M := L ++ [0]) (by intro d hd; rcases List.mem_append.1 hd with h | h; exact hL d h; simp at h; omega) (l + 1)
  have hlen : (addSt 0 M (L ++ [0]) (l + 1)).1.length = l + 1 := by rw [ok.2.2]; simp [HL.out]
  have hT := trim_any (some ⟨w.heap.size, 0, none⟩) (l + 1) w.heap.size 0 (addSt 0 M (L ++ [0]) (l + 1)).1 w3 (by omega) (by omega) (fun _ => rfl) hb4.cells
  rw [hlen] at hT
  clear ok hlen hb4
  go_wp2_with fail
  refine hT.mono ?_
  rintro e w4 ⟨rfl, rfl⟩
  go_wp2_with fail
  go_ret
  exact ⟨rfl, H4.out, hB4⟩
end Go.Proofs.YtbfbijokhlkekaaDoor

/-
  DERIVED: THE SHELF's CONTRACTS AT THIS DUMP, IN PLAIN WORDS (tools/lay-plain.mjs out of 'TrydShelf.lean', which tools/lay-shelf.mjs wrote): THE SAME DECLARATIONS UNDER THE SAME NAMES: 'import', 'namespace', 'open', 'def', 'theorem' AND NOTHING ELSE: no command of the shelf's: FOR A HAND-IN. Each laying: the table of numbers ('.._ren') and one theorem, a field a fact of the dump's own or the kernel's comparison; each contract: ONE APPLICATION.
-/
namespace Go.Proofs
open Go.Shelf
def Tryd.lays134_ren : Go.Shelf.Ren := ⟨fun | 134 => 96 | 129 => 85 | n => n, fun | 53 => 67 | 3 => 3 | 4 => 4 | 46 => 106 | 5 => 5 | 9 => 9 | n => n, fun | n => n⟩
theorem Tryd.lays134 : Go.Proofs.Lays.n134 Tryd.prog Tryd.lays134_ren := {
  mixed := by kernel_rfl
  f129 := Tryd.func85.trans (congrArg some (by kernel_rfl))
  f134 := Tryd.func96.trans (congrArg some (by kernel_rfl))
  t3 := Tryd.underlying3
  a3 := Tryd.isAgg3
  z3 := Tryd.sizeOf3
  v3 := Tryd.zeroValue3
  t4 := Tryd.underlying4
  a4 := Tryd.isAgg4
  z4 := Tryd.sizeOf4
  v4 := Tryd.zeroValue4
  t5 := Tryd.underlying5
  a5 := Tryd.isAgg5
  z5 := Tryd.sizeOf5
  v5 := Tryd.zeroValue5
  t9 := Tryd.underlying9
  a9 := Tryd.isAgg9
  z9 := Tryd.sizeOf9
  v9 := Tryd.zeroValue9
  t46 := Tryd.underlying106
  a46 := Tryd.isAgg106
  z46 := Tryd.sizeOf106
  v46 := Tryd.zeroValue106
  t53 := Tryd.underlying67
  a53 := Tryd.isAgg67
  z53 := Tryd.sizeOf67
  v53 := Tryd.zeroValue67 }
/-- bits.LeadingZeros64: "LeadingZeros64 returns the number of leading zero bits in x; the result is 64 for x == 0.": IT RETURNS '64 - Lib.bitLen x'; the world is as it was. ITS CALLEE bits.Len64 IS MET BY ITS OWN CONTRACT OFF THE SHELF (lay that first): entered in place it sends the kernel out of memory. (LAID: no walk: one application.) -/
theorem Tryd.bits_LeadingZeros64 (x : Int) (w : World) (h0 : 0 ≤ x) (h1 : x ≤ 18446744073709551615) :
    Calls Tryd.prog 96 #[.int .u64 x] w fun e w' => e = .returned (.int .i64 (64 - (Lib.bitLen x.toNat : Int))) ∧ w' = w := Any.bits_LeadingZeros64 Tryd.lays134 x w h0 h1
def Tryd.lays210_ren : Go.Shelf.Ren := ⟨fun | 210 => 62 | 206 => 73 | n => n, fun | 9 => 9 | 4 => 4 | 3 => 3 | n => n, fun | n => n⟩
theorem Tryd.lays210 : Go.Proofs.Lays.n210 Tryd.prog Tryd.lays210_ren := {
  mixed := by kernel_rfl
  f206 := Tryd.func73.trans (congrArg some (by kernel_rfl))
  f210 := Tryd.func62.trans (congrArg some (by kernel_rfl))
  t3 := Tryd.underlying3
  a3 := Tryd.isAgg3
  z3 := Tryd.sizeOf3
  v3 := Tryd.zeroValue3
  t4 := Tryd.underlying4
  a4 := Tryd.isAgg4
  z4 := Tryd.sizeOf4
  v4 := Tryd.zeroValue4
  t9 := Tryd.underlying9
  a9 := Tryd.isAgg9
  z9 := Tryd.sizeOf9
  v9 := Tryd.zeroValue9 }
open Go.RowKit in
/-- internal/stringslite.CutPrefix (what strings.CutPrefix calls). (LAID: no walk: one application.) -/
theorem Tryd.stringslite_CutPrefix (s p : ByteArray) (w : World) :
    Calls Tryd.prog 62 #[.string s, .string p] w fun e w' => e = .returned (.tuple #[.string ⟨(Lib.trimPrefix s.data.toList p.data.toList).toArray⟩, .bool (Lib.hasPrefix s.data.toList p.data.toList)]) ∧ w' = w := Any.stringslite_CutPrefix Tryd.lays210 s p w
def Tryd.lays103_ren : Go.Shelf.Ren := ⟨fun | 103 => 40 | 210 => 62 | 206 => 73 | n => n, fun | 9 => 9 | 4 => 4 | 24 => 60 | 3 => 3 | n => n, fun | n => n⟩
theorem Tryd.lays103 : Go.Proofs.Lays.n103 Tryd.prog Tryd.lays103_ren := {
  mixed := by kernel_rfl
  f103 := Tryd.func40.trans (congrArg some (by kernel_rfl))
  f206 := Tryd.func73.trans (congrArg some (by kernel_rfl))
  f210 := Tryd.func62.trans (congrArg some (by kernel_rfl))
  t3 := Tryd.underlying3
  a3 := Tryd.isAgg3
  z3 := Tryd.sizeOf3
  v3 := Tryd.zeroValue3
  t4 := Tryd.underlying4
  a4 := Tryd.isAgg4
  z4 := Tryd.sizeOf4
  v4 := Tryd.zeroValue4
  t9 := Tryd.underlying9
  a9 := Tryd.isAgg9
  z9 := Tryd.sizeOf9
  v9 := Tryd.zeroValue9
  t24 := Tryd.underlying60
  a24 := Tryd.isAgg60
  z24 := Tryd.sizeOf60
  v24 := Tryd.zeroValue60 }
open Go.RowKit in
/-- strings.CutPrefix: "CutPrefix returns s without the provided leading prefix string and reports whether it found the prefix. If s doesn't start with prefix, CutPrefix returns s, false. If prefix is the empty string, CutPrefix returns s, true.": IT RETURNS '(Lib.trimPrefix s p, Lib.hasPrefix s p)'; the world is as it was. (LAID: no walk: one application.) -/
theorem Tryd.strings_CutPrefix (s p : ByteArray) (w : World) :
    Calls Tryd.prog 40 #[.string s, .string p] w fun e w' => e = .returned (.tuple #[.string ⟨(Lib.trimPrefix s.data.toList p.data.toList).toArray⟩, .bool (Lib.hasPrefix s.data.toList p.data.toList)]) ∧ w' = w := Any.strings_CutPrefix Tryd.lays103 s p w
def Tryd.lays215_ren : Go.Shelf.Ren := ⟨fun | 215 => 78 | n => n, fun | 3 => 3 | 4 => 4 | n => n, fun | n => n⟩
theorem Tryd.lays215 : Go.Proofs.Lays.n215 Tryd.prog Tryd.lays215_ren := {
  mixed := by kernel_rfl
  f215 := Tryd.func78.trans (congrArg some (by kernel_rfl))
  t3 := Tryd.underlying3
  a3 := Tryd.isAgg3
  z3 := Tryd.sizeOf3
  v3 := Tryd.zeroValue3
  t4 := Tryd.underlying4
  a4 := Tryd.isAgg4
  z4 := Tryd.sizeOf4
  v4 := Tryd.zeroValue4 }
open Go.RowKit in
/-- cmp.isNaN at int: 'x != x': false. (LAID: no walk: one application.) -/
theorem Tryd.cmp_isNaN_int (x : Int) (w : World) :
    Calls Tryd.prog 78 #[.int .i64 x] w fun e w' => e = .returned (.bool false) ∧ w' = w := Any.cmp_isNaN_int Tryd.lays215 x w
def Tryd.lays122_ren : Go.Shelf.Ren := ⟨fun | 122 => 67 | 215 => 78 | n => n, fun | 3 => 3 | 4 => 4 | n => n, fun | n => n⟩
theorem Tryd.lays122 : Go.Proofs.Lays.n122 Tryd.prog Tryd.lays122_ren := {
  mixed := by kernel_rfl
  f122 := Tryd.func67.trans (congrArg some (by kernel_rfl))
  f215 := Tryd.func78.trans (congrArg some (by kernel_rfl))
  t3 := Tryd.underlying3
  a3 := Tryd.isAgg3
  z3 := Tryd.sizeOf3
  v3 := Tryd.zeroValue3
  t4 := Tryd.underlying4
  a4 := Tryd.isAgg4
  z4 := Tryd.sizeOf4
  v4 := Tryd.zeroValue4 }
open Go.RowKit in
/-- cmp.Compare at int: "Compare returns -1 if x is less than y, 0 if x equals y, +1 if x is greater than y.": IT RETURNS 'Lib.compareInt x y'; the world is as it was. (LAID: no walk: one application.) -/
theorem Tryd.cmp_Compare_int (x y : Int) (w : World) :
    Calls Tryd.prog 67 #[.int .i64 x, .int .i64 y] w fun e w' => e = .returned (.int .i64 (Lib.compareInt x y)) ∧ w' = w := Any.cmp_Compare_int Tryd.lays122 x y w
def Tryd.lays129_ren : Go.Shelf.Ren := ⟨fun | 129 => 85 | n => n, fun | 53 => 67 | 3 => 3 | 4 => 4 | 46 => 106 | 5 => 5 | 9 => 9 | n => n, fun | n => n⟩
theorem Tryd.lays129 : Go.Proofs.Lays.n129 Tryd.prog Tryd.lays129_ren := {
  mixed := by kernel_rfl
  f129 := Tryd.func85.trans (congrArg some (by kernel_rfl))
  t3 := Tryd.underlying3
  a3 := Tryd.isAgg3
  z3 := Tryd.sizeOf3
  v3 := Tryd.zeroValue3
  t4 := Tryd.underlying4
  a4 := Tryd.isAgg4
  z4 := Tryd.sizeOf4
  v4 := Tryd.zeroValue4
  t5 := Tryd.underlying5
  a5 := Tryd.isAgg5
  z5 := Tryd.sizeOf5
  v5 := Tryd.zeroValue5
  t9 := Tryd.underlying9
  a9 := Tryd.isAgg9
  z9 := Tryd.sizeOf9
  v9 := Tryd.zeroValue9
  t46 := Tryd.underlying106
  a46 := Tryd.isAgg106
  z46 := Tryd.sizeOf106
  v46 := Tryd.zeroValue106
  t53 := Tryd.underlying67
  a53 := Tryd.isAgg67
  z53 := Tryd.sizeOf67
  v53 := Tryd.zeroValue67 }
/-- bits.Len64: "Len64 returns the minimum number of bits required to represent x; the result is 0 for x == 0.": IT RETURNS 'Lib.bitLen x'; the world is as it was. ('h0', 'h1': x is a uint64.) (LAID: no walk: one application.) -/
theorem Tryd.bits_Len64 (x : Int) (w : World) (h0 : 0 ≤ x) (h1 : x ≤ 18446744073709551615) :
    Calls Tryd.prog 85 #[.int .u64 x] w fun e w' => e = .returned (.int .i64 (Lib.bitLen x.toNat)) ∧ w' = w := Any.bits_Len64 Tryd.lays129 x w h0 h1
def Tryd.lays317_ren : Go.Shelf.Ren := ⟨fun | 317 => 84 | n => n, fun | 3 => 3 | 46 => 106 | n => n, fun | n => n⟩
theorem Tryd.lays317 : Go.Proofs.Lays.n317 Tryd.prog Tryd.lays317_ren := {
  mixed := by kernel_rfl
  f317 := Tryd.func84.trans (congrArg some (by kernel_rfl))
  t3 := Tryd.underlying3
  a3 := Tryd.isAgg3
  z3 := Tryd.sizeOf3
  v3 := Tryd.zeroValue3
  t46 := Tryd.underlying106
  a46 := Tryd.isAgg106
  z46 := Tryd.sizeOf106
  v46 := Tryd.zeroValue106 }
open Go.Lib in
/-- internal/strconv.log10Pow2: "log10Pow2(x) returns ⌊log₁₀ 2**x⌋ = ⌊x * log₁₀ 2⌋.": '(x * 78913) >> 18', at an x up to 64 (a length in bits). The world is as it was. (LAID: no walk: one application.) -/
theorem Tryd.internal_strconv_log10Pow2 (x : Nat) (h : x ≤ 64) (w : World) :
    Calls Tryd.prog 84 #[.int .i64 x] w fun e w' => e = .returned (.int .i64 (Lib.l10 x)) ∧ w' = w := Any.internal_strconv_log10Pow2 Tryd.lays317 x h w
def Tryd.lays318_ren : Go.Shelf.Ren := ⟨fun | 318 => 86 | n => n, fun | 3 => 3 | 4 => 4 | n => n, fun | n => n⟩
theorem Tryd.lays318 : Go.Proofs.Lays.n318 Tryd.prog Tryd.lays318_ren := {
  mixed := by kernel_rfl
  f318 := Tryd.func86.trans (congrArg some (by kernel_rfl))
  t3 := Tryd.underlying3
  a3 := Tryd.isAgg3
  z3 := Tryd.sizeOf3
  v3 := Tryd.zeroValue3
  t4 := Tryd.underlying4
  a4 := Tryd.isAgg4
  z4 := Tryd.sizeOf4
  v4 := Tryd.zeroValue4 }
open Go.Lib in
/-- internal/strconv.bool2: "bool2 converts b to an integer: 1 for true, 0 for false." The world is as it was. (LAID: no walk: one application.) -/
theorem Tryd.internal_strconv_bool2_int (b : Bool) (w : World) :
    Calls Tryd.prog 86 #[.bool b] w fun e w' => e = .returned (.int .i64 (if b then 1 else 0)) ∧ w' = w := Any.internal_strconv_bool2_int Tryd.lays318 b w
def Tryd.lays283_ren : Go.Shelf.Ren := ⟨fun | 283 => 74 | n => n, fun | 3 => 3 | 9 => 9 | 4 => 4 | n => n, fun | n => n⟩
theorem Tryd.lays283 : Go.Proofs.Lays.n283 Tryd.prog Tryd.lays283_ren := {
  mixed := by kernel_rfl
  f283 := Tryd.func74.trans (congrArg some (by kernel_rfl))
  t3 := Tryd.underlying3
  a3 := Tryd.isAgg3
  z3 := Tryd.sizeOf3
  v3 := Tryd.zeroValue3
  t4 := Tryd.underlying4
  a4 := Tryd.isAgg4
  z4 := Tryd.sizeOf4
  v4 := Tryd.zeroValue4
  t9 := Tryd.underlying9
  a9 := Tryd.isAgg9
  z9 := Tryd.sizeOf9
  v9 := Tryd.zeroValue9 }
open Go.Lib in
/-- internal/strconv.small: "small returns the string for an i with 0 <= i < nSmalls.": i's decimal numeral. The world is as it was. (LAID: no walk: one application.) -/
theorem Tryd.internal_strconv_small (i : Nat) (h : i < 100) (w : World) :
    Calls Tryd.prog 74 #[.int .i64 i] w fun e w' => e = .returned (.string ⟨(Lib.decDigits i).toArray⟩) ∧ w' = w := Any.internal_strconv_small Tryd.lays283 i h w
def Tryd.laysM284_ren : Go.Shelf.Ren := ⟨fun | 284 => 75 | 129 => 85 | 317 => 84 | 318 => 86 | n => n, fun | 53 => 67 | 3 => 3 | 212 => 104 | 0 => 0 | 4 => 4 | 46 => 106 | 5 => 5 | 9 => 9 | n => n, fun | 17 => 0 | n => n⟩
theorem Tryd.laysM284 : Go.Proofs.LaysM.n284 Tryd.prog Tryd.laysM284_ren := {
  mixed := by kernel_rfl
  f129 := Tryd.func85.trans (congrArg some (by kernel_rfl))
  f284 := Tryd.func75.trans (congrArg some (by kernel_rfl))
  f317 := Tryd.func84.trans (congrArg some (by kernel_rfl))
  f318 := Tryd.func86.trans (congrArg some (by kernel_rfl))
  t0 := Tryd.underlying0
  a0 := Tryd.isAgg0
  z0 := Tryd.sizeOf0
  v0 := Tryd.zeroValue0
  t3 := Tryd.underlying3
  a3 := Tryd.isAgg3
  z3 := Tryd.sizeOf3
  v3 := Tryd.zeroValue3
  t4 := Tryd.underlying4
  a4 := Tryd.isAgg4
  z4 := Tryd.sizeOf4
  v4 := Tryd.zeroValue4
  t5 := Tryd.underlying5
  a5 := Tryd.isAgg5
  z5 := Tryd.sizeOf5
  v5 := Tryd.zeroValue5
  t9 := Tryd.underlying9
  a9 := Tryd.isAgg9
  z9 := Tryd.sizeOf9
  v9 := Tryd.zeroValue9
  t46 := Tryd.underlying106
  a46 := Tryd.isAgg106
  z46 := Tryd.sizeOf106
  v46 := Tryd.zeroValue106
  t53 := Tryd.underlying67
  a53 := Tryd.isAgg67
  z53 := Tryd.sizeOf67
  v53 := Tryd.zeroValue67
  t212 := Tryd.underlying104
  a212 := Tryd.isAgg104
  z212 := Tryd.sizeOf104
  v212 := Tryd.zeroValue104
  g17 := by kernel_rfl
  i0 := by kernel_rfl
  i3 := by kernel_rfl
  i4 := by kernel_rfl
  i5 := by kernel_rfl
  i9 := by kernel_rfl
  i46 := by kernel_rfl
  i53 := by kernel_rfl
  i212 := by kernel_rfl
  m17 := by kernel_rfl }
open Go.Lib in
/-- internal/strconv.numDigits, at a d that is not 0: THE NUMBER OF d's DECIMAL DIGITS. The world is as it was. (LAID: no walk: one application.) -/
theorem Tryd.internal_strconv_numDigits (u : Nat) (h1 : 1 ≤ u) (h2 : u < 18446744073709551616) (w : World) (htab : Lib.TabIs Tryd.prog w "internal/strconv.uint64pow10" .u64 Lib.pow10Tab) :
    Calls Tryd.prog 75 #[.int .u64 u] w fun e w' => e = .returned (.int .i64 (Lib.nDigits u)) ∧ w' = w := Any.internal_strconv_numDigits Tryd.laysM284 u h1 h2 w htab
def Tryd.lays285_ren : Go.Shelf.Ren := ⟨fun | 285 => 76 | n => n, fun | 37 => 65 | 53 => 67 | 3 => 3 | 4 => 4 | 51 => 68 | 9 => 9 | 5 => 5 | 0 => 0 | n => n, fun | n => n⟩
theorem Tryd.lays285 : Go.Proofs.Lays.n285 Tryd.prog Tryd.lays285_ren := {
  mixed := by kernel_rfl
  f285 := Tryd.func76.trans (congrArg some (by kernel_rfl))
  t0 := Tryd.underlying0
  a0 := Tryd.isAgg0
  z0 := Tryd.sizeOf0
  v0 := Tryd.zeroValue0
  t3 := Tryd.underlying3
  a3 := Tryd.isAgg3
  z3 := Tryd.sizeOf3
  v3 := Tryd.zeroValue3
  t4 := Tryd.underlying4
  a4 := Tryd.isAgg4
  z4 := Tryd.sizeOf4
  v4 := Tryd.zeroValue4
  t5 := Tryd.underlying5
  a5 := Tryd.isAgg5
  z5 := Tryd.sizeOf5
  v5 := Tryd.zeroValue5
  t9 := Tryd.underlying9
  a9 := Tryd.isAgg9
  z9 := Tryd.sizeOf9
  v9 := Tryd.zeroValue9
  t37 := Tryd.underlying65
  a37 := Tryd.isAgg65
  z37 := Tryd.sizeOf65
  v37 := Tryd.zeroValue65
  t51 := Tryd.underlying68
  a51 := Tryd.isAgg68
  z51 := Tryd.sizeOf68
  v51 := Tryd.zeroValue68
  t53 := Tryd.underlying67
  a53 := Tryd.isAgg67
  z53 := Tryd.sizeOf67
  v53 := Tryd.zeroValue67 }
open Go.RowKit Go.Sort Go.Lib in
/-- internal/strconv.formatBase10: "formatBase10 formats the decimal representation of u into a. The caller is responsible for ensuring that a is big enough to hold u. If a is too big, leading zeros will be filled in as needed.": THE ROW HOLDS u's DIGITS ('FmtInv .. 0 ..': every place t holds 'dg u (len - 1 - t)'); all else is as it was but for the count of draws. (LAID: no walk: one application.) -/
theorem Tryd.internal_strconv_formatBase10 (blk off cap : Nat) (u : Nat) (d : Array UInt8) (w : World) (hH : Holds (fun (b : UInt8) => Value.int .u8 (b.toNat : Int)) w blk off d) (hu : u < 10 ^ d.size) (hu64 : u < 18446744073709551616) (hsz : d.size < 4611686018427387904) :
    Calls Tryd.prog 76 #[.slice (some ⟨blk, off, none⟩) d.size cap, .int .u64 u] w fun e w' =>
      e = .returned (.tuple #[]) ∧ ∃ (n v' : Nat) (dk : Array UInt8), w' = (putRow (fun (b : UInt8) => Value.int .u8 (b.toNat : Int)) w blk off dk).drewN n ∧ FmtInv d.size u 0 v' dk := Any.internal_strconv_formatBase10 Tryd.lays285 blk off cap u d w hH hu hu64 hsz
def Tryd.laysM288_ren : Go.Shelf.Ren := ⟨fun | 288 => 65 | 283 => 74 | 284 => 75 | 285 => 76 | 286 => 77 | 129 => 85 | 317 => 84 | 318 => 86 | 319 => 87 | 320 => 88 | 337 => 91 | 338 => 92 | n => n, fun | 37 => 65 | 53 => 67 | 3 => 3 | 4 => 4 | 9 => 9 | 171 => 89 | 0 => 0 | 173 => 92 | 212 => 104 | 51 => 68 | 5 => 5 | 20 => 20 | 213 => 105 | 46 => 106 | 232 => 114 | 233 => 115 | n => n, fun | 17 => 0 | 18 => 1 | 19 => 2 | n => n⟩
theorem Tryd.laysM288 : Go.Proofs.LaysM.n288 Tryd.prog Tryd.laysM288_ren := {
  mixed := by kernel_rfl
  f129 := Tryd.func85.trans (congrArg some (by kernel_rfl))
  f283 := Tryd.func74.trans (congrArg some (by kernel_rfl))
  f284 := Tryd.func75.trans (congrArg some (by kernel_rfl))
  f285 := Tryd.func76.trans (congrArg some (by kernel_rfl))
  f286 := Tryd.func77.trans (congrArg some (by kernel_rfl))
  f288 := Tryd.func65.trans (congrArg some (by kernel_rfl))
  f317 := Tryd.func84.trans (congrArg some (by kernel_rfl))
  f318 := Tryd.func86.trans (congrArg some (by kernel_rfl))
  f319 := Tryd.func87.trans (congrArg some (by kernel_rfl))
  f320 := Tryd.func88.trans (congrArg some (by kernel_rfl))
  f337 := Tryd.func91.trans (congrArg some (by kernel_rfl))
  f338 := Tryd.func92.trans (congrArg some (by kernel_rfl))
  t0 := Tryd.underlying0
  a0 := Tryd.isAgg0
  z0 := Tryd.sizeOf0
  v0 := Tryd.zeroValue0
  t3 := Tryd.underlying3
  a3 := Tryd.isAgg3
  z3 := Tryd.sizeOf3
  v3 := Tryd.zeroValue3
  t4 := Tryd.underlying4
  a4 := Tryd.isAgg4
  z4 := Tryd.sizeOf4
  v4 := Tryd.zeroValue4
  t5 := Tryd.underlying5
  a5 := Tryd.isAgg5
  z5 := Tryd.sizeOf5
  v5 := Tryd.zeroValue5
  t9 := Tryd.underlying9
  a9 := Tryd.isAgg9
  z9 := Tryd.sizeOf9
  v9 := Tryd.zeroValue9
  t20 := Tryd.underlying20
  a20 := Tryd.isAgg20
  z20 := Tryd.sizeOf20
  v20 := Tryd.zeroValue20
  t37 := Tryd.underlying65
  a37 := Tryd.isAgg65
  z37 := Tryd.sizeOf65
  v37 := Tryd.zeroValue65
  t46 := Tryd.underlying106
  a46 := Tryd.isAgg106
  z46 := Tryd.sizeOf106
  v46 := Tryd.zeroValue106
  t51 := Tryd.underlying68
  a51 := Tryd.isAgg68
  z51 := Tryd.sizeOf68
  v51 := Tryd.zeroValue68
  t53 := Tryd.underlying67
  a53 := Tryd.isAgg67
  z53 := Tryd.sizeOf67
  v53 := Tryd.zeroValue67
  t171 := Tryd.underlying89
  a171 := Tryd.isAgg89
  z171 := Tryd.sizeOf89
  v171 := Tryd.zeroValue89
  t173 := Tryd.underlying92
  a173 := Tryd.isAgg92
  z173 := Tryd.sizeOf92
  v173 := Tryd.zeroValue92
  t212 := Tryd.underlying104
  a212 := Tryd.isAgg104
  z212 := Tryd.sizeOf104
  v212 := Tryd.zeroValue104
  t213 := Tryd.underlying105
  a213 := Tryd.isAgg105
  z213 := Tryd.sizeOf105
  t232 := Tryd.underlying114
  a232 := Tryd.isAgg114
  z232 := Tryd.sizeOf114
  v232 := Tryd.zeroValue114
  t233 := Tryd.underlying115
  a233 := Tryd.isAgg115
  z233 := Tryd.sizeOf115
  v233 := Tryd.zeroValue115
  g17 := by kernel_rfl
  g18 := by kernel_rfl
  g19 := by kernel_rfl
  i0 := by kernel_rfl
  i3 := by kernel_rfl
  i4 := by kernel_rfl
  i5 := by kernel_rfl
  i9 := by kernel_rfl
  i20 := by kernel_rfl
  i37 := by kernel_rfl
  i46 := by kernel_rfl
  i51 := by kernel_rfl
  i53 := by kernel_rfl
  i171 := by kernel_rfl
  i173 := by kernel_rfl
  i212 := by kernel_rfl
  i232 := by kernel_rfl
  i233 := by kernel_rfl
  m17 := by kernel_rfl
  m18 := by kernel_rfl
  m19 := by kernel_rfl }
open Go.RowKit Go.Sort Go.Lib in
/-- internal/strconv.AppendUint(dst, i, 10), i BELOW 100: WHAT COMES BACK OWNS dst's CELLS AND, BEHIND THEM, i's DECIMAL NUMERAL. No table is read. Below the call's own blocks nothing has turned. (LAID: no walk: one application.) -/
theorem Tryd.internal_strconv_AppendUint_10_small (B n u : Nat) (hu : u < 100) (sv : Value) (xs : List Value) (w : World) (hown : w.ownsRow B 5 1 sv n xs) (hBw : B ≤ w.heap.size) (hlim : n + 20 ≤ 140737488355328) :
    Calls Tryd.prog 65 #[sv, .int .u64 u, .int .i64 10] w fun e w' => ∃ v', e = .returned v' ∧ w'.ownsRow B 5 1 v' (n + (Lib.decDigits u).length) (xs ++ Lib.byteCells (Lib.decDigits u)) ∧ Below B w w' ∧ Lib.OthersKept 5 none w w' := Any.internal_strconv_AppendUint_10_small Tryd.laysM288 B n u hu sv xs w hown hBw hlim
open Go.RowKit Go.Sort Go.Lib in
/-- internal/strconv.AppendUint(dst, i, 10), i FROM 100 ON: likewise; the digits are laid in an array of the call's own and appended. (LAID: no walk: one application.) -/
theorem Tryd.internal_strconv_AppendUint_10_big (B n u : Nat) (hu : 100 ≤ u) (hu64 : u < 18446744073709551616) (sv : Value) (xs : List Value) (w : World) (hown : w.ownsRow B 5 1 sv n xs) (hBw : B ≤ w.heap.size) (hlim : n + 20 ≤ 140737488355328) (htab : Lib.TabIs Tryd.prog w "internal/strconv.uint64pow10" .u64 Lib.pow10Tab) :
    Calls Tryd.prog 65 #[sv, .int .u64 u, .int .i64 10] w fun e w' => ∃ v', e = .returned v' ∧ w'.ownsRow B 5 1 v' (n + (Lib.decDigits u).length) (xs ++ Lib.byteCells (Lib.decDigits u)) ∧ Below B w w' ∧ Lib.OthersKept 5 none w w' := Any.internal_strconv_AppendUint_10_big Tryd.laysM288 B n u hu hu64 sv xs w hown hBw hlim htab
def Tryd.lays206_ren : Go.Shelf.Ren := ⟨fun | 206 => 73 | n => n, fun | 9 => 9 | 4 => 4 | 3 => 3 | n => n, fun | n => n⟩
theorem Tryd.lays206 : Go.Proofs.Lays.n206 Tryd.prog Tryd.lays206_ren := {
  mixed := by kernel_rfl
  f206 := Tryd.func73.trans (congrArg some (by kernel_rfl))
  t3 := Tryd.underlying3
  a3 := Tryd.isAgg3
  z3 := Tryd.sizeOf3
  v3 := Tryd.zeroValue3
  t4 := Tryd.underlying4
  a4 := Tryd.isAgg4
  z4 := Tryd.sizeOf4
  v4 := Tryd.zeroValue4
  t9 := Tryd.underlying9
  a9 := Tryd.isAgg9
  z9 := Tryd.sizeOf9
  v9 := Tryd.zeroValue9 }
open Go.RowKit Go.Lib in
/-- internal/stringslite.HasPrefix (what strings.HasPrefix calls). (LAID: no walk: one application.) -/
theorem Tryd.stringslite_HasPrefix (s p : ByteArray) (w : World) :
    Calls Tryd.prog 73 #[.string s, .string p] w fun e w' => e = .returned (.bool (Lib.hasPrefix s.data.toList p.data.toList)) ∧ w' = w := Any.stringslite_HasPrefix Tryd.lays206 s p w
def Tryd.lays264_ren : Go.Shelf.Ren := ⟨fun | 264 => 93 | n => n, fun | 53 => 67 | 46 => 106 | n => n, fun | n => n⟩
theorem Tryd.lays264 : Go.Proofs.Lays.n264 Tryd.prog Tryd.lays264_ren := {
  mixed := by kernel_rfl
  f264 := Tryd.func93.trans (congrArg some (by kernel_rfl))
  t46 := Tryd.underlying106
  a46 := Tryd.isAgg106
  z46 := Tryd.sizeOf106
  v46 := Tryd.zeroValue106
  t53 := Tryd.underlying67
  a53 := Tryd.isAgg67
  z53 := Tryd.sizeOf67
  v53 := Tryd.zeroValue67 }
open Go.RowKit Go.Lib in
theorem Tryd.bits_Mul64 (x y : Nat) (hx : x < 18446744073709551616) (hy : y < 18446744073709551616) (w : World) :
    Calls Tryd.prog 93 #[.int .u64 x, .int .u64 y] w fun e w' => e = .returned (.tuple #[.int .u64 ((x * y / 18446744073709551616 : Nat) : Int), .int .u64 ((x * y % 18446744073709551616 : Nat) : Int)]) ∧ w' = w := Any.bits_Mul64 Tryd.lays264 x y hx hy w
end Go.Proofs

/- 'appendLimb' appends nine digits; 'strconv.AppendUint' the decimal digits of a number. -/
namespace Go.Proofs.YtbfbijokhlkekaaDoor
open Go.RowKit
open Go.Lib (decDigits)

theorem info5 : (Tryd.prog.info? 5).map (fun i => (i.zero, i.size, i.bytes)) = some (some (.int .u8 0), 1, 1) := by kernel_rfl
/-- The bytes of a text as numbers. -/
def codes (l : List UInt8) : List Nat := l.map (·.toNat)
theorem codes_append (a b : List UInt8) : codes (a ++ b) = codes a ++ codes b := by simp [codes]
theorem codes_length (a : List UInt8) : (codes a).length = a.length := by simp [codes]
theorem byteCells_codes (l : List UInt8) : Lib.byteCells l = (codes l).map fun (d : Nat) => Value.int .u8 (d : Int) := by simp [Lib.byteCells, codes]
theorem digit_code (d : Nat) : (UInt8.ofNat (48 + d % 10)).toNat = 48 + d % 10 := by
  rw [UInt8.toNat_ofNat']; omega
theorem padk_step (r j : Nat) (hj : j < 9) : codes ((padk 9 r).take (j + 1)) = codes ((padk 9 r).take j) ++ [48 + r / (10 ^ (9 - j) / 10) % 10] := by
  match j, hj with
  | 0, _ => simp [padk, codes, Nat.div_div_eq_div_mul]; omega
  | 1, _ => simp [padk, codes, Nat.div_div_eq_div_mul]; omega
  | 2, _ => simp [padk, codes, Nat.div_div_eq_div_mul]; omega
  | 3, _ => simp [padk, codes, Nat.div_div_eq_div_mul]; omega
  | 4, _ => simp [padk, codes, Nat.div_div_eq_div_mul]; omega
  | 5, _ => simp [padk, codes, Nat.div_div_eq_div_mul]; omega
  | 6, _ => simp [padk, codes, Nat.div_div_eq_div_mul]; omega
  | 7, _ => simp [padk, codes, Nat.div_div_eq_div_mul]; omega
  | 8, _ => simp [padk, codes, Nat.div_div_eq_div_mul]; omega
theorem unit_facts (j : Nat) (hj : j < 9) : 1 ≤ 10 ^ (9 - j) / 10 ∧ 10 ^ (9 - j) / 10 ≤ 100000000 ∧ 10 ^ (9 - j) / 10 / 10 = 10 ^ (9 - (j + 1)) / 10 := by
  match j, hj with
  | 0, _ => decide
  | 1, _ => decide
  | 2, _ => decide
  | 3, _ => decide
  | 4, _ => decide
  | 5, _ => decide
  | 6, _ => decide
  | 7, _ => decide
  | 8, _ => decide

set_option maxRecDepth 100000 in
set_option maxHeartbeats 800000 in
theorem appendLimb_any (r B : Nat) (v : Value) (T : List UInt8) (w : World) (hr : r < 1000000000) (hT : T.length ≤ 10000000) (hB : B ≤ w.heap.size) (hown : Own .u8 5 w B v (codes T)) :
    Calls Tryd.prog 46 #[v, .int .u32 r] w fun e w' => ∃ v', e = .returned v' ∧ Own .u8 5 w' B v' (codes (T ++ padk 9 r)) ∧ Below B w w' := by
  obtain ⟨i0, hi, hz0, hz1, hz2⟩ := info_parts info5
  go_enter Tryd.func46, Tryd.ntmps46
  go_wp2
  go_loopw [0, 5] (fun tv uv wr => ∃ j : Nat, j ≤ 9 ∧ uv = .int .u32 ((10 ^ (9 - j) / 10 : Nat) : Int) ∧ Own .u8 5 wr B tv (codes T ++ codes ((padk 9 r).take j)) ∧ Below B w wr) (fun _ uv _ => (intOf uv).toNat)
  case atStart => exact ⟨0, by omega, rfl, by simpa [codes] using hown, Below.refl _ _⟩
  case round =>
    obtain ⟨j, hj, rfl, ho, hbw⟩ := hrel
    by_cases hlt : j < 9
    · obtain ⟨u1, u2, u3⟩ := unit_facts j hlt
      have hst := padk_step r j hlt
      have hlen : (codes T ++ codes ((padk 9 r).take j)).length ≤ 20000000 := by
        rw [List.length_append, codes_length, codes_length, List.length_take, padk_length]; omega
      generalize 10 ^ (9 - j) / 10 = u at *
      have U3 := Lib.hid u3
      have HST := Lib.hid hst
      have HLEN := Lib.hid hlen
      clear u3 hst hlen
      have q1 : 0 ≤ (r : Int) / (u : Int) := Int.ediv_nonneg (by omega) (by omega)
      have q2 : (r : Int) / (u : Int) ≤ (r : Int) := Int.ediv_le_self _ (by omega)
      have hsz := hbw.size
      have hu0 : ((u : Int) == 0) = false := by simp; omega
      have hu1 : decide ((0 : Int) < (u : Int)) = true := by simp; omega
      go_wp2_with (first
        | (at_builtin; go_loud (refine wpList_append_num wr rfl (.tmp 10) (.tmp 17) 65 rfl .u8 B 5 i0 1 Tryd.underlying65 hi hz0 hz1 hz2 (by omega) u0 _ (by rfl) ho _ (48 + r / u % 10) ?_ 1 rfl (Nat.le_trans HLEN.out (by omega)) ?_ ?_; (simp); (omega); intro v2 w2 ho2 hb2))
        | fail)
      go_roundw
      case rel =>
        have o2 := ho2.out
        rw [List.append_assoc, ← HST.out] at o2
        exact ⟨j + 1, by omega, by rw [← U3.out]; simp, o2, hbw.trans hb2⟩
      case measure => simp [intOf]; omega
    · obtain rfl : j = 9 := by omega
      have e9 : ((10 ^ (9 - 9) / 10 : Nat) : Int) = 0 := by decide
      rw [e9]
      have o9 : Own .u8 5 wr B u0 (codes (T ++ padk 9 r)) := by
        rw [List.take_of_length_le (by rw [padk_length]; omega), ← codes_append] at ho
        exact ho
      have hdf : decide ((0 : Int) < (0 : Int)) = false := by decide
      clear ho e9
      go_wp2
      go_ret
      exact ⟨_, rfl, o9, hbw⟩

set_option maxHeartbeats 800000 in
theorem appendUint_any (u B : Nat) (v : Value) (T : List UInt8) (w : World) (hu : u < 10000000000000000000) (hT : T.length ≤ 10000000) (hB : B ≤ w.heap.size) (hown : Own .u8 5 w B v (codes T))
    (htab : Lib.TabIs Tryd.prog w "internal/strconv.uint64pow10" .u64 Lib.pow10Tab) :
    Calls Tryd.prog 45 #[v, .int .u64 u, .int .i64 10] w fun e w' => ∃ v', e = .returned v' ∧ Own .u8 5 w' B v' (codes (T ++ decDigits u)) ∧ Below B w w' := by
  have hc : Calls Tryd.prog 65 #[v, .int .u64 u, .int .i64 10] w fun e w' => ∃ v', e = .returned v' ∧ w'.ownsRow B 5 1 v' (codes T ++ codes (decDigits u)).length ((codes T ++ codes (decDigits u)).map fun (d : Nat) => Value.int .u8 (d : Int)) ∧ Below B w w' := by
    by_cases h : u < 100
    · refine (Tryd.internal_strconv_AppendUint_10_small B _ u h v _ w hown hB (by rw [codes_length]; omega)).mono ?_
      rintro e w' ⟨v', he, ho, hb, _⟩
      refine ⟨v', he, ?_, hb⟩
      rw [List.length_append, codes_length (decDigits u), List.map_append, ← byteCells_codes (decDigits u)]
      exact ho
    · refine (Tryd.internal_strconv_AppendUint_10_big B _ u (by omega) (by omega) v _ w hown hB (by rw [codes_length]; omega) htab).mono ?_
      rintro e w' ⟨v', he, ho, hb, _⟩
      refine ⟨v', he, ?_, hb⟩
      rw [List.length_append, codes_length (decDigits u), List.map_append, ← byteCells_codes (decDigits u)]
      exact ho
  have HC := Lib.hid hc
  clear hc htab hown
  go_enter Tryd.func45, Tryd.ntmps45
  go_wp2_with fail
  refine HC.out.mono ?_
  rintro e w' ⟨v', rfl, ho, hb⟩
  have HO := Lib.hid ho
  clear ho
  go_wp2_with fail
  go_ret
  exact ⟨_, rfl, by rw [codes_append]; exact HO.out, hb⟩
end Go.Proofs.YtbfbijokhlkekaaDoor

/- 'string(b)' of a row of bytes. -/
namespace Go.Proofs.YtbfbijokhlkekaaDoor
open Go.RowKit

theorem fold_push (l : List UInt8) (acc : ByteArray) : (codes l).foldl (fun (r : ByteArray) (n : Nat) => r.push (UInt8.ofNat (n : Int).toNat)) acc = ⟨acc.data ++ l.toArray⟩ := by
  induction l generalizing acc with
  | nil => simp [codes]
  | cons c r ih =>
    show (codes r).foldl _ (acc.push (UInt8.ofNat (c.toNat : Int).toNat)) = _
    rw [ih]
    have : UInt8.ofNat (c.toNat : Int).toNat = c := by simp
    rw [this]
    simp [ByteArray.push]

theorem run_bytes_str {P : Program} {w : World} {e : TypeId} {base : Nat} {v : Value} {T : List UInt8} (src dst : TypeId) (hs : P.underlying src = some (.slice e)) (he : P.underlying e = some (.int .u8)) (hd : P.underlying dst = some .string)
    (hown : Own .u8 e w base v (codes T)) (hT : T ≠ []) : (convert src dst v).run P w = .ok (.string ⟨T.toArray⟩) w := by
  obtain ⟨A, c, rfl, hrow⟩ := hown.row
  obtain ⟨b, o, rfl, _, hc⟩ := hrow.spot (by rw [codes_length]; exact List.length_pos_iff.2 hT)
  rw [run_convert_bytes_string w src dst e _ _ _ hs he hd]
  have hl : (loadCells ⟨b, o, none⟩ (codes T).length).run P w = .ok (((codes T).map fun (n : Nat) => (n : Int)).map (Value.int .u8)).toArray w := by
    have := run_loadCells_list (P := P) (w := w) ⟨b, o, none⟩ (((codes T).map fun (n : Nat) => (n : Int)).map (Value.int .u8)) (fun j v hj => by
      have hjl : j < (codes T).length := by
        rcases Nat.lt_or_ge j (codes T).length with h | h
        · exact h
        · rw [List.getElem?_eq_none (by simpa using h)] at hj; cases hj
      have h2 := hc j hjl
      have h3 : v = .int .u8 (nth (codes T) j) := by
        rw [List.getElem?_map, List.getElem?_map, List.getElem?_eq_getElem hjl] at hj
        simp at hj
        rw [← hj, nth_lt hjl]
      rw [h3, ← h2]
      unfold Addr.add
      split
      · rename_i h0; subst h0; simp
      · rfl)
    simpa using this
  rw [run_bytesToString w _ _ _ _ hl, List.foldl_map, fold_push]
  simp [ByteArray.empty, ByteArray.emptyWithCapacity]
  rfl

/-- The operation 'string(b)'. -/
theorem wpList_bytes_str {P : Program} {w : World} {ops : Array Oper} {rest : List Oper} {o : Oper} {a : Act} {Q : Exit → Act → World → Prop} (hg : o.guard = none) (src dst : TypeId) (x : Operand) (hop : o.op = Op.convert src dst x)
    (e : TypeId) (hs : P.underlying src = some (.slice e)) (he : P.underlying e = some (.int .u8)) (hd : P.underlying dst = some .string)
    (base : Nat) (v : Value) (T : List UInt8) (hx : a.eval x = v) (hown : Own .u8 e w base v (codes T)) (hT : T ≠ [])
    (h : wpList P ops Q rest (a.put o.dst (.string ⟨T.toArray⟩)) w) : wpList P ops Q (o :: rest) a w := by
  refine wpList_plain hg fun K hK => ?_
  have hrun := run_bytes_str src dst hs he hd hown hT
  unfold Oper.wp
  simp [execOp, hop, hx, hrun, Result.andThen]
  exact hK _ _ h
end Go.Proofs.YtbfbijokhlkekaaDoor

/- 'Text': the decimal text of an integer. -/
namespace Go.Proofs.YtbfbijokhlkekaaDoor
open Go.RowKit
open Go.Lib (decDigits)

/-- The text of an integer with a sign and an absolute value. -/
def decI (neg : Bool) (n : Nat) : List UInt8 := (if neg then [45] else []) ++ decDigits n

/-- A table that lies below block B reads as it does, whatever happens from block B on. -/
abbrev Tab (B : Nat) (w : World) : Prop := Lib.TabBelow Tryd.prog B w "internal/strconv.uint64pow10" .u64 Lib.pow10Tab
theorem Below.less {B B' : Nat} {w w' : World} (h : Below B' w w') (hB : B ≤ B') : Below B w w' := ⟨h.os, h.tape, h.output, h.size, fun k hk => h.block k (by omega)⟩
theorem Tab.more {B B' : Nat} {w : World} (h : Tab B w) (hB : B ≤ B') : Tab B' w := fun w' hb => h w' (Below.less hb hB)

theorem make_own8 {P : Program} (w : World) {ops : Array Oper} {rest : List Oper} {o : Oper} {a : Act} {Q : Exit → Act → World → Prop}
    (hg : o.guard = none) (l c : Operand) (t : TypeId) (hop : o.op = Op.makeSlice t l c)
    (e : TypeId) (i : TypeInfo) (h1 : P.underlying t = some (.slice e)) (h2 : P.info? e = some i) (h3 : i.zero = some (.int .u8 0)) (h4 : i.size = 1) (h5 : i.bytes = 1)
    (kl kc : IntKind) (C : Int) (n : Nat) (hl : a.eval l = .int kl 0) (hc : a.eval c = .int kc C) (hC : C = (n : Int)) (hn : n ≤ 100000000)
    (hK : ∀ w', Hid (Own .u8 e w' w.heap.size (.slice (some ⟨w.heap.size, 0, none⟩) 0 n) (codes [])) → Below w.heap.size w w' → wpList P ops Q rest (a.put o.dst (.slice (some ⟨w.heap.size, 0, none⟩) 0 n)) w') :
    wpList P ops Q (o :: rest) a w :=
  wpList_make_own w hg l c t hop w.heap.size e i (.int .u8 0) 1 h1 h2 h3 h4 kl kc C n hl hc hC (by rw [h5]; omega) (by unfold maxLen; omega) (Nat.le_refl _)
    fun w' ho hgr => hK w' ho (grown_none_below (Below.refl _ _) hgr (Nat.le_refl _))

/-- What stands in the box of a struct of two cells, after new blocks were made. -/
theorem boxed {w w1 : World} {x y : Value} {t : TypeId} (h : Below (w.alloc (.cells #[x, y] t)).heap.size (w.alloc (.cells #[x, y] t)) w1) :
    w1.cell? ⟨w.heap.size, 0, none⟩ = some x ∧ w1.cell? ⟨w.heap.size, 1, none⟩ = some y ∧ w.heap.size + 1 ≤ w1.heap.size ∧ Below (w.heap.size + 1) (w.alloc (.cells #[x, y] t)) w1 := by
  have hs : (w.alloc (.cells #[x, y] t)).heap.size = w.heap.size + 1 := by simp
  rw [hs] at h
  have hh := heap_alloc_new w (.cells #[x, y] t)
  refine ⟨?_, ?_, by have := h.size; omega, h⟩
  · rw [h.cell (by show w.heap.size < _; omega)]; unfold World.cell?; dsimp only; rw [hh]; rfl
  · rw [h.cell (by show w.heap.size < _; omega)]; unfold World.cell?; dsimp only; rw [hh]; rfl

theorem boxedF {w w1 : World} {cs : Array Value} {t : TypeId} (h : Below (w.heap.size + 1) (w.alloc (.cells cs t)) w1) (i : Nat) : w1.frozen? ⟨w.heap.size, i, none⟩ = false := by
  rw [h.frozen (by show w.heap.size < _; omega)]
  unfold World.frozen?; dsimp only; rw [heap_alloc_new]; simp
theorem nDigits_le (k : Nat) : ∀ n, n < 10 ^ (k + 1) → Go.Lib.nDigits n ≤ k + 1 := by
  induction k with
  | zero => intro n h; rw [Go.Lib.nDigits_small (by simpa using h)]; omega
  | succ k ih =>
    intro n h
    by_cases h10 : n < 10
    · rw [Go.Lib.nDigits_small h10]; omega
    · rw [Go.Lib.nDigits_big h10]
      have := ih (n / 10) (by rw [Nat.pow_succ] at h; omega)
      omega
theorem dec_ne (n : Nat) : decDigits n ≠ [] := by
  rw [decDigits]
  split <;> simp
theorem dec_len (n : Nat) (h : n < 1000000000) : (decDigits n).length ≤ 10 := by
  rw [Go.Lib.decDigits_length]
  have := nDigits_le 8 n (by omega)
  omega
theorem boxed2 {w w1 : World} {x y : Value} {t : TypeId} (h : Below (w.heap.size + 1) (w.alloc (.cells #[x, y] t)) w1) :
    w1.cell? ⟨w.heap.size, 0, none⟩ = some x ∧ w1.cell? ⟨w.heap.size, 1, none⟩ = some y := by
  have hs : (w.alloc (.cells #[x, y] t)).heap.size = w.heap.size + 1 := by simp
  have := boxed (w := w) (w1 := w1) (x := x) (y := y) (t := t) (by rw [hs]; exact h)
  exact ⟨this.1, this.2.1⟩

set_option maxRecDepth 20000 in
set_option maxHeartbeats 1600000 in
theorem text_long (neg : Bool) (A : Option Addr) (c : Nat) (L : List Nat) (w : World) (hn : 0 < L.length) (hl : L.length ≤ 100000) (hL : Lim L) (htop : nth L (L.length - 1) ≠ 0)
    (hR : Row .u32 w w.heap.size A c L) (ht : Tab w.heap.size w) :
    Calls Tryd.prog 16 #[.agg #[.bool neg, .slice A L.length c]] w fun e w' => e = .returned (.string ⟨(decI neg (valB 1000000000 L)).toArray⟩) ∧ Below w.heap.size w w' := by
  obtain ⟨i0, hi, hz0, hz1, hz2⟩ := info_parts info5
  obtain ⟨b, o, rfl, hb, hcell⟩ := hR.spot hn
  generalize hl' : L.length = l at *
  have HL := Lib.hid hl'
  clear hl'
  have h0 : ((l : Int) == 0) = false := by simp; omega
  have htl := hL.nth (l - 1)
  have e1 : ((l : Int) - 1).toNat = l - 1 := by omega
  have hval : decI neg (valB 1000000000 L) = (if neg then [45] else []) ++ (decDigits (nth L (l - 1)) ++ lowPads 9 (L.take (l - 1))) := by
    unfold decI
    congr 1
    have := dec_limbs 9 (L.take (l - 1)) (nth L (l - 1)) (by omega) (fun d hd => hL d (List.mem_of_mem_take hd))
    rw [← this]
    have e2 : L.take (l - 1) ++ [nth L (l - 1)] = L := by
      have hh : l - 1 < L.length := by rw [HL.out]; omega
      rw [nth_lt hh, List.take_append_getElem]
      exact List.take_of_length_le (by rw [HL.out]; omega)
    rw [e2]
  have HV := Lib.hid hval
  clear hval e1 htop
  generalize htt : nth L (l - 1) = top at *
  have HTT := Lib.hid htt
  clear htt
  have HT := Lib.hid ht
  clear ht
  have ⟨S, hS, hS2⟩ : ∃ S : List UInt8, Hid ((if neg then [45] else []) = S) ∧ S.length ≤ 1 := ⟨_, rfl, by cases neg <;> simp⟩
  cases neg
  case false =>
    obtain rfl : [] = S := hS
    go_enter Tryd.func16, Tryd.ntmps16
    go_wp2_with (refine make_own8 _ rfl (.const (.int .i64 0)) (.tmp 14) 65 rfl 5 i0 Tryd.underlying65 hi hz0 hz1 hz2 .i64 .i64 _ (l * 9 + 1) rfl rfl ?_ ?_ ?_; (omega); (omega); intro w1 ho1 hb1; have X := boxed hb1; have hx0 := X.1; have hx1 := X.2.1; have hs1 := X.2.2.1; have hbx := X.2.2.2; clear X hb1; have hcl := hcell.below (Below.trans (below_alloc_new _) (Below.less hbx (Nat.le_succ _))) hb; have hlast := hcl (l - 1) (by rw [HL.out]; omega); rw [HTT.out] at hlast)
    refine (appendUint_any top (w.heap.size + 1) _ [] w1 (by omega) (by simp) hs1 (by simpa using ho1.out) (HT.out.on (Below.trans (below_alloc_new _) (Below.less hbx (Nat.le_succ _))) |>.here)).mono ?_
    rintro e w2 ⟨v2, rfl, ho2, hb2⟩
    have hbx2 := hbx.trans hb2
    clear hx0 hx1 hcl hlast hb2
    have hx1 := (boxed2 hbx2).2
    have HO2 := Lib.hid ho2
    clear ho2 ho1
    go_wp2_with fail
    generalize hP : [] ++ decDigits top = P0 at *
    have hPl : P0.length ≤ 21 := by rw [← hP]; have := dec_len top htl; simp; omega
    have HP := Lib.hid hP
    clear hP
    go_loopw [3, 5] (fun tv iv wr => ∃ k : Nat, k ≤ l - 1 ∧ iv = .int .i64 ((k : Int) - 1) ∧ Own .u8 5 wr (w.heap.size + 1) tv (codes (P0 ++ lowPads 9 ((L.take (l - 1)).drop k))) ∧
      Below (w.heap.size + 1) (w.alloc (.cells #[.bool false, .slice (some ⟨b, o, none⟩) l c] 25)) wr) (fun _ iv _ => (intOf iv + 1).toNat)
    case atStart => exact ⟨l - 1, by omega, by congr 1; omega, by rw [List.drop_of_length_le (by rw [List.length_take, HL.out]; omega)]; simpa [lowPads] using HO2.out, hbx2⟩
    case round =>
      clear hx1 hbx2
      obtain ⟨k, hk, rfl, ho, hbr⟩ := hrel
      have hx1 := (boxed2 hbr).2
      rcases Nat.eq_zero_or_pos k with rfl | hpos
      · have hd : decide ((0 : Int) ≤ ((0 : Nat) : Int) - 1) = false := by simp
        have HO := Lib.hid ho
        clear ho
        have hne : P0 ++ lowPads 9 ((L.take (l - 1)).drop 0) ≠ [] := by rw [← HP.out]; simp [dec_ne]
        have HNE := Lib.hid hne
        clear hne
        go_wp2_with (refine wpList_bytes_str rfl 65 9 (.tmp 46) rfl 5 Tryd.underlying65 Tryd.underlying5 Tryd.underlying9 (w.heap.size + 1) u3 _ (by rfl) HO.out HNE.out ?_)
        go_ret
        exact ⟨by rw [HV.out, ← HP.out]; simp, (below_alloc_new _).trans (Below.less hbr (Nat.le_succ _))⟩
      · obtain ⟨m, rfl⟩ : ∃ m, k = m + 1 := ⟨k - 1, by omega⟩
        have h1 : ((0 : Int) ≤ ((m + 1 : Nat) : Int) - 1) := by omega
        have e1 : ((m + 1 : Nat) : Int) - 1 = (m : Int) := by omega
        rw [e1]
        clear e1 h1
        have hm := (hcell.below (Below.trans (below_alloc_new _) (Below.less hbr (Nat.le_succ _))) hb) m (by rw [HL.out]; omega)
        have hml := hL.nth m
        have hsr : w.heap.size + 1 ≤ wr.heap.size := by have := hbr.size; simpa using this
        have hlen : (P0 ++ lowPads 9 ((L.take (l - 1)).drop (m + 1))).length ≤ 10000000 := by
          rw [List.length_append, lowPads_length, List.length_drop, List.length_take, HL.out]; omega
        have hst : lowPads 9 ((L.take (l - 1)).drop m) = lowPads 9 ((L.take (l - 1)).drop (m + 1)) ++ padk 9 (nth L m) := by
          have hml2 : m < (L.take (l - 1)).length := by rw [List.length_take, HL.out]; omega
          rw [List.drop_eq_getElem_cons hml2, lowPads, nth_lt (by rw [HL.out]; omega)]
          simp
        have hap := appendLimb_any (nth L m) (w.heap.size + 1) u3 _ wr hml hlen hsr ho
        have HAP := Lib.hid hap
        have HST := Lib.hid hst
        clear hlen hst ho hap
        go_wp2_with fail
        refine HAP.out.mono ?_
        rintro e w3 ⟨v3, rfl, ho3, hb3⟩
        have HO3 := Lib.hid ho3
        clear ho3 hx1 hm
        go_wp2_with fail
        go_roundw
        case rel => exact ⟨m, by omega, rfl, by rw [HST.out, ← List.append_assoc]; exact HO3.out, hbr.trans hb3⟩
        case measure => simp [intOf]
  case true =>
    obtain rfl : [45] = S := hS
    go_enter Tryd.func16, Tryd.ntmps16
    go_wp2_with (first
      | (refine make_own8 _ rfl (.const (.int .i64 0)) (.tmp 14) 65 rfl 5 i0 Tryd.underlying65 hi hz0 hz1 hz2 .i64 .i64 _ (l * 9 + 1) rfl rfl ?_ ?_ ?_; (omega); (omega); intro w1 ho1 hb1; have X := boxed hb1; have hx0 := X.1; have hx1 := X.2.1; have hs1 := X.2.2.1; have hbx := X.2.2.2; clear X hb1)
      | (at_builtin; refine wpList_append_num w1 rfl (.tmp 18) (.tmp 19) 65 rfl .u8 (w.heap.size + 1) 5 i0 1 Tryd.underlying65 hi hz0 hz1 hz2 (by omega) (.slice (some ⟨w.heap.size + 1, 0, none⟩) 0 (l * 9 + 1)) (codes []) (by rfl) (by simpa using ho1.out) _ 45 ?_ 1 rfl ?_ ?_ ?_; (rfl); (simp [codes]); (exact hs1); intro w4 w5 ho5 hb5; have hbx5 := hbx.trans hb5; have hx5 := (boxed2 hbx5).1; have hx6 := (boxed2 hbx5).2; have hs5 := Nat.le_trans hs1 hb5.size; clear hb5 hx0 hx1; have hcl := hcell.below (Below.trans (below_alloc_new _) (Below.less hbx5 (Nat.le_succ _))) hb; have hlast := hcl (l - 1) (by rw [HL.out]; omega); rw [HTT.out] at hlast)
      | fail)
    refine (appendUint_any top (w.heap.size + 1) _ [45] w5 (by omega) (by simp) hs5 ho5.out (HT.out.on (Below.trans (below_alloc_new _) (Below.less hbx5 (Nat.le_succ _))) |>.here)).mono ?_
    rintro e w2 ⟨v2, rfl, ho2, hb2⟩
    have hbx2 := hbx5.trans hb2
    clear hx5 hx6 hcl hlast hb2
    have hx1 := (boxed2 hbx2).2
    have HO2 := Lib.hid ho2
    clear ho2 ho5
    go_wp2_with fail
    generalize hP : [45] ++ decDigits top = P0 at *
    have hPl : P0.length ≤ 21 := by rw [← hP]; have := dec_len top htl; simp; omega
    have HP := Lib.hid hP
    clear hP
    go_loopw [3, 5] (fun tv iv wr => ∃ k : Nat, k ≤ l - 1 ∧ iv = .int .i64 ((k : Int) - 1) ∧ Own .u8 5 wr (w.heap.size + 1) tv (codes (P0 ++ lowPads 9 ((L.take (l - 1)).drop k))) ∧
      Below (w.heap.size + 1) (w.alloc (.cells #[.bool true, .slice (some ⟨b, o, none⟩) l c] 25)) wr) (fun _ iv _ => (intOf iv + 1).toNat)
    case atStart => exact ⟨l - 1, by omega, by congr 1; omega, by rw [List.drop_of_length_le (by rw [List.length_take, HL.out]; omega)]; simpa [lowPads] using HO2.out, hbx2⟩
    case round =>
      clear hx1 hbx2
      obtain ⟨k, hk, rfl, ho, hbr⟩ := hrel
      have hx1 := (boxed2 hbr).2
      rcases Nat.eq_zero_or_pos k with rfl | hpos
      · have hd : decide ((0 : Int) ≤ ((0 : Nat) : Int) - 1) = false := by simp
        have HO := Lib.hid ho
        clear ho
        have hne : P0 ++ lowPads 9 ((L.take (l - 1)).drop 0) ≠ [] := by rw [← HP.out]; simp
        have HNE := Lib.hid hne
        clear hne
        go_wp2_with (refine wpList_bytes_str rfl 65 9 (.tmp 46) rfl 5 Tryd.underlying65 Tryd.underlying5 Tryd.underlying9 (w.heap.size + 1) u3 _ (by rfl) HO.out HNE.out ?_)
        go_ret
        exact ⟨by rw [HV.out, ← HP.out]; simp, (below_alloc_new _).trans (Below.less hbr (Nat.le_succ _))⟩
      · obtain ⟨m, rfl⟩ : ∃ m, k = m + 1 := ⟨k - 1, by omega⟩
        have h1 : ((0 : Int) ≤ ((m + 1 : Nat) : Int) - 1) := by omega
        have e1 : ((m + 1 : Nat) : Int) - 1 = (m : Int) := by omega
        rw [e1]
        clear e1 h1
        have hm := (hcell.below (Below.trans (below_alloc_new _) (Below.less hbr (Nat.le_succ _))) hb) m (by rw [HL.out]; omega)
        have hml := hL.nth m
        have hsr : w.heap.size + 1 ≤ wr.heap.size := by have := hbr.size; simpa using this
        have hlen : (P0 ++ lowPads 9 ((L.take (l - 1)).drop (m + 1))).length ≤ 10000000 := by
          rw [List.length_append, lowPads_length, List.length_drop, List.length_take, HL.out]; omega
        have hst : lowPads 9 ((L.take (l - 1)).drop m) = lowPads 9 ((L.take (l - 1)).drop (m + 1)) ++ padk 9 (nth L m) := by
          have hml2 : m < (L.take (l - 1)).length := by rw [List.length_take, HL.out]; omega
          rw [List.drop_eq_getElem_cons hml2, lowPads, nth_lt (by rw [HL.out]; omega)]
          simp
        have hap := appendLimb_any (nth L m) (w.heap.size + 1) u3 _ wr hml hlen hsr ho
        have HAP := Lib.hid hap
        have HST := Lib.hid hst
        clear hlen hst ho hap
        go_wp2_with fail
        refine HAP.out.mono ?_
        rintro e w3 ⟨v3, rfl, ho3, hb3⟩
        have HO3 := Lib.hid ho3
        clear ho3 hx1 hm
        go_wp2_with fail
        go_roundw
        case rel => exact ⟨m, by omega, rfl, by rw [HST.out, ← List.append_assoc]; exact HO3.out, hbr.trans hb3⟩
        case measure => simp [intOf]

set_option maxHeartbeats 800000 in
theorem text_zero (neg : Bool) (A : Option Addr) (c : Nat) (w : World) :
    Calls Tryd.prog 16 #[.agg #[.bool neg, .slice A 0 c]] w fun e w' => e = .returned (.string ⟨#[48]⟩) ∧ Below w.heap.size w w' := by
  go_enter Tryd.func16, Tryd.ntmps16
  go_wp2
  go_ret
  exact ⟨rfl, below_alloc_new _⟩

/-- What the limbs of an integer are like. -/
structure Canon (L : List Nat) : Prop where
  lim : Lim L
  top : 0 < L.length → nth L (L.length - 1) ≠ 0
theorem decI_nil : decI false (valB 1000000000 []) = [48] := by
  show [] ++ decDigits 0 = _
  rw [dec_small (by omega)]; rfl

theorem text_any (neg : Bool) (A : Option Addr) (c : Nat) (L : List Nat) (w : World) (hl : L.length ≤ 100000) (hL : Canon L) (hneg : neg = true → L ≠ [])
    (hR : Row .u32 w w.heap.size A c L) (ht : Tab w.heap.size w) :
    Calls Tryd.prog 16 #[.agg #[.bool neg, .slice A L.length c]] w fun e w' => e = .returned (.string ⟨(decI neg (valB 1000000000 L)).toArray⟩) ∧ Below w.heap.size w w' := by
  rcases Nat.eq_zero_or_pos L.length with h | h
  · obtain rfl : L = [] := List.eq_nil_of_length_eq_zero h
    cases neg
    · rw [decI_nil]; exact text_zero _ _ _ _
    · exact absurd rfl (hneg rfl)
  · exact text_long neg A c L w h hl hL.lim (hL.top h) hR ht
end Go.Proofs.YtbfbijokhlkekaaDoor

/- 'isNumber': a text of digits, of which the first one is 0 only if it is the only one. -/
namespace Go.Proofs.YtbfbijokhlkekaaDoor
open Go.RowKit

theorem decode_high (s : ByteArray) (pos : Nat) (h : pos < s.size) (ha : 128 ≤ (s[pos]'h).toNat) : 128 ≤ (Utf8.decode s pos).1 := by
  have e : s.get! (pos + 0) = s[pos]'h := by
    show s.get! pos = _
    simp [ByteArray.get!, getElem!_pos, h]
    rfl
  have hr : 128 ≤ Utf8.runeError := by decide
  unfold Utf8.decode
  simp only [e]
  rw [if_neg (by omega)]
  repeat' split
  all_goals first | (rename_i hc; simp at hc; omega) | exact hr

theorem toList_get (s : ByteArray) (k : Nat) (h : k < s.size) : s.data.toList[k]'(by simpa using h) = s[k] := by simp; rfl
theorem no_num (s : ByteArray) (k : Nat) (h : k < s.size) (hd : ¬ isDig (s[k]'h) = true) : okNum s.data.toList = false := by
  have : s.data.toList.all isDig = false := by
    rw [List.all_eq_false]
    refine ⟨s[k], ?_, by simpa using hd⟩
    rw [← toList_get s k h]
    exact List.getElem_mem _
  simp [okNum, this]

theorem all_dig (s : ByteArray) (h : ∀ j, j < s.size → ∀ (h2 : j < s.size), isDig (s[j]'h2) = true) : s.data.toList.all isDig = true := by
  rw [List.all_eq_true]
  intro x hx
  obtain ⟨j, hj, rfl⟩ := List.getElem_of_mem hx
  have hj' : j < s.size := by simpa using hj
  rw [toList_get s j hj']
  exact h j hj' hj'
theorem okNum_head (s : ByteArray) (h : 0 < s.size) (ha : s.data.toList.all isDig = true) (hn : (s.data.toList == [48]) = false) : okNum s.data.toList = ((((s[0]'h).toNat : Nat) : Int) != 48) := by
  have e := toList_get s 0 h
  have hl : s.data.toList.length = s.size := by simp
  unfold okNum
  rw [ha, hn]
  rcases hs : s.data.toList with _ | ⟨c, r⟩
  · rw [hs] at hl; simp at hl; omega
  · have e : c = s[0] := by
      rw [← e]; simp [hs]
    rw [← e]
    by_cases hc : c = 48
    · subst hc; rfl
    · have hc' : ¬ c.toNat = 48 := fun e => hc (by apply UInt8.toNat_inj.1; rw [e]; rfl)
      have : ((c.toNat : Int) != 48) = true := by simp; omega
      rw [this]
      simpa using hc

set_option maxHeartbeats 800000 in
theorem isNumber_any (s : ByteArray) (w : World) (_hs : s.size ≤ 1000000) :
    Calls Tryd.prog 41 #[.string s] w fun e w' => e = .returned (.bool (okNum s.data.toList)) ∧ Below w.heap.size w w' := by
  go_enter Tryd.func41, Tryd.ntmps41
  go_wp2
  go_loopw [] (fun wr => ∃ k : Nat, k ≤ s.size ∧ wr = w.iter s k ∧ Hid (∀ j (h : j < k) (h2 : j < s.size), isDig (s[j]'h2) = true)) (fun wr => s.size - wr.iterPos w.heap.size)
  case atStart => exact ⟨0, Nat.zero_le _, rfl, fun j h _ => absurd h (by omega)⟩
  case round =>
    obtain ⟨k, hk, rfl, hd⟩ := hrel
    by_cases hlt : k < s.size
    · by_cases ha : (s[k]'hlt).toNat < 128
      · have hnx := fun ty => run_next_ascii (P := Tryd.prog) w s k ty hlt ha
        by_cases hdig : isDig (s[k]'hlt) = true
        · have h1 := (isDig_iff.1 hdig).1
          have h2 := (isDig_iff.1 hdig).2
          have hq : decide ((((s[k]'hlt).toNat : Nat) : Int) < 48) = false := by simp; omega
          go_wp2
          go_roundw
          case rel => exact ⟨k + 1, by omega, rfl, fun j hj h2 => by
            rcases Nat.lt_succ_iff_lt_or_eq.1 hj with h3 | rfl
            · exact hd.out j h3 h2
            · exact hdig⟩
          case measure => simp; omega
        · have hno : okNum s.data.toList = false := no_num s k hlt hdig
          have hno' := Lib.hid hno
          clear hno
          by_cases h48 : (s[k]'hlt).toNat < 48
          · have hq : decide ((((s[k]'hlt).toNat : Nat) : Int) < 48) = true := by simp; omega
            go_wp2
            go_ret
            exact ⟨by rw [hno'.out]; rfl, (Below.refl _ _).alloc (Nat.le_refl _) _⟩
          · have hq : decide ((((s[k]'hlt).toNat : Nat) : Int) < 48) = false := by simp; omega
            have h57 : ¬ (s[k]'hlt).toNat ≤ 57 := fun h => hdig (isDig_iff.2 ⟨by omega, h⟩)
            go_wp2
            go_ret
            exact ⟨by rw [hno'.out]; rfl, (Below.refl _ _).alloc (Nat.le_refl _) _⟩
      · have hnx := fun ty => run_next_any (P := Tryd.prog) w s k ty hlt
        have hhi := decode_high s k hlt (by omega)
        have hno : okNum s.data.toList = false := no_num s k hlt (fun h => by have := isDig_iff.1 h; omega)
        have hno' := Lib.hid hno
        clear hno
        have hq : decide ((((Utf8.decode s k).1 : Nat) : Int) < 48) = false := by simp; omega
        go_wp2
        go_ret
        exact ⟨by rw [hno'.out]; rfl, (Below.refl _ _).alloc (Nat.le_refl _) _⟩
    · obtain rfl : k = s.size := by omega
      have hnx := fun ty => run_next_end (P := Tryd.prog) w s s.size ty hlt
      have hall : s.data.toList.all isDig = true := all_dig s hd.out
      have Hall := Lib.hid hall
      clear hall
      by_cases h1 : s.data.toList = [48]
      · have b1 : (s.toList == [48]) = true := by rw [ByteArray.toList_eq, h1]; rfl
        go_wp2
        go_ret
        exact ⟨by unfold okNum; rw [Hall.out, h1]; rfl, (Below.refl _ _).alloc (Nat.le_refl _) _⟩
      · have b1 : (s.toList == [48]) = false := by rw [ByteArray.toList_eq]; simpa using h1
        have B1 : Hid ((s.data.toList == [48]) = false) := by show _ = _; simpa using h1
        rcases Nat.eq_zero_or_pos s.size with h0 | h0
        · have b2 : s.toList.isEmpty = true := by rw [ByteArray.toList_eq]; simp at h0; simp [h0]
          have B2 : Hid (s.data.toList.length = 0) := by show _ = _; simpa using h0
          clear h0 h1
          go_wp2
          go_ret
          exact ⟨by unfold okNum; rw [Hall.out, B1.out, B2.out]; rfl, (Below.refl _ _).alloc (Nat.le_refl _) _⟩
        · have b2 : s.toList.isEmpty = false := by rw [ByteArray.toList_eq, List.isEmpty_eq_false_iff, ← List.length_pos_iff]; simpa using h0
          have hb : okNum s.data.toList = ((((s[0]'h0).toNat : Nat) : Int) != 48) := okNum_head s h0 Hall.out B1.out
          have HB := Lib.hid hb
          clear hb h1 B1
          go_wp2
          go_ret
          exact ⟨by rw [HB.out]; rfl, (Below.refl _ _).alloc (Nat.le_refl _) _⟩
end Go.Proofs.YtbfbijokhlkekaaDoor

/- 'readDigits': the limbs of a text of digits. -/
namespace Go.Proofs.YtbfbijokhlkekaaDoor
open Go.RowKit

theorem Blk.iterAt {k : IntKind} {t : TypeId} {w : World} {g : Nat} {L : List Nat} (h : Blk k t w g L) {K : Nat} (hK : g ≠ K) (s : ByteArray) (p : Nat) : Blk k t (w.iterAt K s p) g L := (Lib.iterAt_other w K g s p hK).trans h

theorem iterPos_of {w : World} {K p : Nat} {s : ByteArray} (h : w.heap[K]? = some (.stringIter s p)) : w.iterPos K = p := by unfold World.iterPos; rw [h]
set_option maxHeartbeats 1600000 in
theorem readDigits_any (s : ByteArray) (w : World) (hs : 0 < s.size) (hs2 : s.size ≤ 100000) (hd : ∀ c ∈ s.data.toList, isDig c = true) :
    Calls Tryd.prog 43 #[.string s] w fun e w' => ∃ A c L, e = .returned (.slice A L.length c) ∧ Row .u32 w' w'.heap.size A c L ∧ Canon L ∧ valB 1000000000 L = numOf s.data.toList ∧ L.length ≤ (s.size + 8) / 9 ∧ Below w.heap.size w w' := by
  obtain ⟨i0, hi, hz0, hz1, hz2⟩ := info_parts info68
  have hlen : s.data.toList.length = s.size := by simp
  have hinv := fun i h => rd_inv (s := s.data.toList) hd i h
  have hget : ∀ i (h : i < s.size), ((s[i]'h).toNat - 48 = digAt s.data.toList i) ∧ 48 ≤ (s[i]'h).toNat ∧ (s[i]'h).toNat ≤ 57 := fun i h => by
    have e := toList_get s i h
    have h1 := isDig_iff.1 (hd _ (List.getElem_mem (by simpa using h : i < s.data.toList.length)))
    rw [e] at h1
    refine ⟨?_, h1⟩
    simp only [digAt, List.getD_eq_getElem?_getD, List.getElem?_eq_getElem (by simpa using h : i < s.data.toList.length), Option.getD_some]
    rw [e]
  generalize hS : s.data.toList = S at *
  rw [hlen] at hinv
  have HINV := Lib.hid hinv
  have HLEN := Lib.hid hlen
  have HGET := Lib.hid hget
  clear hlen hinv hget hS hd
  go_enter Tryd.func43, Tryd.ntmps43
  go_wp2_with (refine wpList_make_zeros _ rfl (.tmp 11) (.tmp 11) 23 rfl 68 .u32 i0 4 Tryd.underlying23 hi hz0 hz1 hz2 .i64 .i64 _ _ ((s.size + 8) / 9) rfl rfl ?_ ?_ ?_ ?_ ?_; (omega); (omega); (omega); (omega); intro w1 hb1 hB1 hs1)
  have hsz := Lib.hid hs1
  clear hs1
  generalize hM0 : List.replicate ((s.size + 8) / 9) 0 = M0 at *
  have HM0 := Lib.hid hM0
  clear hM0
  go_loopw [] (fun wr => ∃ k : Nat, k ≤ s.size ∧ Hid (wr.heap[w1.heap.size]? = some (.stringIter s k)) ∧ Hid (Blk .u32 68 wr w.heap.size (rdSt S M0 k)) ∧ Below w.heap.size w wr) (fun wr => s.size - wr.iterPos w1.heap.size)
  case atStart =>
    refine ⟨0, Nat.zero_le _, World.iter_heap _ _ _, ?_, hB1.trans ((Below.refl _ _).alloc hB1.size _)⟩
    exact Blk.alloc hb1.out _
  case round =>
    obtain ⟨k, hk, hit, hb, hbw⟩ := hrel
    have hKg : w.heap.size ≠ w1.heap.size := by have := hsz.out; omega
    have HI := HINV.out k hk
    by_cases hlt : k < s.size
    · obtain ⟨g1, g2, g3⟩ := HGET.out k hlt
      have hroom := rd_room HI rfl hlt
      have hnx := fun ty => Lib.run_next_ascii_at (P := Tryd.prog) wr w1.heap.size s k ty hit.out hlt (by omega)
      have hb' := hb.out.iterAt hKg s (k + 1)
      have hst := rdSt_succ S M0 k
      rw [HLEN.out, ← g1] at hst
      have HST := Lib.hid hst
      have hlenM := HI.len
      clear HI
      generalize rdSt S M0 k = M at *
      obtain ⟨r1, r2⟩ := hroom
      have hc := hb'.cell ((s.size - 1 - k) / 9) (by omega)
      have hfr := hb'.frozen ((s.size - 1 - k) / 9)
      have hi1 : (((s.size : Int) - 1 - (k : Int)) / 9) = (((s.size - 1 - k) / 9 : Nat) : Int) := by omega
      have G1 := Lib.hid g1
      clear g1 hlenM hst
      go_wp2
      have hit2 : ((wr.iterAt w1.heap.size s (k + 1)).setCell ⟨w.heap.size, (s.size - 1 - k) / 9, none⟩ (.int .u32 ((nth M ((s.size - 1 - k) / 9) : Int) * 10 + (((s[k]'hlt).toNat : Int) - 48)))).heap[w1.heap.size]? = some (.stringIter s (k + 1)) :=
        (Below.heap_setCell _ _ _ _ (by show w1.heap.size ≠ w.heap.size; omega)).trans (Lib.iterAt_heap wr w1.heap.size s k (k + 1) hit.out)
      go_roundw
      case rel =>
        refine ⟨k + 1, by omega, hit2, ?_, ?_⟩
        · show Blk _ _ _ _ _
          rw [HST.out]
          exact hb'.setI _ (by omega)
        · exact (Lib.below_iterAt hbw (by have := hsz.out; omega) s (k + 1)).setCell (by simp) _
      case measure =>
        rw [iterPos_of hit2, iterPos_of hit.out]; omega
    · obtain rfl : k = s.size := by omega
      have hnx := fun ty => Lib.run_next_end_at (P := Tryd.prog) wr w1.heap.size s s.size ty hit.out hlt
      have hlenM := HI.len
      have hv := rd_end HI (by omega)
      have hlim := HI.lim
      rw [List.take_of_length_le (by rw [HLEN.out]; exact Nat.le_refl _)] at hv
      have hbb := hb.out
      have hT := trim_any (some ⟨w.heap.size, 0, none⟩) ((s.size + 8) / 9) w.heap.size 0 (rdSt S M0 s.size) wr (by omega) (by omega) (fun _ => rfl) hbb.cells
      rw [hlenM] at hT
      have hw := hbb.lt
      have HTT := Lib.hid hT
      have HB := Lib.hid hbb
      have HL := Lib.hid hlenM
      have HV := Lib.hid hv
      clear hT hbb hlenM hv hit hb HI
      generalize rdSt S M0 s.size = M at *
      go_wp2_with fail
      refine HTT.out.mono ?_
      rintro e w4 ⟨rfl, rfl⟩
      go_wp2_with fail
      go_ret
      have htl := trimN_le M ((s.size + 8) / 9)
      have el : (M.take (trimN M ((s.size + 8) / 9))).length = trimN M ((s.size + 8) / 9) := by rw [List.length_take, HL.out]; omega
      refine ⟨some ⟨w.heap.size, 0, none⟩, (s.size + 8) / 9, M.take (trimN M ((s.size + 8) / 9)), ?_, ?_, ⟨hlim.take _, ?_⟩, ?_, ?_, hbw⟩
      · rw [el]; rfl
      · exact (Row.ofBlk HB.out hw (by rw [HL.out]; exact Nat.le_refl _)).take _
      · rw [el]; intro h; rw [nth_take (by omega)]; exact trimN_top _ _ h
      · rw [trimN_val _ _ _ (by rw [HL.out]; exact Nat.le_refl _), List.take_of_length_le (by rw [HL.out]; exact Nat.le_refl _)]; exact HV.out
      · rw [el]; exact htl
end Go.Proofs.YtbfbijokhlkekaaDoor

/- 'signed' makes an integer of a sign and limbs. -/
namespace Go.Proofs.YtbfbijokhlkekaaDoor
open Go.RowKit

set_option maxHeartbeats 400000 in
theorem signed_any (neg : Bool) (A : Option Addr) (c n : Nat) (w : World) :
    Calls Tryd.prog 42 #[.bool neg, .slice A n c] w fun e w' => e = .returned (.agg #[.bool (neg && decide (0 < n)), .slice A n c]) ∧ Below w.heap.size w w' := by
  rcases Nat.eq_zero_or_pos n with rfl | hn
  · have hd : decide ((0 : Int) < ((0 : Nat) : Int)) = false := by simp
    cases neg
    · go_enter Tryd.func42, Tryd.ntmps42
      go_wp2
      exact bodyPost_ret (v := .agg #[.bool false, .slice A 0 c]) (by simp [results, Tryd.results42, go_sem]) rfl ⟨rfl, ((Below.refl _ _).alloc (Nat.le_refl _) _)⟩
    · go_enter Tryd.func42, Tryd.ntmps42
      go_wp2
      exact bodyPost_ret (v := .agg #[.bool false, .slice A 0 c]) (by simp [results, Tryd.results42, go_sem]) rfl ⟨rfl, ((Below.refl _ _).alloc (Nat.le_refl _) _)⟩
  · have hd : decide ((0 : Int) < (n : Int)) = true := by simp; omega
    cases neg
    · go_enter Tryd.func42, Tryd.ntmps42
      go_wp2
      exact bodyPost_ret (v := .agg #[.bool false, .slice A n c]) (by simp [results, Tryd.results42, go_sem]) rfl ⟨rfl, ((Below.refl _ _).alloc (Nat.le_refl _) _)⟩
    · go_enter Tryd.func42, Tryd.ntmps42
      go_wp2
      exact bodyPost_ret (v := .agg #[.bool true, .slice A n c]) (by simp [results, Tryd.results42, go_sem]) rfl ⟨by simp [hn], ((Below.refl _ _).alloc (Nat.le_refl _) _)⟩
end Go.Proofs.YtbfbijokhlkekaaDoor

/- 'Parse': the integer with a decimal text, or why there is none. -/
namespace Go.Proofs.YtbfbijokhlkekaaDoor
open Go.RowKit

/-- A text without its sign, and whether it has one. -/
def restOf (l : List UInt8) : List UInt8 := Lib.trimPrefix l [45]
def negOf (l : List UInt8) : Bool := Lib.hasPrefix l [45]
def badNum (l : List UInt8) : Bool := !okNum (restOf l) || (negOf l && restOf l == [48])
theorem restOf_le (l : List UInt8) : (restOf l).length ≤ l.length := by
  unfold restOf Lib.trimPrefix
  split <;> simp
/-- The error of a text, as a number. -/
def errOf (l : List UInt8) : Int := if badNum l then 3 else if 2000 < (restOf l).length then 6 else 0

/-- A value that is an integer: its sign and limbs. -/
structure IntR (w : World) (B : Nat) (neg : Bool) (A : Option Addr) (c : Nat) (L : List Nat) : Prop where
  row : Row .u32 w B A c L
  canon : Canon L
  sgn : neg = true → L ≠ []
theorem IntR.zero (w : World) (B : Nat) (A : Option Addr) (c : Nat) : IntR w B false A c [] := ⟨Row.nil _ _ _ _ _, ⟨fun _ h => absurd h (List.not_mem_nil), fun h => absurd h (Nat.lt_irrefl 0)⟩, fun h => absurd h Bool.false_ne_true⟩
theorem IntR.below {w w' : World} {B : Nat} {neg : Bool} {A : Option Addr} {c : Nat} {L : List Nat} (h : IntR w B neg A c L) (hb : Below B w w') : IntR w' B neg A c L := ⟨h.row.below hb, h.canon, h.sgn⟩
theorem IntR.more {w : World} {B B' : Nat} {neg : Bool} {A : Option Addr} {c : Nat} {L : List Nat} (h : IntR w B neg A c L) (hb : B ≤ B') : IntR w B' neg A c L := ⟨h.row.more hb, h.canon, h.sgn⟩

/-- A row of numbers lies in another block than the box of a struct that holds none: storing into the box leaves it. -/
theorem Row.box {k : IntKind} {w w1 : World} {B : Nat} {A : Option Addr} {c : Nat} {L : List Nat} {x y : Value} {t : TypeId} (h : Row k w1 B A c L) (hb : Below (w.heap.size + 1) (w.alloc (.cells #[x, y] t)) w1)
    (hx : ∀ n, x ≠ .int k n) (hy : ∀ n, y ≠ .int k n) (u v : Value) : Row k ((w1.setCell ⟨w.heap.size, 0, none⟩ u).setCell ⟨w.heap.size, 1, none⟩ v) B A c L := by
  refine ⟨h.len, fun hp => ?_⟩
  obtain ⟨b, o, e, hbB, hc⟩ := h.spot hp
  have hne : b ≠ w.heap.size := by
    rintro rfl
    have h0 := hc 0 hp
    rw [hb.cell (by show w.heap.size < _; omega)] at h0
    unfold World.cell? at h0
    dsimp only at h0
    rw [heap_alloc_new] at h0
    match o, h0 with
    | 0, h0 => exact hx _ (Option.some.inj h0)
    | 1, h0 => exact hy _ (Option.some.inj h0)
    | o + 2, h0 => simp at h0
  refine ⟨b, o, e, hbB, hc.keep fun j => ?_⟩
  rw [World.cell?_setCell_other _ _ _ _ (fun e => hne (congrArg Addr.block e).symm), World.cell?_setCell_other _ _ _ _ (fun e => hne (congrArg Addr.block e).symm)]
theorem setCell_size (w : World) (p : Addr) (u : Value) : (w.setCell p u).heap.size = w.heap.size := by simp [World.setCell]

set_option maxRecDepth 20000 in
set_option maxHeartbeats 1600000 in
theorem parse_bad (s : ByteArray) (w : World) (hs : s.size ≤ 1000000) (hbad : badNum s.data.toList = true) :
    Calls Tryd.prog 13 #[.string s] w fun e w' => e = .returned (.tuple #[.agg #[.bool false, .slice none 0 0], .int .i64 3]) ∧ Below w.heap.size w w' := by
  have hcp := fun W => Tryd.strings_CutPrefix s ⟨#[45]⟩ W
  have HCP := Lib.hid hcp
  clear hcp
  go_enter Tryd.func13, Tryd.ntmps13
  go_wp2_with fail
  refine (HCP.out _).mono ?_
  rintro e w1 ⟨rfl, rfl⟩
  go_wp2_with fail
  have hD : (⟨(Lib.trimPrefix s.data.toList (#[45] : Array UInt8).toList).toArray⟩ : ByteArray).data.toList = restOf s.data.toList := rfl
  generalize (⟨(Lib.trimPrefix s.data.toList (#[45] : Array UInt8).toList).toArray⟩ : ByteArray) = D at *
  have hDs : D.size ≤ 1000000 := by
    have h1 : D.size = (restOf s.data.toList).length := by rw [← hD]; simp
    have h2 := restOf_le s.data.toList
    have h3 : s.data.toList.length = s.size := by simp
    omega
  have HN := Lib.hid (isNumber_any D (w.alloc (Obj.cells #[Value.bool false, Value.slice none 0 0] 25)) hDs)
  have HX : badNum s.data.toList = (!okNum D.data.toList || (Lib.hasPrefix s.data.toList [45] && D.data.toList == [48])) := by rw [hD]; rfl
  rw [hbad] at HX
  clear hD
  refine HN.out.mono ?_
  rintro e w2 ⟨rfl, hb2⟩
  have X := boxed hb2
  have hx0 := X.1
  have hx1 := X.2.1
  have hs2 := X.2.2.1
  have hbx := X.2.2.2
  have hf0 := hb2.frozen (p := ⟨w.heap.size, 0, none⟩) (by simp)
  have hf1 := hb2.frozen (p := ⟨w.heap.size, 1, none⟩) (by simp)
  have hfw : ∀ i, (w.alloc (Obj.cells #[Value.bool false, Value.slice none 0 0] 25)).frozen? ⟨w.heap.size, i, none⟩ = false := fun i => by unfold World.frozen?; dsimp only; rw [heap_alloc_new]; simp
  rw [hfw] at hf0 hf1
  have hbw : Below w.heap.size w w2 := (below_alloc_new _).trans (Below.less hbx (Nat.le_succ _))
  clear X hb2 hbx hfw
  by_cases hok : okNum D.data.toList = false
  · clear HX
    go_wp2
    exact bodyPost_ret (v := .tuple #[.agg #[.bool false, .slice none 0 0], .int .i64 3]) (by simp [results, Tryd.results13, go_sem, hx0, hx1]) rfl ⟨rfl, (hbw.setCell (by simp) _).setCell (by simp) _⟩
  · simp only [Bool.not_eq_false] at hok
    rw [hok] at HX
    have hneg : Lib.hasPrefix s.data.toList [45] = true := by
      revert HX; cases Lib.hasPrefix s.data.toList [45] <;> simp
    have h48 : (D.toList == [48]) = true := by
      rw [ByteArray.toList_eq]; revert HX; rw [hneg]; simp
    clear HX
    go_wp2
    exact bodyPost_ret (v := .tuple #[.agg #[.bool false, .slice none 0 0], .int .i64 3]) (by simp [results, Tryd.results13, go_sem, hx0, hx1]) rfl ⟨rfl, (hbw.setCell (by simp) _).setCell (by simp) _⟩
set_option maxRecDepth 20000 in
set_option maxHeartbeats 1600000 in
theorem parse_long (s : ByteArray) (w : World) (hs : s.size ≤ 1000000) (hbad : badNum s.data.toList = false) (hlong : 2000 < (restOf s.data.toList).length) :
    Calls Tryd.prog 13 #[.string s] w fun e w' => e = .returned (.tuple #[.agg #[.bool false, .slice none 0 0], .int .i64 6]) ∧ Below w.heap.size w w' := by
  have hcp := fun W => Tryd.strings_CutPrefix s ⟨#[45]⟩ W
  have HCP := Lib.hid hcp
  clear hcp
  go_enter Tryd.func13, Tryd.ntmps13
  go_wp2_with fail
  refine (HCP.out _).mono ?_
  rintro e w1 ⟨rfl, rfl⟩
  go_wp2_with fail
  have hD : (⟨(Lib.trimPrefix s.data.toList (#[45] : Array UInt8).toList).toArray⟩ : ByteArray).data.toList = restOf s.data.toList := rfl
  generalize (⟨(Lib.trimPrefix s.data.toList (#[45] : Array UInt8).toList).toArray⟩ : ByteArray) = D at *
  have hDs : D.size ≤ 1000000 := by
    have h1 : D.size = (restOf s.data.toList).length := by rw [← hD]; simp
    have h2 := restOf_le s.data.toList
    have h3 : s.data.toList.length = s.size := by simp
    omega
  have HN := Lib.hid (isNumber_any D (w.alloc (Obj.cells #[Value.bool false, Value.slice none 0 0] 25)) hDs)
  have HX : badNum s.data.toList = (!okNum D.data.toList || (Lib.hasPrefix s.data.toList [45] && D.data.toList == [48])) := by rw [hD]; rfl
  rw [hbad] at HX
  have hlo : 2000 < D.size := by have h1 : D.size = (restOf s.data.toList).length := by rw [← hD]; simp
                                 omega
  clear hD hlong
  refine HN.out.mono ?_
  rintro e w2 ⟨rfl, hb2⟩
  have X := boxed hb2
  have hx0 := X.1
  have hx1 := X.2.1
  have hs2 := X.2.2.1
  have hbx := X.2.2.2
  have hf0 := hb2.frozen (p := ⟨w.heap.size, 0, none⟩) (by simp)
  have hf1 := hb2.frozen (p := ⟨w.heap.size, 1, none⟩) (by simp)
  have hfw : ∀ i, (w.alloc (Obj.cells #[Value.bool false, Value.slice none 0 0] 25)).frozen? ⟨w.heap.size, i, none⟩ = false := fun i => by unfold World.frozen?; dsimp only; rw [heap_alloc_new]; simp
  rw [hfw] at hf0 hf1
  have hbw : Below w.heap.size w w2 := (below_alloc_new _).trans (Below.less hbx (Nat.le_succ _))
  clear X hb2 hbx hfw
  have hok : okNum D.data.toList = true := by revert HX; cases okNum D.data.toList <;> simp
  rw [hok] at HX
  by_cases hneg : Lib.hasPrefix s.data.toList [45] = true
  · have h48 : (D.toList == [48]) = false := by
      rw [ByteArray.toList_eq]; revert HX; rw [hneg]; simp
    clear HX
    go_wp2
    exact bodyPost_ret (v := .tuple #[.agg #[.bool false, .slice none 0 0], .int .i64 6]) (by simp [results, Tryd.results13, go_sem, hx0, hx1]) rfl ⟨rfl, (hbw.setCell (by simp) _).setCell (by simp) _⟩
  · simp only [Bool.not_eq_true] at hneg
    clear HX
    go_wp2
    exact bodyPost_ret (v := .tuple #[.agg #[.bool false, .slice none 0 0], .int .i64 6]) (by simp [results, Tryd.results13, go_sem, hx0, hx1]) rfl ⟨rfl, (hbw.setCell (by simp) _).setCell (by simp) _⟩

theorem okNum_parts {l : List UInt8} (h : okNum l = true) : (∀ c ∈ l, isDig c = true) ∧ l ≠ [] ∧ (l = [48] ∨ l.head? ≠ some 48) := by
  unfold okNum at h
  rw [Bool.and_eq_true, Bool.or_eq_true, Bool.and_eq_true, List.all_eq_true] at h
  obtain ⟨h1, h2⟩ := h
  refine ⟨h1, ?_, ?_⟩
  · rintro rfl; simp at h2
  · rcases h2 with h2 | h2
    · left; simpa using h2
    · right; simpa using h2.2

set_option maxRecDepth 20000 in
set_option maxHeartbeats 1600000 in
theorem parse_ok (s : ByteArray) (w : World) (hs : s.size ≤ 1000000) (hbad : badNum s.data.toList = false) (hshort : (restOf s.data.toList).length ≤ 2000) :
    Calls Tryd.prog 13 #[.string s] w fun e w' => ∃ A c L, e = .returned (.tuple #[.agg #[.bool (negOf s.data.toList), .slice A L.length c], .int .i64 0]) ∧ IntR w' w'.heap.size (negOf s.data.toList) A c L ∧ valB 1000000000 L = numOf (restOf s.data.toList) ∧ L.length ≤ 223 ∧ Below w.heap.size w w' := by
  have hcp := fun W => Tryd.strings_CutPrefix s ⟨#[45]⟩ W
  have HCP := Lib.hid hcp
  clear hcp
  go_enter Tryd.func13, Tryd.ntmps13
  go_wp2_with fail
  refine (HCP.out _).mono ?_
  rintro e w1 ⟨rfl, rfl⟩
  go_wp2_with fail
  have hD : (⟨(Lib.trimPrefix s.data.toList (#[45] : Array UInt8).toList).toArray⟩ : ByteArray).data.toList = restOf s.data.toList := rfl
  generalize (⟨(Lib.trimPrefix s.data.toList (#[45] : Array UInt8).toList).toArray⟩ : ByteArray) = D at *
  have hDs : D.size ≤ 1000000 := by
    have h1 : D.size = (restOf s.data.toList).length := by rw [← hD]; simp
    have h2 := restOf_le s.data.toList
    have h3 : s.data.toList.length = s.size := by simp
    omega
  have HN := Lib.hid (isNumber_any D (w.alloc (Obj.cells #[Value.bool false, Value.slice none 0 0] 25)) hDs)
  have HX : badNum s.data.toList = (!okNum D.data.toList || (Lib.hasPrefix s.data.toList [45] && D.data.toList == [48])) := by rw [hD]; rfl
  rw [hbad] at HX
  have hlo : D.size ≤ 2000 := by have h1 : D.size = (restOf s.data.toList).length := by rw [← hD]; simp
                                 omega
  have HD := Lib.hid hD
  clear hD hshort
  refine HN.out.mono ?_
  rintro e w2 ⟨rfl, hb2⟩
  have X := boxed hb2
  have hx0 := X.1
  have hx1 := X.2.1
  have hs2 := X.2.2.1
  have hbx := X.2.2.2
  have hf0 := hb2.frozen (p := ⟨w.heap.size, 0, none⟩) (by simp)
  have hf1 := hb2.frozen (p := ⟨w.heap.size, 1, none⟩) (by simp)
  have hfw : ∀ i, (w.alloc (Obj.cells #[Value.bool false, Value.slice none 0 0] 25)).frozen? ⟨w.heap.size, i, none⟩ = false := fun i => by unfold World.frozen?; dsimp only; rw [heap_alloc_new]; simp
  rw [hfw] at hf0 hf1
  have hbw : Below w.heap.size w w2 := (below_alloc_new _).trans (Below.less hbx (Nat.le_succ _))
  have hbx' := hbx
  clear X hb2 hbx hfw
  have hok : okNum D.data.toList = true := by revert HX; cases okNum D.data.toList <;> simp
  rw [hok] at HX
  obtain ⟨k1, k2, k3⟩ := okNum_parts hok
  have hpos : 0 < D.size := by have := List.length_pos_iff.2 k2; simpa using this
  by_cases hneg : Lib.hasPrefix s.data.toList [45] = true
  · have h48 : (D.toList == [48]) = false := by
      rw [ByteArray.toList_eq]; revert HX; rw [hneg]; simp
    have hp : 0 < numOf D.data.toList := numOf_pos k1 k2 (by rcases k3 with h | h; rw [ByteArray.toList_eq, h] at h48; exact absurd h48 (by decide); exact h)
    clear HX
    go_wp2_with fail
    refine (readDigits_any D _ hpos (by omega) k1).mono ?_
    rintro e w3 ⟨A, c, L, rfl, hr, hcan, hv, hl, hb3⟩
    rw [← hv] at hp
    have hL : 0 < L.length := by
      rcases L with _ | ⟨x, r⟩
      · simp [valB] at hp
      · simp
    have HV := Lib.hid hv
    clear hv
    go_wp2_with fail
    refine (signed_any true A c L.length w3).mono ?_
    rintro e w4 ⟨rfl, hb4⟩
    have hd : (true && decide (0 < L.length)) = true := by simpa using hL
    rw [hd]
    have hby : Below (w.heap.size + 1) (w.alloc (Obj.cells #[Value.bool false, Value.slice none 0 0] 25)) w4 := hbx'.trans (Below.less (hb3.trans (Below.less hb4 hb3.size)) hs2)
    have hrow4 : IntR w4 w3.heap.size true A c L := IntR.below ⟨hr, hcan, fun _ h => by rw [h] at hL; simp at hL⟩ hb4
    have hy0 := (boxed2 hby).1
    have hy1 := (boxed2 hby).2
    have gy0 := boxedF hby 0
    have gy1 := boxedF hby 1
    have hbw4 : Below w.heap.size w w4 := (below_alloc_new _).trans (Below.less hby (Nat.le_succ _))
    have hw34 := hb4.size
    have hw23 := hb3.size
    have HBY := Lib.hid hby
    clear hx0 hx1 hf0 hf1 hbx' hby hb3 hb4 hr hcan
    go_wp2_with fail
    refine bodyPost_ret (v := .tuple #[.agg #[.bool true, .slice A L.length c], .int .i64 0]) (by simp [results, Tryd.results13, go_sem, hy0, hy1]) rfl ⟨A, c, L, by rw [show negOf s.data.toList = true from hneg], ?_, by rw [HV.out, HD.out], by omega, (hbw4.setCell (by simp) _).setCell (by simp) _⟩
    rw [show negOf s.data.toList = true from hneg, setCell_size, setCell_size]
    exact ⟨(hrow4.row.more hw34).box HBY.out (fun _ => by simp) (fun _ => by simp) _ _, hrow4.canon, hrow4.sgn⟩
  · simp only [Bool.not_eq_true] at hneg
    clear HX
    go_wp2_with fail
    refine (readDigits_any D _ hpos (by omega) k1).mono ?_
    rintro e w3 ⟨A, c, L, rfl, hr, hcan, hv, hl, hb3⟩
    have HV := Lib.hid hv
    clear hv
    go_wp2_with fail
    refine (signed_any false A c L.length w3).mono ?_
    rintro e w4 ⟨rfl, hb4⟩
    have hd : (false && decide (0 < L.length)) = false := rfl
    rw [hd]
    have hby : Below (w.heap.size + 1) (w.alloc (Obj.cells #[Value.bool false, Value.slice none 0 0] 25)) w4 := hbx'.trans (Below.less (hb3.trans (Below.less hb4 hb3.size)) hs2)
    have hrow4 : IntR w4 w3.heap.size false A c L := IntR.below ⟨hr, hcan, fun h => absurd h Bool.false_ne_true⟩ hb4
    have hy0 := (boxed2 hby).1
    have hy1 := (boxed2 hby).2
    have gy0 := boxedF hby 0
    have gy1 := boxedF hby 1
    have hbw4 : Below w.heap.size w w4 := (below_alloc_new _).trans (Below.less hby (Nat.le_succ _))
    have hw34 := hb4.size
    have hw23 := hb3.size
    have HBY := Lib.hid hby
    clear hx0 hx1 hf0 hf1 hbx' hby hb3 hb4 hr hcan
    go_wp2_with fail
    refine bodyPost_ret (v := .tuple #[.agg #[.bool false, .slice A L.length c], .int .i64 0]) (by simp [results, Tryd.results13, go_sem, hy0, hy1]) rfl ⟨A, c, L, by rw [show negOf s.data.toList = false from hneg], ?_, by rw [HV.out, HD.out], by omega, (hbw4.setCell (by simp) _).setCell (by simp) _⟩
    rw [show negOf s.data.toList = false from hneg, setCell_size, setCell_size]
    exact ⟨(hrow4.row.more hw34).box HBY.out (fun _ => by simp) (fun _ => by simp) _ _, hrow4.canon, hrow4.sgn⟩
end Go.Proofs.YtbfbijokhlkekaaDoor

/- 'multiply': the product of two rows, as one does on paper. -/
namespace Go.Proofs.YtbfbijokhlkekaaDoor
open Go.RowKit

set_option maxHeartbeats 1600000 in
theorem multiply_any (A A' : Option Addr) (c c' : Nat) (L M : List Nat) (w : World) (hl : L.length ≤ 1000000) (hml : M.length ≤ 1000000)
    (hL : Lim L) (hM : Lim M) (hR : Row .u32 w w.heap.size A c L) (hR' : Row .u32 w w.heap.size A' c' M) :
    Calls Tryd.prog 57 #[.slice A L.length c, .slice A' M.length c'] w fun e w' =>
      e = .returned (.slice (some ⟨w.heap.size, 0, none⟩) (trimN (mulSt L M (List.replicate (L.length + M.length) 0) L.length) (L.length + M.length)) (L.length + M.length)) ∧
        Blk .u32 68 w' w.heap.size (mulSt L M (List.replicate (L.length + M.length) 0) L.length) ∧ Below w.heap.size w w' := by
  obtain ⟨i0, hi, hz0, hz1, hz2⟩ := info_parts info68
  have hZ : Lim (List.replicate (L.length + M.length) 0) := fun d hd => by have := (List.mem_replicate.1 hd).2; omega
  have hZl : (List.replicate (L.length + M.length) 0).length = L.length + M.length := by simp
  generalize hz : List.replicate (L.length + M.length) 0 = Z at *
  generalize hl' : L.length = l at *
  generalize hm' : M.length = m at *
  have HL := Lib.hid hl'
  have HM := Lib.hid hm'
  have HZ := Lib.hid hz
  have HZL := Lib.hid hZl
  clear hl' hm' hz hZl
  go_enter Tryd.func57, Tryd.ntmps57
  go_wp2_with (first
    | (refine wpList_make_zeros _ rfl (.tmp 16) (.tmp 16) 23 rfl 68 .u32 i0 4 Tryd.underlying23 hi hz0 hz1 hz2 .i64 .i64 _ _ (l + m) rfl rfl (by omega) (by omega) (by omega) (by omega) ?_; intro w1 hb1 hB1 hs1)
    | fail)
  have hb1' := hb1.out
  rw [HZ.out] at hb1'
  have hg := hb1'.lt
  clear hs1 hb1
  go_loopw [20] (fun iv wr => ∃ i : Nat, i ≤ l ∧ iv = .int .i64 i ∧ Blk .u32 68 wr w.heap.size (mulSt L M Z i) ∧ w1.grownBy wr (some w.heap.size)) (fun iv _ => l - (intOf iv).toNat)
  case atStart => exact ⟨0, Nat.zero_le _, rfl, hb1', grown_refl _ _⟩
  case round =>
    obtain ⟨i, hk, rfl, hb, hgr⟩ := hrel
    obtain ⟨h1, h2⟩ := mulSt_ok hL hM hZ i
    have HS := Lib.hid (mulSt_succ L M Z i)
    have h3 : (mulSt L M Z i).length = l + m := by rw [h2, HZL.out]
    clear h2
    generalize hs : mulSt L M Z i = S at *
    have HK := Lib.hid hs
    have H3 := Lib.hid h3
    clear hs h3
    by_cases hlt : i < l
    · obtain ⟨b, o, rfl, hbg, hcell⟩ := hR.spot (by rw [HL.out]; omega)
      have hcx := ((hcell.below hB1 hbg).grown hgr (by omega) (by intro e; injection e; omega)) i (by rw [HL.out]; exact hlt)
      have hx := hL.nth i
      generalize hxx : nth L i = x at *
      have HX := Lib.hid hxx
      clear hcell hxx
      go_wp2
      have hbS := hb
      go_loopw [8, 27] (fun cv jv wq => ∃ j : Nat, j ≤ m ∧ jv = .int .i64 j ∧ cv = .int .u64 (mulRow x i M S j).2 ∧ Blk .u32 68 wq w.heap.size (mulRow x i M S j).1 ∧ w1.grownBy wq (some w.heap.size)) (fun _ jv _ => m - (intOf jv).toNat)
      case atStart => exact ⟨0, Nat.zero_le _, rfl, rfl, hbS, hgr⟩
      case round =>
        obtain ⟨j, hj, rfl, rfl, hbq, hgq⟩ := hrel
        obtain ⟨g1, g2, g3⟩ := mulRow_ok (o := i) hx hM h1 j
        have HS' := Lib.hid (mulRow_succ x i M S j)
        generalize hq : mulRow x i M S j = q at *
        have HQ := Lib.hid hq
        clear hq
        obtain ⟨Q, y⟩ := q
        dsimp only at *
        rw [H3.out] at g3
        have G3 := Lib.hid g3
        clear g3
        by_cases hjt : j < m
        · obtain ⟨b', o', rfl, hbg', hcell'⟩ := hR'.spot (by rw [HM.out]; omega)
          have hcy := ((hcell'.below hB1 hbg').grown hgq (by omega) (by intro e; injection e; omega)) j (by rw [HM.out]; exact hjt)
          have hc := hbq.cell (i + j) (by rw [G3.out]; omega)
          have hfr := hbq.frozen (i + j)
          have b1 := g1.nth (i + j)
          have b2 := hM.nth j
          have b4 := mul_lt_limI hx b2
          have b5 := mul_nonnegI x (nth M j)
          clear hcell'
          go_wp2
          go_roundw
          case rel =>
            have E := HS'.out
            have e1 := hbq.setI (i + j) (v := ((x : Int) * (nth M j : Int) + (nth Q (i + j) : Int) + (y : Int)) % 1000000000) (x := (x * nth M j + nth Q (i + j) + y) % 1000000000) (by simp)
            exact ⟨j + 1, by omega, by go_num, by rw [E]; simp, by rw [E]; exact e1, grown_set hgq _ _⟩
          case measure => simp [intOf]; omega
        · obtain rfl : j = m := by omega
          have hc := hbq.cell (i + j) (by rw [G3.out]; omega)
          have hfr := hbq.frozen (i + j)
          go_wp2
          go_roundw
          case rel =>
            have E := HS.out
            rw [HM.out, HQ.out] at E
            exact ⟨i + 1, by omega, by go_num, by rw [E]; exact hbq.set_ _ _, grown_set hgq _ _⟩
          case measure => simp [intOf]; omega
    · obtain rfl : i = l := by omega
      have hT := trim_any (some ⟨w.heap.size, 0, none⟩) (i + m) w.heap.size 0 S wr (by rw [H3.out]; omega) (by rw [H3.out]; omega) (fun _ => rfl) hb.cells
      rw [H3.out] at hT
      have hB : Below w.heap.size w wr := grown_below hB1 hgr (Nat.le_refl _) hB1.size
      have hb9 := Lib.hid hb
      have HT := Lib.hid hT
      clear hT hb
      go_wp2_with fail
      refine HT.out.mono ?_
      rintro e w4 ⟨rfl, rfl⟩
      go_wp2_with fail
      go_ret
      have hk' := HK.out
      rw [hk']
      exact ⟨rfl, hb9.out, hB⟩
end Go.Proofs.YtbfbijokhlkekaaDoor

/- 'subtract' takes a row away from a row that is not less. -/
namespace Go.Proofs.YtbfbijokhlkekaaDoor
open Go.RowKit

set_option maxHeartbeats 1600000 in
theorem subtract_any (A A' : Option Addr) (c c' : Nat) (L M : List Nat) (w : World) (hl : L.length ≤ 1000000) (hml : M.length ≤ L.length)
    (hL : Lim L) (hM : Lim M) (hR : Row .u32 w w.heap.size A c L) (hR' : Row .u32 w w.heap.size A' c' M) :
    Calls Tryd.prog 52 #[.slice A L.length c, .slice A' M.length c'] w fun e w' =>
      e = .returned (.slice (some ⟨w.heap.size, 0, none⟩) (trimN (subSt M L L.length).1 L.length) L.length) ∧ Blk .u32 68 w' w.heap.size (subSt M L L.length).1 ∧ Below w.heap.size w w' := by
  have hCp := fun W h => copied_any A c L W (by omega) h
  generalize hl' : L.length = l at *
  generalize hm' : M.length = m at *
  have HL := Lib.hid hl'
  have HM := Lib.hid hm'
  clear hl' hm'
  have HCp := Lib.hid hCp
  clear hCp
  go_enter Tryd.func52, Tryd.ntmps52
  go_wp2_with fail
  refine (HCp.out _ hR).mono ?_
  rintro e w1 ⟨rfl, hb1, hB1⟩
  have hg := hb1.lt
  go_wp2_with fail
  go_loopw [6, 13] (fun cv iv wr => ∃ k : Nat, k ≤ l ∧ iv = .int .i64 k ∧ cv = .int .u32 (subSt M L k).2 ∧ Blk .u32 68 wr w.heap.size (subSt M L k).1 ∧ w1.grownBy wr (some w.heap.size)) (fun _ iv _ => l - (intOf iv).toNat)
  case atStart => exact ⟨0, Nat.zero_le _, rfl, rfl, hb1, grown_refl _ _⟩
  case round =>
    obtain ⟨k, hk, rfl, rfl, hb, hgr⟩ := hrel
    obtain ⟨h1, h2, h3⟩ := subSt_ok hM hL k
    have HS := Lib.hid (subSt_succ M L k)
    generalize hs : subSt M L k = s at *
    have HK := Lib.hid hs
    clear hs
    obtain ⟨S, x⟩ := s
    dsimp only at *
    rw [HL.out] at h3
    have hls : l = S.length := h3.symm
    clear h3
    by_cases hlt : k < l
    · have hc := hb.cell k (by omega)
      have hfr := hb.frozen k
      have b1 := h1.nth k
      have b2 := hM.nth k
      clear hls
      by_cases hkl : k < m
      · obtain ⟨b', o', rfl, hbg, hcell'⟩ := hR'.spot (by rw [HM.out]; omega)
        have hc' := ((hcell'.below hB1 hbg).grown hgr (by omega) (by intro e; injection e; omega)) k (by rw [HM.out]; exact hkl)
        clear hcell'
        by_cases hbo : nth S k < x + nth M k
        · go_wp2
          go_roundw
          case rel =>
            have E := HS.out
            rw [if_pos hbo] at E
            have e1 := (hb.setI k (v := (nth S k : Int) + 1000000000) (x := nth S k + 1000000000) (by omega)).setI k (v := (nth S k : Int) + 1000000000 - (x + nth M k)) (x := nth S k + 1000000000 - (x + nth M k)) (by omega)
            rw [List.set_set] at e1
            exact ⟨k + 1, by omega, by go_num, by rw [E]; simp, by rw [E]; exact e1, grown_set (grown_set hgr _ _) _ _⟩
          case measure => simp [intOf]; omega
        · go_wp2
          go_roundw
          case rel =>
            have E := HS.out
            rw [if_neg hbo] at E
            have e1 := hb.setI k (v := (nth S k : Int) - (x + nth M k)) (x := nth S k - (x + nth M k)) (by omega)
            exact ⟨k + 1, by omega, by go_num, by rw [E]; simp, by rw [E]; exact e1, grown_set hgr _ _⟩
          case measure => simp [intOf]; omega
      · have HZ := Lib.hid (nth_ge (L := M) (k := k) (by rw [HM.out]; omega))
        by_cases hbo : nth S k < x
        · go_wp2
          go_roundw
          case rel =>
            have E := HS.out
            simp only [HZ.out, Nat.add_zero] at E; rw [if_pos hbo] at E
            have e1 := (hb.setI k (v := (nth S k : Int) + 1000000000) (x := nth S k + 1000000000) (by omega)).setI k (v := (nth S k : Int) + 1000000000 - x) (x := nth S k + 1000000000 - x) (by omega)
            rw [List.set_set] at e1
            exact ⟨k + 1, by omega, by go_num, by rw [E]; simp, by rw [E]; exact e1, grown_set (grown_set hgr _ _) _ _⟩
          case measure => simp [intOf]; omega
        · go_wp2
          go_roundw
          case rel =>
            have E := HS.out
            simp only [HZ.out, Nat.add_zero] at E; rw [if_neg hbo] at E
            have e1 := hb.setI k (v := (nth S k : Int) - x) (x := nth S k - x) (by omega)
            exact ⟨k + 1, by omega, by go_num, by rw [E]; simp, by rw [E]; exact e1, grown_set hgr _ _⟩
          case measure => simp [intOf]; omega
    · obtain rfl : k = l := by omega
      have hT := trim_any (some ⟨w.heap.size, 0, none⟩) k w.heap.size 0 S wr (by omega) (by omega) (fun _ => rfl) hb.cells
      rw [← hls] at hT
      have hB : Below w.heap.size w wr := grown_below hB1 hgr (Nat.le_refl _) hB1.size
      have hb9 := Lib.hid hb
      have HT := Lib.hid hT
      clear hls hT hb
      go_wp2_with fail
      refine HT.out.mono ?_
      rintro e w4 ⟨rfl, rfl⟩
      go_wp2_with fail
      go_ret
      have hk' := HK.out
      rw [hk']
      exact ⟨rfl, hb9.out, hB⟩
end Go.Proofs.YtbfbijokhlkekaaDoor

/- 'compare' orders two rows: by their lengths, then by the highest numbers in which they differ. -/
namespace Go.Proofs.YtbfbijokhlkekaaDoor
open Go.RowKit

set_option maxHeartbeats 400000 in
theorem nan_int (x : Int) (w : World) : Calls Tryd.prog 78 #[.int .i64 x] w fun e w' => e = .returned (.bool false) ∧ w = w' := by
  go_enter Tryd.func78, Tryd.ntmps78
  go_wp2
  go_ret
  exact ⟨by simp, rfl⟩
set_option maxHeartbeats 400000 in
theorem nan_u32 (x : Int) (w : World) : Calls Tryd.prog 79 #[.int .u32 x] w fun e w' => e = .returned (.bool false) ∧ w = w' := by
  go_enter Tryd.func79, Tryd.ntmps79
  go_wp2
  go_ret
  exact ⟨by simp, rfl⟩
set_option maxHeartbeats 400000 in
theorem cmp_int (x y : Nat) (w : World) : Calls Tryd.prog 67 #[.int .i64 x, .int .i64 y] w fun e w' => e = .returned (.int .i64 (cmpZ x y)) ∧ w = w' := by
  rcases Nat.lt_trichotomy x y with h | h | h
  · go_enter Tryd.func67, Tryd.ntmps67
    go_wp2_with (go_at_call 78; refine (nan_int _ _).mono ?_; rintro e w' ⟨rfl, rfl⟩)
    go_ret
    exact ⟨ret_int (by unfold cmpZ; simp [h]), rfl⟩
  · subst h
    go_enter Tryd.func67, Tryd.ntmps67
    go_wp2_with (go_at_call 78; refine (nan_int _ _).mono ?_; rintro e w' ⟨rfl, rfl⟩)
    go_ret
    exact ⟨ret_int (by unfold cmpZ; simp), rfl⟩
  · go_enter Tryd.func67, Tryd.ntmps67
    go_wp2_with (go_at_call 78; refine (nan_int _ _).mono ?_; rintro e w' ⟨rfl, rfl⟩)
    go_ret
    exact ⟨ret_int (by unfold cmpZ; rw [if_neg (by omega), if_neg (by omega)]), rfl⟩
set_option maxHeartbeats 400000 in
theorem cmp_u32 (x y : Nat) (w : World) : Calls Tryd.prog 68 #[.int .u32 x, .int .u32 y] w fun e w' => e = .returned (.int .i64 (cmpZ x y)) ∧ w = w' := by
  rcases Nat.lt_trichotomy x y with h | h | h
  · go_enter Tryd.func68, Tryd.ntmps68
    go_wp2_with (go_at_call 79; refine (nan_u32 _ _).mono ?_; rintro e w' ⟨rfl, rfl⟩)
    go_ret
    exact ⟨ret_int (by unfold cmpZ; simp [h]), rfl⟩
  · subst h
    go_enter Tryd.func68, Tryd.ntmps68
    go_wp2_with (go_at_call 79; refine (nan_u32 _ _).mono ?_; rintro e w' ⟨rfl, rfl⟩)
    go_ret
    exact ⟨ret_int (by unfold cmpZ; simp), rfl⟩
  · go_enter Tryd.func68, Tryd.ntmps68
    go_wp2_with (go_at_call 79; refine (nan_u32 _ _).mono ?_; rintro e w' ⟨rfl, rfl⟩)
    go_ret
    exact ⟨ret_int (by unfold cmpZ; rw [if_neg (by omega), if_neg (by omega)]), rfl⟩

set_option maxHeartbeats 800000 in
theorem compare_any (A A' : Option Addr) (c b o c' b' o' : Nat) (L M : List Nat) (w : World) (hl : L.length ≤ 1000000) (hm : M.length ≤ 1000000)
    (hA : 0 < L.length → A = some ⟨b, o, none⟩) (hcell : Cells .u32 w b o L) (hA' : 0 < M.length → A' = some ⟨b', o', none⟩) (hcell' : Cells .u32 w b' o' M) :
    Calls Tryd.prog 51 #[.slice A L.length c, .slice A' M.length c'] w fun e w' => e = .returned (.int .i64 (cmpL L M)) ∧ ∃ n, w' = w.drewN n := by
  generalize hn : L.length = n at *
  generalize hn' : M.length = n' at *
  have HN := Lib.hid hn
  have HN' := Lib.hid hn'
  clear hn hn'
  have HA := Lib.hid hA
  have HA' := Lib.hid hA'
  clear hA hA'
  by_cases hne : n = n'
  · subst hne
    have hdec : ((n : Int) != (n : Int)) = false := by simp
    go_enter Tryd.func51, Tryd.ntmps51
    go_wp2
    go_loopw [5] (fun v wr => ∃ k : Nat, k ≤ n ∧ v = .int .i64 ((k : Int) - 1) ∧ Hid (∃ d, wr = w.drewN d) ∧ Hid (cmpDown L M k = cmpDown L M n)) (fun v _ => (intOf v + 1).toNat)
    case atStart => exact ⟨n, Nat.le_refl _, rfl, ⟨0, rfl⟩, rfl⟩
    case round =>
      obtain ⟨k, hk, rfl, hw, ht⟩ := hrel
      obtain ⟨d, rfl⟩ := hw.out
      rcases Nat.eq_zero_or_pos k with rfl | hpos
      · have hd : decide ((0 : Int) ≤ ((0 : Nat) : Int) - 1) = false := by simp
        go_wp2
        go_ret
        exact ⟨by rw [cmpL, HN.out, HN'.out, if_pos rfl, ← ht.out]; rfl, d, rfl⟩
      · obtain ⟨m, rfl⟩ : ∃ m, k = m + 1 := ⟨k - 1, by omega⟩
        have h1 : ((0 : Int) ≤ ((m + 1 : Nat) : Int) - 1) := by omega
        have hc1 := hcell m (by rw [HN.out]; omega)
        have hc2 := hcell' m (by rw [HN'.out]; omega)
        obtain rfl := HA.out (by omega)
        obtain rfl := HA'.out (by omega)
        have e1 : ((m + 1 : Nat) : Int) - 1 = (m : Int) := by omega
        rw [e1]
        clear e1 h1
        by_cases hz : nth L m = nth M m
        · have hz' : (((nth L m : Nat) : Int) != ((nth M m : Nat) : Int)) = false := by simp [hz]
          go_wp2
          go_quiet (fail)
          go_wp2
          go_roundw
          case rel => exact ⟨m, by omega, rfl, ⟨d + nq, rfl⟩, by have := ht.out; rw [cmpDown, if_pos hz] at this; exact this⟩
          case measure => simp [intOf]
        · have hz' : (((nth L m : Nat) : Int) != ((nth M m : Nat) : Int)) = true := by simp; omega
          go_wp2
          go_quiet (fail)
          go_wp2
          go_quiet ((go_at_call 68; exact quiet_more (same_quiet (cmp_u32 _ _))))
          go_wp2
          go_ret
          exact ⟨ret_int (by rw [cmpL, HN.out, HN'.out, if_pos rfl, ← ht.out, cmpDown, if_neg hz]), _, drew3 _ _ _ _⟩
  · have hdec : ((n : Int) != (n' : Int)) = true := by simp; omega
    go_enter Tryd.func51, Tryd.ntmps51
    go_wp2_with (go_at_call 67; refine (cmp_int _ _ _).mono ?_; rintro e w' ⟨rfl, rfl⟩)
    go_ret
    exact ⟨ret_int (by rw [cmpL, HN.out, HN'.out, if_neg hne]), 0, rfl⟩
end Go.Proofs.YtbfbijokhlkekaaDoor

/- Sums, differences and products of limbs as numbers; the order of limbs as that of their numbers. -/
namespace Go.Proofs.YtbfbijokhlkekaaDoor
open Go.RowKit

abbrev val9 (L : List Nat) : Nat := valB 1000000000 L
/-- The limbs that 'trim' leaves of a block. -/
theorem trim_pack {w : World} {g B c : Nat} {R : List Nat} (hb : Blk .u32 68 w g R) (hR : Lim R) (hg : g < B) (hc : R.length ≤ c) :
    ∃ L, L.length = trimN R R.length ∧ Row .u32 w B (some ⟨g, 0, none⟩) c L ∧ Canon L ∧ val9 L = val9 R := by
  have htl := trimN_le R R.length
  have el : (R.take (trimN R R.length)).length = trimN R R.length := by rw [List.length_take]; omega
  refine ⟨R.take (trimN R R.length), el, (Row.ofBlk hb hg hc).take _, ⟨hR.take _, ?_⟩, ?_⟩
  · rw [el]; intro h; rw [nth_take (by omega)]; exact trimN_top _ _ h
  · rw [val9, trimN_val _ _ _ (Nat.le_refl _), List.take_of_length_le (Nat.le_refl _)]

theorem mult2 (A A' : Option Addr) (c c' : Nat) (L M : List Nat) (w : World) (hl : L.length ≤ 500000) (hml : M.length ≤ 500000)
    (hL : Lim L) (hM : Lim M) (hR : Row .u32 w w.heap.size A c L) (hR' : Row .u32 w w.heap.size A' c' M) :
    Calls Tryd.prog 57 #[.slice A L.length c, .slice A' M.length c'] w fun e w' => ∃ g c R, e = .returned (.slice (some ⟨g, 0, none⟩) R.length c) ∧
      Row .u32 w' w'.heap.size (some ⟨g, 0, none⟩) c R ∧ Canon R ∧ val9 R = val9 L * val9 M ∧ R.length ≤ L.length + M.length ∧ Below w.heap.size w w' ∧ w.heap.size ≤ g := by
  refine (multiply_any A A' c c' L M w (by omega) (by omega) hL hM hR hR').mono ?_
  rintro e w' ⟨rfl, hb, hbw⟩
  have hz : Lim (List.replicate (L.length + M.length) 0) := fun d hd => by have := (List.mem_replicate.1 hd).2; omega
  have hok := mulSt_ok hL hM hz L.length
  have hv := mul_val hL hM
  have hlen : (mulSt L M (List.replicate (L.length + M.length) 0) L.length).length = L.length + M.length := by rw [hok.2]; simp
  obtain ⟨R, h1, h2, h3, h4⟩ := trim_pack (c := L.length + M.length) hb hok.1 hb.lt (by omega)
  rw [hlen] at h1
  have htl := trimN_le (mulSt L M (List.replicate (L.length + M.length) 0) L.length) (L.length + M.length)
  exact ⟨_, _, R, by rw [h1], h2, h3, by rw [h4]; exact hv, by omega, hbw, Nat.le_refl _⟩

theorem subt2 (A A' : Option Addr) (c c' : Nat) (L M : List Nat) (w : World) (hl : L.length ≤ 1000000) (hml : M.length ≤ L.length)
    (hL : Lim L) (hM : Lim M) (hle : val9 M ≤ val9 L) (hR : Row .u32 w w.heap.size A c L) (hR' : Row .u32 w w.heap.size A' c' M) :
    Calls Tryd.prog 52 #[.slice A L.length c, .slice A' M.length c'] w fun e w' => ∃ g c R, e = .returned (.slice (some ⟨g, 0, none⟩) R.length c) ∧
      Row .u32 w' w'.heap.size (some ⟨g, 0, none⟩) c R ∧ Canon R ∧ val9 R + val9 M = val9 L ∧ R.length ≤ L.length ∧ Below w.heap.size w w' ∧ w.heap.size ≤ g := by
  refine (subtract_any A A' c c' L M w hl hml hL hM hR hR').mono ?_
  rintro e w' ⟨rfl, hb, hbw⟩
  have hok := subSt_ok hM hL L.length
  have hv := subSt_val hM hL L.length (Nat.le_refl _)
  rw [valB_take_over _ _ _ hml] at hv
  have hlt := valB_lt hok.1
  rw [hok.2.2] at hlt
  have hb0 : (subSt M L L.length).2 = 0 := by
    rcases Nat.eq_zero_or_pos (subSt M L L.length).2 with h | h
    · exact h
    · have h1 : (subSt M L L.length).2 = 1 := by have := hok.2.1; omega
      rw [h1] at hv; simp only [val9] at hle; omega
  rw [hb0] at hv
  obtain ⟨R, h1, h2, h3, h4⟩ := trim_pack (c := L.length) hb hok.1 hb.lt (by rw [hok.2.2]; exact Nat.le_refl _)
  rw [hok.2.2] at h1
  have htl := trimN_le (subSt M L L.length).1 L.length
  exact ⟨_, _, R, by rw [h1], h2, h3, by rw [h4]; simpa using hv, by omega, hbw, Nat.le_refl _⟩

theorem addl2 (A A' : Option Addr) (c c' : Nat) (L M : List Nat) (w : World) (hl : L.length ≤ 500000) (hml : M.length ≤ L.length)
    (hL : Lim L) (hM : Lim M) (hR : Row .u32 w w.heap.size A c L) (hR' : Row .u32 w w.heap.size A' c' M) :
    Calls Tryd.prog 50 #[.slice A L.length c, .slice A' M.length c'] w fun e w' => ∃ g c R, e = .returned (.slice (some ⟨g, 0, none⟩) R.length c) ∧
      Row .u32 w' w'.heap.size (some ⟨g, 0, none⟩) c R ∧ Canon R ∧ val9 R = val9 L + val9 M ∧ R.length ≤ L.length + 1 ∧ Below w.heap.size w w' ∧ w.heap.size ≤ g := by
  refine (add_long A A' c c' L M w (by omega) hml hL hM hR hR').mono ?_
  rintro e w' ⟨rfl, hb, hbw⟩
  have hL0 : Lim (L ++ [0]) := by intro d hd; rcases List.mem_append.1 hd with h | h; exact hL d h; simp at h; omega
  have hok := addSt_ok (o := 0) hM hL0 (L.length + 1)
  have hv := addSt_val (o := 0) hM hL0 (L.length + 1) (by simp)
  rw [valB_take_over _ _ _ (by omega), valB_append] at hv
  have hlen : (addSt 0 M (L ++ [0]) (L.length + 1)).1.length = L.length + 1 := by rw [hok.2.2]; simp
  have h1 := valB_lt hL
  have h2 := valB_lt hM
  have h3 : (1000000000 : Nat) ^ M.length ≤ 1000000000 ^ L.length := Nat.pow_le_pow_right (by omega) hml
  have hc0 : (addSt 0 M (L ++ [0]) (L.length + 1)).2 = 0 := by
    rcases Nat.eq_zero_or_pos (addSt 0 M (L ++ [0]) (L.length + 1)).2 with h | h
    · exact h
    · have h4 : (addSt 0 M (L ++ [0]) (L.length + 1)).2 = 1 := by have := hok.2.1; omega
      rw [h4] at hv
      have h5 : (1000000000 : Nat) ^ (0 + (L.length + 1)) = 1000000000 * 1000000000 ^ L.length := by rw [Nat.zero_add, Nat.pow_succ, Nat.mul_comm]
      rw [h5] at hv
      simp [valB] at hv
      omega
  rw [hc0] at hv
  obtain ⟨R, h1, h2, h3, h4⟩ := trim_pack (c := L.length + 1) hb hok.1 hb.lt (by omega)
  rw [hlen] at h1
  have htl := trimN_le (addSt 0 M (L ++ [0]) (L.length + 1)).1 (L.length + 1)
  refine ⟨_, _, R, by rw [h1], h2, h3, ?_, by omega, hbw, Nat.le_refl _⟩
  rw [h4]
  simp [valB] at hv
  exact hv

/-- Limbs of another length. -/
theorem canon_lt {L M : List Nat} (hL : Lim L) (hM : Canon M) (h : L.length < M.length) : val9 L < val9 M := by
  have h1 := valB_lt hL
  have h2 : (1000000000 : Nat) ^ L.length ≤ 1000000000 ^ (M.length - 1) := Nat.pow_le_pow_right (by omega) (by omega)
  have h3 := valB_take_succ 1000000000 M (M.length - 1) (by omega)
  rw [show M.length - 1 + 1 = M.length by omega, List.take_of_length_le (Nat.le_refl _)] at h3
  have h4 := hM.top (by omega)
  have h5 : 1000000000 ^ (M.length - 1) * 1 ≤ 1000000000 ^ (M.length - 1) * nth M (M.length - 1) := Nat.mul_le_mul_left _ (by omega)
  unfold val9
  omega
theorem cmpDown_val {L M : List Nat} (hL : Lim L) (hM : Lim M) (n : Nat) (h1 : n ≤ L.length) (h2 : n ≤ M.length) : cmpDown L M n = cmpZ (val9 (L.take n)) (val9 (M.take n)) := by
  induction n with
  | zero => simp [cmpDown, cmpZ, valB]
  | succ n ih =>
    have e1 := valB_take_succ 1000000000 L n (by omega)
    have e2 := valB_take_succ 1000000000 M n (by omega)
    have b1 := valB_lt (hL.take n)
    have b2 := valB_lt (hM.take n)
    rw [List.length_take, Nat.min_eq_left (by omega)] at b1 b2
    unfold cmpDown val9
    rw [e1, e2]
    split
    · rename_i h
      rw [ih (by omega) (by omega), h]
      unfold cmpZ val9
      simp
    · rename_i h
      generalize valB 1000000000 (L.take n) = x at *
      generalize valB 1000000000 (M.take n) = y at *
      generalize (1000000000 : Nat) ^ n = p at *
      unfold cmpZ
      rcases Nat.lt_or_gt_of_ne h with h | h
      · rw [if_pos h]
        have : p * (nth L n + 1) ≤ p * nth M n := Nat.mul_le_mul_left _ h
        rw [Nat.mul_add] at this
        rw [if_pos (by omega)]
      · rw [if_neg (by omega), if_neg (by omega)]
        have : p * (nth M n + 1) ≤ p * nth L n := Nat.mul_le_mul_left _ h
        rw [Nat.mul_add] at this
        rw [if_neg (by omega), if_neg (by omega)]
theorem cmpL_val {L M : List Nat} (hL : Canon L) (hM : Canon M) : cmpL L M = cmpZ (val9 L) (val9 M) := by
  unfold cmpL
  split
  · rename_i h
    rw [cmpDown_val hL.lim hM.lim _ (Nat.le_refl _) (by omega), List.take_of_length_le (Nat.le_refl _), List.take_of_length_le (by omega)]
  · rename_i h
    rcases Nat.lt_or_gt_of_ne h with h | h
    · have := canon_lt hL.lim hM h
      unfold cmpZ; rw [if_pos h, if_pos this]
    · have := canon_lt hM.lim hL h
      unfold cmpZ; rw [if_neg (by omega), if_neg (by omega), if_neg (by omega), if_neg (by omega)]
theorem canon_len {L M : List Nat} (hL : Canon L) (hM : Canon M) (h : val9 M ≤ val9 L) : M.length ≤ L.length := by
  rcases Nat.lt_or_ge L.length M.length with hlt | hge
  · have := canon_lt hL.lim hM hlt; omega
  · exact hge
end Go.Proofs.YtbfbijokhlkekaaDoor

/- Division of limbs as numbers: one limb, and many limbs digit by digit. -/
namespace Go.Proofs.YtbfbijokhlkekaaDoor

/-- 'subtractMultiple': after k rounds, the row from which d times D is taken away from place o on, and the carry. -/
def smSt (o d : Nat) (D M : List Nat) : Nat → List Nat × Nat
  | 0 => (M, 0)
  | k + 1 => if nth (smSt o d D M k).1 (o + k) < ((smSt o d D M k).2 + d * nth D k) % 1000000000
      then ((smSt o d D M k).1.set (o + k) (nth (smSt o d D M k).1 (o + k) + 1000000000 - ((smSt o d D M k).2 + d * nth D k) % 1000000000), ((smSt o d D M k).2 + d * nth D k) / 1000000000 + 1)
      else ((smSt o d D M k).1.set (o + k) (nth (smSt o d D M k).1 (o + k) - ((smSt o d D M k).2 + d * nth D k) % 1000000000), ((smSt o d D M k).2 + d * nth D k) / 1000000000)
theorem smSt_succ (o d : Nat) (D M : List Nat) (k : Nat) : smSt o d D M (k + 1) = if nth (smSt o d D M k).1 (o + k) < ((smSt o d D M k).2 + d * nth D k) % 1000000000
      then ((smSt o d D M k).1.set (o + k) (nth (smSt o d D M k).1 (o + k) + 1000000000 - ((smSt o d D M k).2 + d * nth D k) % 1000000000), ((smSt o d D M k).2 + d * nth D k) / 1000000000 + 1)
      else ((smSt o d D M k).1.set (o + k) (nth (smSt o d D M k).1 (o + k) - ((smSt o d D M k).2 + d * nth D k) % 1000000000), ((smSt o d D M k).2 + d * nth D k) / 1000000000) := rfl
theorem smSt_ok {o d : Nat} {D M : List Nat} (hD : Lim D) (hM : Lim M) (k : Nat) :
    Lim (smSt o d D M k).1 ∧ (smSt o d D M k).2 ≤ d + 1 ∧ (smSt o d D M k).1.length = M.length := by
  induction k with
  | zero => exact ⟨hM, by simp [smSt], rfl⟩
  | succ k ih =>
    obtain ⟨h1, h2, h3⟩ := ih
    have a := h1.nth (o + k)
    have b : d * nth D k ≤ d * 999999999 := Nat.mul_le_mul_left _ (by have := hD.nth k; omega)
    rw [smSt_succ]
    split
    · exact ⟨h1.set _ (by omega), by show _ / _ + 1 ≤ _; omega, by simp [h3]⟩
    · exact ⟨h1.set _ (by omega), by show _ / _ ≤ _; omega, by simp [h3]⟩
theorem smSt_val {o d : Nat} {D M : List Nat} (hD : Lim D) (hM : Lim M) (k : Nat) (hk : o + k ≤ M.length) :
    valB 1000000000 (smSt o d D M k).1 + 1000000000 ^ o * (d * valB 1000000000 (D.take k)) = valB 1000000000 M + 1000000000 ^ (o + k) * (smSt o d D M k).2 := by
  induction k with
  | zero => simp [smSt, valB]
  | succ k ih =>
    replace ih := ih (by omega)
    obtain ⟨h1, h2, hl⟩ := smSt_ok (o := o) (d := d) hD hM k
    have a := h1.nth (o + k)
    rw [smSt_succ]
    have hbt : valB 1000000000 (D.take (k + 1)) = valB 1000000000 (D.take k) + 1000000000 ^ k * nth D k := by
      rcases Nat.lt_or_ge k D.length with h | h
      · exact valB_take_succ _ _ _ h
      · rw [valB_take_over _ _ _ h, valB_take_over _ _ _ (by omega), nth_ge h]; simp
    rw [hbt]
    have hs := fun v => valB_set 1000000000 (smSt o d D M k).1 (o + k) v (by omega)
    generalize smSt o d D M k = q at *
    obtain ⟨Q, y⟩ := q
    dsimp only at *
    have ht := Nat.div_add_mod (y + d * nth D k) 1000000000
    have ht2 : (y + d * nth D k) % 1000000000 < 1000000000 := Nat.mod_lt _ (by omega)
    generalize (y + d * nth D k) % 1000000000 = t at *
    generalize (y + d * nth D k) / 1000000000 = c at *
    rw [← Nat.add_assoc, Nat.pow_succ]
    have e : (1000000000 : Nat) ^ (o + k) = 1000000000 ^ o * 1000000000 ^ k := Nat.pow_add _ _ _
    rw [e] at hs ih ⊢
    generalize (1000000000 : Nat) ^ o = po at *
    generalize (1000000000 : Nat) ^ k = pj at *
    generalize valB 1000000000 M = VM at *
    generalize valB 1000000000 (D.take k) = VB at *
    split
    · rename_i hlt
      have hs' := hs (nth Q (o + k) + 1000000000 - t)
      obtain ⟨v, hv⟩ : ∃ v, nth Q (o + k) + 1000000000 - t = v := ⟨_, rfl⟩
      have hv2 : v + t = nth Q (o + k) + 1000000000 := by omega
      rw [hv] at hs' ⊢
      dsimp only
      generalize valB 1000000000 (Q.set (o + k) v) = V at *
      generalize valB 1000000000 Q = VQ at *
      generalize nth D k = bj at *
      generalize nth Q (o + k) = qj at *
      have h3 : po * pj * (v + t) = po * pj * (qj + 1000000000) := by rw [hv2]
      have h4 : po * pj * (1000000000 * c + t) = po * pj * (y + d * bj) := by rw [ht]
      clear hs hv hv2 hbt hl a ht ht2 h1 h2 hD hM hk hlt e
      grind
    · rename_i hge
      have hs' := hs (nth Q (o + k) - t)
      obtain ⟨v, hv⟩ : ∃ v, nth Q (o + k) - t = v := ⟨_, rfl⟩
      have hv2 : v + t = nth Q (o + k) := by omega
      rw [hv] at hs' ⊢
      dsimp only
      generalize valB 1000000000 (Q.set (o + k) v) = V at *
      generalize valB 1000000000 Q = VQ at *
      generalize nth D k = bj at *
      generalize nth Q (o + k) = qj at *
      have h3 : po * pj * (v + t) = po * pj * qj := by rw [hv2]
      have h4 : po * pj * (1000000000 * c + t) = po * pj * (y + d * bj) := by rw [ht]
      clear hs hv hv2 hbt hl a ht ht2 h1 h2 hD hM hk hge e
      grind
theorem smSt_high {o d : Nat} {D M : List Nat} (k j : Nat) (hj : o + k ≤ j) : nth (smSt o d D M k).1 j = nth M j := by
  induction k with
  | zero => rfl
  | succ k ih =>
    rw [smSt_succ]
    split
    · dsimp only; rw [nth_set_ne (by omega)]; exact ih (by omega)
    · dsimp only; rw [nth_set_ne (by omega)]; exact ih (by omega)
theorem addSt_high {o : Nat} {B M : List Nat} (k j : Nat) (hj : o + k ≤ j) : nth (addSt o B M k).1 j = nth M j := by
  induction k with
  | zero => rfl
  | succ k ih => rw [addSt_succ]; dsimp only; rw [nth_set_ne (by omega)]; exact ih (by omega)

theorem valB_split (b : Nat) (L : List Nat) (m : Nat) : valB b L = valB b (L.take m) + b ^ (min m L.length) * valB b (L.drop m) := by
  have h := valB_append b (L.take m) (L.drop m)
  rw [List.take_append_drop, List.length_take] at h
  exact h
theorem valB_take_le (b : Nat) (L : List Nat) (m : Nat) : valB b (L.take m) ≤ valB b L := by
  have := valB_split b L m; omega
theorem valB_allzero (b : Nat) : ∀ L : List Nat, (∀ k, nth L k = 0) → valB b L = 0
  | [], _ => rfl
  | d :: L, h => by
    have h0 : d = 0 := by simpa [nth] using h 0
    have h1 := valB_allzero b L (fun k => by simpa [nth] using h (k + 1))
    simp [valB, h0, h1]
theorem nth_drop (L : List Nat) (m k : Nat) : nth (L.drop m) k = nth L (m + k) := by simp [nth, List.getElem?_drop]
/-- Above place m are zeros: the number is less than the power. -/
theorem val_high {L : List Nat} (hL : Lim L) (m : Nat) (h : ∀ j, m ≤ j → nth L j = 0) : val9 L < 1000000000 ^ m := by
  have h1 := valB_split 1000000000 L m
  rw [valB_allzero _ (L.drop m) (fun k => by rw [nth_drop]; exact h _ (by omega)), Nat.mul_zero, Nat.add_zero] at h1
  have h2 := valB_lt (hL.take m)
  have h3 : (1000000000 : Nat) ^ (L.take m).length ≤ 1000000000 ^ m := Nat.pow_le_pow_right (by omega) (by rw [List.length_take]; omega)
  unfold val9
  omega
theorem val_small {L : List Nat} {m : Nat} (h : val9 L < 1000000000 ^ m) (j : Nat) (hj : m ≤ j) : nth L j = 0 := by
  rcases Nat.lt_or_ge j L.length with hlt | hge
  · have h1 := valB_take_succ 1000000000 L j hlt
    have h2 := valB_take_le 1000000000 L (j + 1)
    have h3 : (1000000000 : Nat) ^ m ≤ 1000000000 ^ j := Nat.pow_le_pow_right (by omega) hj
    rcases Nat.eq_zero_or_pos (nth L j) with h0 | h0
    · exact h0
    · have h4 : 1000000000 ^ j * 1 ≤ 1000000000 ^ j * nth L j := Nat.mul_le_mul_left _ h0
      unfold val9 at h
      omega
  · exact nth_ge hge
/-- The number without its lowest limbs. -/
theorem val_div {L : List Nat} (hL : Lim L) (m : Nat) (hm : m ≤ L.length) : val9 L / 1000000000 ^ m = val9 (L.drop m) := by
  have h1 := valB_split 1000000000 L m
  have h2 := valB_lt (hL.take m)
  rw [List.length_take, Nat.min_eq_left hm] at h2
  rw [Nat.min_eq_left hm] at h1
  unfold val9
  rw [h1, Nat.add_mul_div_left _ _ (Nat.pow_pos (by omega)), Nat.div_eq_of_lt h2, Nat.zero_add]

/-- The estimate out of the highest limbs is the digit, or one more. -/
theorem knuth {P D S B : Nat} (hS : 0 < S) (hP : P < B * D) (h2 : B ≤ D / S) (hB : 0 < B) : P / D ≤ P / S / (D / S) ∧ P / S / (D / S) ≤ P / D + 1 := by
  have hD : 0 < D := by
    rcases Nat.eq_zero_or_pos D with h | h
    · subst h; simp at h2; omega
    · exact h
  have hq : P / D < B := by rw [Nat.div_lt_iff_lt_mul hD]; exact hP
  have hqD : P / D * D ≤ P := Nat.div_mul_le_self P D
  have hqD2 : P < (P / D + 1) * D := by have := Nat.lt_mul_div_succ P hD; rw [Nat.mul_comm]; exact this
  have hDS : D / S * S ≤ D := Nat.div_mul_le_self D S
  have hDS2 : D < (D / S + 1) * S := by have := Nat.lt_mul_div_succ D hS; rw [Nat.mul_comm]; exact this
  have hPS : P / S * S ≤ P := Nat.div_mul_le_self P S
  generalize P / D = q at *
  generalize D / S = e at *
  constructor
  · rw [Nat.le_div_iff_mul_le (by omega), Nat.le_div_iff_mul_le hS]
    have h1 : q * (e * S) ≤ q * D := Nat.mul_le_mul_left _ hDS
    rw [Nat.mul_assoc]
    omega
  · have : P / S / e < q + 2 := by
      rw [Nat.div_lt_iff_lt_mul (by omega)]
      rcases Nat.lt_or_ge (P / S) ((q + 2) * e) with h | h
      · exact h
      · exfalso
        have h3 : (q + 2) * e * S ≤ P / S * S := Nat.mul_le_mul_right _ h
        have h4 : (q + 1) * D ≤ (q + 1) * ((e + 1) * S) := Nat.mul_le_mul_left _ (by omega)
        have h5 : (q + 2) * e * S < (q + 1) * (e + 1) * S := by rw [Nat.mul_assoc (q + 1)]; omega
        have h6 : (q + 2) * e < (q + 1) * (e + 1) := Nat.lt_of_mul_lt_mul_right h5
        have h7 : (q + 2) * e = (q + 1) * e + e := by rw [Nat.add_mul, Nat.add_mul]; omega
        have h8 : (q + 1) * (e + 1) = (q + 1) * e + (q + 1) := by rw [Nat.mul_add]; omega
        omega
    omega
end Go.Proofs.YtbfbijokhlkekaaDoor

/- One digit of a long division. -/
namespace Go.Proofs.YtbfbijokhlkekaaDoor

/-- The three highest limbs of a part, the two highest ones of a divisor. -/
def top3 (R : List Nat) (j : Nat) : Nat := (nth R (j + 2) * 1000000000 + nth R (j + 1)) * 1000000000 + nth R j
def top2 (D : List Nat) (n : Nat) : Nat := nth D (n - 1) * 1000000000 + nth D (n - 2)
theorem valB_drop9 (L : List Nat) (k : Nat) : val9 (L.drop k) = nth L k + 1000000000 * val9 (L.drop (k + 1)) := by
  rcases Nat.lt_or_ge k L.length with h | h
  · exact valB_drop _ _ _ h
  · rw [List.drop_eq_nil_of_le h, List.drop_eq_nil_of_le (by omega), nth_ge h]; rfl
theorem top3_val {R : List Nat} (hR : Lim R) (j : Nat) (hj : j ≤ R.length) (hz : ∀ k, j + 3 ≤ k → nth R k = 0) : val9 R / 1000000000 ^ j = top3 R j := by
  have h0 : val9 (R.drop (j + 3)) = 0 := valB_allzero _ _ (fun k => by rw [nth_drop]; exact hz _ (by omega))
  have h1 := valB_drop9 R j
  have h2 := valB_drop9 R (j + 1)
  have h3 := valB_drop9 R (j + 2)
  rw [val_div hR j hj]
  unfold top3
  rw [show j + 1 + 1 = j + 2 from rfl] at h2
  rw [show j + 2 + 1 = j + 3 from rfl] at h3
  omega
theorem top2_val {D : List Nat} (hD : Lim D) (n : Nat) (hn : D.length = n) (h2 : 2 ≤ n) : val9 D / 1000000000 ^ (n - 2) = top2 D n := by
  have h0 : val9 (D.drop n) = 0 := by rw [List.drop_eq_nil_of_le (by omega)]; rfl
  have h1 := valB_drop9 D (n - 2)
  have h3 := valB_drop9 D (n - 2 + 1)
  rw [val_div hD (n - 2) (by omega)]
  unfold top2
  rw [show n - 2 + 1 + 1 = n by omega] at h3
  rw [show n - 2 + 1 = n - 1 by omega] at h1 h3
  omega

/-- The rest after a digit was found: by the estimate, or by one less. -/
def digQ (i : Nat) (D R : List Nat) : Nat := val9 R / 1000000000 ^ i / val9 D
structure DigOk (i n d : Nat) (D R : List Nat) : Prop where
  yes : (smSt i d D R (n + 1)).2 = 0 → d = digQ i D R ∧ val9 (smSt i d D R (n + 1)).1 + 1000000000 ^ i * (digQ i D R * val9 D) = val9 R
  no : (smSt i d D R (n + 1)).2 ≠ 0 → d = digQ i D R + 1 ∧ val9 (addSt i D (smSt i d D R (n + 1)).1 (n + 1)).1 + 1000000000 ^ i * (digQ i D R * val9 D) = val9 R
theorem dig_ok {i n d : Nat} {D R : List Nat} (hD : Lim D) (hn : D.length = n) (h2 : 2 ≤ n) (hR : Lim R) (hlen : i + n + 1 ≤ R.length) (htop : 0 < nth D (n - 1))
    (hV : val9 R < val9 D * 1000000000 ^ (i + 1)) (hd : d = top3 R (i + n - 2) / top2 D n) : DigOk i n d D R := by
  have hDn : val9 D < 1000000000 ^ n := by have := valB_lt hD; rw [hn] at this; exact this
  have hE : (1000000000 : Nat) ^ (i + n + 1) = 1000000000 ^ n * 1000000000 ^ (i + 1) := by rw [← Nat.pow_add]; congr 1; omega
  have hVE : val9 R < 1000000000 ^ (i + n + 1) := by
    rw [hE]; exact Nat.lt_of_lt_of_le hV (Nat.mul_le_mul_right _ (Nat.le_of_lt hDn))
  have hz := fun j hj => val_small hVE j hj
  have e3 := top3_val hR (i + n - 2) (by omega) (fun k hk => hz k (by omega))
  have e2 := top2_val hD n hn h2
  have hT : 0 < (1000000000 : Nat) ^ i := Nat.pow_pos (by omega)
  have hS : 0 < (1000000000 : Nat) ^ (n - 2) := Nat.pow_pos (by omega)
  have hB2 : 1000000000 ≤ top2 D n := by unfold top2; omega
  have hDpos : 0 < val9 D := by
    rcases Nat.eq_zero_or_pos (val9 D) with h | h
    · rw [h] at e2; simp at e2; omega
    · exact h
  have hP : val9 R / 1000000000 ^ i < 1000000000 * val9 D := by
    rw [Nat.div_lt_iff_lt_mul hT]
    rw [Nat.pow_succ] at hV
    have : 1000000000 * val9 D * 1000000000 ^ i = val9 D * (1000000000 ^ i * 1000000000) := by
      rw [Nat.mul_comm 1000000000 (val9 D), Nat.mul_assoc, Nat.mul_comm 1000000000]
    omega
  have e4 : val9 R / 1000000000 ^ (i + n - 2) = val9 R / 1000000000 ^ i / 1000000000 ^ (n - 2) := by
    rw [Nat.div_div_eq_div_mul, ← Nat.pow_add]; congr 2; omega
  have hk := knuth hS hP (by rw [e2]; exact hB2) (by omega)
  rw [← e4, e3, e2, ← hd] at hk
  have hlow : 1000000000 ^ i * (val9 R / 1000000000 ^ i) ≤ val9 R := Nat.mul_div_le _ _
  have hup : val9 R < 1000000000 ^ i * (val9 R / 1000000000 ^ i + 1) := Nat.lt_mul_div_succ _ hT
  have hqD : val9 R / 1000000000 ^ i / val9 D * val9 D ≤ val9 R / 1000000000 ^ i := Nat.div_mul_le_self _ _
  have hqD2 : val9 R / 1000000000 ^ i < (val9 R / 1000000000 ^ i / val9 D + 1) * val9 D := by have := Nat.lt_mul_div_succ (val9 R / 1000000000 ^ i) hDpos; rw [Nat.mul_comm]; exact this
  -- the row behind the subtraction
  have hs := smSt_val (o := i) (d := d) hD hR (n + 1) (by omega)
  rw [valB_take_over _ _ _ (by omega)] at hs
  have hsok := smSt_ok (o := i) (d := d) hD hR (n + 1)
  have hsz : val9 (smSt i d D R (n + 1)).1 < 1000000000 ^ (i + n + 1) := val_high hsok.1 _ (fun j hj => by rw [smSt_high (n + 1) j (by omega)]; exact hz j hj)
  have ha := addSt_val (o := i) hD hsok.1 (n + 1) (by rw [hsok.2.2]; omega)
  rw [valB_take_over _ _ _ (by omega)] at ha
  have haok := addSt_ok (o := i) hD hsok.1 (n + 1)
  have haz : val9 (addSt i D (smSt i d D R (n + 1)).1 (n + 1)).1 < 1000000000 ^ (i + n + 1) := val_high haok.1 _ (fun j hj => by rw [addSt_high (n + 1) j (by omega), smSt_high (n + 1) j (by omega)]; exact hz j hj)
  have hTD : 1000000000 ^ i * val9 D < 1000000000 ^ (i + n + 1) := by
    have h1 : 1000000000 ^ i * val9 D < 1000000000 ^ i * 1000000000 ^ n := Nat.mul_lt_mul_of_pos_left hDn hT
    rw [← Nat.pow_add] at h1
    have h2 : (1000000000 : Nat) ^ (i + n) ≤ 1000000000 ^ (i + n + 1) := Nat.pow_le_pow_right (by omega) (by omega)
    omega
  rw [← Nat.add_assoc] at hs ha
  have hac := haok.2.1
  suffices key : ((smSt i d D R (n + 1)).2 = 0 → d = val9 R / 1000000000 ^ i / val9 D ∧ val9 (smSt i d D R (n + 1)).1 + 1000000000 ^ i * (val9 R / 1000000000 ^ i / val9 D * val9 D) = val9 R) ∧
      ((smSt i d D R (n + 1)).2 ≠ 0 → d = val9 R / 1000000000 ^ i / val9 D + 1 ∧ val9 (addSt i D (smSt i d D R (n + 1)).1 (n + 1)).1 + 1000000000 ^ i * (val9 R / 1000000000 ^ i / val9 D * val9 D) = val9 R) from ⟨key.1, key.2⟩
  unfold val9 at *
  clear e2 e3 e4 hz hsok haok hE hVE hP hB2 htop hd
  generalize (smSt i d D R (n + 1)).2 = c at *
  generalize (addSt i D (smSt i d D R (n + 1)).1 (n + 1)).2 = c2 at *
  generalize valB 1000000000 (addSt i D (smSt i d D R (n + 1)).1 (n + 1)).1 = W2 at *
  generalize valB 1000000000 (smSt i d D R (n + 1)).1 = W at *
  generalize (1000000000 : Nat) ^ (i + n + 1) = E at *
  generalize valB 1000000000 R / 1000000000 ^ i / valB 1000000000 D = q at *
  generalize valB 1000000000 R / 1000000000 ^ i = P at *
  generalize (1000000000 : Nat) ^ i = T at *
  generalize valB 1000000000 R = V at *
  generalize valB 1000000000 D = X at *
  have hTP : T * (q * X) ≤ T * P := Nat.mul_le_mul_left _ hqD
  have hTP2 : T * (P + 1) ≤ T * ((q + 1) * X) := Nat.mul_le_mul_left _ hqD2
  have e5 : T * ((q + 1) * X) = T * (q * X) + T * X := by rw [Nat.add_mul, Nat.one_mul, Nat.mul_add]
  have hdq : d = q ∨ d = q + 1 := by omega
  refine ⟨fun hc => ?_, fun hc => ?_⟩
  · subst hc
    rw [Nat.mul_zero, Nat.add_zero] at hs
    rcases hdq with h | h
    · subst h; exact ⟨rfl, hs⟩
    · subst h
      rw [e5] at hs
      omega
  · rcases hdq with h | h
    · subst h
      exfalso
      have : E * 1 ≤ E * c := Nat.mul_le_mul_left _ (by omega)
      omega
    · refine ⟨h, ?_⟩
      subst h
      rw [e5] at hs
      have hc1 : c = 1 := by
        rcases Nat.lt_or_ge c 2 with h | h
        · omega
        · exfalso
          have : E * 2 ≤ E * c := Nat.mul_le_mul_left _ h
          omega
      subst hc1
      have hc2 : c2 = 0 ∨ c2 = 1 := by omega
      rcases hc2 with h | h
      · subst h; omega
      · subst h; omega
/-- What is left is less than the divisor at the digit's place; the digit is a limb. -/
theorem dig_less {i V X N : Nat} (hX : 0 < X) (hV : V < X * 1000000000 ^ (i + 1)) (hN : N + 1000000000 ^ i * (V / 1000000000 ^ i / X * X) = V) : N < X * 1000000000 ^ i ∧ V / 1000000000 ^ i / X < 1000000000 := by
  have hT : 0 < (1000000000 : Nat) ^ i := Nat.pow_pos (by omega)
  have hup : V < 1000000000 ^ i * (V / 1000000000 ^ i + 1) := Nat.lt_mul_div_succ _ hT
  have hqD2 : V / 1000000000 ^ i < (V / 1000000000 ^ i / X + 1) * X := by have := Nat.lt_mul_div_succ (V / 1000000000 ^ i) hX; rw [Nat.mul_comm]; exact this
  constructor
  · have h1 : 1000000000 ^ i * (V / 1000000000 ^ i + 1) ≤ 1000000000 ^ i * ((V / 1000000000 ^ i / X + 1) * X) := Nat.mul_le_mul_left _ hqD2
    generalize V / 1000000000 ^ i / X = q at *
    have e5 : 1000000000 ^ i * ((q + 1) * X) = 1000000000 ^ i * (q * X) + X * 1000000000 ^ i := by rw [Nat.add_mul, Nat.one_mul, Nat.mul_add, Nat.mul_comm X]
    omega
  · rw [Nat.div_lt_iff_lt_mul hX, Nat.div_lt_iff_lt_mul hT]
    rw [Nat.pow_succ] at hV
    have : 1000000000 * X * 1000000000 ^ i = X * (1000000000 ^ i * 1000000000) := by rw [Nat.mul_comm 1000000000 X, Nat.mul_assoc, Nat.mul_comm 1000000000]
    omega
end Go.Proofs.YtbfbijokhlkekaaDoor

/- Lehmer's steps as numbers. -/
namespace Go.Proofs.YtbfbijokhlkekaaDoor

/-- Some steps of Euclid: the absolute values P, Q, R, T of the matrix, the remainders u, v of (x0 + 1, y0) and m, n of (x0, y0 + 1). -/
structure LSt (x0 y0 : Nat) (e : Bool) (x y P Q R T u v m n : Nat) : Prop where
  tu : T * u + Q * v = x0 + 1
  ru : R * u + P * v = y0
  tm : T * m + Q * n = x0
  rm : R * m + P * n = y0 + 1
  e1 : e = true → x + P = u ∧ y = v + R ∧ x = m + Q ∧ y + T = n ∧ P * T = Q * R + 1
  e2 : e = false → x = u + P ∧ y + R = v ∧ x + Q = m ∧ y = n + T ∧ P * T + 1 = Q * R
  t1 : 1 ≤ T
  id : (e = true ∧ P = 1 ∧ Q = 0 ∧ R = 0 ∧ T = 1 ∧ x = x0 ∧ y = y0) ∨ (1 ≤ Q ∧ 1 ≤ R ∧ v < u ∧ n < m)
  p9 : P ≤ 1000000000
  q9 : Q ≤ 1000000000
  r9 : R ≤ 1000000000
  t9 : T ≤ 1000000000
theorem st_start {x0 y0 : Nat} : LSt x0 y0 true x0 y0 1 0 0 1 (x0 + 1) y0 x0 (y0 + 1) :=
  ⟨by omega, by omega, by omega, by omega, fun _ => by omega, fun h => by simp at h, by omega, Or.inl ⟨rfl, rfl, rfl, rfl, rfl, rfl, rfl⟩, by omega, by omega, by omega, by omega⟩
theorem sq_small {a b : Nat} (h : a * b ≤ 1000000000000000000) (h1 : a < b) : a ≤ 1000000000 := by
  rcases Nat.lt_or_ge 1000000000 a with h2 | h2
  · have := Nat.mul_le_mul (show 1000000001 ≤ a by omega) (show 1000000001 ≤ b by omega)
    omega
  · exact h2
theorem st_step {x0 y0 x y P Q R T u v m n q : Nat} {e : Bool} (h : LSt x0 y0 e x y P Q R T u v m n) (hx : x0 < 1000000000000000000) (hy : y0 ≤ x0) (hv : 0 < v) (hn : 0 < n) (hq : u / v = q) (hq2 : m / n = q) :
    q * y ≤ x ∧ 1 ≤ q ∧ 1 ≤ y ∧ LSt x0 y0 (!e) y (x - q * y) R T (P + q * R) (Q + q * T) v (u - q * v) n (m - q * n) := by
  have d1 : q * v ≤ u := by rw [← hq]; exact Nat.div_mul_le_self _ _
  have d2 : q * n ≤ m := by rw [← hq2]; exact Nat.div_mul_le_self _ _
  have d3 : u - q * v < v := by have := Nat.mod_lt u hv; rw [Nat.mod_def, hq, Nat.mul_comm] at this; exact this
  have d4 : m - q * n < n := by have := Nat.mod_lt m hn; rw [Nat.mod_def, hq2, Nat.mul_comm] at this; exact this
  have hq1 : 1 ≤ q := by
    rw [← hq]
    have : v ≤ u := by
      rcases h.id with ⟨i1, i2, i3, i4, i5, i6, i7⟩ | ⟨_, _, h3, _⟩
      · have := h.e1 i1; omega
      · omega
    exact Nat.div_pos this hv
  obtain ⟨v2, hv2⟩ : ∃ v2, u - q * v = v2 := ⟨_, rfl⟩
  obtain ⟨n2, hn2⟩ : ∃ n2, m - q * n = n2 := ⟨_, rfl⟩
  have f1 : u = v2 + q * v := by omega
  have f2 : m = n2 + q * n := by omega
  rw [hv2, hn2]
  rw [hv2] at d3
  rw [hn2] at d4
  have a1 : (Q + q * T) * v + T * v2 = x0 + 1 := by rw [← h.tu, f1]; grind
  have a2 : (P + q * R) * v + R * v2 = y0 := by rw [← h.ru, f1]; grind
  have a3 : (Q + q * T) * n + T * n2 = x0 := by rw [← h.tm, f2]; grind
  have a4 : (P + q * R) * n + R * n2 = y0 + 1 := by rw [← h.rm, f2]; grind
  have t1 := h.t1
  have hT2 : 1 ≤ Q + q * T := by
    have := Nat.mul_le_mul hq1 t1
    omega
  have hR2 : 1 ≤ P + q * R := by
    rcases h.id with ⟨i1, i2, _⟩ | ⟨_, h2, _, _⟩
    · omega
    · have := Nat.mul_le_mul hq1 h2; omega
  obtain ⟨R2, hR⟩ : ∃ R2, P + q * R = R2 := ⟨_, rfl⟩
  obtain ⟨T2, hT⟩ : ∃ T2, Q + q * T = T2 := ⟨_, rfl⟩
  rw [hR] at a2 a4 hR2 ⊢
  rw [hT] at a1 a3 hT2 ⊢
  have b1 : T2 * v ≤ x0 + 1 := by omega
  have b2 : R2 * v ≤ y0 := by omega
  have b3 : T2 * n ≤ x0 := by omega
  have b4 : R2 * n ≤ y0 + 1 := by omega
  cases e with
  | true =>
    obtain ⟨c1, c2, c3, c4, c5⟩ := h.e1 rfl
    have y1 : 1 ≤ y := by omega
    have z1 : q * y + T2 + n2 = x := by rw [c3, f2, ← hT, ← c4]; grind
    have z2 : q * y + v2 = x + R2 := by rw [← hR, c2]; have : x + P = v2 + q * v := by omega
                                        grind
    have z3 : v2 = x - q * y + R2 := by omega
    refine ⟨by omega, hq1, y1, ⟨a1, a2, a3, a4, fun h => by simp at h, fun _ => ⟨by omega, by omega, by omega, by omega, ?_⟩, hT2, Or.inr ⟨t1, hR2, d3, d4⟩, h.r9, h.t9, sq_small (b := v) (by omega) (by omega), sq_small (b := v) (by omega) (by omega)⟩⟩
    rw [← hR, ← hT]; grind
  | false =>
    obtain ⟨c1, c2, c3, c4, c5⟩ := h.e2 rfl
    have y1 : 1 ≤ y := by omega
    have z1 : q * y + R2 + v2 = x := by rw [c1, f1, ← hR, ← c2]; grind
    have z2 : q * y + n2 = x + T2 := by rw [← hT, c4]; have : x + Q = n2 + q * n := by omega
                                        grind
    refine ⟨by omega, hq1, y1, ⟨a1, a2, a3, a4, fun _ => ⟨by omega, by omega, by omega, by omega, ?_⟩, fun h => by simp at h, hT2, Or.inr ⟨t1, hR2, d3, d4⟩, h.r9, h.t9, sq_small (b := n) (by omega) (by omega), sq_small (b := n) (by omega) (by omega)⟩⟩
    rw [← hR, ← hT]; grind
end Go.Proofs.YtbfbijokhlkekaaDoor

/- What Lehmer's steps come to. -/
namespace Go.Proofs.YtbfbijokhlkekaaDoor

/-- A number with a sign. -/
def sg (e : Bool) (n : Nat) : Int := if e then (n : Int) else -(n : Int)
theorem sg_box (e : Bool) {n : Nat} (h : n ≤ 1000000000) : -1000000000 ≤ sg e n ∧ sg e n ≤ 1000000000 := by
  unfold sg; split <;> omega
theorem gcd_lin {a b c d P Q R T : Nat} (h1 : T * c + Q * d = a) (h2 : R * c + P * d = b) (h3 : (c + Q * b = P * a ∧ d + R * a = T * b) ∨ (c + P * a = Q * b ∧ d + T * b = R * a)) : Nat.gcd c d = Nat.gcd a b := by
  apply Nat.dvd_antisymm
  · have k1 := Nat.gcd_dvd_left c d
    have k2 := Nat.gcd_dvd_right c d
    refine Nat.dvd_gcd ?_ ?_
    · rw [← h1]; exact Nat.dvd_add (Nat.dvd_mul_left_of_dvd k1 _) (Nat.dvd_mul_left_of_dvd k2 _)
    · rw [← h2]; exact Nat.dvd_add (Nat.dvd_mul_left_of_dvd k1 _) (Nat.dvd_mul_left_of_dvd k2 _)
  · have k1 := Nat.gcd_dvd_left a b
    have k2 := Nat.gcd_dvd_right a b
    have m1 := fun n => Nat.dvd_mul_left_of_dvd k1 n
    have m2 := fun n => Nat.dvd_mul_left_of_dvd k2 n
    rcases h3 with ⟨h4, h5⟩ | ⟨h4, h5⟩
    · exact Nat.dvd_gcd ((Nat.dvd_add_left (m2 Q)).1 (by rw [h4]; exact m1 P)) ((Nat.dvd_add_left (m1 R)).1 (by rw [h5]; exact m2 T))
    · exact Nat.dvd_gcd ((Nat.dvd_add_left (m1 P)).1 (by rw [h4]; exact m2 Q)) ((Nat.dvd_add_left (m2 T)).1 (by rw [h5]; exact m1 R))
/-- What the numbers that some steps lead to keep. -/
structure SE (a b c d : Nat) (s0 s1 s2 s3 : Int) : Prop where
  c0 : (c : Int) = s0 * (a : Int) + s1 * (b : Int)
  d0 : (d : Int) = s2 * (a : Int) + s3 * (b : Int)
  ca : c ≤ a
  da : d ≤ a
  dc : d < c
  g : Nat.gcd c d = Nat.gcd a b
  less : c + d < a + b
theorem se_close {a b c d P Q R T : Nat} (e : Bool) (h1 : T * c + Q * d = a) (h2 : R * c + P * d = b) (he : e = true → c + Q * b = P * a ∧ d + R * a = T * b) (he2 : e = false → c + P * a = Q * b ∧ d + T * b = R * a)
    (hT : 1 ≤ T) (hQ : 1 ≤ Q) (hR : 1 ≤ R) (hdc : d < c) : SE a b c d (sg e P) (sg (!e) Q) (sg (!e) R) (sg e T) := by
  have a1 := Nat.mul_le_mul_right c hT
  have a2 := Nat.mul_le_mul_right d hQ
  have a3 := Nat.mul_le_mul_right c hR
  have hg : Nat.gcd c d = Nat.gcd a b := gcd_lin h1 h2 (by cases e; exact Or.inr (he2 rfl); exact Or.inl (he rfl))
  cases e with
  | true =>
    obtain ⟨k1, k2⟩ := he rfl
    refine ⟨?_, ?_, by omega, by omega, hdc, hg, by omega⟩
    · have : ((c + Q * b : Nat) : Int) = ((P * a : Nat) : Int) := by rw [k1]
      simp only [Int.natCast_add, Int.natCast_mul] at this
      simp only [sg, if_true, Bool.not_true, Bool.false_eq_true, if_false]
      grind
    · have : ((d + R * a : Nat) : Int) = ((T * b : Nat) : Int) := by rw [k2]
      simp only [Int.natCast_add, Int.natCast_mul] at this
      simp only [sg, if_true, Bool.not_true, Bool.false_eq_true, if_false]
      grind
  | false =>
    obtain ⟨k1, k2⟩ := he2 rfl
    refine ⟨?_, ?_, by omega, by omega, hdc, hg, by omega⟩
    · have : ((c + P * a : Nat) : Int) = ((Q * b : Nat) : Int) := by rw [k1]
      simp only [Int.natCast_add, Int.natCast_mul] at this
      simp only [sg, if_true, Bool.not_false, Bool.false_eq_true, if_false]
      grind
    · have : ((d + T * b : Nat) : Int) = ((R * a : Nat) : Int) := by rw [k2]
      simp only [Int.natCast_add, Int.natCast_mul] at this
      simp only [sg, if_true, Bool.not_false, Bool.false_eq_true, if_false]
      grind
theorem st_end {x0 y0 x y P Q R T u v m n S a b : Nat} {e : Bool} (h : LSt x0 y0 e x y P Q R T u v m n) (hS : 0 < S) (ha : a / S = x0) (hb : b / S = y0) (h1 : 1 ≤ Q) (h2 : 1 ≤ R) (h3 : v < u) (h4 : n < m) :
    ∃ c d, SE a b c d (sg e P) (sg (!e) Q) (sg (!e) R) (sg e T) := by
  obtain ⟨ra, ra', ea, ea2⟩ : ∃ ra ra', a = S * x0 + ra ∧ S = ra + ra' := by
    refine ⟨a % S, S - a % S, ?_, ?_⟩
    · rw [← ha]; exact (Nat.div_add_mod a S).symm
    · have := Nat.mod_lt a hS; omega
  obtain ⟨rb, rb', eb, eb2⟩ : ∃ rb rb', b = S * y0 + rb ∧ S = rb + rb' := by
    refine ⟨b % S, S - b % S, ?_, ?_⟩
    · rw [← hb]; exact (Nat.div_add_mod b S).symm
    · have := Nat.mod_lt b hS; omega
  have tu := h.tu
  have ru := h.ru
  have tm := h.tm
  have rm := h.rm
  have t1 := h.t1
  clear ha hb
  cases e with
  | true =>
    obtain ⟨c1, c2, c3, c4, c5⟩ := h.e1 rfl
    obtain ⟨z, hz⟩ : ∃ z, m = n + 1 + z := ⟨m - n - 1, by omega⟩
    have k1 : P * x0 = x + Q * y0 := by
      have : P * x0 + Q = x + Q * (y0 + 1) := by rw [← tm, ← rm, c3]; grind
      grind
    have k2 : T * y0 = y + R * x0 := by
      have : T * y0 + R = y + R * (x0 + 1) := by rw [← tu, ← ru, c2]; grind
      grind
    obtain ⟨c, hc⟩ : ∃ c, S * m + Q * rb' + P * ra = c := ⟨_, rfl⟩
    obtain ⟨d, hd⟩ : ∃ d, S * v + R * ra' + T * rb = d := ⟨_, rfl⟩
    have q1 : c + Q * b = P * a := by rw [← hc, ea, eb]; grind
    have q2 : d + R * a = T * b := by rw [← hd, ea, eb]; grind
    refine ⟨c, d, se_close true ?_ ?_ (fun _ => ⟨q1, q2⟩) (fun h => by simp at h) t1 h1 h2 ?_⟩
    · grind
    · grind
    · have w1 : c = d + S * (1 + z) + (Q + T) * rb' + (P + R) * ra := by rw [← hc, ← hd]; grind
      have w2 := Nat.mul_le_mul hS (show 1 ≤ 1 + z by omega)
      omega
  | false =>
    obtain ⟨c1, c2, c3, c4, c5⟩ := h.e2 rfl
    obtain ⟨z, hz⟩ : ∃ z, u = v + 1 + z := ⟨u - v - 1, by omega⟩
    have k1 : Q * y0 = x + P * x0 := by
      have : Q * y0 + P = x + P * (x0 + 1) := by rw [← tu, ← ru, c1]; grind
      grind
    have k2 : R * x0 = y + T * y0 := by
      have : R * x0 + T = y + T * (y0 + 1) := by rw [← tm, ← rm, c4]; grind
      grind
    obtain ⟨c, hc⟩ : ∃ c, S * u + P * ra' + Q * rb = c := ⟨_, rfl⟩
    obtain ⟨d, hd⟩ : ∃ d, S * n + T * rb' + R * ra = d := ⟨_, rfl⟩
    have q1 : c + P * a = Q * b := by rw [← hc, ea, eb]; grind
    have q2 : d + T * b = R * a := by rw [← hd, ea, eb]; grind
    refine ⟨c, d, se_close false ?_ ?_ (fun h => by simp at h) (fun _ => ⟨q1, q2⟩) t1 h1 h2 ?_⟩
    · grind
    · grind
    · have w1 : c = d + S * (1 + z) + (P + R) * ra' + (Q + T) * rb := by rw [← hc, ← hd]; grind
      have w2 := Nat.mul_le_mul hS (show 1 ≤ 1 + z by omega)
      omega
end Go.Proofs.YtbfbijokhlkekaaDoor
