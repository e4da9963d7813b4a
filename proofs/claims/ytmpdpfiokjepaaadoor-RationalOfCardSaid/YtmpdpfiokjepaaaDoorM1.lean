/- Contracts of the functions that the statement reaches, part 1: what was proved of each, callees first. -/
import Derived.Test.YtmpdpfiokjepaaaDoorProg
import Derived.WalkKit
import Derived.WalkSpells
import Derived.Lib.Hide
import Derived.Deep.QuietTactic
import Derived.BigQuiet
import Derived.Deep.Draws
import Derived.Laws.Rows
import Derived.Laws.CopyOwn
import Derived.Deep.OwnRows
import Derived.Outline
import Derived.Lib.ItoaNum
import Derived.Shelf.Small.Bits
import Derived.Shelf.Small.Wraps
import Derived.Shelf.Strconv.Itoa0
import Derived.Shelf.Strconv.Itoa1
import Derived.Shelf.LaysM
import Derived.Shelf.Strconv.Itoa2
import Derived.Shelf.Strconv.AppendUint10
import Derived.Shelf.Bits.Mul64
import Derived.Laws.BytesString
import Derived.Laws.Cells
import Derived.Test.YtmpdpfiokjepaaaDoorRows
import Derived.ProofKit
import Derived.LaidMore
import Derived.OpenShut
import Derived.Stop.Joined
import Derived.ChangeSame
import Derived.Lib.LaidTab
import Derived.Deep.RegionHeld
import Derived.Below
import Derived.StillTail
/- Words for memory: a row of unsigned numbers that a slice reads as, and a block that is known whole. -/
namespace Go.Proofs.YtmpdpfiokjepaaaDoor
open Go.RowKit

/-- The k-th number of a list, 0 behind its end. -/
def nth (L : List Nat) (k : Nat) : Nat := L.getD k 0
theorem nth_lt {L : List Nat} {k : Nat} (h : k < L.length) : nth L k = L[k] := by simp [nth, h]
theorem nth_ge {L : List Nat} {k : Nat} (h : L.length ≤ k) : nth L k = 0 := by simp [nth, h]
theorem nth_all {L : List Nat} {b : Nat} (h : ∀ d ∈ L, d < b) (hb : 0 < b) (k : Nat) : nth L k < b := by
  rcases Nat.lt_or_ge k L.length with hk | hk
  · rw [nth_lt hk]; exact h _ (List.getElem_mem hk)
  · rw [nth_ge hk]; exact hb

/-- The cells of a row: from offset o of block b on lie the numbers L. -/
def Cells (k : IntKind) (w : World) (b o : Nat) (L : List Nat) : Prop := ∀ j, j < L.length → w.cell? ⟨b, o + j, none⟩ = some (.int k (nth L j))

/-- Block g holds just the numbers L, and none of its cells is frozen. -/
def Blk (k : IntKind) (t : TypeId) (w : World) (g : Nat) (L : List Nat) : Prop := w.heap[g]? = some (.cells (L.map fun (d : Nat) => Value.int k (d : Int)).toArray t (0, 0))

section
variable {k : IntKind} {t : TypeId} {w w' : World} {b o g B : Nat} {L : List Nat}
theorem Cells.keep (h : Cells k w b o L) (hk : ∀ j, w'.cell? ⟨b, j, none⟩ = w.cell? ⟨b, j, none⟩) : Cells k w' b o L := fun j hj => (hk _).trans (h j hj)
theorem Cells.below (h : Cells k w b o L) (hb : Below B w w') (hB : b < B) : Cells k w' b o L := h.keep fun _ => hb.cell (by exact hB)
theorem Cells.grown {row : Option Nat} (h : Cells k w b o L) (hg : w.grownBy w' row) (hB : b < w.heap.size) (hr : some b ≠ row) : Cells k w' b o L :=
  h.keep fun _ => World.cell?_of_block (hg.block b hB hr)
theorem Cells.take (h : Cells k w b o L) (n : Nat) : Cells k w b o (L.take n) := fun j hj => by
  have h1 : j < n ∧ j < L.length := by rw [List.length_take] at hj; omega
  rw [h j h1.2]; simp [nth, h1.1]
theorem Cells.drop (h : Cells k w b o L) (n : Nat) : Cells k w b (o + n) (L.drop n) := fun j hj => by
  have h1 : n + j < L.length := by simp [List.length_drop] at hj; omega
  have h2 := h (n + j) h1
  rw [Nat.add_assoc, h2]; simp [nth]
theorem Blk.lt (h : Blk k t w g L) : g < w.heap.size := by
  rcases Nat.lt_or_ge g w.heap.size with hlt | hge
  · exact hlt
  · unfold Blk at h; rw [Array.getElem?_eq_none hge] at h; cases h
theorem Blk.cell (h : Blk k t w g L) (i : Nat) (hi : i < L.length) : w.cell? ⟨g, i, none⟩ = some (.int k (nth L i)) := by
  unfold Blk at h
  simp [World.cell?, h, nth, hi]
theorem Blk.frozen (h : Blk k t w g L) (i : Nat) : w.frozen? ⟨g, i, none⟩ = false := by
  unfold Blk at h
  simp [World.frozen?, h]
theorem Blk.cells (h : Blk k t w g L) : Cells k w g 0 L := fun j hj => by simpa using h.cell j hj
theorem Blk.set_ (h : Blk k t w g L) (i x : Nat) : Blk k t (w.setCell ⟨g, i, none⟩ (.int k x)) g (L.set i x) := by
  unfold Blk at h ⊢
  simp [World.setCell, Array.getElem?_modify, h, List.map_set]
theorem Blk.setI (h : Blk k t w g L) (i : Nat) {v : Int} {x : Nat} (hv : v = (x : Int)) : Blk k t (w.setCell ⟨g, i, none⟩ (.int k v)) g (L.set i x) := by
  subst hv; exact h.set_ i x
theorem Blk.far (h : Blk k t w g L) {p : Addr} (hp : g ≠ p.block) (u : Value) : Blk k t (w.setCell p u) g L := (Below.heap_setCell w p u g hp).trans h
theorem Blk.drew (h : Blk k t w g L) : Blk k t w.drew g L := h
theorem Blk.drewN (h : Blk k t w g L) (n : Nat) : Blk k t (w.drewN n) g L := h
theorem Blk.alloc (h : Blk k t w g L) (o : Obj) : Blk k t (w.alloc o) g L := (Below.heap_alloc w o g h.lt).trans h
theorem Blk.below (h : Blk k t w g L) (hb : Below B w w') (hg : g < B) : Blk k t w' g L := (hb.block g hg).trans h
theorem Blk.grown {row : Option Nat} (h : Blk k t w g L) (hb : w.grownBy w' row) (hg : some g ≠ row) : Blk k t w' g L := (hb.block g h.lt hg).trans h
end

/-- The slice value '.slice A L.length c' reads as the numbers L, in a block below B. -/
structure Row (k : IntKind) (w : World) (B : Nat) (A : Option Addr) (c : Nat) (L : List Nat) : Prop where
  len : L.length ≤ c
  spot : 0 < L.length → ∃ b o, A = some ⟨b, o, none⟩ ∧ b < B ∧ Cells k w b o L
section
variable {k : IntKind} {t : TypeId} {w w' : World} {g B B' c : Nat} {A : Option Addr} {L : List Nat}
theorem Row.keep (h : Row k w B A c L) (hk : ∀ b j, b < B → w'.cell? ⟨b, j, none⟩ = w.cell? ⟨b, j, none⟩) : Row k w' B A c L :=
  ⟨h.len, fun hp => by obtain ⟨b, o, e, hb, hc⟩ := h.spot hp; exact ⟨b, o, e, hb, hc.keep fun j => hk b j hb⟩⟩
theorem Row.more (h : Row k w B A c L) (hB : B ≤ B') : Row k w B' A c L := ⟨h.len, fun hp => by obtain ⟨b, o, e, hb, hc⟩ := h.spot hp; exact ⟨b, o, e, by omega, hc⟩⟩
theorem Row.below (h : Row k w B A c L) (hb : Below B w w') : Row k w' B A c L := h.keep fun b _ hB => hb.cell (by exact hB)
theorem Row.drewN (h : Row k w B A c L) (n : Nat) : Row k (w.drewN n) B A c L := h.keep fun _ _ _ => rfl
theorem Row.drew (h : Row k w B A c L) : Row k w.drew B A c L := h.keep fun _ _ _ => rfl
theorem Row.alloc (h : Row k w B A c L) (hB : B ≤ w.heap.size) (o : Obj) : Row k (w.alloc o) B A c L := h.keep fun b j hb => World.cell?_alloc_lt w o _ (by show b < _; omega)
theorem Row.setCell (h : Row k w B A c L) {p : Addr} (hB : B ≤ p.block) (u : Value) : Row k (w.setCell p u) B A c L :=
  h.keep fun b j hb => World.cell?_setCell_other w p _ u (fun e => by subst e; exact absurd hB (by show ¬ B ≤ b; omega))
theorem Row.nil (k : IntKind) (w : World) (B : Nat) (A : Option Addr) (c : Nat) : Row k w B A c [] := ⟨Nat.zero_le _, fun h => absurd h (by simp)⟩
theorem Row.take (h : Row k w B A c L) (n : Nat) : Row k w B A c (L.take n) :=
  ⟨by have := h.len; rw [List.length_take]; omega, fun hp => by
    obtain ⟨b, o, e, hb, hc⟩ := h.spot (by rw [List.length_take] at hp; omega)
    exact ⟨b, o, e, hb, hc.take n⟩⟩
theorem Row.ofBlk (h : Blk k t w g L) (hB : g < B) (hc : L.length ≤ c) : Row k w B (some ⟨g, 0, none⟩) c L := ⟨hc, fun _ => ⟨g, 0, rfl, hB, h.cells⟩⟩
end

/-- The slice value v owns the numbers L, in a block of the call's own (from block number base on), or is nil and owns none. -/
def Own (k : IntKind) (e : TypeId) (w : World) (base : Nat) (v : Value) (L : List Nat) : Prop := w.ownsRow base e 1 v L.length (L.map fun (d : Nat) => Value.int k (d : Int))
theorem Own.nil (k : IntKind) (e : TypeId) (w : World) (base : Nat) : Own k e w base (.slice none 0 0) [] := World.ownsRow_nil _ _ _ _
theorem Own.row {k : IntKind} {e : TypeId} {w : World} {base : Nat} {v : Value} {L : List Nat} (h : Own k e w base v L) :
    ∃ A c, v = .slice A L.length c ∧ Row k w w.heap.size A c L := by
  obtain ⟨h1, h2⟩ := h
  rcases h2 with ⟨rfl, h0⟩ | ⟨g, cap, cur, rfl, hbg, hg, hn, hcap, hsz, hcur⟩
  · obtain rfl : L = [] := List.eq_nil_of_length_eq_zero h0
    exact ⟨none, 0, rfl, Row.nil _ _ _ _ _⟩
  · refine ⟨_, cap, rfl, hn, fun _ => ⟨g, 0, rfl, ?_, fun j hj => ?_⟩⟩
    · rcases Nat.lt_or_ge g w.heap.size with hlt | hge
      · exact hlt
      · rw [Array.getElem?_eq_none hge] at hg; cases hg
    · have h3 : cur.toList[j]? = some (Value.int k (nth L j)) := by
        have : (cur.toList.take (L.length * 1))[j]? = some (Value.int k (nth L j)) := by
          rw [hcur, List.getElem?_map, List.getElem?_eq_getElem hj, nth_lt hj]; rfl
        rw [List.getElem?_take] at this
        split at this
        · exact this
        · cases this
      simp only [World.cell?, hg, Nat.zero_add]
      simpa using h3
theorem Own.drewN {k : IntKind} {e : TypeId} {w : World} {base : Nat} {v : Value} {L : List Nat} (h : Own k e w base v L) (n : Nat) : Own k e (w.drewN n) base v L := h
/-- 'append' of one number to a row of the call's own; the number lies in a new block of one cell. -/
theorem wpList_append_num {P : Program} (w : World) {ops : Array Oper} {rest : List Oper} {o : Oper} {a : Act} {Q : Exit → Act → World → Prop} (hgd : o.guard = none) (s x : Operand) (t : TypeId)
    (ho : o.op = .call { callee := .builtin .append, args := #[s, x], argTypes := #[t, t] })
    (k : IntKind) (base : Nat) (e : TypeId) (i : TypeInfo) (bytes : Nat) (ht : P.underlying t = some (.slice e)) (hi : P.info? e = some i) (hz : i.zero = some (.int k 0))
    (hsize : i.size = 1) (hby : i.bytes = bytes) (hb8 : bytes ≤ 8)
    (v : Value) (L : List Nat) (hs : a.eval s = v) (hown : Own k e w base v L) (X : Int) (d : Nat) (hX : X = (d : Int)) (c : Nat) (hx : a.eval x = .slice (some ⟨w.heap.size, 0, none⟩) 1 c)
    (hlen : L.length ≤ 100000000) (hbase : base ≤ w.heap.size)
    (h : ∀ v' w', Hid (Own k e w' base v' (L ++ [d])) → Below base w w' → wpList P ops Q rest (a.put o.dst v') w') : wpList P ops Q (o :: rest) a (w.alloc (.cells #[.int k X] e)) := by
  subst hX
  refine wpList_append_own (w.alloc (.cells #[.int k (d : Int)] e)) hgd s x t ho base e i (.int k 0) 1 bytes ht hi hz hsize hby rfl (by decide) v L.length (L.map fun (d : Nat) => Value.int k (d : Int)) hs (World.ownsRow.alloc hown _)
    ⟨w.heap.size, 0, none⟩ 1 c [.int k (d : Int)] hx rfl ?_ ?_ ?_ ?_ ?_ ?_
  · intro j u hj
    match j, hj with
    | 0, hj =>
      simp at hj; subst hj
      unfold World.cell? Addr.add
      rw [if_pos rfl]
      dsimp only
      rw [heap_alloc_new]
      rfl
  · intro u hu; simp at hu; subst hu; rfl
  · unfold maxLen; omega
  · have : (L.length + 1) * bytes ≤ (L.length + 1) * 8 := Nat.mul_le_mul_left _ hb8
    omega
  · simp; omega
  · intro v' w' h1 h2 _
    refine h v' w' ?_ ?_
    · show World.ownsRow _ _ _ _ _ _ _
      rw [List.length_append, List.map_append]
      exact h1
    · refine ((Below.refl base w).alloc hbase _).grown h2 (by simp; omega) (fun j hj => ?_)
      exact (World.ownsRow.lt hown j hj).1

theorem below_alloc_new {w : World} (o : Obj) : Below w.heap.size w (w.alloc o) := (Below.refl _ _).alloc (Nat.le_refl _) _
/-- 'make' of n zeros: a block of its own, known whole. -/
theorem wpList_make_zeros {P : Program} (w : World) {ops : Array Oper} {rest : List Oper} {o : Oper} {a : Act} {Q : Exit → Act → World → Prop}
    (hg : o.guard = none) (l c : Operand) (t : TypeId) (hop : o.op = Op.makeSlice t l c)
    (e : TypeId) (k : IntKind) (i : TypeInfo) (bytes : Nat) (ht : P.underlying t = some (.slice e)) (hi : P.info? e = some i) (hz : i.zero = some (.int k 0)) (hsize : i.size = 1) (hbt : i.bytes = bytes)
    (kl kc : IntKind) (N C : Int) (n : Nat) (hl : a.eval l = .int kl N) (hc : a.eval c = .int kc C) (hN : N = (n : Int)) (hC : C = (n : Int)) (hb8 : bytes ≤ 8) (hn : n ≤ 100000000)
    (hK : ∀ w', Hid (Blk k e w' w.heap.size (List.replicate n 0)) → Below w.heap.size w w' → w.heap.size + 1 = w'.heap.size → wpList P ops Q rest (a.put o.dst (.slice (some ⟨w.heap.size, 0, none⟩) n n)) w') :
    wpList P ops Q (o :: rest) a w := by
  subst hN
  subst hC
  refine wpList_make_row w hg l c t hop e i (.int k 0) ht hi hz hsize rfl kl kc n hl hc ?_ (by omega) ?_
  · have : i.bytes * n ≤ 8 * n := Nat.mul_le_mul_right _ (by omega)
    omega
  refine hK _ ?_ (below_alloc_new _) (by simp)
  show _ = _
  rw [heap_alloc_new]
  have : madeCells #[Value.int k 0] n = ((List.replicate n 0).map fun (d : Nat) => Value.int k (d : Int)).toArray := by
    apply Array.ext
    · simp [madeCells]
    · intro j h1 h2
      simp [madeCells, Nat.mod_one]
  rw [this]

theorem splice_map {α β : Type} (f : α → β) (L : List α) (o : Nat) (cs : List α) : splice (L.map f) o (cs.map f) = (splice L o cs).map f := by simp [splice]
theorem splice_all {α : Type} (L cs : List α) (h : L.length = cs.length) : splice L 0 cs = cs := by simp [splice, ← h]
/-- 'copy' of a whole row into a block that is known whole. -/
theorem wpList_copy_row {P : Program} {w : World} {ops : Array Oper} {rest : List Oper} {o : Oper} {a : Act} {Q : Exit → Act → World → Prop} (hgd : o.guard = none) (d s : Operand) (dT sT : TypeId)
    (ho : o.op = .call { callee := .builtin .copy, args := #[d, s], argTypes := #[dT, sT] }) (elem : TypeId) (hu : P.underlying dT = some (.slice elem)) (hsz : (P.info? elem).map (·.size) = some 1)
    (k : IntKind) (t : TypeId) (g dLen dCap sCap : Nat) (A : Option Addr) (M L : List Nat) (hd : a.eval d = .slice (some ⟨g, 0, none⟩) dLen dCap) (hs : a.eval s = .slice A L.length sCap)
    (hg : Blk k t w g M) (hR : Row k w g A sCap L) (hfit : L.length ≤ dLen) (hM : dLen ≤ M.length)
    (h : ∀ w', Hid (Blk k t w' g (splice M 0 L)) → Below g w w' → wpList P ops Q rest (a.put o.dst (goInt L.length)) w') :
    wpList P ops Q (o :: rest) a w := by
  refine wpList_copy_splice hgd d s dT sT ho elem hu hsz (some ⟨g, 0, none⟩) A dLen dCap L.length sCap hd hs g 0 (M.map fun (d : Nat) => Value.int k (d : Int)) t hg (L.map fun (d : Nat) => Value.int k (d : Int)) ?_ ?_ ?_ ?_ g w (Below.refl _ _) (Nat.le_refl _) ?_
  · simp only [List.length_map]; exact (Nat.min_eq_left hfit).symm
  · intro hp
    refine ⟨rfl, ?_⟩
    obtain ⟨b, o, e, _, hc⟩ := hR.spot (by simpa using hp)
    refine ⟨_, e, fun j v hj => ?_⟩
    have hjl : j < L.length := by
      rcases Nat.lt_or_ge j L.length with h1 | h1
      · exact h1
      · rw [List.getElem?_eq_none (by simpa using h1)] at hj; cases hj
    have h2 := hc j hjl
    have h3 : v = .int k (nth L j) := by
      rw [List.getElem?_map, List.getElem?_eq_getElem hjl] at hj
      simp at hj
      rw [← hj, nth_lt hjl]
    rw [h3, ← h2]
    unfold Addr.add
    split
    · rename_i h0; subst h0; simp
    · rfl
  · simpa using Nat.le_trans hfit hM
  · intro v hv
    obtain ⟨d, _, rfl⟩ := List.mem_map.1 hv
    rfl
  · intro w' h1 h2
    have h3 := h1.out
    rw [splice_map] at h3
    have h4 := h w' h3 h2
    simpa using h4

/-- Where the numbers of a row end when the zeros at its end are left out. -/
def trimN (L : List Nat) : Nat → Nat
  | 0 => 0
  | n + 1 => if nth L n = 0 then trimN L n else n + 1
theorem trimN_le (L : List Nat) (n : Nat) : trimN L n ≤ n := by
  induction n with
  | zero => simp [trimN]
  | succ n ih => unfold trimN; split <;> omega

/-- The order of two numbers as -1, 0, 1. -/
def cmpZ (x y : Nat) : Int := if x < y then -1 else if x = y then 0 else 1
/-- Of two rows of one length: the order of the highest numbers below n in which they differ. -/
def cmpDown (L M : List Nat) : Nat → Int
  | 0 => 0
  | n + 1 => if nth L n = nth M n then cmpDown L M n else cmpZ (nth L n) (nth M n)
def cmpL (L M : List Nat) : Int := if L.length = M.length then cmpDown L M L.length else cmpZ L.length M.length

/-- A quiet contract at a world that has drawn before: the draws add up. -/
theorem quiet_more {P : Program} {f : FuncId} {args : Array Value} {w : World} {a n : Nat} {v : Value}
    (h : ∀ W : World, Calls P f args W fun e w' => e = .returned v ∧ ∃ m, w' = W.drewN m) :
    Calls P f args (w.drewN (a + n)) fun e w'' => e = .returned v ∧ ∃ m, w'' = w.drewN (a + m) :=
  (h _).mono fun _ _ ⟨he, m, hm⟩ => ⟨he, n + m, by rw [hm, World.drewN_drewN, Nat.add_assoc]⟩
theorem quiet_one {P : Program} {f : FuncId} {args : Array Value} {w : World} {n : Nat} {v : Value}
    (h : ∀ W : World, Calls P f args W fun e w' => e = .returned v ∧ ∃ m, w' = W.drewN m) :
    Calls P f args (w.drewN n) fun e w'' => e = .returned v ∧ ∃ m, w'' = w.drewN m :=
  (h _).mono fun _ _ ⟨he, m, hm⟩ => ⟨he, n + m, by rw [hm, World.drewN_drewN]⟩
theorem same_quiet {P : Program} {f : FuncId} {args : Array Value} {v : Value} (h : ∀ W : World, Calls P f args W fun e w' => e = .returned v ∧ W = w') :
    ∀ W : World, Calls P f args W fun e w' => e = .returned v ∧ ∃ m, w' = W.drewN m := fun W => (h W).mono fun _ _ ⟨he, hw⟩ => ⟨he, 0, by rw [← hw]; rfl⟩

theorem drew3 (w : World) (a b c : Nat) : ((w.drewN a).drewN b).drewN c = w.drewN (a + b + c) := by rw [World.drewN_drewN, World.drewN_drewN, Nat.add_assoc]

theorem grown_refl (w : World) (row : Option Nat) : w.grownBy w row := World.grownBy.refl w _
theorem grown_set {a w : World} {g : Nat} (h : a.grownBy w (some g)) (i : Nat) (u : Value) : a.grownBy (w.setCell ⟨g, i, none⟩ u) (some g) :=
  ⟨h.os, h.tape, h.output, by simpa [World.setCell] using h.size, fun j hj hne => (Below.heap_setCell w _ u j (by rintro rfl; exact hne rfl)).trans (h.block j hj hne)⟩
theorem grown_drewN {a w : World} {row : Option Nat} (h : a.grownBy w row) (n : Nat) : a.grownBy (w.drewN n) row := ⟨h.os, h.tape, h.output, h.size, h.block⟩
theorem grown_below {B g : Nat} {a w w' : World} (h : Below B a w) (hg : w.grownBy w' (some g)) (hB : B ≤ g) (hs : B ≤ w.heap.size) : Below B a w' :=
  ⟨hg.os.trans h.os, hg.tape.trans h.tape, hg.output.trans h.output, Nat.le_trans h.size hg.size, fun i hi => (hg.block i (by omega) (by intro e; injection e; omega)).trans (h.block i hi)⟩
theorem grown_none_below {B : Nat} {a w w' : World} (h : Below B a w) (hg : w.grownBy w' none) (hs : B ≤ w.heap.size) : Below B a w' :=
  ⟨hg.os.trans h.os, hg.tape.trans h.tape, hg.output.trans h.output, Nat.le_trans h.size hg.size, fun i hi => (hg.block i (by omega) (by simp)).trans (h.block i hi)⟩
theorem below_drewN {B : Nat} {a w : World} (h : Below B a w) (n : Nat) : Below B a (w.drewN n) := ⟨h.os, h.tape, h.output, h.size, h.block⟩

theorem ret_int {k : IntKind} {a b : Int} (h : a = b) : Ending.returned (.int k a) = .returned (.int k b) := by rw [h]
end Go.Proofs.YtmpdpfiokjepaaaDoor

/- Numbers in a base, and decimal texts. -/
namespace Go.Proofs.YtmpdpfiokjepaaaDoor
open Go.Lib (decDigits)

/-- The number with some limbs in base b, the lowest one first. -/
def valB (b : Nat) : List Nat → Nat
  | [] => 0
  | d :: r => d + b * valB b r
theorem valB_append (b : Nat) (l m : List Nat) : valB b (l ++ m) = valB b l + b ^ l.length * valB b m := by
  induction l with
  | nil => simp [valB]
  | cons d r ih =>
    simp only [List.cons_append, valB, ih, List.length_cons, Nat.pow_succ, Nat.mul_add]
    rw [Nat.add_assoc, ← Nat.mul_assoc, Nat.mul_comm (b ^ r.length) b]
theorem valB_lt {b : Nat} {l : List Nat} (h : ∀ d ∈ l, d < b) : valB b l < b ^ l.length := by
  induction l with
  | nil => simp [valB]
  | cons d r ih =>
    have h1 := h d (by simp)
    have h2 := ih fun x hx => h x (by simp [hx])
    simp only [valB, List.length_cons, Nat.pow_succ]
    have h3 : b * (valB b r + 1) ≤ b * b ^ r.length := Nat.mul_le_mul_left b h2
    rw [Nat.mul_add] at h3
    rw [Nat.mul_comm (b ^ r.length)]
    omega
theorem valB_zeros (b n : Nat) : valB b (List.replicate n 0) = 0 := by
  induction n with
  | zero => rfl
  | succ n ih => simp [List.replicate_succ, valB, ih]
theorem valB_drop (b : Nat) (L : List Nat) (k : Nat) (h : k < L.length) : valB b (L.drop k) = nth L k + b * valB b (L.drop (k + 1)) := by
  rw [List.drop_eq_getElem_cons h, valB, nth_lt h]

/-- The last k decimal digits of r. -/
def padk : Nat → Nat → List UInt8
  | 0, _ => []
  | k + 1, r => padk k (r / 10) ++ [UInt8.ofNat (48 + r % 10)]
theorem padk_length (k r : Nat) : (padk k r).length = k := by
  induction k generalizing r with
  | zero => rfl
  | succ k ih => simp [padk, ih]
theorem dec_pad (k q r : Nat) (hq : 0 < q) (hr : r < 10 ^ k) : decDigits (q * 10 ^ k + r) = decDigits q ++ padk k r := by
  induction k generalizing r with
  | zero => simp at hr; subst hr; simp [padk]
  | succ k ih =>
    have e : q * 10 ^ (k + 1) = 10 * (q * 10 ^ k) := by rw [Nat.pow_succ]; rw [← Nat.mul_assoc, Nat.mul_comm]
    have hp : 0 < 10 ^ k := Nat.pow_pos (by omega)
    have hge : 1 ≤ q * 10 ^ k := Nat.mul_pos hq hp
    rw [decDigits, dif_neg (by omega), e]
    have e1 : (10 * (q * 10 ^ k) + r) / 10 = q * 10 ^ k + r / 10 := by omega
    have e2 : (10 * (q * 10 ^ k) + r) % 10 = r % 10 := by omega
    rw [Nat.pow_succ] at hr
    rw [e1, e2, ih (r / 10) (by omega), padk, List.append_assoc]

/-- The digits of the limbs from the highest to the lowest one, p for each. -/
def lowPads (p : Nat) : List Nat → List UInt8
  | [] => []
  | d :: r => lowPads p r ++ padk p d
theorem lowPads_length (p : Nat) (l : List Nat) : (lowPads p l).length = p * l.length := by
  induction l with
  | nil => rfl
  | cons d r ih => simp [lowPads, ih, padk_length, Nat.mul_add]
theorem valB_pos (b : Nat) (l : List Nat) (top : Nat) (ht : 0 < top) (hb : 0 < b) : 0 < valB b (l ++ [top]) := by
  rw [valB_append]
  have : 0 < b ^ l.length * valB b [top] := Nat.mul_pos (Nat.pow_pos hb) (by simp [valB, ht])
  omega
theorem dec_limbs (p : Nat) (l : List Nat) (top : Nat) (ht : 0 < top) (hl : ∀ d ∈ l, d < 10 ^ p) : decDigits (valB (10 ^ p) (l ++ [top])) = decDigits top ++ lowPads p l := by
  induction l with
  | nil => simp [valB, lowPads]
  | cons d r ih =>
    have h1 : d < 10 ^ p := hl d (by simp)
    have h2 := ih fun x hx => hl x (by simp [hx])
    have hv := valB_pos (10 ^ p) r top ht (Nat.pow_pos (by omega))
    simp only [List.cons_append, valB, lowPads]
    rw [Nat.add_comm, Nat.mul_comm, dec_pad p _ d hv h1, h2, List.append_assoc]

/-- The number with some decimal digits. -/
def numOf (l : List UInt8) : Nat := l.foldl (fun n c => 10 * n + (c.toNat - 48)) 0
theorem numOf_snoc (l : List UInt8) (c : UInt8) : numOf (l ++ [c]) = 10 * numOf l + (c.toNat - 48) := by simp [numOf]
def isDig (c : UInt8) : Bool := decide (48 ≤ c.toNat) && decide (c.toNat ≤ 57)
theorem isDig_iff {c : UInt8} : isDig c = true ↔ 48 ≤ c.toNat ∧ c.toNat ≤ 57 := by simp [isDig]
/-- A text of digits, of which the first one is 0 only if it is the only one. -/
def okNum (l : List UInt8) : Bool := l.all isDig && (l == [48] || (l.length != 0 && l.head? != some 48))
theorem numOf_pos {l : List UInt8} (hd : ∀ c ∈ l, isDig c = true) (h0 : l ≠ []) (h : l.head? ≠ some 48) : 0 < numOf l := by
  match l, h0, h, hd with
  | c :: r, _, h, hd =>
    clear h0
    have hc := isDig_iff.1 (hd c (by simp))
    have h48 : c.toNat ≠ 48 := fun e => h (by
      have : c = 48 := by apply UInt8.toNat_inj.1; rw [e]; rfl
      simp [this])
    have key : ∀ (r : List UInt8) (n : Nat), 0 < n → 0 < r.foldl (fun n c => 10 * n + (c.toNat - 48)) n := by
      intro r
      induction r with
      | nil => intro n hn; exact hn
      | cons d s ih => intro n hn; exact ih _ (by show 0 < 10 * n + _; omega)
    exact key r _ (by show 0 < 10 * 0 + _; omega)
theorem dec_small {d : Nat} (h : d < 10) : decDigits d = [UInt8.ofNat (48 + d)] := by rw [decDigits, dif_pos h]
theorem dec_numOf (l : List UInt8) (hd : ∀ c ∈ l, isDig c = true) (h0 : l ≠ []) (h : l = [48] ∨ l.head? ≠ some 48) : decDigits (numOf l) = l := by
  suffices H : ∀ (n : Nat) (l : List UInt8), l.length = n → (∀ c ∈ l, isDig c = true) → l ≠ [] → (l.length = 1 ∨ l.head? ≠ some 48) → decDigits (numOf l) = l by
    refine H _ l rfl hd h0 ?_
    rcases h with h | h
    · left; simp [h]
    · right; exact h
  intro n
  induction n with
  | zero => intro l hl _ h0; exact absurd (List.eq_nil_of_length_eq_zero hl) h0
  | succ n ih =>
    intro l hl hd h0 h
    obtain ⟨i, c, rfl⟩ : ∃ i c, l = i ++ [c] := ⟨l.dropLast, l.getLast h0, (List.dropLast_concat_getLast h0).symm⟩
    have hc := isDig_iff.1 (hd c (by simp))
    have ec : UInt8.ofNat (48 + (c.toNat - 48)) = c := by
      rw [show 48 + (c.toNat - 48) = c.toNat by omega]; simp
    rw [numOf_snoc]
    by_cases hi : i = []
    · subst hi
      show decDigits (10 * 0 + _) = _
      rw [dec_small (by omega), Nat.mul_zero, Nat.zero_add, ec]; rfl
    · have hh : (i ++ [c]).head? = i.head? := by cases i with | nil => exact absurd rfl hi | cons a b => rfl
      have hl1 : (i ++ [c]).length ≠ 1 := by cases i with | nil => exact absurd rfl hi | cons a b => simp
      have h' : i.head? ≠ some 48 := by rcases h with h | h; exact absurd h hl1; rwa [hh] at h
      have hdi : ∀ x ∈ i, isDig x = true := fun x hx => hd x (by simp [hx])
      have hp := numOf_pos hdi hi h'
      have := dec_pad 1 (numOf i) (c.toNat - 48) hp (by omega)
      rw [show 10 * numOf i = numOf i * 10 ^ 1 by omega, this, ih i (by simpa using hl) hdi hi (.inr h')]
      have e2 : (c.toNat - 48) % 10 = c.toNat - 48 := by omega
      simp [padk, e2, ec]
theorem dec_head (n : Nat) (hn : 0 < n) : (decDigits n).head? ≠ some 48 ∧ decDigits n ≠ [] := by
  induction n using Nat.strongRecOn with
  | _ n ih =>
    rw [decDigits]
    split
    · rename_i h
      refine ⟨?_, by simp⟩
      simp only [List.head?_cons, ne_eq, Option.some.injEq]
      intro e
      have := congrArg UInt8.toNat e
      simp at this
      omega
    · rename_i h
      have := ih (n / 10) (by omega) (by omega)
      refine ⟨?_, by simp⟩
      rw [List.head?_append]
      cases hd : (decDigits (n / 10)).head? with
      | none => rw [List.head?_eq_none_iff] at hd; exact absurd hd this.2
      | some x => simp; intro e; subst e; exact this.1 hd
end Go.Proofs.YtmpdpfiokjepaaaDoor

/-
  DERIVED: THE SHELF's CONTRACTS AT THIS DUMP, IN PLAIN WORDS (tools/lay-plain.mjs out of 'TrydShelf.lean', which tools/lay-shelf.mjs wrote): THE SAME DECLARATIONS UNDER THE SAME NAMES: 'import', 'namespace', 'open', 'def', 'theorem' AND NOTHING ELSE: no command of the shelf's: FOR A HAND-IN. Each laying: the table of numbers ('.._ren') and one theorem, a field a fact of the dump's own or the kernel's comparison; each contract: ONE APPLICATION.
-/
namespace Go.Proofs
open Go.Shelf
def Tryd.lays134_ren : Go.Shelf.Ren := ⟨fun | 134 => 88 | 129 => 67 | n => n, fun | 53 => 62 | 3 => 3 | 4 => 4 | 46 => 105 | 5 => 5 | 9 => 9 | n => n, fun | n => n⟩
theorem Tryd.lays134 : Go.Proofs.Lays.n134 Tryd.prog Tryd.lays134_ren := {
  mixed := by kernel_rfl
  f129 := Tryd.func67.trans (congrArg some (by kernel_rfl))
  f134 := Tryd.func88.trans (congrArg some (by kernel_rfl))
  t3 := Tryd.underlying3
  a3 := Tryd.isAgg3
  z3 := Tryd.sizeOf3
  v3 := Tryd.zeroValue3
  t4 := Tryd.underlying4
  a4 := Tryd.isAgg4
  z4 := Tryd.sizeOf4
  v4 := Tryd.zeroValue4
  t5 := Tryd.underlying5
  a5 := Tryd.isAgg5
  z5 := Tryd.sizeOf5
  v5 := Tryd.zeroValue5
  t9 := Tryd.underlying9
  a9 := Tryd.isAgg9
  z9 := Tryd.sizeOf9
  v9 := Tryd.zeroValue9
  t46 := Tryd.underlying105
  a46 := Tryd.isAgg105
  z46 := Tryd.sizeOf105
  v46 := Tryd.zeroValue105
  t53 := Tryd.underlying62
  a53 := Tryd.isAgg62
  z53 := Tryd.sizeOf62
  v53 := Tryd.zeroValue62 }
/-- bits.LeadingZeros64: "LeadingZeros64 returns the number of leading zero bits in x; the result is 64 for x == 0.": IT RETURNS '64 - Lib.bitLen x'; the world is as it was. ITS CALLEE bits.Len64 IS MET BY ITS OWN CONTRACT OFF THE SHELF (lay that first): entered in place it sends the kernel out of memory. (LAID: no walk: one application.) -/
theorem Tryd.bits_LeadingZeros64 (x : Int) (w : World) (h0 : 0 ≤ x) (h1 : x ≤ 18446744073709551615) :
    Calls Tryd.prog 88 #[.int .u64 x] w fun e w' => e = .returned (.int .i64 (64 - (Lib.bitLen x.toNat : Int))) ∧ w' = w := Any.bits_LeadingZeros64 Tryd.lays134 x w h0 h1
def Tryd.lays215_ren : Go.Shelf.Ren := ⟨fun | 215 => 71 | n => n, fun | 3 => 3 | 4 => 4 | n => n, fun | n => n⟩
theorem Tryd.lays215 : Go.Proofs.Lays.n215 Tryd.prog Tryd.lays215_ren := {
  mixed := by kernel_rfl
  f215 := Tryd.func71.trans (congrArg some (by kernel_rfl))
  t3 := Tryd.underlying3
  a3 := Tryd.isAgg3
  z3 := Tryd.sizeOf3
  v3 := Tryd.zeroValue3
  t4 := Tryd.underlying4
  a4 := Tryd.isAgg4
  z4 := Tryd.sizeOf4
  v4 := Tryd.zeroValue4 }
open Go.RowKit in
/-- cmp.isNaN at int: 'x != x': false. (LAID: no walk: one application.) -/
theorem Tryd.cmp_isNaN_int (x : Int) (w : World) :
    Calls Tryd.prog 71 #[.int .i64 x] w fun e w' => e = .returned (.bool false) ∧ w' = w := Any.cmp_isNaN_int Tryd.lays215 x w
def Tryd.lays122_ren : Go.Shelf.Ren := ⟨fun | 122 => 56 | 215 => 71 | n => n, fun | 3 => 3 | 4 => 4 | n => n, fun | n => n⟩
theorem Tryd.lays122 : Go.Proofs.Lays.n122 Tryd.prog Tryd.lays122_ren := {
  mixed := by kernel_rfl
  f122 := Tryd.func56.trans (congrArg some (by kernel_rfl))
  f215 := Tryd.func71.trans (congrArg some (by kernel_rfl))
  t3 := Tryd.underlying3
  a3 := Tryd.isAgg3
  z3 := Tryd.sizeOf3
  v3 := Tryd.zeroValue3
  t4 := Tryd.underlying4
  a4 := Tryd.isAgg4
  z4 := Tryd.sizeOf4
  v4 := Tryd.zeroValue4 }
open Go.RowKit in
/-- cmp.Compare at int: "Compare returns -1 if x is less than y, 0 if x equals y, +1 if x is greater than y.": IT RETURNS 'Lib.compareInt x y'; the world is as it was. (LAID: no walk: one application.) -/
theorem Tryd.cmp_Compare_int (x y : Int) (w : World) :
    Calls Tryd.prog 56 #[.int .i64 x, .int .i64 y] w fun e w' => e = .returned (.int .i64 (Lib.compareInt x y)) ∧ w' = w := Any.cmp_Compare_int Tryd.lays122 x y w
def Tryd.lays129_ren : Go.Shelf.Ren := ⟨fun | 129 => 67 | n => n, fun | 53 => 62 | 3 => 3 | 4 => 4 | 46 => 105 | 5 => 5 | 9 => 9 | n => n, fun | n => n⟩
theorem Tryd.lays129 : Go.Proofs.Lays.n129 Tryd.prog Tryd.lays129_ren := {
  mixed := by kernel_rfl
  f129 := Tryd.func67.trans (congrArg some (by kernel_rfl))
  t3 := Tryd.underlying3
  a3 := Tryd.isAgg3
  z3 := Tryd.sizeOf3
  v3 := Tryd.zeroValue3
  t4 := Tryd.underlying4
  a4 := Tryd.isAgg4
  z4 := Tryd.sizeOf4
  v4 := Tryd.zeroValue4
  t5 := Tryd.underlying5
  a5 := Tryd.isAgg5
  z5 := Tryd.sizeOf5
  v5 := Tryd.zeroValue5
  t9 := Tryd.underlying9
  a9 := Tryd.isAgg9
  z9 := Tryd.sizeOf9
  v9 := Tryd.zeroValue9
  t46 := Tryd.underlying105
  a46 := Tryd.isAgg105
  z46 := Tryd.sizeOf105
  v46 := Tryd.zeroValue105
  t53 := Tryd.underlying62
  a53 := Tryd.isAgg62
  z53 := Tryd.sizeOf62
  v53 := Tryd.zeroValue62 }
/-- bits.Len64: "Len64 returns the minimum number of bits required to represent x; the result is 0 for x == 0.": IT RETURNS 'Lib.bitLen x'; the world is as it was. ('h0', 'h1': x is a uint64.) (LAID: no walk: one application.) -/
theorem Tryd.bits_Len64 (x : Int) (w : World) (h0 : 0 ≤ x) (h1 : x ≤ 18446744073709551615) :
    Calls Tryd.prog 67 #[.int .u64 x] w fun e w' => e = .returned (.int .i64 (Lib.bitLen x.toNat)) ∧ w' = w := Any.bits_Len64 Tryd.lays129 x w h0 h1
def Tryd.lays317_ren : Go.Shelf.Ren := ⟨fun | 317 => 66 | n => n, fun | 3 => 3 | 46 => 105 | n => n, fun | n => n⟩
theorem Tryd.lays317 : Go.Proofs.Lays.n317 Tryd.prog Tryd.lays317_ren := {
  mixed := by kernel_rfl
  f317 := Tryd.func66.trans (congrArg some (by kernel_rfl))
  t3 := Tryd.underlying3
  a3 := Tryd.isAgg3
  z3 := Tryd.sizeOf3
  v3 := Tryd.zeroValue3
  t46 := Tryd.underlying105
  a46 := Tryd.isAgg105
  z46 := Tryd.sizeOf105
  v46 := Tryd.zeroValue105 }
open Go.Lib in
/-- internal/strconv.log10Pow2: "log10Pow2(x) returns ⌊log₁₀ 2**x⌋ = ⌊x * log₁₀ 2⌋.": '(x * 78913) >> 18', at an x up to 64 (a length in bits). The world is as it was. (LAID: no walk: one application.) -/
theorem Tryd.internal_strconv_log10Pow2 (x : Nat) (h : x ≤ 64) (w : World) :
    Calls Tryd.prog 66 #[.int .i64 x] w fun e w' => e = .returned (.int .i64 (Lib.l10 x)) ∧ w' = w := Any.internal_strconv_log10Pow2 Tryd.lays317 x h w
def Tryd.lays318_ren : Go.Shelf.Ren := ⟨fun | 318 => 68 | n => n, fun | 3 => 3 | 4 => 4 | n => n, fun | n => n⟩
theorem Tryd.lays318 : Go.Proofs.Lays.n318 Tryd.prog Tryd.lays318_ren := {
  mixed := by kernel_rfl
  f318 := Tryd.func68.trans (congrArg some (by kernel_rfl))
  t3 := Tryd.underlying3
  a3 := Tryd.isAgg3
  z3 := Tryd.sizeOf3
  v3 := Tryd.zeroValue3
  t4 := Tryd.underlying4
  a4 := Tryd.isAgg4
  z4 := Tryd.sizeOf4
  v4 := Tryd.zeroValue4 }
open Go.Lib in
/-- internal/strconv.bool2: "bool2 converts b to an integer: 1 for true, 0 for false." The world is as it was. (LAID: no walk: one application.) -/
theorem Tryd.internal_strconv_bool2_int (b : Bool) (w : World) :
    Calls Tryd.prog 68 #[.bool b] w fun e w' => e = .returned (.int .i64 (if b then 1 else 0)) ∧ w' = w := Any.internal_strconv_bool2_int Tryd.lays318 b w
def Tryd.lays283_ren : Go.Shelf.Ren := ⟨fun | 283 => 52 | n => n, fun | 3 => 3 | 9 => 9 | 4 => 4 | n => n, fun | n => n⟩
theorem Tryd.lays283 : Go.Proofs.Lays.n283 Tryd.prog Tryd.lays283_ren := {
  mixed := by kernel_rfl
  f283 := Tryd.func52.trans (congrArg some (by kernel_rfl))
  t3 := Tryd.underlying3
  a3 := Tryd.isAgg3
  z3 := Tryd.sizeOf3
  v3 := Tryd.zeroValue3
  t4 := Tryd.underlying4
  a4 := Tryd.isAgg4
  z4 := Tryd.sizeOf4
  v4 := Tryd.zeroValue4
  t9 := Tryd.underlying9
  a9 := Tryd.isAgg9
  z9 := Tryd.sizeOf9
  v9 := Tryd.zeroValue9 }
open Go.Lib in
/-- internal/strconv.small: "small returns the string for an i with 0 <= i < nSmalls.": i's decimal numeral. The world is as it was. (LAID: no walk: one application.) -/
theorem Tryd.internal_strconv_small (i : Nat) (h : i < 100) (w : World) :
    Calls Tryd.prog 52 #[.int .i64 i] w fun e w' => e = .returned (.string ⟨(Lib.decDigits i).toArray⟩) ∧ w' = w := Any.internal_strconv_small Tryd.lays283 i h w
def Tryd.laysM284_ren : Go.Shelf.Ren := ⟨fun | 284 => 53 | 129 => 67 | 317 => 66 | 318 => 68 | n => n, fun | 53 => 62 | 3 => 3 | 212 => 103 | 0 => 0 | 4 => 4 | 46 => 105 | 5 => 5 | 9 => 9 | n => n, fun | 17 => 0 | n => n⟩
theorem Tryd.laysM284 : Go.Proofs.LaysM.n284 Tryd.prog Tryd.laysM284_ren := {
  mixed := by kernel_rfl
  f129 := Tryd.func67.trans (congrArg some (by kernel_rfl))
  f284 := Tryd.func53.trans (congrArg some (by kernel_rfl))
  f317 := Tryd.func66.trans (congrArg some (by kernel_rfl))
  f318 := Tryd.func68.trans (congrArg some (by kernel_rfl))
  t0 := Tryd.underlying0
  a0 := Tryd.isAgg0
  z0 := Tryd.sizeOf0
  v0 := Tryd.zeroValue0
  t3 := Tryd.underlying3
  a3 := Tryd.isAgg3
  z3 := Tryd.sizeOf3
  v3 := Tryd.zeroValue3
  t4 := Tryd.underlying4
  a4 := Tryd.isAgg4
  z4 := Tryd.sizeOf4
  v4 := Tryd.zeroValue4
  t5 := Tryd.underlying5
  a5 := Tryd.isAgg5
  z5 := Tryd.sizeOf5
  v5 := Tryd.zeroValue5
  t9 := Tryd.underlying9
  a9 := Tryd.isAgg9
  z9 := Tryd.sizeOf9
  v9 := Tryd.zeroValue9
  t46 := Tryd.underlying105
  a46 := Tryd.isAgg105
  z46 := Tryd.sizeOf105
  v46 := Tryd.zeroValue105
  t53 := Tryd.underlying62
  a53 := Tryd.isAgg62
  z53 := Tryd.sizeOf62
  v53 := Tryd.zeroValue62
  t212 := Tryd.underlying103
  a212 := Tryd.isAgg103
  z212 := Tryd.sizeOf103
  v212 := Tryd.zeroValue103
  g17 := by kernel_rfl
  i0 := by kernel_rfl
  i3 := by kernel_rfl
  i4 := by kernel_rfl
  i5 := by kernel_rfl
  i9 := by kernel_rfl
  i46 := by kernel_rfl
  i53 := by kernel_rfl
  i212 := by kernel_rfl
  m17 := by kernel_rfl }
open Go.Lib in
/-- internal/strconv.numDigits, at a d that is not 0: THE NUMBER OF d's DECIMAL DIGITS. The world is as it was. (LAID: no walk: one application.) -/
theorem Tryd.internal_strconv_numDigits (u : Nat) (h1 : 1 ≤ u) (h2 : u < 18446744073709551616) (w : World) (htab : Lib.TabIs Tryd.prog w "internal/strconv.uint64pow10" .u64 Lib.pow10Tab) :
    Calls Tryd.prog 53 #[.int .u64 u] w fun e w' => e = .returned (.int .i64 (Lib.nDigits u)) ∧ w' = w := Any.internal_strconv_numDigits Tryd.laysM284 u h1 h2 w htab
def Tryd.lays285_ren : Go.Shelf.Ren := ⟨fun | 285 => 54 | n => n, fun | 37 => 60 | 53 => 62 | 3 => 3 | 4 => 4 | 51 => 63 | 9 => 9 | 5 => 5 | 0 => 0 | n => n, fun | n => n⟩
theorem Tryd.lays285 : Go.Proofs.Lays.n285 Tryd.prog Tryd.lays285_ren := {
  mixed := by kernel_rfl
  f285 := Tryd.func54.trans (congrArg some (by kernel_rfl))
  t0 := Tryd.underlying0
  a0 := Tryd.isAgg0
  z0 := Tryd.sizeOf0
  v0 := Tryd.zeroValue0
  t3 := Tryd.underlying3
  a3 := Tryd.isAgg3
  z3 := Tryd.sizeOf3
  v3 := Tryd.zeroValue3
  t4 := Tryd.underlying4
  a4 := Tryd.isAgg4
  z4 := Tryd.sizeOf4
  v4 := Tryd.zeroValue4
  t5 := Tryd.underlying5
  a5 := Tryd.isAgg5
  z5 := Tryd.sizeOf5
  v5 := Tryd.zeroValue5
  t9 := Tryd.underlying9
  a9 := Tryd.isAgg9
  z9 := Tryd.sizeOf9
  v9 := Tryd.zeroValue9
  t37 := Tryd.underlying60
  a37 := Tryd.isAgg60
  z37 := Tryd.sizeOf60
  v37 := Tryd.zeroValue60
  t51 := Tryd.underlying63
  a51 := Tryd.isAgg63
  z51 := Tryd.sizeOf63
  v51 := Tryd.zeroValue63
  t53 := Tryd.underlying62
  a53 := Tryd.isAgg62
  z53 := Tryd.sizeOf62
  v53 := Tryd.zeroValue62 }
open Go.RowKit Go.Sort Go.Lib in
/-- internal/strconv.formatBase10: "formatBase10 formats the decimal representation of u into a. The caller is responsible for ensuring that a is big enough to hold u. If a is too big, leading zeros will be filled in as needed.": THE ROW HOLDS u's DIGITS ('FmtInv .. 0 ..': every place t holds 'dg u (len - 1 - t)'); all else is as it was but for the count of draws. (LAID: no walk: one application.) -/
theorem Tryd.internal_strconv_formatBase10 (blk off cap : Nat) (u : Nat) (d : Array UInt8) (w : World) (hH : Holds (fun (b : UInt8) => Value.int .u8 (b.toNat : Int)) w blk off d) (hu : u < 10 ^ d.size) (hu64 : u < 18446744073709551616) (hsz : d.size < 4611686018427387904) :
    Calls Tryd.prog 54 #[.slice (some ⟨blk, off, none⟩) d.size cap, .int .u64 u] w fun e w' =>
      e = .returned (.tuple #[]) ∧ ∃ (n v' : Nat) (dk : Array UInt8), w' = (putRow (fun (b : UInt8) => Value.int .u8 (b.toNat : Int)) w blk off dk).drewN n ∧ FmtInv d.size u 0 v' dk := Any.internal_strconv_formatBase10 Tryd.lays285 blk off cap u d w hH hu hu64 hsz
def Tryd.laysM288_ren : Go.Shelf.Ren := ⟨fun | 288 => 41 | 283 => 52 | 284 => 53 | 285 => 54 | 286 => 55 | 129 => 67 | 317 => 66 | 318 => 68 | 319 => 69 | 320 => 70 | 337 => 77 | 338 => 78 | n => n, fun | 37 => 60 | 53 => 62 | 3 => 3 | 4 => 4 | 9 => 9 | 171 => 88 | 0 => 0 | 173 => 91 | 212 => 103 | 51 => 63 | 5 => 5 | 20 => 20 | 213 => 104 | 46 => 105 | 232 => 117 | 233 => 118 | n => n, fun | 17 => 0 | 18 => 1 | 19 => 2 | n => n⟩
theorem Tryd.laysM288 : Go.Proofs.LaysM.n288 Tryd.prog Tryd.laysM288_ren := {
  mixed := by kernel_rfl
  f129 := Tryd.func67.trans (congrArg some (by kernel_rfl))
  f283 := Tryd.func52.trans (congrArg some (by kernel_rfl))
  f284 := Tryd.func53.trans (congrArg some (by kernel_rfl))
  f285 := Tryd.func54.trans (congrArg some (by kernel_rfl))
  f286 := Tryd.func55.trans (congrArg some (by kernel_rfl))
  f288 := Tryd.func41.trans (congrArg some (by kernel_rfl))
  f317 := Tryd.func66.trans (congrArg some (by kernel_rfl))
  f318 := Tryd.func68.trans (congrArg some (by kernel_rfl))
  f319 := Tryd.func69.trans (congrArg some (by kernel_rfl))
  f320 := Tryd.func70.trans (congrArg some (by kernel_rfl))
  f337 := Tryd.func77.trans (congrArg some (by kernel_rfl))
  f338 := Tryd.func78.trans (congrArg some (by kernel_rfl))
  t0 := Tryd.underlying0
  a0 := Tryd.isAgg0
  z0 := Tryd.sizeOf0
  v0 := Tryd.zeroValue0
  t3 := Tryd.underlying3
  a3 := Tryd.isAgg3
  z3 := Tryd.sizeOf3
  v3 := Tryd.zeroValue3
  t4 := Tryd.underlying4
  a4 := Tryd.isAgg4
  z4 := Tryd.sizeOf4
  v4 := Tryd.zeroValue4
  t5 := Tryd.underlying5
  a5 := Tryd.isAgg5
  z5 := Tryd.sizeOf5
  v5 := Tryd.zeroValue5
  t9 := Tryd.underlying9
  a9 := Tryd.isAgg9
  z9 := Tryd.sizeOf9
  v9 := Tryd.zeroValue9
  t20 := Tryd.underlying20
  a20 := Tryd.isAgg20
  z20 := Tryd.sizeOf20
  v20 := Tryd.zeroValue20
  t37 := Tryd.underlying60
  a37 := Tryd.isAgg60
  z37 := Tryd.sizeOf60
  v37 := Tryd.zeroValue60
  t46 := Tryd.underlying105
  a46 := Tryd.isAgg105
  z46 := Tryd.sizeOf105
  v46 := Tryd.zeroValue105
  t51 := Tryd.underlying63
  a51 := Tryd.isAgg63
  z51 := Tryd.sizeOf63
  v51 := Tryd.zeroValue63
  t53 := Tryd.underlying62
  a53 := Tryd.isAgg62
  z53 := Tryd.sizeOf62
  v53 := Tryd.zeroValue62
  t171 := Tryd.underlying88
  a171 := Tryd.isAgg88
  z171 := Tryd.sizeOf88
  v171 := Tryd.zeroValue88
  t173 := Tryd.underlying91
  a173 := Tryd.isAgg91
  z173 := Tryd.sizeOf91
  v173 := Tryd.zeroValue91
  t212 := Tryd.underlying103
  a212 := Tryd.isAgg103
  z212 := Tryd.sizeOf103
  v212 := Tryd.zeroValue103
  t213 := Tryd.underlying104
  a213 := Tryd.isAgg104
  z213 := Tryd.sizeOf104
  t232 := Tryd.underlying117
  a232 := Tryd.isAgg117
  z232 := Tryd.sizeOf117
  v232 := Tryd.zeroValue117
  t233 := Tryd.underlying118
  a233 := Tryd.isAgg118
  z233 := Tryd.sizeOf118
  v233 := Tryd.zeroValue118
  g17 := by kernel_rfl
  g18 := by kernel_rfl
  g19 := by kernel_rfl
  i0 := by kernel_rfl
  i3 := by kernel_rfl
  i4 := by kernel_rfl
  i5 := by kernel_rfl
  i9 := by kernel_rfl
  i20 := by kernel_rfl
  i37 := by kernel_rfl
  i46 := by kernel_rfl
  i51 := by kernel_rfl
  i53 := by kernel_rfl
  i171 := by kernel_rfl
  i173 := by kernel_rfl
  i212 := by kernel_rfl
  i232 := by kernel_rfl
  i233 := by kernel_rfl
  m17 := by kernel_rfl
  m18 := by kernel_rfl
  m19 := by kernel_rfl }
open Go.RowKit Go.Sort Go.Lib in
/-- internal/strconv.AppendUint(dst, i, 10), i BELOW 100: WHAT COMES BACK OWNS dst's CELLS AND, BEHIND THEM, i's DECIMAL NUMERAL. No table is read. Below the call's own blocks nothing has turned. (LAID: no walk: one application.) -/
theorem Tryd.internal_strconv_AppendUint_10_small (B n u : Nat) (hu : u < 100) (sv : Value) (xs : List Value) (w : World) (hown : w.ownsRow B 5 1 sv n xs) (hBw : B ≤ w.heap.size) (hlim : n + 20 ≤ 140737488355328) :
    Calls Tryd.prog 41 #[sv, .int .u64 u, .int .i64 10] w fun e w' => ∃ v', e = .returned v' ∧ w'.ownsRow B 5 1 v' (n + (Lib.decDigits u).length) (xs ++ Lib.byteCells (Lib.decDigits u)) ∧ Below B w w' ∧ Lib.OthersKept 5 none w w' := Any.internal_strconv_AppendUint_10_small Tryd.laysM288 B n u hu sv xs w hown hBw hlim
open Go.RowKit Go.Sort Go.Lib in
/-- internal/strconv.AppendUint(dst, i, 10), i FROM 100 ON: likewise; the digits are laid in an array of the call's own and appended. (LAID: no walk: one application.) -/
theorem Tryd.internal_strconv_AppendUint_10_big (B n u : Nat) (hu : 100 ≤ u) (hu64 : u < 18446744073709551616) (sv : Value) (xs : List Value) (w : World) (hown : w.ownsRow B 5 1 sv n xs) (hBw : B ≤ w.heap.size) (hlim : n + 20 ≤ 140737488355328) (htab : Lib.TabIs Tryd.prog w "internal/strconv.uint64pow10" .u64 Lib.pow10Tab) :
    Calls Tryd.prog 41 #[sv, .int .u64 u, .int .i64 10] w fun e w' => ∃ v', e = .returned v' ∧ w'.ownsRow B 5 1 v' (n + (Lib.decDigits u).length) (xs ++ Lib.byteCells (Lib.decDigits u)) ∧ Below B w w' ∧ Lib.OthersKept 5 none w w' := Any.internal_strconv_AppendUint_10_big Tryd.laysM288 B n u hu hu64 sv xs w hown hBw hlim htab
def Tryd.lays264_ren : Go.Shelf.Ren := ⟨fun | 264 => 85 | n => n, fun | 53 => 62 | 46 => 105 | n => n, fun | n => n⟩
theorem Tryd.lays264 : Go.Proofs.Lays.n264 Tryd.prog Tryd.lays264_ren := {
  mixed := by kernel_rfl
  f264 := Tryd.func85.trans (congrArg some (by kernel_rfl))
  t46 := Tryd.underlying105
  a46 := Tryd.isAgg105
  z46 := Tryd.sizeOf105
  v46 := Tryd.zeroValue105
  t53 := Tryd.underlying62
  a53 := Tryd.isAgg62
  z53 := Tryd.sizeOf62
  v53 := Tryd.zeroValue62 }
open Go.RowKit Go.Lib in
theorem Tryd.bits_Mul64 (x y : Nat) (hx : x < 18446744073709551616) (hy : y < 18446744073709551616) (w : World) :
    Calls Tryd.prog 85 #[.int .u64 x, .int .u64 y] w fun e w' => e = .returned (.tuple #[.int .u64 ((x * y / 18446744073709551616 : Nat) : Int), .int .u64 ((x * y % 18446744073709551616 : Nat) : Int)]) ∧ w' = w := Any.bits_Mul64 Tryd.lays264 x y hx hy w
end Go.Proofs

/- 'appendLimb' appends nine digits; 'strconv.AppendUint' the decimal digits of a number. -/
namespace Go.Proofs.YtmpdpfiokjepaaaDoor
open Go.RowKit
open Go.Lib (decDigits)

theorem info5 : (Tryd.prog.info? 5).map (fun i => (i.zero, i.size, i.bytes)) = some (some (.int .u8 0), 1, 1) := by kernel_rfl
/-- The bytes of a text as numbers. -/
def codes (l : List UInt8) : List Nat := l.map (·.toNat)
theorem codes_append (a b : List UInt8) : codes (a ++ b) = codes a ++ codes b := by simp [codes]
theorem codes_length (a : List UInt8) : (codes a).length = a.length := by simp [codes]
theorem byteCells_codes (l : List UInt8) : Lib.byteCells l = (codes l).map fun (d : Nat) => Value.int .u8 (d : Int) := by simp [Lib.byteCells, codes]
theorem digit_code (d : Nat) : (UInt8.ofNat (48 + d % 10)).toNat = 48 + d % 10 := by
  rw [UInt8.toNat_ofNat']; omega
theorem padk_step (r j : Nat) (hj : j < 9) : codes ((padk 9 r).take (j + 1)) = codes ((padk 9 r).take j) ++ [48 + r / (10 ^ (9 - j) / 10) % 10] := by
  match j, hj with
  | 0, _ => simp [padk, codes, Nat.div_div_eq_div_mul]; omega
  | 1, _ => simp [padk, codes, Nat.div_div_eq_div_mul]; omega
  | 2, _ => simp [padk, codes, Nat.div_div_eq_div_mul]; omega
  | 3, _ => simp [padk, codes, Nat.div_div_eq_div_mul]; omega
  | 4, _ => simp [padk, codes, Nat.div_div_eq_div_mul]; omega
  | 5, _ => simp [padk, codes, Nat.div_div_eq_div_mul]; omega
  | 6, _ => simp [padk, codes, Nat.div_div_eq_div_mul]; omega
  | 7, _ => simp [padk, codes, Nat.div_div_eq_div_mul]; omega
  | 8, _ => simp [padk, codes, Nat.div_div_eq_div_mul]; omega
theorem unit_facts (j : Nat) (hj : j < 9) : 1 ≤ 10 ^ (9 - j) / 10 ∧ 10 ^ (9 - j) / 10 ≤ 100000000 ∧ 10 ^ (9 - j) / 10 / 10 = 10 ^ (9 - (j + 1)) / 10 := by
  match j, hj with
  | 0, _ => decide
  | 1, _ => decide
  | 2, _ => decide
  | 3, _ => decide
  | 4, _ => decide
  | 5, _ => decide
  | 6, _ => decide
  | 7, _ => decide
  | 8, _ => decide

set_option maxRecDepth 100000 in
set_option maxHeartbeats 800000 in
theorem appendLimb_any (r B : Nat) (v : Value) (T : List UInt8) (w : World) (hr : r < 1000000000) (hT : T.length ≤ 10000000) (hB : B ≤ w.heap.size) (hown : Own .u8 5 w B v (codes T)) :
    Calls Tryd.prog 26 #[v, .int .u32 r] w fun e w' => ∃ v', e = .returned v' ∧ Own .u8 5 w' B v' (codes (T ++ padk 9 r)) ∧ Below B w w' := by
  obtain ⟨i0, hi, hz0, hz1, hz2⟩ := info_parts info5
  go_enter Tryd.func26, Tryd.ntmps26
  go_wp2
  go_loopw [0, 5] (fun tv uv wr => ∃ j : Nat, j ≤ 9 ∧ uv = .int .u32 ((10 ^ (9 - j) / 10 : Nat) : Int) ∧ Own .u8 5 wr B tv (codes T ++ codes ((padk 9 r).take j)) ∧ Below B w wr) (fun _ uv _ => (intOf uv).toNat)
  case atStart => exact ⟨0, by omega, rfl, by simpa [codes] using hown, Below.refl _ _⟩
  case round =>
    obtain ⟨j, hj, rfl, ho, hbw⟩ := hrel
    by_cases hlt : j < 9
    · obtain ⟨u1, u2, u3⟩ := unit_facts j hlt
      have hst := padk_step r j hlt
      have hlen : (codes T ++ codes ((padk 9 r).take j)).length ≤ 20000000 := by
        rw [List.length_append, codes_length, codes_length, List.length_take, padk_length]; omega
      generalize 10 ^ (9 - j) / 10 = u at *
      have U3 := Lib.hid u3
      have HST := Lib.hid hst
      have HLEN := Lib.hid hlen
      clear u3 hst hlen
      have q1 : 0 ≤ (r : Int) / (u : Int) := Int.ediv_nonneg (by omega) (by omega)
      have q2 : (r : Int) / (u : Int) ≤ (r : Int) := Int.ediv_le_self _ (by omega)
      have hsz := hbw.size
      have hu0 : ((u : Int) == 0) = false := by simp; omega
      have hu1 : decide ((0 : Int) < (u : Int)) = true := by simp; omega
      go_wp2_with (first
        | (at_builtin; go_loud (refine wpList_append_num wr rfl (.tmp 10) (.tmp 17) 60 rfl .u8 B 5 i0 1 Tryd.underlying60 hi hz0 hz1 hz2 (by omega) u0 _ (by rfl) ho _ (48 + r / u % 10) ?_ 1 rfl (Nat.le_trans HLEN.out (by omega)) ?_ ?_; (simp); (omega); intro v2 w2 ho2 hb2))
        | fail)
      go_roundw
      case rel =>
        have o2 := ho2.out
        rw [List.append_assoc, ← HST.out] at o2
        exact ⟨j + 1, by omega, by rw [← U3.out]; simp, o2, hbw.trans hb2⟩
      case measure => simp [intOf]; omega
    · obtain rfl : j = 9 := by omega
      have e9 : ((10 ^ (9 - 9) / 10 : Nat) : Int) = 0 := by decide
      rw [e9]
      have o9 : Own .u8 5 wr B u0 (codes (T ++ padk 9 r)) := by
        rw [List.take_of_length_le (by rw [padk_length]; omega), ← codes_append] at ho
        exact ho
      have hdf : decide ((0 : Int) < (0 : Int)) = false := by decide
      clear ho e9
      go_wp2
      go_ret
      exact ⟨_, rfl, o9, hbw⟩

set_option maxHeartbeats 800000 in
theorem appendUint_any (u B : Nat) (v : Value) (T : List UInt8) (w : World) (hu : u < 10000000000000000000) (hT : T.length ≤ 10000000) (hB : B ≤ w.heap.size) (hown : Own .u8 5 w B v (codes T))
    (htab : Lib.TabIs Tryd.prog w "internal/strconv.uint64pow10" .u64 Lib.pow10Tab) :
    Calls Tryd.prog 25 #[v, .int .u64 u, .int .i64 10] w fun e w' => ∃ v', e = .returned v' ∧ Own .u8 5 w' B v' (codes (T ++ decDigits u)) ∧ Below B w w' := by
  have hc : Calls Tryd.prog 41 #[v, .int .u64 u, .int .i64 10] w fun e w' => ∃ v', e = .returned v' ∧ w'.ownsRow B 5 1 v' (codes T ++ codes (decDigits u)).length ((codes T ++ codes (decDigits u)).map fun (d : Nat) => Value.int .u8 (d : Int)) ∧ Below B w w' := by
    by_cases h : u < 100
    · refine (Tryd.internal_strconv_AppendUint_10_small B _ u h v _ w hown hB (by rw [codes_length]; omega)).mono ?_
      rintro e w' ⟨v', he, ho, hb, _⟩
      refine ⟨v', he, ?_, hb⟩
      rw [List.length_append, codes_length (decDigits u), List.map_append, ← byteCells_codes (decDigits u)]
      exact ho
    · refine (Tryd.internal_strconv_AppendUint_10_big B _ u (by omega) (by omega) v _ w hown hB (by rw [codes_length]; omega) htab).mono ?_
      rintro e w' ⟨v', he, ho, hb, _⟩
      refine ⟨v', he, ?_, hb⟩
      rw [List.length_append, codes_length (decDigits u), List.map_append, ← byteCells_codes (decDigits u)]
      exact ho
  have HC := Lib.hid hc
  clear hc htab hown
  go_enter Tryd.func25, Tryd.ntmps25
  go_wp2_with fail
  refine HC.out.mono ?_
  rintro e w' ⟨v', rfl, ho, hb⟩
  have HO := Lib.hid ho
  clear ho
  go_wp2_with fail
  go_ret
  exact ⟨_, rfl, by rw [codes_append]; exact HO.out, hb⟩
end Go.Proofs.YtmpdpfiokjepaaaDoor

/- 'string(b)' of a row of bytes. -/
namespace Go.Proofs.YtmpdpfiokjepaaaDoor
open Go.RowKit

theorem fold_push (l : List UInt8) (acc : ByteArray) : (codes l).foldl (fun (r : ByteArray) (n : Nat) => r.push (UInt8.ofNat (n : Int).toNat)) acc = ⟨acc.data ++ l.toArray⟩ := by
  induction l generalizing acc with
  | nil => simp [codes]
  | cons c r ih =>
    show (codes r).foldl _ (acc.push (UInt8.ofNat (c.toNat : Int).toNat)) = _
    rw [ih]
    have : UInt8.ofNat (c.toNat : Int).toNat = c := by simp
    rw [this]
    simp [ByteArray.push]

theorem run_bytes_str {P : Program} {w : World} {e : TypeId} {base : Nat} {v : Value} {T : List UInt8} (src dst : TypeId) (hs : P.underlying src = some (.slice e)) (he : P.underlying e = some (.int .u8)) (hd : P.underlying dst = some .string)
    (hown : Own .u8 e w base v (codes T)) (hT : T ≠ []) : (convert src dst v).run P w = .ok (.string ⟨T.toArray⟩) w := by
  obtain ⟨A, c, rfl, hrow⟩ := hown.row
  obtain ⟨b, o, rfl, _, hc⟩ := hrow.spot (by rw [codes_length]; exact List.length_pos_iff.2 hT)
  rw [run_convert_bytes_string w src dst e _ _ _ hs he hd]
  have hl : (loadCells ⟨b, o, none⟩ (codes T).length).run P w = .ok (((codes T).map fun (n : Nat) => (n : Int)).map (Value.int .u8)).toArray w := by
    have := run_loadCells_list (P := P) (w := w) ⟨b, o, none⟩ (((codes T).map fun (n : Nat) => (n : Int)).map (Value.int .u8)) (fun j v hj => by
      have hjl : j < (codes T).length := by
        rcases Nat.lt_or_ge j (codes T).length with h | h
        · exact h
        · rw [List.getElem?_eq_none (by simpa using h)] at hj; cases hj
      have h2 := hc j hjl
      have h3 : v = .int .u8 (nth (codes T) j) := by
        rw [List.getElem?_map, List.getElem?_map, List.getElem?_eq_getElem hjl] at hj
        simp at hj
        rw [← hj, nth_lt hjl]
      rw [h3, ← h2]
      unfold Addr.add
      split
      · rename_i h0; subst h0; simp
      · rfl)
    simpa using this
  rw [run_bytesToString w _ _ _ _ hl, List.foldl_map, fold_push]
  simp [ByteArray.empty, ByteArray.emptyWithCapacity]
  rfl

/-- The operation 'string(b)'. -/
theorem wpList_bytes_str {P : Program} {w : World} {ops : Array Oper} {rest : List Oper} {o : Oper} {a : Act} {Q : Exit → Act → World → Prop} (hg : o.guard = none) (src dst : TypeId) (x : Operand) (hop : o.op = Op.convert src dst x)
    (e : TypeId) (hs : P.underlying src = some (.slice e)) (he : P.underlying e = some (.int .u8)) (hd : P.underlying dst = some .string)
    (base : Nat) (v : Value) (T : List UInt8) (hx : a.eval x = v) (hown : Own .u8 e w base v (codes T)) (hT : T ≠ [])
    (h : wpList P ops Q rest (a.put o.dst (.string ⟨T.toArray⟩)) w) : wpList P ops Q (o :: rest) a w := by
  refine wpList_plain hg fun K hK => ?_
  have hrun := run_bytes_str src dst hs he hd hown hT
  unfold Oper.wp
  simp [execOp, hop, hx, hrun, Result.andThen]
  exact hK _ _ h
end Go.Proofs.YtmpdpfiokjepaaaDoor

/- The loops over limbs as functions on lists, and what they keep. -/
namespace Go.Proofs.YtmpdpfiokjepaaaDoor

/-- All numbers of a row are limbs. -/
def Lim (L : List Nat) : Prop := ∀ d ∈ L, d < 1000000000
theorem Lim.nth {L : List Nat} (h : Lim L) (k : Nat) : nth L k < 1000000000 := nth_all h (by omega) k
theorem Lim.set {L : List Nat} (h : Lim L) (i : Nat) {x : Nat} (hx : x < 1000000000) : Lim (L.set i x) := fun d hd => by
  rcases List.mem_or_eq_of_mem_set hd with h1 | h1
  · exact h d h1
  · omega
theorem Lim.take {L : List Nat} (h : Lim L) (n : Nat) : Lim (L.take n) := fun d hd => h d (List.mem_of_mem_take hd)
theorem Lim.drop {L : List Nat} (h : Lim L) (n : Nat) : Lim (L.drop n) := fun d hd => h d (List.mem_of_mem_drop hd)

/-- 'addTo': after k rounds, the row into which B is added from place o on, and the carry. -/
def addSt (o : Nat) (B M : List Nat) : Nat → List Nat × Nat
  | 0 => (M, 0)
  | k + 1 => ((addSt o B M k).1.set (o + k) ((nth (addSt o B M k).1 (o + k) + (addSt o B M k).2 + nth B k) % 1000000000),
      (nth (addSt o B M k).1 (o + k) + (addSt o B M k).2 + nth B k) / 1000000000)
theorem addSt_succ (o : Nat) (B M : List Nat) (k : Nat) : addSt o B M (k + 1) = ((addSt o B M k).1.set (o + k) ((nth (addSt o B M k).1 (o + k) + (addSt o B M k).2 + nth B k) % 1000000000),
      (nth (addSt o B M k).1 (o + k) + (addSt o B M k).2 + nth B k) / 1000000000) := rfl
theorem addSt_ok {o : Nat} {B M : List Nat} (hB : Lim B) (hM : Lim M) (k : Nat) :
    Lim (addSt o B M k).1 ∧ (addSt o B M k).2 ≤ 1 ∧ (addSt o B M k).1.length = M.length := by
  induction k with
  | zero => exact ⟨hM, by simp [addSt], rfl⟩
  | succ k ih =>
    obtain ⟨h1, h2, h3⟩ := ih
    refine ⟨h1.set _ (Nat.mod_lt _ (by omega)), ?_, by simp [addSt, h3]⟩
    have a := h1.nth (o + k)
    have b := hB.nth k
    simp only [addSt]
    omega

/-- 'subtract': after k rounds, the row from which B is taken away, and what was borrowed. -/
def subSt (B M : List Nat) : Nat → List Nat × Nat
  | 0 => (M, 0)
  | k + 1 => if nth (subSt B M k).1 k < (subSt B M k).2 + nth B k
      then ((subSt B M k).1.set k (nth (subSt B M k).1 k + 1000000000 - ((subSt B M k).2 + nth B k)), 1)
      else ((subSt B M k).1.set k (nth (subSt B M k).1 k - ((subSt B M k).2 + nth B k)), 0)
theorem subSt_succ (B M : List Nat) (k : Nat) : subSt B M (k + 1) = if nth (subSt B M k).1 k < (subSt B M k).2 + nth B k
      then ((subSt B M k).1.set k (nth (subSt B M k).1 k + 1000000000 - ((subSt B M k).2 + nth B k)), 1)
      else ((subSt B M k).1.set k (nth (subSt B M k).1 k - ((subSt B M k).2 + nth B k)), 0) := rfl
theorem subSt_ok {B M : List Nat} (hB : Lim B) (hM : Lim M) (k : Nat) :
    Lim (subSt B M k).1 ∧ (subSt B M k).2 ≤ 1 ∧ (subSt B M k).1.length = M.length := by
  induction k with
  | zero => exact ⟨hM, by simp [subSt], rfl⟩
  | succ k ih =>
    obtain ⟨h1, h2, h3⟩ := ih
    have a := h1.nth k
    have b := hB.nth k
    rw [subSt_succ]
    split
    · exact ⟨h1.set _ (by omega), by simp, by simp [h3]⟩
    · exact ⟨h1.set _ (by omega), by simp, by simp [h3]⟩

/-- One round of a product: x times the number j of B is added to place o + j, with a carry. -/
def mulRow (x o : Nat) (B M : List Nat) : Nat → List Nat × Nat
  | 0 => (M, 0)
  | j + 1 => ((mulRow x o B M j).1.set (o + j) ((x * nth B j + nth (mulRow x o B M j).1 (o + j) + (mulRow x o B M j).2) % 1000000000),
      (x * nth B j + nth (mulRow x o B M j).1 (o + j) + (mulRow x o B M j).2) / 1000000000)
theorem mulRow_succ (x o : Nat) (B M : List Nat) (j : Nat) : mulRow x o B M (j + 1) =
    ((mulRow x o B M j).1.set (o + j) ((x * nth B j + nth (mulRow x o B M j).1 (o + j) + (mulRow x o B M j).2) % 1000000000),
      (x * nth B j + nth (mulRow x o B M j).1 (o + j) + (mulRow x o B M j).2) / 1000000000) := rfl
theorem mul_lt_lim {x y : Nat} (hx : x < 1000000000) (hy : y < 1000000000) : x * y ≤ 999999998000000001 := by
  have : x * y ≤ 999999999 * 999999999 := Nat.mul_le_mul (by omega) (by omega)
  omega
theorem mul_lt_limI {x y : Nat} (hx : x < 1000000000) (hy : y < 1000000000) : (x : Int) * (y : Int) ≤ 999999998000000001 := by
  have h := mul_lt_lim hx hy
  have e : ((x * y : Nat) : Int) = (x : Int) * (y : Int) := by simp
  omega
theorem mul_nonnegI (x y : Nat) : 0 ≤ (x : Int) * (y : Int) := by
  have e : ((x * y : Nat) : Int) = (x : Int) * (y : Int) := by simp
  omega
theorem mulRow_ok {x o : Nat} {B M : List Nat} (hx : x < 1000000000) (hB : Lim B) (hM : Lim M) (j : Nat) :
    Lim (mulRow x o B M j).1 ∧ (mulRow x o B M j).2 < 1000000000 ∧ (mulRow x o B M j).1.length = M.length := by
  induction j with
  | zero => exact ⟨hM, by simp [mulRow], rfl⟩
  | succ j ih =>
    obtain ⟨h1, h2, h3⟩ := ih
    have a := h1.nth (o + j)
    have b := mul_lt_lim hx (hB.nth j)
    rw [mulRow_succ]
    exact ⟨h1.set _ (Nat.mod_lt _ (by omega)), by show _ / _ < _; omega, by simp [h3]⟩

/-- A product: after i rounds. -/
def mulSt (A B M : List Nat) : Nat → List Nat
  | 0 => M
  | i + 1 => (mulRow (nth A i) i B (mulSt A B M i) B.length).1.set (i + B.length) (mulRow (nth A i) i B (mulSt A B M i) B.length).2
theorem mulSt_succ (A B M : List Nat) (i : Nat) : mulSt A B M (i + 1) =
    (mulRow (nth A i) i B (mulSt A B M i) B.length).1.set (i + B.length) (mulRow (nth A i) i B (mulSt A B M i) B.length).2 := rfl
theorem mulSt_ok {A B M : List Nat} (hA : Lim A) (hB : Lim B) (hM : Lim M) (i : Nat) : Lim (mulSt A B M i) ∧ (mulSt A B M i).length = M.length := by
  induction i with
  | zero => exact ⟨hM, rfl⟩
  | succ i ih =>
    obtain ⟨a, b, c⟩ := mulRow_ok (o := i) (hA.nth i) hB ih.1 B.length
    rw [mulSt_succ]
    exact ⟨a.set _ b, by simp [c, ih.2]⟩
end Go.Proofs.YtmpdpfiokjepaaaDoor

/- 'Text': the decimal text of an integer. -/
namespace Go.Proofs.YtmpdpfiokjepaaaDoor
open Go.RowKit
open Go.Lib (decDigits)

/-- The text of an integer with a sign and an absolute value. -/
def decI (neg : Bool) (n : Nat) : List UInt8 := (if neg then [45] else []) ++ decDigits n

/-- A table that lies below block B reads as it does, whatever happens from block B on. -/
abbrev Tab (B : Nat) (w : World) : Prop := Lib.TabBelow Tryd.prog B w "internal/strconv.uint64pow10" .u64 Lib.pow10Tab
theorem Below.less {B B' : Nat} {w w' : World} (h : Below B' w w') (hB : B ≤ B') : Below B w w' := ⟨h.os, h.tape, h.output, h.size, fun k hk => h.block k (by omega)⟩
theorem Tab.more {B B' : Nat} {w : World} (h : Tab B w) (hB : B ≤ B') : Tab B' w := fun w' hb => h w' (Below.less hb hB)

theorem make_own8 {P : Program} (w : World) {ops : Array Oper} {rest : List Oper} {o : Oper} {a : Act} {Q : Exit → Act → World → Prop}
    (hg : o.guard = none) (l c : Operand) (t : TypeId) (hop : o.op = Op.makeSlice t l c)
    (e : TypeId) (i : TypeInfo) (h1 : P.underlying t = some (.slice e)) (h2 : P.info? e = some i) (h3 : i.zero = some (.int .u8 0)) (h4 : i.size = 1) (h5 : i.bytes = 1)
    (kl kc : IntKind) (C : Int) (n : Nat) (hl : a.eval l = .int kl 0) (hc : a.eval c = .int kc C) (hC : C = (n : Int)) (hn : n ≤ 100000000)
    (hK : ∀ w', Hid (Own .u8 e w' w.heap.size (.slice (some ⟨w.heap.size, 0, none⟩) 0 n) (codes [])) → Below w.heap.size w w' → wpList P ops Q rest (a.put o.dst (.slice (some ⟨w.heap.size, 0, none⟩) 0 n)) w') :
    wpList P ops Q (o :: rest) a w :=
  wpList_make_own w hg l c t hop w.heap.size e i (.int .u8 0) 1 h1 h2 h3 h4 kl kc C n hl hc hC (by rw [h5]; omega) (by unfold maxLen; omega) (Nat.le_refl _)
    fun w' ho hgr => hK w' ho (grown_none_below (Below.refl _ _) hgr (Nat.le_refl _))

/-- What stands in the box of a struct of two cells, after new blocks were made. -/
theorem boxed {w w1 : World} {x y : Value} {t : TypeId} (h : Below (w.alloc (.cells #[x, y] t)).heap.size (w.alloc (.cells #[x, y] t)) w1) :
    w1.cell? ⟨w.heap.size, 0, none⟩ = some x ∧ w1.cell? ⟨w.heap.size, 1, none⟩ = some y ∧ w.heap.size + 1 ≤ w1.heap.size ∧ Below (w.heap.size + 1) (w.alloc (.cells #[x, y] t)) w1 := by
  have hs : (w.alloc (.cells #[x, y] t)).heap.size = w.heap.size + 1 := by simp
  rw [hs] at h
  have hh := heap_alloc_new w (.cells #[x, y] t)
  refine ⟨?_, ?_, by have := h.size; omega, h⟩
  · rw [h.cell (by show w.heap.size < _; omega)]; unfold World.cell?; dsimp only; rw [hh]; rfl
  · rw [h.cell (by show w.heap.size < _; omega)]; unfold World.cell?; dsimp only; rw [hh]; rfl

theorem boxedF {w w1 : World} {cs : Array Value} {t : TypeId} (h : Below (w.heap.size + 1) (w.alloc (.cells cs t)) w1) (i : Nat) : w1.frozen? ⟨w.heap.size, i, none⟩ = false := by
  rw [h.frozen (by show w.heap.size < _; omega)]
  unfold World.frozen?; dsimp only; rw [heap_alloc_new]; simp
theorem nDigits_le (k : Nat) : ∀ n, n < 10 ^ (k + 1) → Go.Lib.nDigits n ≤ k + 1 := by
  induction k with
  | zero => intro n h; rw [Go.Lib.nDigits_small (by simpa using h)]; omega
  | succ k ih =>
    intro n h
    by_cases h10 : n < 10
    · rw [Go.Lib.nDigits_small h10]; omega
    · rw [Go.Lib.nDigits_big h10]
      have := ih (n / 10) (by rw [Nat.pow_succ] at h; omega)
      omega
theorem dec_ne (n : Nat) : decDigits n ≠ [] := by
  rw [decDigits]
  split <;> simp
theorem dec_len (n : Nat) (h : n < 1000000000) : (decDigits n).length ≤ 10 := by
  rw [Go.Lib.decDigits_length]
  have := nDigits_le 8 n (by omega)
  omega
theorem boxed2 {w w1 : World} {x y : Value} {t : TypeId} (h : Below (w.heap.size + 1) (w.alloc (.cells #[x, y] t)) w1) :
    w1.cell? ⟨w.heap.size, 0, none⟩ = some x ∧ w1.cell? ⟨w.heap.size, 1, none⟩ = some y := by
  have hs : (w.alloc (.cells #[x, y] t)).heap.size = w.heap.size + 1 := by simp
  have := boxed (w := w) (w1 := w1) (x := x) (y := y) (t := t) (by rw [hs]; exact h)
  exact ⟨this.1, this.2.1⟩

set_option maxRecDepth 20000 in
set_option maxHeartbeats 1600000 in
theorem text_long (neg : Bool) (A : Option Addr) (c : Nat) (L : List Nat) (w : World) (hn : 0 < L.length) (hl : L.length ≤ 100000) (hL : Lim L) (htop : nth L (L.length - 1) ≠ 0)
    (hR : Row .u32 w w.heap.size A c L) (ht : Tab w.heap.size w) :
    Calls Tryd.prog 10 #[.agg #[.bool neg, .slice A L.length c]] w fun e w' => e = .returned (.string ⟨(decI neg (valB 1000000000 L)).toArray⟩) ∧ Below w.heap.size w w' := by
  obtain ⟨i0, hi, hz0, hz1, hz2⟩ := info_parts info5
  obtain ⟨b, o, rfl, hb, hcell⟩ := hR.spot hn
  generalize hl' : L.length = l at *
  have HL := Lib.hid hl'
  clear hl'
  have h0 : ((l : Int) == 0) = false := by simp; omega
  have htl := hL.nth (l - 1)
  have e1 : ((l : Int) - 1).toNat = l - 1 := by omega
  have hval : decI neg (valB 1000000000 L) = (if neg then [45] else []) ++ (decDigits (nth L (l - 1)) ++ lowPads 9 (L.take (l - 1))) := by
    unfold decI
    congr 1
    have := dec_limbs 9 (L.take (l - 1)) (nth L (l - 1)) (by omega) (fun d hd => hL d (List.mem_of_mem_take hd))
    rw [← this]
    have e2 : L.take (l - 1) ++ [nth L (l - 1)] = L := by
      have hh : l - 1 < L.length := by rw [HL.out]; omega
      rw [nth_lt hh, List.take_append_getElem]
      exact List.take_of_length_le (by rw [HL.out]; omega)
    rw [e2]
  have HV := Lib.hid hval
  clear hval e1 htop
  generalize htt : nth L (l - 1) = top at *
  have HTT := Lib.hid htt
  clear htt
  have HT := Lib.hid ht
  clear ht
  have ⟨S, hS, hS2⟩ : ∃ S : List UInt8, Hid ((if neg then [45] else []) = S) ∧ S.length ≤ 1 := ⟨_, rfl, by cases neg <;> simp⟩
  cases neg
  case false =>
    obtain rfl : [] = S := hS
    go_enter Tryd.func10, Tryd.ntmps10
    go_wp2_with (refine make_own8 _ rfl (.const (.int .i64 0)) (.tmp 14) 60 rfl 5 i0 Tryd.underlying60 hi hz0 hz1 hz2 .i64 .i64 _ (l * 9 + 1) rfl rfl ?_ ?_ ?_; (omega); (omega); intro w1 ho1 hb1; have X := boxed hb1; have hx0 := X.1; have hx1 := X.2.1; have hs1 := X.2.2.1; have hbx := X.2.2.2; clear X hb1; have hcl := hcell.below (Below.trans (below_alloc_new _) (Below.less hbx (Nat.le_succ _))) hb; have hlast := hcl (l - 1) (by rw [HL.out]; omega); rw [HTT.out] at hlast)
    refine (appendUint_any top (w.heap.size + 1) _ [] w1 (by omega) (by simp) hs1 (by simpa using ho1.out) (HT.out.on (Below.trans (below_alloc_new _) (Below.less hbx (Nat.le_succ _))) |>.here)).mono ?_
    rintro e w2 ⟨v2, rfl, ho2, hb2⟩
    have hbx2 := hbx.trans hb2
    clear hx0 hx1 hcl hlast hb2
    have hx1 := (boxed2 hbx2).2
    have HO2 := Lib.hid ho2
    clear ho2 ho1
    go_wp2_with fail
    generalize hP : [] ++ decDigits top = P0 at *
    have hPl : P0.length ≤ 21 := by rw [← hP]; have := dec_len top htl; simp; omega
    have HP := Lib.hid hP
    clear hP
    go_loopw [3, 5] (fun tv iv wr => ∃ k : Nat, k ≤ l - 1 ∧ iv = .int .i64 ((k : Int) - 1) ∧ Own .u8 5 wr (w.heap.size + 1) tv (codes (P0 ++ lowPads 9 ((L.take (l - 1)).drop k))) ∧
      Below (w.heap.size + 1) (w.alloc (.cells #[.bool false, .slice (some ⟨b, o, none⟩) l c] 25)) wr) (fun _ iv _ => (intOf iv + 1).toNat)
    case atStart => exact ⟨l - 1, by omega, by congr 1; omega, by rw [List.drop_of_length_le (by rw [List.length_take, HL.out]; omega)]; simpa [lowPads] using HO2.out, hbx2⟩
    case round =>
      clear hx1 hbx2
      obtain ⟨k, hk, rfl, ho, hbr⟩ := hrel
      have hx1 := (boxed2 hbr).2
      rcases Nat.eq_zero_or_pos k with rfl | hpos
      · have hd : decide ((0 : Int) ≤ ((0 : Nat) : Int) - 1) = false := by simp
        have HO := Lib.hid ho
        clear ho
        have hne : P0 ++ lowPads 9 ((L.take (l - 1)).drop 0) ≠ [] := by rw [← HP.out]; simp [dec_ne]
        have HNE := Lib.hid hne
        clear hne
        go_wp2_with (refine wpList_bytes_str rfl 60 9 (.tmp 46) rfl 5 Tryd.underlying60 Tryd.underlying5 Tryd.underlying9 (w.heap.size + 1) u3 _ (by rfl) HO.out HNE.out ?_)
        go_ret
        exact ⟨by rw [HV.out, ← HP.out]; simp, (below_alloc_new _).trans (Below.less hbr (Nat.le_succ _))⟩
      · obtain ⟨m, rfl⟩ : ∃ m, k = m + 1 := ⟨k - 1, by omega⟩
        have h1 : ((0 : Int) ≤ ((m + 1 : Nat) : Int) - 1) := by omega
        have e1 : ((m + 1 : Nat) : Int) - 1 = (m : Int) := by omega
        rw [e1]
        clear e1 h1
        have hm := (hcell.below (Below.trans (below_alloc_new _) (Below.less hbr (Nat.le_succ _))) hb) m (by rw [HL.out]; omega)
        have hml := hL.nth m
        have hsr : w.heap.size + 1 ≤ wr.heap.size := by have := hbr.size; simpa using this
        have hlen : (P0 ++ lowPads 9 ((L.take (l - 1)).drop (m + 1))).length ≤ 10000000 := by
          rw [List.length_append, lowPads_length, List.length_drop, List.length_take, HL.out]; omega
        have hst : lowPads 9 ((L.take (l - 1)).drop m) = lowPads 9 ((L.take (l - 1)).drop (m + 1)) ++ padk 9 (nth L m) := by
          have hml2 : m < (L.take (l - 1)).length := by rw [List.length_take, HL.out]; omega
          rw [List.drop_eq_getElem_cons hml2, lowPads, nth_lt (by rw [HL.out]; omega)]
          simp
        have hap := appendLimb_any (nth L m) (w.heap.size + 1) u3 _ wr hml hlen hsr ho
        have HAP := Lib.hid hap
        have HST := Lib.hid hst
        clear hlen hst ho hap
        go_wp2_with fail
        refine HAP.out.mono ?_
        rintro e w3 ⟨v3, rfl, ho3, hb3⟩
        have HO3 := Lib.hid ho3
        clear ho3 hx1 hm
        go_wp2_with fail
        go_roundw
        case rel => exact ⟨m, by omega, rfl, by rw [HST.out, ← List.append_assoc]; exact HO3.out, hbr.trans hb3⟩
        case measure => simp [intOf]
  case true =>
    obtain rfl : [45] = S := hS
    go_enter Tryd.func10, Tryd.ntmps10
    go_wp2_with (first
      | (refine make_own8 _ rfl (.const (.int .i64 0)) (.tmp 14) 60 rfl 5 i0 Tryd.underlying60 hi hz0 hz1 hz2 .i64 .i64 _ (l * 9 + 1) rfl rfl ?_ ?_ ?_; (omega); (omega); intro w1 ho1 hb1; have X := boxed hb1; have hx0 := X.1; have hx1 := X.2.1; have hs1 := X.2.2.1; have hbx := X.2.2.2; clear X hb1)
      | (at_builtin; refine wpList_append_num w1 rfl (.tmp 18) (.tmp 19) 60 rfl .u8 (w.heap.size + 1) 5 i0 1 Tryd.underlying60 hi hz0 hz1 hz2 (by omega) (.slice (some ⟨w.heap.size + 1, 0, none⟩) 0 (l * 9 + 1)) (codes []) (by rfl) (by simpa using ho1.out) _ 45 ?_ 1 rfl ?_ ?_ ?_; (rfl); (simp [codes]); (exact hs1); intro w4 w5 ho5 hb5; have hbx5 := hbx.trans hb5; have hx5 := (boxed2 hbx5).1; have hx6 := (boxed2 hbx5).2; have hs5 := Nat.le_trans hs1 hb5.size; clear hb5 hx0 hx1; have hcl := hcell.below (Below.trans (below_alloc_new _) (Below.less hbx5 (Nat.le_succ _))) hb; have hlast := hcl (l - 1) (by rw [HL.out]; omega); rw [HTT.out] at hlast)
      | fail)
    refine (appendUint_any top (w.heap.size + 1) _ [45] w5 (by omega) (by simp) hs5 ho5.out (HT.out.on (Below.trans (below_alloc_new _) (Below.less hbx5 (Nat.le_succ _))) |>.here)).mono ?_
    rintro e w2 ⟨v2, rfl, ho2, hb2⟩
    have hbx2 := hbx5.trans hb2
    clear hx5 hx6 hcl hlast hb2
    have hx1 := (boxed2 hbx2).2
    have HO2 := Lib.hid ho2
    clear ho2 ho5
    go_wp2_with fail
    generalize hP : [45] ++ decDigits top = P0 at *
    have hPl : P0.length ≤ 21 := by rw [← hP]; have := dec_len top htl; simp; omega
    have HP := Lib.hid hP
    clear hP
    go_loopw [3, 5] (fun tv iv wr => ∃ k : Nat, k ≤ l - 1 ∧ iv = .int .i64 ((k : Int) - 1) ∧ Own .u8 5 wr (w.heap.size + 1) tv (codes (P0 ++ lowPads 9 ((L.take (l - 1)).drop k))) ∧
      Below (w.heap.size + 1) (w.alloc (.cells #[.bool true, .slice (some ⟨b, o, none⟩) l c] 25)) wr) (fun _ iv _ => (intOf iv + 1).toNat)
    case atStart => exact ⟨l - 1, by omega, by congr 1; omega, by rw [List.drop_of_length_le (by rw [List.length_take, HL.out]; omega)]; simpa [lowPads] using HO2.out, hbx2⟩
    case round =>
      clear hx1 hbx2
      obtain ⟨k, hk, rfl, ho, hbr⟩ := hrel
      have hx1 := (boxed2 hbr).2
      rcases Nat.eq_zero_or_pos k with rfl | hpos
      · have hd : decide ((0 : Int) ≤ ((0 : Nat) : Int) - 1) = false := by simp
        have HO := Lib.hid ho
        clear ho
        have hne : P0 ++ lowPads 9 ((L.take (l - 1)).drop 0) ≠ [] := by rw [← HP.out]; simp
        have HNE := Lib.hid hne
        clear hne
        go_wp2_with (refine wpList_bytes_str rfl 60 9 (.tmp 46) rfl 5 Tryd.underlying60 Tryd.underlying5 Tryd.underlying9 (w.heap.size + 1) u3 _ (by rfl) HO.out HNE.out ?_)
        go_ret
        exact ⟨by rw [HV.out, ← HP.out]; simp, (below_alloc_new _).trans (Below.less hbr (Nat.le_succ _))⟩
      · obtain ⟨m, rfl⟩ : ∃ m, k = m + 1 := ⟨k - 1, by omega⟩
        have h1 : ((0 : Int) ≤ ((m + 1 : Nat) : Int) - 1) := by omega
        have e1 : ((m + 1 : Nat) : Int) - 1 = (m : Int) := by omega
        rw [e1]
        clear e1 h1
        have hm := (hcell.below (Below.trans (below_alloc_new _) (Below.less hbr (Nat.le_succ _))) hb) m (by rw [HL.out]; omega)
        have hml := hL.nth m
        have hsr : w.heap.size + 1 ≤ wr.heap.size := by have := hbr.size; simpa using this
        have hlen : (P0 ++ lowPads 9 ((L.take (l - 1)).drop (m + 1))).length ≤ 10000000 := by
          rw [List.length_append, lowPads_length, List.length_drop, List.length_take, HL.out]; omega
        have hst : lowPads 9 ((L.take (l - 1)).drop m) = lowPads 9 ((L.take (l - 1)).drop (m + 1)) ++ padk 9 (nth L m) := by
          have hml2 : m < (L.take (l - 1)).length := by rw [List.length_take, HL.out]; omega
          rw [List.drop_eq_getElem_cons hml2, lowPads, nth_lt (by rw [HL.out]; omega)]
          simp
        have hap := appendLimb_any (nth L m) (w.heap.size + 1) u3 _ wr hml hlen hsr ho
        have HAP := Lib.hid hap
        have HST := Lib.hid hst
        clear hlen hst ho hap
        go_wp2_with fail
        refine HAP.out.mono ?_
        rintro e w3 ⟨v3, rfl, ho3, hb3⟩
        have HO3 := Lib.hid ho3
        clear ho3 hx1 hm
        go_wp2_with fail
        go_roundw
        case rel => exact ⟨m, by omega, rfl, by rw [HST.out, ← List.append_assoc]; exact HO3.out, hbr.trans hb3⟩
        case measure => simp [intOf]

set_option maxHeartbeats 800000 in
theorem text_zero (neg : Bool) (A : Option Addr) (c : Nat) (w : World) :
    Calls Tryd.prog 10 #[.agg #[.bool neg, .slice A 0 c]] w fun e w' => e = .returned (.string ⟨#[48]⟩) ∧ Below w.heap.size w w' := by
  go_enter Tryd.func10, Tryd.ntmps10
  go_wp2
  go_ret
  exact ⟨rfl, below_alloc_new _⟩

/-- What the limbs of an integer are like. -/
structure Canon (L : List Nat) : Prop where
  lim : Lim L
  top : 0 < L.length → nth L (L.length - 1) ≠ 0
theorem decI_nil : decI false (valB 1000000000 []) = [48] := by
  show [] ++ decDigits 0 = _
  rw [dec_small (by omega)]; rfl

theorem text_any (neg : Bool) (A : Option Addr) (c : Nat) (L : List Nat) (w : World) (hl : L.length ≤ 100000) (hL : Canon L) (hneg : neg = true → L ≠ [])
    (hR : Row .u32 w w.heap.size A c L) (ht : Tab w.heap.size w) :
    Calls Tryd.prog 10 #[.agg #[.bool neg, .slice A L.length c]] w fun e w' => e = .returned (.string ⟨(decI neg (valB 1000000000 L)).toArray⟩) ∧ Below w.heap.size w w' := by
  rcases Nat.eq_zero_or_pos L.length with h | h
  · obtain rfl : L = [] := List.eq_nil_of_length_eq_zero h
    cases neg
    · rw [decI_nil]; exact text_zero _ _ _ _
    · exact absurd rfl (hneg rfl)
  · exact text_long neg A c L w h hl hL.lim (hL.top h) hR ht
end Go.Proofs.YtmpdpfiokjepaaaDoor

/- What the rows' condition on listed variables gives; a step of every row's proof. -/
namespace Go.Proofs.YtmpdpfiokjepaaaDoor
open Go.ChangeShapes Go.WideShapes Go.ChangeAt Go.WideMaps Go.WideElems Go.RowKit

theorem own : ownKnob Tryd.prog.godebug = none := by kernel_rfl
/-- The list of the listed variables. -/
abbrev laidL : List (String × DataW Unit) := [("math/bits.deBruijn32tab", Rows.laid_math_bits_deBruijn32tab), ("math/bits.deBruijn64tab", Rows.laid_math_bits_deBruijn64tab), ("internal/strconv.uint64pow10", Rows.laid_internal_strconv_uint64pow10)]
theorem door_met (os : Os) (args : Array Value) : laidMetH Tryd.prog laidL ((World.doorLaid Tryd.prog 400 os).forCall (fun _ _ => 0) ⟨#[], args, []⟩).memory :=
  laidMetH_of_parts3 (fuel := 8) (laidMet_of_run' 8 (by kernel_rfl) (by kernel_rfl)) (by kernel_rfl) (by kernel_rfl)

theorem pow_is : Rows.laid_internal_strconv_uint64pow10 (H := Unit) = Lib.tabData .u64 Lib.pow10Tab := by kernel_rfl
theorem tab_of_laid {W : World} (h : laidMetH Tryd.prog laidL W) : Tab W.heap.size W := by
  rw [MakeChecks.laidMetH_plain _ _ _ (by kernel_rfl)] at h
  obtain ⟨ps, ⟨g0, t0, cs0, f0, p0, q0, hg0, ht0, hv0, hd0, ⟨g1, t1, cs1, f1, p1, q1, hg1, ht1, hv1, hd1, ⟨g2, t2, cs2, f2, p2, q2, hg2, ht2, hv2, hd2, _, _⟩, _⟩, _⟩, _, _⟩ := h
  have hg : Tryd.prog.globalNamed "internal/strconv.uint64pow10" = some g2 := hg2
  have hgg : Tryd.prog.globalNamed "internal/strconv.uint64pow10" = some 0 := by kernel_rfl
  have hty : (Tryd.prog.globals[0]?).map (·.type) = some 103 := by kernel_rfl
  obtain rfl := Option.some.inj (hgg.symm.trans hg2)
  obtain rfl := Option.some.inj (hty.symm.trans ht2)
  refine Lib.tabBelow_of_tabIs ?_
  unfold Lib.TabIs
  rw [hv2]
  rw [pow_is] at hd2
  rw [← Lib.cells_of_tab Tryd.underlying103 Tryd.underlying62 (by kernel_rfl) (by kernel_rfl) hd2]

/-- The last step of a row whose call makes memory and leaves the old memory as it was. -/
theorem post_below {H : Type} {enc : TypeId × Value → H} {P : Program} {f : Func} {s : ChangeSpec} {ap fr ho ag : Bool} {W W' : World} {args : Array Value} {v : Value} {ds gs : List (DataW H)} {before pa pv : List MemPlace}
    (hW : DataW.Whole enc P f.params.toList s.vars ap W args.toList ds gs before)
    (hres : ∀ (b : Nat) (sp : Nat → Bool) (hd : Bool), DataW.TrodAll enc P W' b sp hd f.resultTypes.toList (v.resultList f.resultTypes.size) (s.fn H (ds ++ gs)).results [])
    (hargs : ∀ sp : Nat → Bool, (∀ p ∈ before, sp p.block = true) → DataW.TrodAll enc P W' 0 sp true f.params.toList args.toList (s.fn H (ds ++ gs)).args pa)
    (hvars : ∀ sp : Nat → Bool, (∀ p ∈ before, sp p.block = true) → DataW.TrodVars enc P W' sp s.vars (s.fn H (ds ++ gs)).vars pv)
    (hps : before = pa ++ pv) (hb : Below W.heap.size W W')
    (hok : ∀ (j : Nat) (t : TypeId) (r : Value), f.resultTypes[j]? = some t → (v.resultList f.resultTypes.size)[j]? = some r → Value.okWide P W' .any 0 t r) : s.post enc P f ap fr ho ag W args v W' := by
  have hlt : ∀ p ∈ before, p.block < W.heap.size := fun p hp => hW.lt p hp
  have hin : ∀ p ∈ before, (fun b => decide (b < W.heap.size)) p.block = true := fun p hp => by simpa using hlt p hp
  refine ⟨ds, gs, before, [], pa, pv, hW, hres _ _ _, hargs _ hin, hvars _ hin, World.keptBut_mono (fun p hp => ⟨hp, .inr (List.mem_append.1 (hps ▸ hp))⟩) (hb.frame (· ∈ before)), fun _ => ?_⟩
  obtain ⟨_, _, _, _, _, hz, hn⟩ := hW
  refine ⟨hok, _, _, ([] ++ pa) ++ pv, ⟨[] ++ pa, pv, trodAll_append (hargs _ (fun _ _ => rfl)) (hres _ _ _), hvars _ (fun _ _ => rfl), rfl, fun b off hp => ?_, fun ha => ?_⟩, ?_⟩
  · have hbe : MemPlace.cell b off ∈ before := by rw [hps]; simpa using hp
    rw [hb.frozen (hlt _ hbe)]
    exact hz b off hbe
  · have h9 := hn ha
    rw [hps] at h9
    simpa using h9
  · intro p hp _
    rw [hps, ← List.nil_append pa]
    exact hp
end Go.Proofs.YtmpdpfiokjepaaaDoor

/- A region that draws its order, walked once: of each operation is said what its temporary then holds, as a fact that stays true while memory only grows. -/
namespace Go.Proofs.YtmpdpfiokjepaaaDoor
open Go Go.RowKit

/-- What may be said of a value: it stays true while memory only grows. -/
structure Fact where
  p : Value → World → Prop
  st : ∀ v w w', Below w.heap.size w w' → p v w → p v w'
def Fact.triv : Fact := ⟨fun _ _ => True, fun _ _ _ _ _ => trivial⟩
def look : List (Nat × Fact) → Nat → Fact
  | [], _ => Fact.triv
  | (k, f) :: rest, d => bif Nat.beq k d then f else look rest d
def temps (FL : List (Nat × Fact)) : List Nat := FL.map (·.1)
def factOf (FL : List (Nat × Fact)) (dst : Option Nat) (v : Value) (w : World) : Prop := match dst with
  | none => True
  | some d => (look FL d).p v w
def Facts (FL : List (Nat × Fact)) (u : Nat → Value) (w : World) : List Nat → Prop
  | [] => True
  | d :: ds => (look FL d).p (u d) w ∧ Facts FL u w ds
theorem facts_mk {FL : List (Nat × Fact)} {u : Nat → Value} {w : World} {ds : List Nat} (h : ∀ d ∈ ds, (look FL d).p (u d) w) : Facts FL u w ds := by
  induction ds with
  | nil => trivial
  | cons d ds ih => exact ⟨h d (List.mem_cons_self ..), ih fun e he => h e (List.mem_cons_of_mem _ he)⟩
theorem facts_get {FL : List (Nat × Fact)} {u : Nat → Value} {w : World} {ds : List Nat} (h : Facts FL u w ds) (d : Nat) (hd : d ∈ ds) : (look FL d).p (u d) w := by
  induction ds with
  | nil => cases hd
  | cons e ds ih =>
    rcases List.mem_cons.1 hd with rfl | hd
    · exact h.1
    · exact ih h.2 hd
/-- The temporaries with the letters u in the places ds. -/
def fillL (u : Nat → Value) : List Nat → Array Value → Array Value
  | [], t => t
  | d :: ds, t => fillL u ds (t.setIfInBounds d (u d))
def upd (u : Nat → Value) (d : Option Nat) (v : Value) (n : Nat) : Value := match d with
  | none => u n
  | some d => if n = d then v else u n
theorem fillL_size (u : Nat → Value) (ds : List Nat) : ∀ t : Array Value, (fillL u ds t).size = t.size := by
  induction ds with
  | nil => intro t; rfl
  | cons d ds ih => intro t; rw [fillL, ih]; simp
theorem fillL_get (u : Nat → Value) (ds : List Nat) : ∀ (t : Array Value) (n : Nat), (fillL u ds t)[n]? = if n < t.size then (if n ∈ ds then some (u n) else t[n]?) else none := by
  induction ds with
  | nil => intro t n; by_cases h : n < t.size <;> simp [fillL, h]
  | cons d ds ih =>
    intro t n
    rw [fillL, ih]
    by_cases h : n < t.size
    · simp only [Array.size_setIfInBounds, h, if_true, List.mem_cons]
      by_cases h1 : n ∈ ds
      · simp [h1]
      · by_cases h2 : n = d
        · subst h2; simp [h1, h]
        · simp only [h1, h2, if_false, or_self]; rw [Array.getElem?_setIfInBounds_ne (Ne.symm h2)]
    · simp [h]
theorem fillL_upd (u : Nat → Value) (ds : List Nat) (t : Array Value) (d : Nat) (v : Value) (hd : d ∈ ds) : (fillL u ds t).setIfInBounds d v = fillL (upd u (some d) v) ds t := by
  apply Array.ext_getElem?
  intro n
  rw [Array.getElem?_setIfInBounds, fillL_get, fillL_get, fillL_size]
  by_cases h : n < t.size
  · by_cases h2 : d = n
    · subst h2; simp [h, hd, upd]
    · simp only [h, h2, if_true, if_false]
      by_cases h3 : n ∈ ds
      · simp [h3, upd, Ne.symm h2]
      · simp [h3]
  · simp only [h, if_false]
    by_cases h2 : d = n
    · subst h2; simp [h]
    · simp [h2]
theorem fillL_self (ds : List Nat) (t : Array Value) : fillL (fun d => t.getD d undef) ds t = t := by
  apply Array.ext_getElem?
  intro n
  rw [fillL_get]
  by_cases h : n < t.size
  · simp [h]
  · simp [h]

/-- Each fact that an operation asks for is that of an operation on which it waits, or is asked for by one; each waits for earlier ones alone; what is written is among the temporaries. -/
def anyChk (ops : Array Oper) (pt : List (List Nat)) (ds : List Nat) : Bool :=
  (List.range ops.size).all fun i => match ops[i]? with
    | none => true
    | some o => (o.after.all fun e => decide (e.on < i)) && (match o.dst with | some d => ds.contains d | none => true) &&
      (pt.getD i []).all fun d => o.after.any fun e => Region.binds .any e && ((match ops[e.on]? with | some o' => o'.dst == some d | none => false) || (pt.getD e.on []).contains d)
def allWritten (ops : Array Oper) (ds : List Nat) : Bool := ds.all fun d => ops.any fun o => o.dst == some d

theorem filter_less {p q : Nat → Bool} {i : Nat} (hpi : p i = true) (hqi : q i = false) (h : ∀ j, q j = true → p j = true) : ∀ l : List Nat, i ∈ l → (l.filter q).length < (l.filter p).length := by
  have hle : ∀ l : List Nat, (l.filter q).length ≤ (l.filter p).length := by
    intro l
    induction l with
    | nil => simp
    | cons x l ih =>
      rw [List.filter_cons, List.filter_cons]
      by_cases hq : q x = true
      · simp [hq, h x hq]; exact ih
      · by_cases hp : p x = true <;> simp [hq, hp] <;> omega
  intro l hl
  induction l with
  | nil => cases hl
  | cons x l ih =>
    rw [List.filter_cons, List.filter_cons]
    rcases List.mem_cons.1 hl with rfl | hl
    · simp [hpi, hqi]; have := hle l; omega
    · have := ih hl
      by_cases hq : q x = true
      · simp [hq, h x hq]; exact this
      · by_cases hp : p x = true <;> simp [hq, hp] <;> omega

section
variable {P : Program} {ops : Array Oper} {Q : Exit → Act → World → Prop} {FL : List (Nat × Fact)} {J : World → Prop} {t0 : Array Value} {df : List Deferred} {ds : List Nat}

/-- One operation: from what it waits for it leaves its own fact. -/
def StepOk (P : Program) (ops : Array Oper) (Q : Exit → Act → World → Prop) (FL : List (Nat × Fact)) (J : World → Prop) (t0 : Array Value) (df : List Deferred) (ds : List Nat) (o : Oper) (need : List Nat) : Prop :=
  ∀ (u : Nat → Value) (w : World), J w → Facts FL u w need → ∀ K : Act → World → Prop, Shut (∀ v w', J w' → Below w.heap.size w w' → factOf FL o.dst v w' → K ((⟨fillL u ds t0, df⟩ : Act).put o.dst v) w') →
    if Region.wanted o (yielded ops (fillL u ds t0)) = true then Oper.wp P o ⟨fillL u ds t0, df⟩ w K Q else K ((⟨fillL u ds t0, df⟩ : Act).put o.dst undef) w
def StepsOk (P : Program) (ops : Array Oper) (Q : Exit → Act → World → Prop) (FL : List (Nat × Fact)) (J : World → Prop) (t0 : Array Value) (df : List Deferred) (ds : List Nat) : List Oper → List (List Nat) → Prop
  | [], _ => True
  | o :: rest, [] => StepOk P ops Q FL J t0 df ds o [] ∧ StepsOk P ops Q FL J t0 df ds rest []
  | o :: rest, n :: ns => StepOk P ops Q FL J t0 df ds o n ∧ StepsOk P ops Q FL J t0 df ds rest ns
theorem steps_at : ∀ (l : List Oper) (pt : List (List Nat)), StepsOk P ops Q FL J t0 df ds l pt → ∀ i o, l[i]? = some o → StepOk P ops Q FL J t0 df ds o (pt.getD i []) := by
  intro l
  induction l with
  | nil => intro pt _ i o h; simp at h
  | cons x l ih =>
    intro pt hs i o h
    cases pt with
    | nil =>
      cases i with
      | zero => simp at h; subst h; exact hs.1
      | succ i => have := ih [] hs.2 i o (by simpa using h); simpa using this
    | cons n ns =>
      cases i with
      | zero => simp at h; subst h; exact hs.1
      | succ i => have := ih ns hs.2 i o (by simpa using h); simpa using this

def Written (ops : Array Oper) (listed : Array Bool) (d : Nat) : Prop := ∃ j o', listed.getD j false = true ∧ ops[j]? = some o' ∧ o'.dst = some d
structure Inv (ops : Array Oper) (FL : List (Nat × Fact)) (J : World → Prop) (t0 : Array Value) (df : List Deferred) (ds : List Nat) (pt : List (List Nat)) (listed : Array Bool) (a : Act) (w : World) : Prop where
  j : J w
  fr : ∃ u, a = ⟨fillL u ds t0, df⟩ ∧ ∀ d, Written ops listed d → (look FL d).p (u d) w
  cl : ∀ i, listed.getD i false = true → ∀ d ∈ pt.getD i [], Written ops listed d
  sz : listed.size = ops.size

theorem Written.more {listed : Array Bool} {d i : Nat} (h : Written ops listed d) : Written ops (listed.setIfInBounds i true) d := by
  obtain ⟨j, o', h1, h2, h3⟩ := h
  exact ⟨j, o', getD_set_true h1, h2, h3⟩

theorem anyChk_spec {pt : List (List Nat)} (h : anyChk ops pt ds = true) {i : Nat} {o : Oper} (ho : ops[i]? = some o) :
    (∀ e ∈ o.after, e.on < i) ∧ (∀ d, o.dst = some d → d ∈ ds) ∧ (∀ d ∈ pt.getD i [], ∃ e ∈ o.after, Region.binds .any e = true ∧ ((∃ o', ops[e.on]? = some o' ∧ o'.dst = some d) ∨ d ∈ pt.getD e.on [])) := by
  have hlt : i < ops.size := (Array.getElem?_eq_some_iff.1 ho).1
  unfold anyChk at h
  rw [List.all_eq_true] at h
  have h1 := h i (List.mem_range.2 hlt)
  rw [ho] at h1
  simp only [Bool.and_eq_true] at h1
  obtain ⟨⟨ha, hb⟩, hc⟩ := h1
  refine ⟨fun e he => ?_, fun d hd => ?_, fun d hd => ?_⟩
  · rw [Array.all_eq_true_iff_forall_mem] at ha
    exact of_decide_eq_true (ha e he)
  · rw [hd] at hb
    simpa using hb
  · rw [List.all_eq_true] at hc
    have h2 := hc d hd
    rw [Array.any_eq_true] at h2
    obtain ⟨k, hk, h3⟩ := h2
    rw [Bool.and_eq_true, Bool.or_eq_true] at h3
    refine ⟨o.after[k], Array.getElem_mem _, h3.1, ?_⟩
    rcases h3.2 with h4 | h4
    · left
      cases h5 : ops[(o.after[k]).on]? with
      | none => rw [h5] at h4; cases h4
      | some o' => rw [h5] at h4; exact ⟨o', rfl, by simpa using h4⟩
    · right; simpa using h4

theorem put_fill (u : Nat → Value) (o : Oper) (v : Value) (hd : ∀ d, o.dst = some d → d ∈ ds) : (⟨fillL u ds t0, df⟩ : Act).put o.dst v = ⟨fillL (upd u o.dst v) ds t0, df⟩ := by
  cases h : o.dst with
  | none => rfl
  | some d =>
    show Act.mk ((fillL u ds t0).setIfInBounds d v) df = _
    rw [fillL_upd _ _ _ _ _ (hd d h)]

theorem inv_step {pt : List (List Nat)} (hchk : anyChk ops pt ds = true) (hs : StepsOk P ops Q FL J t0 df ds ops.toList pt) {listed : Array Bool} {a : Act} {w : World} (hI : Inv ops FL J t0 df ds pt listed a w) {i : Nat} (hi : i ∈ Region.ready .any ops listed) :
    wpOp P ops Q i (Inv ops FL J t0 df ds pt (listed.setIfInBounds i true)) a w := by
  obtain ⟨h0, o, ho, hall⟩ := mem_ready.1 hi
  obtain ⟨c1, c2, c3⟩ := anyChk_spec hchk ho
  obtain ⟨u, rfl, hfac⟩ := hI.fr
  have hlt : i < ops.size := (Array.getElem?_eq_some_iff.1 ho).1
  have hneed : ∀ d ∈ pt.getD i [], Written ops listed d := by
    intro d hd
    obtain ⟨e, he, hb, h1⟩ := c3 d hd
    have h2 := hall e he hb
    rcases h1 with ⟨o', h3, h4⟩ | h3
    · exact ⟨e.on, o', h2, h3, h4⟩
    · exact hI.cl e.on h2 d h3
  have hst := steps_at _ _ hs i o (by simpa using ho) u w hI.j (facts_mk fun d hd => hfac d (hneed d hd))
  refine wpOp_step ho (fun K' hK => hst K' ?_)
  intro v w' hj hb hf
  refine hK _ _ ⟨hj, ⟨upd u o.dst v, put_fill u o v c2, ?_⟩, ?_, by simpa using hI.sz⟩
  · rintro d ⟨j, o', h1, h2, h3⟩
    by_cases hd : o.dst = some d
    · rw [hd] at hf ⊢
      have e : upd u (some d) v d = v := by simp [upd]
      rw [e]; exact hf
    · have hw : Written ops listed d := by
        by_cases hij : i = j
        · subst hij
          rw [ho] at h2
          injection h2 with h2
          subst h2
          exact absurd h3 hd
        · rw [getD_set_ne false hij] at h1
          exact ⟨j, o', h1, h2, h3⟩
      have e : upd u o.dst v d = u d := by
        cases h : o.dst with
        | none => rfl
        | some d' => rw [h] at hd; simp only [upd]; rw [if_neg (fun h => hd (by rw [h]))]
      rw [e]
      exact (look FL d).st _ _ _ hb (hfac d hw)
  · intro k hk d hd
    by_cases hik : i = k
    · subst hik
      exact (hneed d hd).more
    · rw [getD_set_ne false hik] at hk
      exact (hI.cl k hk d hd).more

theorem ready_nil_all {pt : List (List Nat)} (hchk : anyChk ops pt ds = true) {listed : Array Bool} (hsz : listed.size = ops.size) (hr : Region.ready .any ops listed = []) : ∀ n i, i < n → i < ops.size → listed.getD i false = true := by
  intro n
  induction n with
  | zero => intro i h; omega
  | succ n ih =>
    intro i hin hi
    have hil : i < listed.size := by omega
    cases hv : listed.getD i false with
    | true => rfl
    | false =>
      exfalso
      have ho : ops[i]? = some ops[i] := by simp [hi]
      obtain ⟨c1, -, -⟩ := anyChk_spec hchk ho
      have : i ∈ Region.ready .any ops listed := by
        rw [mem_ready]
        refine ⟨by simp [hil] at hv ⊢; exact hv, _, ho, fun e he _ => ?_⟩
        have h1 := c1 e he
        exact ih e.on (by omega) (by omega)
      rw [hr] at this
      cases this

theorem wpAny_inv {pt : List (List Nat)} (hchk : anyChk ops pt ds = true) (hall : allWritten ops ds = true) (hs : StepsOk P ops Q FL J t0 df ds ops.toList pt)
    (hend : ∀ u w, J w → Facts FL u w ds → Q .normal ⟨fillL u ds t0, df⟩ w) :
    ∀ (fuel : Nat) (listed : Array Bool) (a : Act) (w : World), ((List.range ops.size).filter fun j => !listed.getD j true).length ≤ fuel → Inv ops FL J t0 df ds pt listed a w → wpAny P .any ops Q fuel listed a w := by
  have hfin : ∀ (listed : Array Bool) (a : Act) (w : World), Inv ops FL J t0 df ds pt listed a w → Region.ready .any ops listed = [] → Q .normal a w := by
    intro listed a w hI hr
    obtain ⟨u, rfl, hfac⟩ := hI.fr
    refine hend u w hI.j (facts_mk fun d hd => hfac d ?_)
    unfold allWritten at hall
    rw [List.all_eq_true] at hall
    have h1 := hall d hd
    rw [Array.any_eq_true] at h1
    obtain ⟨k, hk, h2⟩ := h1
    exact ⟨k, ops[k], ready_nil_all hchk hI.sz hr (k + 1) k (by omega) hk, by simp [hk], by simpa using h2⟩
  intro fuel
  induction fuel with
  | zero =>
    intro listed a w hc hI
    have hr : Region.ready .any ops listed = [] := by
      rw [List.eq_nil_iff_forall_not_mem]
      intro j hj
      obtain ⟨h0, o, ho, -⟩ := mem_ready.1 hj
      have hlt : j < ops.size := (Array.getElem?_eq_some_iff.1 ho).1
      have hm : j ∈ (List.range ops.size).filter fun j => !listed.getD j true := by
        rw [List.mem_filter]
        exact ⟨List.mem_range.2 hlt, by rw [h0]; rfl⟩
      have := List.length_pos_of_mem hm
      omega
    exact ⟨hr, hfin _ _ _ hI hr⟩
  | succ fuel ih =>
    intro listed a w hc hI
    refine ⟨fun hr => hfin _ _ _ hI hr, fun i hi => ?_⟩
    obtain ⟨h0, o, ho, -⟩ := mem_ready.1 hi
    have hlt : i < ops.size := (Array.getElem?_eq_some_iff.1 ho).1
    refine wpOp_mono (fun a' w' hI' => ih _ a' w' ?_ hI') (inv_step hchk hs hI hi)
    have := filter_less (p := fun j => !listed.getD j true) (q := fun j => !(listed.setIfInBounds i true).getD j true) (i := i) (by simp only [h0]; rfl) (by
      have hil : i < listed.size := by rw [hI.sz]; exact hlt
      simp [hil]) (fun j hj => by
      by_cases hij : i = j
      · subst hij
        exfalso
        have hil : i < listed.size := by rw [hI.sz]; exact hlt
        simp [hil] at hj
      · rw [getD_set_ne true hij] at hj; exact hj) (List.range ops.size) (List.mem_range.2 hlt)
    omega

theorem none_listed (n j : Nat) : (Array.replicate n false).getD j false = false := by
  by_cases h : j < n <;> simp [h]
/-- One operation, the temporaries written out. -/
def StepFr (P : Program) (ops : Array Oper) (Q : Exit → Act → World → Prop) (FL : List (Nat × Fact)) (J : World → Prop) (fr : (Nat → Value) → Array Value) (df : List Deferred) (o : Oper) (need : List Nat) : Prop :=
  ∀ (u : Nat → Value) (w : World), J w → Facts FL u w need → ∀ K : Act → World → Prop, Shut (∀ v w', J w' → Below w.heap.size w w' → factOf FL o.dst v w' → K ((⟨fr u, df⟩ : Act).put o.dst v) w') →
    if Region.wanted o (yielded ops (fr u)) = true then Oper.wp P o ⟨fr u, df⟩ w K Q else K ((⟨fr u, df⟩ : Act).put o.dst undef) w
def StepsFr (P : Program) (ops : Array Oper) (Q : Exit → Act → World → Prop) (FL : List (Nat × Fact)) (J : World → Prop) (fr : (Nat → Value) → Array Value) (df : List Deferred) : List Oper → List (List Nat) → Prop
  | [], _ => True
  | o :: rest, [] => StepFr P ops Q FL J fr df o [] ∧ StepsFr P ops Q FL J fr df rest []
  | o :: rest, n :: ns => StepFr P ops Q FL J fr df o n ∧ StepsFr P ops Q FL J fr df rest ns
theorem StepsFr.nil {fr : (Nat → Value) → Array Value} {pt : List (List Nat)} : StepsFr P ops Q FL J fr df [] pt := by cases pt <;> trivial
theorem StepsFr.cons {fr : (Nat → Value) → Array Value} {o : Oper} {rest : List Oper} {n : List Nat} {ns : List (List Nat)} (h : StepFr P ops Q FL J fr df o n) (hs : StepsFr P ops Q FL J fr df rest ns) : StepsFr P ops Q FL J fr df (o :: rest) (n :: ns) := ⟨h, hs⟩
theorem stepsFr_ok {fr : (Nat → Value) → Array Value} (hfr : ∀ u, fillL u ds t0 = fr u) : ∀ (l : List Oper) (pt : List (List Nat)), StepsFr P ops Q FL J fr df l pt → StepsOk P ops Q FL J t0 df ds l pt := by
  have h1 : ∀ o n, StepFr P ops Q FL J fr df o n → StepOk P ops Q FL J t0 df ds o n := by
    intro o n h u w hJ hF K hK
    rw [hfr] at hK ⊢
    exact h u w hJ hF K hK
  intro l
  induction l with
  | nil => intro pt _; cases pt <;> trivial
  | cons o l ih =>
    intro pt h
    cases pt with
    | nil => exact ⟨h1 _ _ h.1, ih _ h.2⟩
    | cons n ns => exact ⟨h1 _ _ h.1, ih _ h.2⟩
/-- A region that draws its order: each operation once. -/
theorem region_facts {id : Nat} {w : World} {opl : List Oper} (FL : List (Nat × Fact)) (J : World → Prop) (pt : List (List Nat)) {fr : (Nat → Value) → Array Value} (hfr : ∀ u, fillL u (temps FL) t0 = fr u)
    (hm : P.follows .mixedOrders = true) (hchk : anyChk opl.toArray pt (temps FL) = true) (hall : allWritten opl.toArray (temps FL) = true) (hJ : J w.drew)
    (hs : StepsFr P opl.toArray Q FL J fr df opl pt)
    (hend : ∀ u w, J w → Facts FL u w (temps FL) → Q .normal ⟨fr u, df⟩ w) : (Code.region id opl.toArray true).wp P Q ⟨t0, df⟩ w := by
  refine wp_region_any hm (wpAny_inv (ds := temps FL) (t0 := t0) (df := df) hchk hall (stepsFr_ok hfr _ _ hs) (fun u w hj hf => by rw [hfr]; exact hend u w hj hf) opl.toArray.size _ _ _ ?_ ⟨hJ, ⟨fun d => t0.getD d undef, by rw [fillL_self], ?_⟩, ?_, by simp⟩)
  · exact Nat.le_trans (List.length_filter_le _ _) (by simp)
  · rintro d ⟨j, o', h1, -, -⟩
    rw [none_listed] at h1; cases h1
  · intro i hi
    rw [none_listed] at hi; cases hi
end
end Go.Proofs.YtmpdpfiokjepaaaDoor

/- A region that draws its order and stores into boxes, walked once: as in AnyOrder; the stores follow one another, and what was said of numbers outlasts a store into a box. -/
namespace Go.Proofs.YtmpdpfiokjepaaaDoor
open Go Go.RowKit
/-- What lies in block b is no number. -/
def AS.NoInt (w : World) (b : Nat) : Prop := ∀ j k n, w.cell? ⟨b, j, none⟩ ≠ some (.int k n)
open AS (NoInt)
/-- A value of one cell that is no number. -/
def Leaf (x : Value) : Prop := ∀ k n, x ≠ .int k n
theorem Leaf.bool (b : Bool) : Leaf (.bool b) := fun _ _ h => by cases h
theorem Leaf.slice (A : Option Addr) (l c : Nat) : Leaf (.slice A l c) := fun _ _ h => by cases h
/-- Block g is a box of the cells vs, no numbers. -/
structure Bx (t : TypeId) (w : World) (g : Nat) (vs : List Value) : Prop where
  blk : w.heap[g]? = some (.cells vs.toArray t (0, 0))
  leaf : ∀ v ∈ vs, Leaf v
section
variable {t : TypeId} {w w' : World} {g : Nat} {vs : List Value}
theorem Bx.lt (h : Bx t w g vs) : g < w.heap.size := by
  rcases Nat.lt_or_ge g w.heap.size with hlt | hge
  · exact hlt
  · have := h.blk; rw [Array.getElem?_eq_none hge] at this; cases this
theorem Bx.cell (h : Bx t w g vs) (i : Nat) : w.cell? ⟨g, i, none⟩ = vs[i]? := by
  simp [World.cell?, h.blk]
theorem Bx.frozen (h : Bx t w g vs) (i : Nat) : w.frozen? ⟨g, i, none⟩ = false := by
  simp [World.frozen?, h.blk]
theorem Bx.noInt (h : Bx t w g vs) : NoInt w g := by
  intro j k n hc
  rw [h.cell] at hc
  exact h.leaf _ (List.mem_of_getElem? hc) k n rfl
theorem Bx.up (h : Bx t w g vs) (hb : Below w.heap.size w w') : Bx t w' g vs := ⟨(hb.block g h.lt).trans h.blk, h.leaf⟩
theorem Bx.drew (h : Bx t w g vs) : Bx t w.drew g vs := ⟨h.blk, h.leaf⟩
theorem Bx.new (t : TypeId) (w : World) (vs : List Value) (h : ∀ v ∈ vs, Leaf v) : Bx t (w.alloc (.cells vs.toArray t)) w.heap.size vs := ⟨heap_alloc_new w _, h⟩
theorem Bx.alloc (h : Bx t w g vs) (o : Obj) : Bx t (w.alloc o) g vs := h.up (below_alloc_new _)
theorem Bx.set (h : Bx t w g vs) (i : Nat) {v : Value} (hv : Leaf v) : Bx t (w.setCell ⟨g, i, none⟩ v) g (vs.set i v) := by
  refine ⟨?_, ?_⟩
  · simp [World.setCell, Array.getElem?_modify, h.blk]
  · intro x hx
    rcases List.mem_or_eq_of_mem_set hx with h1 | h1
    · exact h.leaf x h1
    · rw [h1]; exact hv
theorem Bx.far (h : Bx t w g vs) {g' : Nat} (hne : g' ≠ g) (i : Nat) (v : Value) : Bx t (w.setCell ⟨g', i, none⟩ v) g vs := ⟨(Below.heap_setCell w _ v g (Ne.symm hne)).trans h.blk, h.leaf⟩
end
end Go.Proofs.YtmpdpfiokjepaaaDoor
namespace Go.Proofs.YtmpdpfiokjepaaaDoor.AS
open Go Go.RowKit
open Go.Proofs.YtmpdpfiokjepaaaDoor (fillL upd fillL_size fillL_get fillL_upd fillL_self filter_less none_listed put_fill)

/-- Memory grows, a block that holds a number stays as it is, and a box of two cells stays one. -/
structure Keep (w w' : World) : Prop where
  size : w.heap.size ≤ w'.heap.size
  blk : ∀ i, i < w.heap.size → (∃ j k n, w.cell? ⟨i, j, none⟩ = some (.int k n)) → w'.heap[i]? = w.heap[i]?
  box : ∀ (t : TypeId) (g : Nat) (x y : Value), Bx t w g [x, y] → ∃ x' y', Bx t w' g [x', y']
theorem Keep.refl (w : World) : Keep w w := ⟨Nat.le_refl _, fun _ _ _ => rfl, fun _ _ x y h => ⟨x, y, h⟩⟩
theorem Keep.ofBelow {w w' : World} (h : Below w.heap.size w w') : Keep w w' := ⟨h.size, fun i hi _ => h.block i hi, fun _ _ x y hb => ⟨x, y, hb.up h⟩⟩
theorem Keep.cell {w w' : World} (h : Keep w w') {i j : Nat} (hi : i < w.heap.size) {j' : Nat} {k : IntKind} {n : Int} (hc : w.cell? ⟨i, j', none⟩ = some (.int k n)) : w'.cell? ⟨i, j, none⟩ = w.cell? ⟨i, j, none⟩ :=
  World.cell?_of_block (h.blk i hi ⟨j', k, n, hc⟩)
theorem Keep.trans {w w' w2 : World} (h : Keep w w') (h2 : Keep w' w2) : Keep w w2 := by
  refine ⟨Nat.le_trans h.size h2.size, fun i hi ⟨j, k, n, hc⟩ => ?_, fun t g x y hb => by obtain ⟨x', y', h3⟩ := h.box t g x y hb; exact h2.box t g x' y' h3⟩
  have h3 := h.blk i hi ⟨j, k, n, hc⟩
  rw [← h3]
  refine h2.blk i (Nat.lt_of_lt_of_le hi h.size) ⟨j, k, n, ?_⟩
  rw [World.cell?_of_block h3]; exact hc
theorem Keep.setCell {t : TypeId} {w : World} {b : Nat} {vs : List Value} (h : Bx t w b vs) (i : Nat) {v : Value} (hv : Leaf v) : Keep w (w.setCell ⟨b, i, none⟩ v) := by
  refine ⟨by simp [World.setCell], fun j hj ⟨o, k, n, hc⟩ => ?_, fun t' g x y hb => ?_⟩
  · refine Below.heap_setCell w _ v j ?_
    rintro rfl
    exact h.noInt _ _ _ hc
  · by_cases hg : b = g
    · subst hg
      have h1 := hb.set i hv
      match i, h1 with
      | 0, h1 => exact ⟨_, _, h1⟩
      | 1, h1 => exact ⟨_, _, h1⟩
      | i + 2, h1 => exact ⟨x, y, by simpa using h1⟩
    · exact ⟨x, y, hb.far hg i v⟩

structure Fact where
  p : Value → World → Prop
  st : ∀ v w w', Keep w w' → p v w → p v w'
def Fact.triv : Fact := ⟨fun _ _ => True, fun _ _ _ _ _ => trivial⟩
def Fact.is (x : Value) : Fact := ⟨fun v _ => v = x, fun _ _ _ _ h => h⟩
def look : List (Nat × Fact) → Nat → Fact
  | [], _ => Fact.triv
  | (k, f) :: rest, d => bif Nat.beq k d then f else look rest d
def temps (FL : List (Nat × Fact)) : List Nat := FL.map (·.1)
def factOf (FL : List (Nat × Fact)) (dst : Option Nat) (v : Value) (w : World) : Prop := match dst with
  | none => True
  | some d => (look FL d).p v w
def Facts (FL : List (Nat × Fact)) (u : Nat → Value) (w : World) : List Nat → Prop
  | [] => True
  | d :: ds => (look FL d).p (u d) w ∧ Facts FL u w ds
theorem facts_mk {FL : List (Nat × Fact)} {u : Nat → Value} {w : World} {ds : List Nat} (h : ∀ d ∈ ds, (look FL d).p (u d) w) : Facts FL u w ds := by
  induction ds with
  | nil => trivial
  | cons d ds ih => exact ⟨h d (List.mem_cons_self ..), ih fun e he => h e (List.mem_cons_of_mem _ he)⟩
theorem facts_get {FL : List (Nat × Fact)} {u : Nat → Value} {w : World} {ds : List Nat} (h : Facts FL u w ds) (d : Nat) (hd : d ∈ ds) : (look FL d).p (u d) w := by
  induction ds with
  | nil => cases hd
  | cons e ds ih =>
    rcases List.mem_cons.1 hd with rfl | hd
    · exact h.1
    · exact ih h.2 hd

/-- The edges lead back; each fact that an operation asks for is that of an operation on which it waits, or is asked for by one; what is written is among the temporaries, once; the stores write none, and each waits for the one before it; a limit on the stores that may have been made when an operation runs. -/
def edgesOk (ops : Array Oper) : Bool := (List.range ops.size).all fun i => match ops[i]? with
  | none => true
  | some o => o.after.all fun e => !Region.binds .any e || decide (e.on < i)
def needsOk (ops : Array Oper) (pt : List (List Nat)) (ds : List Nat) : Bool :=
  (List.range ops.size).all fun i => match ops[i]? with
    | none => true
    | some o => (match o.dst with | some d => ds.contains d | none => true) &&
      (pt.getD i []).all fun d => o.after.any fun e => Region.binds .any e && ((match ops[e.on]? with | some o' => o'.dst == some d | none => false) || (pt.getD e.on []).contains d)
def onceOk (ops : Array Oper) : Bool := (List.range ops.size).all fun i => (List.range ops.size).all fun j => match ops[i]?, ops[j]? with
  | some o, some o' => Nat.beq i j || (match o.dst, o'.dst with | some d, some d' => !Nat.beq d d' | _, _ => true)
  | _, _ => true
def storesOk (ops : Array Oper) (pt : List (List Nat)) (st : List Nat) (js : List (List Nat)) : Bool :=
  (List.range st.length).all fun m => decide (st.getD m 0 < ops.size) && (match ops[st.getD m 0]? with | some o => o.dst == none | none => false) &&
    (Nat.beq m 0 || Region.waitsFor .any ops (st.getD m 0) (st.getD (m - 1) 0)) && (js.getD (m + 1) []).all fun d => (pt.getD (st.getD m 0) []).contains d || (js.getD m []).contains d
def waits2 (ops : Array Oper) (s i : Nat) : Bool := Region.waitsFor .any ops s i || (List.range ops.size).any fun j => Region.waitsFor .any ops s j && Region.waitsFor .any ops j i
def limOk (ops : Array Oper) (st lm : List Nat) : Bool :=
  (List.range ops.size).all fun i => Nat.beq (lm.getD i st.length) st.length || waits2 ops (st.getD (lm.getD i st.length) ops.size) i
def allWritten (ops : Array Oper) (ds : List Nat) : Bool := ds.all fun d => ops.any fun o => o.dst == some d
def allocsOk (ops : Array Oper) (al st : List Nat) : Bool := al.all fun d => st.all fun s => (List.range ops.size).any fun i => (match ops[i]? with | some o => o.dst == some d | none => false) && waits2 ops s i
def chk (al : List Nat) (ops : Array Oper) (pt : List (List Nat)) (ds st : List Nat) (js : List (List Nat)) (lm : List Nat) : Bool :=
  allocsOk ops al st && al.all ds.contains && edgesOk ops && needsOk ops pt ds && onceOk ops && storesOk ops pt st js && limOk ops st lm && allWritten ops ds && (js.getD 0 []).isEmpty

section
variable {P : Program} {ops : Array Oper} {Q : Exit → Act → World → Prop} {FL : List (Nat × Fact)} {J : Nat → List Value → World → Prop} {t0 : Array Value} {df : List Deferred} {ds : List Nat}
  {st lm al : List Nat} {js : List (List Nat)} {pt : List (List Nat)}

/-- What a new box's operation leaves is new. -/
def aOk (al : List Nat) (dst : Option Nat) (v : Value) (w w' : World) : Prop := match dst with
  | some d => bif al.contains d then v = .pointer (some ⟨w.heap.size, 0, none⟩) ∧ w.heap.size < w'.heap.size else True
  | none => True
/-- The new boxes are different ones. -/
def Apart (al : List Nat) (u : Nat → Value) : Prop := ∀ d ∈ al, ∀ d' ∈ al, d ≠ d' → u d ≠ u d'

/-- One operation: from what it waits for it leaves its own fact; a store leads on to the next J. -/
def StepOk (al : List Nat) (P : Program) (ops : Array Oper) (Q : Exit → Act → World → Prop) (FL : List (Nat × Fact)) (J : Nat → List Value → World → Prop) (js : List (List Nat)) (fr : (Nat → Value) → Array Value) (df : List Deferred) (o : Oper) (need : List Nat) (lim : Nat) : Prop :=
  ∀ (k : Nat) (u : Nat → Value) (w : World), k ≤ lim → J k ((js.getD k []).map u) w → Facts FL u w need → ∀ K : Act → World → Prop, Shut (∀ v w', Below w.heap.size w w' → factOf FL o.dst v w' → aOk al o.dst v w w' → K ((⟨fr u, df⟩ : Act).put o.dst v) w') →
    if Region.wanted o (yielded ops (fr u)) = true then Oper.wp P o ⟨fr u, df⟩ w K Q else K ((⟨fr u, df⟩ : Act).put o.dst undef) w
def StoreOk (al : List Nat) (P : Program) (ops : Array Oper) (Q : Exit → Act → World → Prop) (FL : List (Nat × Fact)) (J : Nat → List Value → World → Prop) (js : List (List Nat)) (fr : (Nat → Value) → Array Value) (df : List Deferred) (o : Oper) (need : List Nat) (k : Nat) : Prop :=
  ∀ (u : Nat → Value) (w : World), J k ((js.getD k []).map u) w → Apart al u → Facts FL u w need → ∀ K : Act → World → Prop, Shut (∀ v w', J (k + 1) ((js.getD (k + 1) []).map u) w' → Keep w w' → K ((⟨fr u, df⟩ : Act).put o.dst v) w') →
    if Region.wanted o (yielded ops (fr u)) = true then Oper.wp P o ⟨fr u, df⟩ w K Q else K ((⟨fr u, df⟩ : Act).put o.dst undef) w
/-- All operations from the i-th on, s stores having been passed. -/
def StepsOk (al : List Nat) (P : Program) (ops : Array Oper) (Q : Exit → Act → World → Prop) (FL : List (Nat × Fact)) (J : Nat → List Value → World → Prop) (js : List (List Nat)) (fr : (Nat → Value) → Array Value) (df : List Deferred) (pt : List (List Nat)) (st lm : List Nat) : List Oper → Nat → Prop
  | [], _ => True
  | o :: rest, i => (match st.idxOf? i with
      | some k => StoreOk al P ops Q FL J js fr df o (pt.getD i []) k
      | none => StepOk al P ops Q FL J js fr df o (pt.getD i []) (lm.getD i st.length)) ∧ StepsOk al P ops Q FL J js fr df pt st lm rest (i + 1)
theorem StepsOk.nil {fr : (Nat → Value) → Array Value} {i : Nat} : StepsOk al P ops Q FL J js fr df pt st lm [] i := trivial
theorem StepsOk.cons {fr : (Nat → Value) → Array Value} {o : Oper} {rest : List Oper} {i : Nat} {need : List Nat} {lim : Nat} (h0 : st.idxOf? i = none) (h1 : pt.getD i [] = need) (h2 : lm.getD i st.length = lim)
    (h : StepOk al P ops Q FL J js fr df o need lim) (hs : StepsOk al P ops Q FL J js fr df pt st lm rest (i + 1)) : StepsOk al P ops Q FL J js fr df pt st lm (o :: rest) i := ⟨by rw [h0, h1, h2]; exact h, hs⟩
theorem StepsOk.store {fr : (Nat → Value) → Array Value} {o : Oper} {rest : List Oper} {i k : Nat} {need : List Nat} (h0 : st.idxOf? i = some k) (h1 : pt.getD i [] = need)
    (h : StoreOk al P ops Q FL J js fr df o need k) (hs : StepsOk al P ops Q FL J js fr df pt st lm rest (i + 1)) : StepsOk al P ops Q FL J js fr df pt st lm (o :: rest) i := ⟨by rw [h0, h1]; exact h, hs⟩
theorem steps_at {fr : (Nat → Value) → Array Value} : ∀ (l : List Oper) (i0 : Nat), StepsOk al P ops Q FL J js fr df pt st lm l i0 → ∀ i o, l[i]? = some o → (match st.idxOf? (i0 + i) with
      | some k => StoreOk al P ops Q FL J js fr df o (pt.getD (i0 + i) []) k
      | none => StepOk al P ops Q FL J js fr df o (pt.getD (i0 + i) []) (lm.getD (i0 + i) st.length)) := by
  intro l
  induction l with
  | nil => intro i0 _ i o h; simp at h
  | cons x l ih =>
    intro i0 hs i o h
    cases i with
    | zero => simp at h; subst h; exact hs.1
    | succ i =>
      have := ih (i0 + 1) hs.2 i o (by simpa using h)
      rwa [show i0 + 1 + i = i0 + (i + 1) by omega] at this

def Written (ops : Array Oper) (listed : Array Bool) (d : Nat) : Prop := ∃ j o', listed.getD j false = true ∧ ops[j]? = some o' ∧ o'.dst = some d
structure Inv (al : List Nat) (ops : Array Oper) (FL : List (Nat × Fact)) (J : Nat → List Value → World → Prop) (js : List (List Nat)) (t0 : Array Value) (df : List Deferred) (ds : List Nat) (pt : List (List Nat)) (st : List Nat) (listed : Array Bool) (a : Act) (w : World) : Prop where
  fr : ∃ k u, a = ⟨fillL u ds t0, df⟩ ∧ (∀ d, Written ops listed d → (look FL d).p (u d) w) ∧ J k ((js.getD k []).map u) w ∧ k ≤ st.length ∧ (∀ m, m < k → listed.getD (st.getD m 0) false = true) ∧
    (∀ m, k ≤ m → m < st.length → listed.getD (st.getD m 0) false = false) ∧ (∀ d ∈ js.getD k [], Written ops listed d) ∧ (∀ d ∈ al, Written ops listed d → ∃ g, u d = .pointer (some ⟨g, 0, none⟩) ∧ g < w.heap.size) ∧
    (∀ d ∈ al, ∀ d' ∈ al, d ≠ d' → Written ops listed d → Written ops listed d' → u d ≠ u d')
  cl : ∀ i, listed.getD i false = true → ∀ d ∈ pt.getD i [], Written ops listed d
  cs : ∀ j oj, ops[j]? = some oj → listed.getD j false = true → ∀ e ∈ oj.after, Region.binds .any e = true → listed.getD e.on false = true
  sz : listed.size = ops.size

theorem Written.more {listed : Array Bool} {d i : Nat} (h : Written ops listed d) : Written ops (listed.setIfInBounds i true) d := by
  obtain ⟨j, o', h1, h2, h3⟩ := h
  exact ⟨j, o', getD_set_true h1, h2, h3⟩
theorem getD_flag {listed : Array Bool} {i : Nat} (h : i < listed.size) : listed.getD i true = listed.getD i false := by simp [h]

structure Chk (al : List Nat) (ops : Array Oper) (pt : List (List Nat)) (ds st : List Nat) (js : List (List Nat)) (lm : List Nat) : Prop where
  edge : ∀ (i : Nat) (o : Oper), ops[i]? = some o → ∀ e ∈ o.after, Region.binds .any e = true → e.on < i
  dst : ∀ (i : Nat) (o : Oper), ops[i]? = some o → ∀ d, o.dst = some d → d ∈ ds
  need : ∀ (i : Nat) (o : Oper), ops[i]? = some o → ∀ d ∈ pt.getD i [], ∃ e ∈ o.after, Region.binds .any e = true ∧ ((∃ o' : Oper, ops[e.on]? = some o' ∧ o'.dst = some d) ∨ d ∈ pt.getD e.on [])
  once : ∀ (i j : Nat) (o o' : Oper) (d : Nat), ops[i]? = some o → ops[j]? = some o' → o.dst = some d → o'.dst = some d → i = j
  slt : ∀ m, m < st.length → st.getD m 0 < ops.size
  sdst : ∀ m, m < st.length → ∀ o : Oper, ops[st.getD m 0]? = some o → o.dst = none
  schain : ∀ m, 0 < m → m < st.length → Region.waitsFor .any ops (st.getD m 0) (st.getD (m - 1) 0) = true
  sjs : ∀ m, m < st.length → ∀ d ∈ js.getD (m + 1) [], d ∈ pt.getD (st.getD m 0) [] ∨ d ∈ js.getD m []
  lim : ∀ i, i < ops.size → lm.getD i st.length = st.length ∨ waits2 ops (st.getD (lm.getD i st.length) ops.size) i = true
  wr : ∀ d ∈ ds, ∃ (i : Nat) (o : Oper), ops[i]? = some o ∧ o.dst = some d
  js0 : js.getD 0 [] = []
  alw : ∀ d ∈ al, ∀ m, m < st.length → ∃ (i : Nat) (o : Oper), ops[i]? = some o ∧ o.dst = some d ∧ waits2 ops (st.getD m 0) i = true
  ald : ∀ d ∈ al, d ∈ ds

theorem chk_spec (h : chk al ops pt ds st js lm = true) : Chk al ops pt ds st js lm := by
  unfold chk at h
  simp only [Bool.and_eq_true] at h
  obtain ⟨⟨⟨⟨⟨⟨⟨⟨h8, h9⟩, h1⟩, h2⟩, h3⟩, h4⟩, h5⟩, h6⟩, h7⟩ := h
  have lt : ∀ (i : Nat) (o : Oper), ops[i]? = some o → i ∈ List.range ops.size := fun i o ho => List.mem_range.2 (Array.getElem?_eq_some_iff.1 ho).1
  constructor
  · intro i o ho e he hb
    have h := List.all_eq_true.1 h1 i (lt i o ho)
    rw [ho] at h
    dsimp only at h
    rw [Array.all_eq_true_iff_forall_mem] at h
    have h := h e he
    rw [hb] at h
    simpa using h
  · intro i o ho d hd
    have h := List.all_eq_true.1 h2 i (lt i o ho)
    rw [ho] at h
    dsimp only at h
    rw [hd] at h
    simp only [Bool.and_eq_true] at h
    simpa using h.1
  · intro i o ho d hd
    have h := List.all_eq_true.1 h2 i (lt i o ho)
    rw [ho] at h
    simp only [Bool.and_eq_true] at h
    have h := List.all_eq_true.1 h.2 d hd
    rw [Array.any_eq_true] at h
    obtain ⟨k, hk, h⟩ := h
    rw [Bool.and_eq_true, Bool.or_eq_true] at h
    refine ⟨o.after[k], Array.getElem_mem _, h.1, ?_⟩
    rcases h.2 with h4 | h4
    · left
      cases h5 : ops[(o.after[k]).on]? with
      | none => rw [h5] at h4; cases h4
      | some o' => rw [h5] at h4; exact ⟨o', rfl, by simpa using h4⟩
    · right; simpa using h4
  · intro i j o o' d ho ho' hd hd'
    have h := List.all_eq_true.1 (List.all_eq_true.1 h3 i (lt i o ho)) j (lt j o' ho')
    rw [ho, ho'] at h
    dsimp only at h
    rw [hd, hd'] at h
    simpa using h
  · intro m hm
    have h := List.all_eq_true.1 h4 m (List.mem_range.2 hm)
    simp only [Bool.and_eq_true, decide_eq_true_eq] at h
    exact h.1.1.1
  · intro m hm o ho
    have h := List.all_eq_true.1 h4 m (List.mem_range.2 hm)
    simp only [Bool.and_eq_true, decide_eq_true_eq] at h
    have h := h.1.1.2
    rw [ho] at h
    simpa using h
  · intro m h0 hm
    have h := List.all_eq_true.1 h4 m (List.mem_range.2 hm)
    simp only [Bool.and_eq_true, decide_eq_true_eq, Bool.or_eq_true, Nat.beq_eq] at h
    rcases h.1.2 with h | h
    · omega
    · exact h
  · intro m hm d hd
    have h := List.all_eq_true.1 h4 m (List.mem_range.2 hm)
    simp only [Bool.and_eq_true] at h
    have h := List.all_eq_true.1 h.2 d hd
    simpa using h
  · intro i hi
    have h := List.all_eq_true.1 h5 i (List.mem_range.2 hi)
    simp only [Bool.or_eq_true, Nat.beq_eq] at h
    exact h
  · intro d hd
    have h := List.all_eq_true.1 h6 d hd
    rw [Array.any_eq_true] at h
    obtain ⟨k, hk, h⟩ := h
    exact ⟨k, ops[k], by simp [hk], by simpa using h⟩
  · simpa using h7
  · intro d hd m hm
    have h := List.all_eq_true.1 (List.all_eq_true.1 h8 d hd) (st.getD m 0) (by simp [hm])
    obtain ⟨i, hi, h⟩ := List.any_eq_true.1 h
    rw [Bool.and_eq_true] at h
    cases ho : ops[i]? with
    | none => rw [ho] at h; cases h.1
    | some o => rw [ho] at h; exact ⟨i, o, ho, by simpa using h.1, h.2⟩
  · intro d hd
    have h := List.all_eq_true.1 h9 d hd
    simpa using h

theorem inv_step (hc : Chk al ops pt ds st js lm) (hst : ∀ k l w w', Below w.heap.size w w' → J k l w → J k l w') (hs : StepsOk al P ops Q FL J js (fun u => fillL u ds t0) df pt st lm ops.toList 0) {listed : Array Bool} {a : Act} {w : World}
    (hI : Inv al ops FL J js t0 df ds pt st listed a w) {i : Nat} (hi : i ∈ Region.ready .any ops listed) :
    wpOp P ops Q i (Inv al ops FL J js t0 df ds pt st (listed.setIfInBounds i true)) a w := by
  obtain ⟨h0, o, ho, hall⟩ := mem_ready.1 hi
  have hlt : i < ops.size := (Array.getElem?_eq_some_iff.1 ho).1
  have hil : i < listed.size := by rw [hI.sz]; exact hlt
  have hun : listed.getD i false = false := by rw [← getD_flag hil]; exact h0
  obtain ⟨k, u, rfl, hfac, hJ, hk, hk1, hk2, hk3, hk4, hk5⟩ := hI.fr
  have hneed : ∀ d ∈ pt.getD i [], Written ops listed d := by
    intro d hd
    obtain ⟨e, he, hb, h1⟩ := hc.need i o ho d hd
    have h2 := hall e he hb
    rcases h1 with ⟨o', h3, h4⟩ | h3
    · exact ⟨e.on, o', h2, h3, h4⟩
    · exact hI.cl e.on h2 d h3
  have hstep := steps_at _ _ hs i o (by simpa using ho)
  rw [Nat.zero_add] at hstep
  have hcs : ∀ j oj, ops[j]? = some oj → (listed.setIfInBounds i true).getD j false = true → ∀ e ∈ oj.after, Region.binds .any e = true → (listed.setIfInBounds i true).getD e.on false = true := by
    intro j oj hj hl e he hb
    by_cases hij : i = j
    · subst hij
      have : oj = o := Option.some.inj (hj.symm.trans ho)
      subst this
      exact getD_set_true (hall e he hb)
    · rw [getD_set_ne false hij] at hl
      exact getD_set_true (hI.cs j oj hj hl e he hb)
  have hcl : ∀ j, (listed.setIfInBounds i true).getD j false = true → ∀ d ∈ pt.getD j [], Written ops (listed.setIfInBounds i true) d := by
    intro j hj d hd
    by_cases hij : i = j
    · subst hij; exact (hneed d hd).more
    · rw [getD_set_ne false hij] at hj
      exact (hI.cl j hj d hd).more
  -- an operation on which a store waits that has been made is listed
  have hwait : ∀ m, m < k → ∀ j, Region.waitsFor .any ops (st.getD m 0) j = true → listed.getD j false = true := by
    intro m hm j hw
    obtain ⟨oj, hoj, e, he, hb, hon⟩ := Region.waitsFor_spec hw
    rw [← hon]
    exact hI.cs _ oj hoj (hk1 m hm) e he hb
  have hwait2 : ∀ m, m < k → ∀ j, waits2 ops (st.getD m 0) j = true → listed.getD j false = true := by
    intro m hm j hw
    unfold waits2 at hw
    rw [Bool.or_eq_true] at hw
    rcases hw with hw | hw
    · exact hwait m hm j hw
    · obtain ⟨x, -, hx⟩ := List.any_eq_true.1 hw
      rw [Bool.and_eq_true] at hx
      obtain ⟨oj, hoj, e, he, hb, hon⟩ := Region.waitsFor_spec hx.2
      rw [← hon]
      exact hI.cs _ oj hoj (hwait m hm x hx.1) e he hb
  cases hsi : st.idxOf? i with
  | none =>
    rw [hsi] at hstep
    have hns : ∀ m, m < st.length → st.getD m 0 ≠ i := by
      intro m hm e
      have h1 : i ∈ st := by rw [← e]; simp [hm]
      have h2 := List.idxOf?_eq_none_iff.1 hsi
      exact h2 h1
    have hlim : k ≤ lm.getD i st.length := by
      rcases hc.lim i hlt with h1 | h1
      · omega
      · rcases Nat.lt_or_ge (lm.getD i st.length) k with h2 | h2
        · exfalso
          have h3 := hwait2 _ h2 i (by
            have e : st.getD (lm.getD i st.length) ops.size = st.getD (lm.getD i st.length) 0 := by
              have : lm.getD i st.length < st.length := by omega
              generalize lm.getD i st.length = z at *
              simp [this]
            rw [← e]; exact h1)
          rw [hun] at h3; cases h3
        · exact h2
    refine wpOp_step ho (fun K' hK => hstep k u w hlim hJ (facts_mk fun d hd => hfac d (hneed d hd)) K' ?_)
    intro v w' hb hf hao
    have hwi : ∀ d, Written ops (listed.setIfInBounds i true) d → o.dst = some d ∨ Written ops listed d := by
      rintro d ⟨j, o', h1, h2, h3⟩
      by_cases hij : i = j
      · subst hij
        rw [ho] at h2
        injection h2 with h2
        subst h2
        exact .inl h3
      · rw [getD_set_ne false hij] at h1
        exact .inr ⟨j, o', h1, h2, h3⟩
    have hnw : ∀ d, o.dst = some d → ¬ Written ops listed d := by
      rintro d hd ⟨j, o', h1, h2, h3⟩
      have := hc.once i j o o' d ho h2 hd h3
      subst this
      rw [hun] at h1; cases h1
    have hne : ∀ d, o.dst ≠ some d → upd u o.dst v d = u d := by
      intro d hd
      cases h : o.dst with
      | none => rfl
      | some d' => rw [h] at hd; simp only [upd]; rw [if_neg (fun h => hd (by rw [h]))]
    have hal : ∀ d ∈ al, o.dst = some d → v = .pointer (some ⟨w.heap.size, 0, none⟩) ∧ w.heap.size < w'.heap.size := by
      intro d hd h
      unfold aOk at hao
      rw [h] at hao
      dsimp only at hao
      rw [show al.contains d = true by simpa using hd] at hao
      exact hao
    refine hK _ _ ⟨⟨k, upd u o.dst v, put_fill u o v (hc.dst i o ho), ?_, ?_, hk, fun m hm => getD_set_true (hk1 m hm), fun m hm hm' => ?_, fun d hd => (hk3 d hd).more, fun d hd hw => ?_, fun d hd d' hd' hdd hw hw' => ?_⟩, hcl, hcs, by simpa using hI.sz⟩
    · rintro d ⟨j, o', h1, h2, h3⟩
      by_cases hd : o.dst = some d
      · rw [hd] at hf ⊢
        have e : upd u (some d) v d = v := by simp [upd]
        rw [e]; exact hf
      · have hw : Written ops listed d := by
          by_cases hij : i = j
          · subst hij
            rw [ho] at h2
            injection h2 with h2
            subst h2
            exact absurd h3 hd
          · rw [getD_set_ne false hij] at h1
            exact ⟨j, o', h1, h2, h3⟩
        have e : upd u o.dst v d = u d := by
          cases h : o.dst with
          | none => rfl
          | some d' => rw [h] at hd; simp only [upd]; rw [if_neg (fun h => hd (by rw [h]))]
        rw [e]
        exact (look FL d).st _ _ _ (Keep.ofBelow hb) (hfac d hw)
    · have e : (js.getD k []).map (upd u o.dst v) = (js.getD k []).map u := by
        apply List.map_congr_left
        intro d hd
        cases h : o.dst with
        | none => rfl
        | some d' =>
          simp only [upd]
          rw [if_neg]
          rintro rfl
          obtain ⟨j, o', h1, h2, h3⟩ := hk3 d hd
          have := hc.once i j o o' d ho h2 h h3
          subst this
          rw [hun] at h1; cases h1
      rw [e]
      exact hst _ _ _ _ hb hJ
    · rw [getD_set_ne false (Ne.symm (hns m hm'))]; exact hk2 m hm hm'
    · by_cases h : o.dst = some d
      · obtain ⟨h1, h2⟩ := hal d hd h
        exact ⟨w.heap.size, by rw [h]; simp [upd, h1], h2⟩
      · rcases hwi d hw with h1 | h1
        · exact absurd h1 h
        · obtain ⟨g, h2, h3⟩ := hk4 d hd h1
          exact ⟨g, by rw [hne d h]; exact h2, Nat.lt_of_lt_of_le h3 hb.size⟩
    · by_cases h : o.dst = some d
      · have h' : o.dst ≠ some d' := fun h2 => hdd (by rw [h] at h2; injection h2)
        rcases hwi d' hw' with h1 | h1
        · exact absurd h1 h'
        · obtain ⟨g, h2, h3⟩ := hk4 d' hd' h1
          rw [hne d' h', h2, h]
          simp only [upd, if_pos]
          rw [(hal d hd h).1]
          intro he
          simp at he <;> omega
      · rcases hwi d hw with h1 | h1
        · exact absurd h1 h
        · by_cases h' : o.dst = some d'
          · obtain ⟨g, h2, h3⟩ := hk4 d hd h1
            rw [hne d h, h2, h']
            simp only [upd, if_pos]
            rw [(hal d' hd' h').1]
            intro he
            simp at he <;> omega
          · rcases hwi d' hw' with h2 | h2
            · exact absurd h2 h'
            · rw [hne d h, hne d' h']; exact hk5 d hd d' hd' hdd h1 h2
  | some m =>
    rw [hsi] at hstep
    obtain ⟨hm, hmi, -⟩ := List.idxOf?_eq_some_iff.1 hsi
    have hmi' : st.getD m 0 = i := by simp [hm]; exact hmi
    have hmk : m = k := by
      rcases Nat.lt_trichotomy m k with h1 | h1 | h1
      · have := hk1 m h1; rw [hmi', hun] at this; cases this
      · exact h1
      · exfalso
        have h2 := hc.schain m (by omega) hm
        rw [hmi'] at h2
        obtain ⟨oj, hoj, e, he, hb, hon⟩ := Region.waitsFor_spec h2
        have : oj = o := Option.some.inj (hoj.symm.trans ho)
        subst this
        have h3 := hall e he hb
        rw [hon, hk2 (m - 1) (by omega) (by omega)] at h3
        cases h3
    subst hmk
    have hdn : o.dst = none := hc.sdst m hm o (by rw [hmi']; exact ho)
    have hwal : ∀ d ∈ al, Written ops listed d := by
      intro d hd
      obtain ⟨j, o', h1, h2, h3⟩ := hc.alw d hd m hm
      rw [hmi'] at h3
      refine ⟨j, o', ?_, h1, h2⟩
      unfold waits2 at h3
      rw [Bool.or_eq_true] at h3
      rcases h3 with h3 | h3
      · obtain ⟨oj, hoj, e, he, hb, hon⟩ := Region.waitsFor_spec h3
        have : oj = o := Option.some.inj (hoj.symm.trans ho)
        subst this
        rw [← hon]; exact hall e he hb
      · obtain ⟨x, -, hx⟩ := List.any_eq_true.1 h3
        rw [Bool.and_eq_true] at hx
        obtain ⟨oj, hoj, e, he, hb, hon⟩ := Region.waitsFor_spec hx.1
        have : oj = o := Option.some.inj (hoj.symm.trans ho)
        subst this
        have h4 := hall e he hb
        rw [hon] at h4
        obtain ⟨oj2, hoj2, e2, he2, hb2, hon2⟩ := Region.waitsFor_spec hx.2
        rw [← hon2]
        exact hI.cs _ oj2 hoj2 h4 e2 he2 hb2
    refine wpOp_step ho (fun K' hK => hstep u w hJ (fun d hd d' hd' hdd => hk5 d hd d' hd' hdd (hwal d hd) (hwal d' hd')) (facts_mk fun d hd => hfac d (hneed d hd)) K' ?_)
    intro v w' hJ' hb
    refine hK _ _ ⟨⟨m + 1, u, by rw [hdn]; rfl, ?_, hJ', hm, fun j hj => ?_, fun j hj hj' => ?_, fun d hd => ?_, fun d hd hw => ?_, fun d hd d' hd' hdd hw hw' => hk5 d hd d' hd' hdd (hwal d hd) (hwal d' hd')⟩, hcl, hcs, by simpa using hI.sz⟩
    · rintro d ⟨j, o', h1, h2, h3⟩
      have hij : i ≠ j := by
        rintro rfl
        rw [ho] at h2
        injection h2 with h2
        subst h2
        rw [hdn] at h3; cases h3
      rw [getD_set_ne false hij] at h1
      exact (look FL d).st _ _ _ hb (hfac d ⟨j, o', h1, h2, h3⟩)
    · by_cases h1 : j = m
      · subst h1; rw [hmi']; simp [hil]
      · exact getD_set_true (hk1 j (by omega))
    · have h1 := hk2 j (by omega) hj'
      by_cases h2 : st.getD j 0 = i
      · exfalso
        -- the chain: a later store is another operation
        have h3 : ∀ n, m ≤ n → n < st.length → i ≤ st.getD n 0 ∧ (m < n → i < st.getD n 0) := by
          intro n
          induction n with
          | zero => intro h4 h5; exact ⟨by have : m = 0 := by omega
                                           subst this; rw [hmi']; exact Nat.le_refl _, fun h => by omega⟩
          | succ n ih =>
            intro h4 h5
            by_cases h6 : m = n + 1
            · subst h6; exact ⟨by rw [hmi']; exact Nat.le_refl _, fun h => by omega⟩
            · have h7 := ih (by omega) (by omega)
              have h8 := hc.schain (n + 1) (by omega) h5
              obtain ⟨oj, hoj, e, he, hb', hon⟩ := Region.waitsFor_spec h8
              have h9 := hc.edge _ oj hoj e he hb'
              rw [hon, Nat.add_sub_cancel] at h9
              exact ⟨by omega, fun _ => by omega⟩
        have := (h3 j (by omega) hj').2 (by omega)
        omega
      · rw [getD_set_ne false (Ne.symm h2)]; exact h1
    · rcases hc.sjs m hm d hd with h1 | h1
      · rw [hmi'] at h1; exact (hneed d h1).more
      · exact (hk3 d h1).more
    · obtain ⟨g, h1, h2⟩ := hk4 d hd (hwal d hd)
      exact ⟨g, h1, Nat.lt_of_lt_of_le h2 hb.size⟩

theorem ready_nil_all (hc : Chk al ops pt ds st js lm) {listed : Array Bool} (hsz : listed.size = ops.size) (hr : Region.ready .any ops listed = []) : ∀ n i, i < n → i < ops.size → listed.getD i false = true := by
  intro n
  induction n with
  | zero => intro i h; omega
  | succ n ih =>
    intro i hin hi
    have hil : i < listed.size := by omega
    cases hv : listed.getD i false with
    | true => rfl
    | false =>
      exfalso
      have ho : ops[i]? = some ops[i] := by simp [hi]
      have : i ∈ Region.ready .any ops listed := by
        rw [mem_ready]
        refine ⟨by simp [hil] at hv ⊢; exact hv, _, ho, fun e he hb => ?_⟩
        have h1 := hc.edge i _ ho e he hb
        exact ih e.on (by omega) (by omega)
      rw [hr] at this
      cases this

theorem wpAny_inv (hc : Chk al ops pt ds st js lm) (hst : ∀ k l w w', Below w.heap.size w w' → J k l w → J k l w') (hs : StepsOk al P ops Q FL J js (fun u => fillL u ds t0) df pt st lm ops.toList 0)
    (hend : ∀ u w, J st.length ((js.getD st.length []).map u) w → Facts FL u w ds → Q .normal ⟨fillL u ds t0, df⟩ w) :
    ∀ (fuel : Nat) (listed : Array Bool) (a : Act) (w : World), ((List.range ops.size).filter fun j => !listed.getD j true).length ≤ fuel → Inv al ops FL J js t0 df ds pt st listed a w → wpAny P .any ops Q fuel listed a w := by
  have hfin : ∀ (listed : Array Bool) (a : Act) (w : World), Inv al ops FL J js t0 df ds pt st listed a w → Region.ready .any ops listed = [] → Q .normal a w := by
    intro listed a w hI hr
    obtain ⟨k, u, rfl, hfac, hJ, hk, hk1, hk2, hk3, hk4, hk5⟩ := hI.fr
    have hall := ready_nil_all hc hI.sz hr
    have hkl : k = st.length := by
      rcases Nat.lt_or_ge k st.length with h | h
      · have h1 := hk2 k (Nat.le_refl _) h
        rw [hall (st.getD k 0 + 1) _ (by omega) (hc.slt k h)] at h1
        cases h1
      · omega
    subst hkl
    refine hend u w hJ (facts_mk fun d hd => hfac d ?_)
    obtain ⟨i, o, h1, h2⟩ := hc.wr d hd
    exact ⟨i, o, hall (i + 1) i (by omega) (Array.getElem?_eq_some_iff.1 h1).1, h1, h2⟩
  intro fuel
  induction fuel with
  | zero =>
    intro listed a w hcnt hI
    have hr : Region.ready .any ops listed = [] := by
      rw [List.eq_nil_iff_forall_not_mem]
      intro j hj
      obtain ⟨h0, o, ho, -⟩ := mem_ready.1 hj
      have hlt : j < ops.size := (Array.getElem?_eq_some_iff.1 ho).1
      have hm : j ∈ (List.range ops.size).filter fun j => !listed.getD j true := by
        rw [List.mem_filter]
        exact ⟨List.mem_range.2 hlt, by rw [h0]; rfl⟩
      have := List.length_pos_of_mem hm
      omega
    exact ⟨hr, hfin _ _ _ hI hr⟩
  | succ fuel ih =>
    intro listed a w hcnt hI
    refine ⟨fun hr => hfin _ _ _ hI hr, fun i hi => ?_⟩
    obtain ⟨h0, o, ho, -⟩ := mem_ready.1 hi
    have hlt : i < ops.size := (Array.getElem?_eq_some_iff.1 ho).1
    refine wpOp_mono (fun a' w' hI' => ih _ a' w' ?_ hI') (inv_step hc hst hs hI hi)
    have := filter_less (p := fun j => !listed.getD j true) (q := fun j => !(listed.setIfInBounds i true).getD j true) (i := i) (by simp only [h0]; rfl) (by
      have hil : i < listed.size := by rw [hI.sz]; exact hlt
      simp [hil]) (fun j hj => by
      by_cases hij : i = j
      · subst hij
        exfalso
        have hil : i < listed.size := by rw [hI.sz]; exact hlt
        simp [hil] at hj
      · rw [getD_set_ne true hij] at hj; exact hj) (List.range ops.size) (List.mem_range.2 hlt)
    omega

/-- A region that draws its order, with stores: each operation once. -/
theorem region_facts {id : Nat} {w : World} {opl : List Oper} (FL : List (Nat × Fact)) (J : Nat → List Value → World → Prop) (pt : List (List Nat)) (st : List Nat) (js : List (List Nat)) (lm : List Nat) (al : List Nat) {fr : (Nat → Value) → Array Value} (hfr : ∀ u, fillL u (temps FL) t0 = fr u)
    (hm : P.follows .mixedOrders = true) (hchk : chk al opl.toArray pt (temps FL) st js lm = true) (hst : ∀ k l w w', Below w.heap.size w w' → J k l w → J k l w') (hJ : J 0 [] w.drew)
    (hs : StepsOk al P opl.toArray Q FL J js fr df pt st lm opl 0)
    (hend : ∀ u w, J st.length ((js.getD st.length []).map u) w → Facts FL u w (temps FL) → Q .normal ⟨fr u, df⟩ w) : (Code.region id opl.toArray true).wp P Q ⟨t0, df⟩ w := by
  obtain rfl : (fun u => fillL u (temps FL) t0) = fr := funext hfr
  have hc := chk_spec hchk
  refine wp_region_any hm (wpAny_inv (t0 := t0) hc hst hs hend opl.toArray.size _ _ _ ?_ ⟨⟨0, fun d => t0.getD d undef, by rw [fillL_self], ?_, by rw [hc.js0]; exact hJ, Nat.zero_le _, fun m h => by omega, fun m _ _ => none_listed _ _, fun d hd => (by rw [hc.js0] at hd; cases hd), fun d _ hw => (by obtain ⟨j, o', h1, _, _⟩ := hw; rw [none_listed] at h1; cases h1), fun d _ d' _ _ hw => by obtain ⟨j, o', h1, _, _⟩ := hw; rw [none_listed] at h1; cases h1⟩, ?_, ?_, by simp⟩)
  · exact Nat.le_trans (List.length_filter_le _ _) (by simp)
  · rintro d ⟨j, o', h1, -, -⟩
    rw [none_listed] at h1; cases h1
  · intro i hi
    rw [none_listed] at hi; cases hi
  · intro j oj _ hl
    rw [none_listed] at hl; cases hl
end
end Go.Proofs.YtmpdpfiokjepaaaDoor.AS

/- The limbs of a text of digits. -/
namespace Go.Proofs.YtmpdpfiokjepaaaDoor

/-- The digit at place i. -/
def digAt (s : List UInt8) (i : Nat) : Nat := (s.getD i 0).toNat - 48
/-- 'readDigits': after i digits. -/
def rdSt (s : List UInt8) (M : List Nat) : Nat → List Nat
  | 0 => M
  | i + 1 => (rdSt s M i).set ((s.length - 1 - i) / 9) (nth (rdSt s M i) ((s.length - 1 - i) / 9) * 10 + digAt s i)
theorem rdSt_succ (s : List UInt8) (M : List Nat) (i : Nat) : rdSt s M (i + 1) = (rdSt s M i).set ((s.length - 1 - i) / 9) (nth (rdSt s M i) ((s.length - 1 - i) / 9) * 10 + digAt s i) := rfl
theorem nth_set_eq {L : List Nat} {i x : Nat} (h : i < L.length) : nth (L.set i x) i = x := by simp [nth, h]
theorem nth_set_ne {L : List Nat} {i j x : Nat} (h : i ≠ j) : nth (L.set i x) j = nth L j := by simp [nth, List.getElem?_set_ne h]
theorem drop_set_low {L : List Nat} {i k x : Nat} (h : i < k) : (L.set i x).drop k = L.drop k := by rw [List.drop_set]; simp [h]
theorem nth_zeros (n k : Nat) : nth (List.replicate n 0) k = 0 := by
  simp only [nth, List.getD_eq_getElem?_getD, List.getElem?_replicate]
  split <;> simp

/-- What the limbs are while the digits of a text of n ones are read, of which the first i make the number N. -/
structure RdInv (n m i N : Nat) (M : List Nat) : Prop where
  len : M.length = m
  low : ∀ j, j < (n - i) / 9 → nth M j = 0
  cur : nth M ((n - i) / 9) < 10 ^ (9 - (n - i) % 9)
  lim : Lim M
  val : N = valB 1000000000 (M.drop ((n - i) / 9 + 1)) * 10 ^ (9 - (n - i) % 9) + nth M ((n - i) / 9)
theorem digAt_lt {s : List UInt8} {i : Nat} (hd : ∀ c ∈ s, isDig c = true) (hi : i < s.length) : digAt s i < 10 := by
  have := isDig_iff.1 (hd s[i] (List.getElem_mem hi))
  simp only [digAt, List.getD_eq_getElem?_getD, List.getElem?_eq_getElem hi, Option.getD_some]
  omega
theorem numOf_take {s : List UInt8} {i : Nat} (hi : i < s.length) : numOf (s.take (i + 1)) = 10 * numOf (s.take i) + digAt s i := by
  rw [List.take_succ_eq_append_getElem hi, numOf_snoc]
  simp [digAt, hi]
theorem rd_step {n m i N d : Nat} {M : List Nat} (hm : m = (n + 8) / 9) (hi : i < n) (hd : d < 10) (h : RdInv n m i N M) :
    RdInv n m (i + 1) (10 * N + d) (M.set ((n - 1 - i) / 9) (nth M ((n - 1 - i) / 9) * 10 + d)) := by
    obtain ⟨h1, h2, h3, h4, h5⟩ := h
    subst h5
    have hdig := hd
    have eS : n - 1 - i = (n - i) - 1 := by omega
    rw [eS]
    suffices H : ∀ R, R = n - (i + 1) → RdInv n m (n - R) _ (M.set ((n - i - 1) / 9) (nth M ((n - i - 1) / 9) * 10 + d)) by
      have := H _ rfl
      rwa [show n - (n - (i + 1)) = i + 1 by omega] at this
    intro R0 hR0
    have hRR : n - (n - R0) = n - i - 1 := by omega
    have hRn : n - i ≤ n := by omega
    have hR1 : 1 ≤ n - i := by omega
    suffices H : (M.set ((n - i - 1) / 9) (nth M ((n - i - 1) / 9) * 10 + d)).length = m ∧ (∀ j, j < (n - i - 1) / 9 → nth (M.set ((n - i - 1) / 9) (nth M ((n - i - 1) / 9) * 10 + d)) j = 0) ∧
        nth (M.set ((n - i - 1) / 9) (nth M ((n - i - 1) / 9) * 10 + d)) ((n - i - 1) / 9) < 10 ^ (9 - (n - i - 1) % 9) ∧ Lim (M.set ((n - i - 1) / 9) (nth M ((n - i - 1) / 9) * 10 + d)) ∧
        10 * (valB 1000000000 (M.drop ((n - i) / 9 + 1)) * 10 ^ (9 - (n - i) % 9) + nth M ((n - i) / 9)) + d =
          valB 1000000000 ((M.set ((n - i - 1) / 9) (nth M ((n - i - 1) / 9) * 10 + d)).drop ((n - i - 1) / 9 + 1)) * 10 ^ (9 - (n - i - 1) % 9) + nth (M.set ((n - i - 1) / 9) (nth M ((n - i - 1) / 9) * 10 + d)) ((n - i - 1) / 9) by
      exact ⟨H.1, by rw [hRR]; exact H.2.1, by rw [hRR]; exact H.2.2.1, H.2.2.2.1, by rw [hRR]; exact H.2.2.2.2⟩
    clear hRR hR0 R0 eS hi
    generalize n - i = R at *
    by_cases hc : R % 9 = 0
    · obtain ⟨k, rfl⟩ : ∃ k, R = 9 * (k + 1) := ⟨R / 9 - 1, by omega⟩
      have e1 : (9 * (k + 1) - 1) / 9 = k := by omega
      have e2 : (9 * (k + 1) - 1) % 9 = 8 := by omega
      have e3 : 9 * (k + 1) / 9 = k + 1 := by omega
      have e4 : 9 * (k + 1) % 9 = 0 := by omega
      rw [e3] at h2 h3
      rw [e4] at h3
      rw [e1, e2, e3, e4]
      have hz : nth M k = 0 := h2 k (by omega)
      have hk : k < M.length := by omega
      rw [hz]
      refine ⟨by simp [h1], ?_, ?_, ?_, ?_⟩
      · intro j hj; rw [nth_set_ne (by omega)]; exact h2 j (by omega)
      · rw [nth_set_eq hk]; omega
      · exact h4.set _ (by omega)
      · rw [nth_set_eq hk, drop_set_low (by omega)]
        rcases Nat.lt_or_ge (k + 1) M.length with hl | hl
        · rw [valB_drop _ _ _ hl]
          simp only [Nat.sub_zero, Nat.reducePow, Nat.reduceSub]
          omega
        · rw [List.drop_of_length_le (by omega), List.drop_of_length_le hl, nth_ge hl]
          simp [valB]
    · have e1 : (R - 1) / 9 = R / 9 := by omega
      have e2 : (R - 1) % 9 = R % 9 - 1 := by omega
      rw [e1, e2]
      have hk : R / 9 < M.length := by omega
      have e3 : 9 - (R % 9 - 1) = (9 - R % 9) + 1 := by omega
      refine ⟨by simp [h1], ?_, ?_, ?_, ?_⟩
      · intro j hj; rw [nth_set_ne (by omega)]; exact h2 j hj
      · rw [nth_set_eq hk, e3, Nat.pow_succ]; omega
      · have : (10 : Nat) ^ (9 - R % 9) ≤ 10 ^ 8 := Nat.pow_le_pow_right (by omega) (by omega)
        exact h4.set _ (by omega)
      · rw [nth_set_eq hk, drop_set_low (by omega), e3, Nat.pow_succ, ← Nat.mul_assoc, Nat.mul_add]
        generalize valB 1000000000 (M.drop (R / 9 + 1)) * 10 ^ (9 - R % 9) = q
        omega
theorem rd_inv {s : List UInt8} (hd : ∀ c ∈ s, isDig c = true) (i : Nat) (hi : i ≤ s.length) : RdInv s.length ((s.length + 8) / 9) i (numOf (s.take i)) (rdSt s (List.replicate ((s.length + 8) / 9) 0) i) := by
  induction i with
  | zero =>
    refine ⟨by simp [rdSt], fun j _ => nth_zeros _ _, ?_, ?_, ?_⟩
    · rw [rdSt, nth_zeros]; exact Nat.pow_pos (by omega)
    · intro d hd; have := (List.mem_replicate.1 hd).2; omega
    · rw [rdSt, nth_zeros, List.drop_replicate, valB_zeros]; simp [numOf]
  | succ i ih =>
    rw [rdSt_succ, numOf_take (by omega)]
    exact rd_step rfl (by omega) (digAt_lt hd (by omega)) (ih (by omega))
/-- Before digit i: the limb that it goes to has room for it. -/
theorem rd_room {n m i N : Nat} {M : List Nat} (h : RdInv n m i N M) (hm : m = (n + 8) / 9) (hi : i < n) :
    (n - 1 - i) / 9 < m ∧ nth M ((n - 1 - i) / 9) < 100000000 := by
  refine ⟨by omega, ?_⟩
  by_cases hc : (n - i) % 9 = 0
  · rw [h.low _ (by omega)]; omega
  · have e1 : (n - 1 - i) / 9 = (n - i) / 9 := by omega
    rw [e1]
    have : (10 : Nat) ^ (9 - (n - i) % 9) ≤ 10 ^ 8 := Nat.pow_le_pow_right (by omega) (by omega)
    have := h.cur
    omega
theorem rd_end {n m N : Nat} {M : List Nat} (h : RdInv n m n N M) (hm : 0 < m) : valB 1000000000 M = N := by
  have := h.val
  rw [this]
  simp only [Nat.sub_self, Nat.zero_div, Nat.zero_mod, Nat.sub_zero]
  have hv := valB_drop 1000000000 M 0 (by rw [h.len]; exact hm)
  rw [List.drop_zero] at hv
  rw [hv]
  simp only [Nat.reducePow, Nat.zero_add]
  omega

/-- Leaving out the zeros at the end does not change the number, and makes the highest limb no zero. -/
theorem trimN_val (b : Nat) (L : List Nat) (n : Nat) (hn : n ≤ L.length) : valB b (L.take (trimN L n)) = valB b (L.take n) := by
  induction n with
  | zero => simp [trimN]
  | succ n ih =>
    unfold trimN
    split
    · rename_i h
      rw [ih (by omega), List.take_succ_eq_append_getElem (by omega), valB_append, ← nth_lt (by omega), h]
      simp [valB]
    · rfl
theorem trimN_top (L : List Nat) (n : Nat) (h : 0 < trimN L n) : nth L (trimN L n - 1) ≠ 0 := by
  induction n with
  | zero => simp [trimN] at h
  | succ n ih =>
    by_cases h0 : nth L n = 0
    · rw [trimN, if_pos h0] at h ⊢; exact ih h
    · rw [trimN, if_neg h0]; exact h0
theorem nth_take {L : List Nat} {n k : Nat} (h : k < n) : nth (L.take n) k = nth L k := by
  simp only [nth, List.getD_eq_getElem?_getD, List.getElem?_take, h, if_true]
end Go.Proofs.YtmpdpfiokjepaaaDoor
