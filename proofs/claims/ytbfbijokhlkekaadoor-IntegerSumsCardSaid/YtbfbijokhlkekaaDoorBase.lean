/- Words for memory: a row of unsigned numbers that a slice reads as, and a block that is known whole. -/
import Derived.Test.YtbfbijokhlkekaaDoorProg
import Derived.WalkKit
import Derived.WalkSpells
import Derived.Lib.Hide
import Derived.Deep.QuietTactic
import Derived.BigQuiet
import Derived.Deep.Draws
import Derived.Laws.Rows
import Derived.Laws.CopyOwn
import Derived.Deep.OwnRows
import Derived.Outline
namespace Go.Proofs.YtbfbijokhlkekaaDoor
open Go.RowKit

/-- The k-th number of a list, 0 behind its end. -/
def nth (L : List Nat) (k : Nat) : Nat := L.getD k 0
theorem nth_lt {L : List Nat} {k : Nat} (h : k < L.length) : nth L k = L[k] := by simp [nth, h]
theorem nth_ge {L : List Nat} {k : Nat} (h : L.length ≤ k) : nth L k = 0 := by simp [nth, h]
theorem nth_all {L : List Nat} {b : Nat} (h : ∀ d ∈ L, d < b) (hb : 0 < b) (k : Nat) : nth L k < b := by
  rcases Nat.lt_or_ge k L.length with hk | hk
  · rw [nth_lt hk]; exact h _ (List.getElem_mem hk)
  · rw [nth_ge hk]; exact hb

/-- The cells of a row: from offset o of block b on lie the numbers L. -/
def Cells (k : IntKind) (w : World) (b o : Nat) (L : List Nat) : Prop := ∀ j, j < L.length → w.cell? ⟨b, o + j, none⟩ = some (.int k (nth L j))

/-- Block g holds just the numbers L, and none of its cells is frozen. -/
def Blk (k : IntKind) (t : TypeId) (w : World) (g : Nat) (L : List Nat) : Prop := w.heap[g]? = some (.cells (L.map fun (d : Nat) => Value.int k (d : Int)).toArray t (0, 0))

section
variable {k : IntKind} {t : TypeId} {w w' : World} {b o g B : Nat} {L : List Nat}
theorem Cells.keep (h : Cells k w b o L) (hk : ∀ j, w'.cell? ⟨b, j, none⟩ = w.cell? ⟨b, j, none⟩) : Cells k w' b o L := fun j hj => (hk _).trans (h j hj)
theorem Cells.below (h : Cells k w b o L) (hb : Below B w w') (hB : b < B) : Cells k w' b o L := h.keep fun _ => hb.cell (by exact hB)
theorem Cells.grown {row : Option Nat} (h : Cells k w b o L) (hg : w.grownBy w' row) (hB : b < w.heap.size) (hr : some b ≠ row) : Cells k w' b o L :=
  h.keep fun _ => World.cell?_of_block (hg.block b hB hr)
theorem Cells.take (h : Cells k w b o L) (n : Nat) : Cells k w b o (L.take n) := fun j hj => by
  have h1 : j < n ∧ j < L.length := by rw [List.length_take] at hj; omega
  rw [h j h1.2]; simp [nth, h1.1]
theorem Cells.drop (h : Cells k w b o L) (n : Nat) : Cells k w b (o + n) (L.drop n) := fun j hj => by
  have h1 : n + j < L.length := by simp [List.length_drop] at hj; omega
  have h2 := h (n + j) h1
  rw [Nat.add_assoc, h2]; simp [nth]
theorem Blk.lt (h : Blk k t w g L) : g < w.heap.size := by
  rcases Nat.lt_or_ge g w.heap.size with hlt | hge
  · exact hlt
  · unfold Blk at h; rw [Array.getElem?_eq_none hge] at h; cases h
theorem Blk.cell (h : Blk k t w g L) (i : Nat) (hi : i < L.length) : w.cell? ⟨g, i, none⟩ = some (.int k (nth L i)) := by
  unfold Blk at h
  simp [World.cell?, h, nth, hi]
theorem Blk.frozen (h : Blk k t w g L) (i : Nat) : w.frozen? ⟨g, i, none⟩ = false := by
  unfold Blk at h
  simp [World.frozen?, h]
theorem Blk.cells (h : Blk k t w g L) : Cells k w g 0 L := fun j hj => by simpa using h.cell j hj
theorem Blk.set_ (h : Blk k t w g L) (i x : Nat) : Blk k t (w.setCell ⟨g, i, none⟩ (.int k x)) g (L.set i x) := by
  unfold Blk at h ⊢
  simp [World.setCell, Array.getElem?_modify, h, List.map_set]
theorem Blk.setI (h : Blk k t w g L) (i : Nat) {v : Int} {x : Nat} (hv : v = (x : Int)) : Blk k t (w.setCell ⟨g, i, none⟩ (.int k v)) g (L.set i x) := by
  subst hv; exact h.set_ i x
theorem Blk.far (h : Blk k t w g L) {p : Addr} (hp : g ≠ p.block) (u : Value) : Blk k t (w.setCell p u) g L := (Below.heap_setCell w p u g hp).trans h
theorem Blk.drew (h : Blk k t w g L) : Blk k t w.drew g L := h
theorem Blk.drewN (h : Blk k t w g L) (n : Nat) : Blk k t (w.drewN n) g L := h
theorem Blk.alloc (h : Blk k t w g L) (o : Obj) : Blk k t (w.alloc o) g L := (Below.heap_alloc w o g h.lt).trans h
theorem Blk.below (h : Blk k t w g L) (hb : Below B w w') (hg : g < B) : Blk k t w' g L := (hb.block g hg).trans h
theorem Blk.grown {row : Option Nat} (h : Blk k t w g L) (hb : w.grownBy w' row) (hg : some g ≠ row) : Blk k t w' g L := (hb.block g h.lt hg).trans h
end

/-- The slice value '.slice A L.length c' reads as the numbers L, in a block below B. -/
structure Row (k : IntKind) (w : World) (B : Nat) (A : Option Addr) (c : Nat) (L : List Nat) : Prop where
  len : L.length ≤ c
  spot : 0 < L.length → ∃ b o, A = some ⟨b, o, none⟩ ∧ b < B ∧ Cells k w b o L
section
variable {k : IntKind} {t : TypeId} {w w' : World} {g B B' c : Nat} {A : Option Addr} {L : List Nat}
theorem Row.keep (h : Row k w B A c L) (hk : ∀ b j, b < B → w'.cell? ⟨b, j, none⟩ = w.cell? ⟨b, j, none⟩) : Row k w' B A c L :=
  ⟨h.len, fun hp => by obtain ⟨b, o, e, hb, hc⟩ := h.spot hp; exact ⟨b, o, e, hb, hc.keep fun j => hk b j hb⟩⟩
theorem Row.more (h : Row k w B A c L) (hB : B ≤ B') : Row k w B' A c L := ⟨h.len, fun hp => by obtain ⟨b, o, e, hb, hc⟩ := h.spot hp; exact ⟨b, o, e, by omega, hc⟩⟩
theorem Row.below (h : Row k w B A c L) (hb : Below B w w') : Row k w' B A c L := h.keep fun b _ hB => hb.cell (by exact hB)
theorem Row.drewN (h : Row k w B A c L) (n : Nat) : Row k (w.drewN n) B A c L := h.keep fun _ _ _ => rfl
theorem Row.drew (h : Row k w B A c L) : Row k w.drew B A c L := h.keep fun _ _ _ => rfl
theorem Row.alloc (h : Row k w B A c L) (hB : B ≤ w.heap.size) (o : Obj) : Row k (w.alloc o) B A c L := h.keep fun b j hb => World.cell?_alloc_lt w o _ (by show b < _; omega)
theorem Row.setCell (h : Row k w B A c L) {p : Addr} (hB : B ≤ p.block) (u : Value) : Row k (w.setCell p u) B A c L :=
  h.keep fun b j hb => World.cell?_setCell_other w p _ u (fun e => by subst e; exact absurd hB (by show ¬ B ≤ b; omega))
theorem Row.nil (k : IntKind) (w : World) (B : Nat) (A : Option Addr) (c : Nat) : Row k w B A c [] := ⟨Nat.zero_le _, fun h => absurd h (by simp)⟩
theorem Row.take (h : Row k w B A c L) (n : Nat) : Row k w B A c (L.take n) :=
  ⟨by have := h.len; rw [List.length_take]; omega, fun hp => by
    obtain ⟨b, o, e, hb, hc⟩ := h.spot (by rw [List.length_take] at hp; omega)
    exact ⟨b, o, e, hb, hc.take n⟩⟩
theorem Row.ofBlk (h : Blk k t w g L) (hB : g < B) (hc : L.length ≤ c) : Row k w B (some ⟨g, 0, none⟩) c L := ⟨hc, fun _ => ⟨g, 0, rfl, hB, h.cells⟩⟩
end

/-- The slice value v owns the numbers L, in a block of the call's own (from block number base on), or is nil and owns none. -/
def Own (k : IntKind) (e : TypeId) (w : World) (base : Nat) (v : Value) (L : List Nat) : Prop := w.ownsRow base e 1 v L.length (L.map fun (d : Nat) => Value.int k (d : Int))
theorem Own.nil (k : IntKind) (e : TypeId) (w : World) (base : Nat) : Own k e w base (.slice none 0 0) [] := World.ownsRow_nil _ _ _ _
theorem Own.row {k : IntKind} {e : TypeId} {w : World} {base : Nat} {v : Value} {L : List Nat} (h : Own k e w base v L) :
    ∃ A c, v = .slice A L.length c ∧ Row k w w.heap.size A c L := by
  obtain ⟨h1, h2⟩ := h
  rcases h2 with ⟨rfl, h0⟩ | ⟨g, cap, cur, rfl, hbg, hg, hn, hcap, hsz, hcur⟩
  · obtain rfl : L = [] := List.eq_nil_of_length_eq_zero h0
    exact ⟨none, 0, rfl, Row.nil _ _ _ _ _⟩
  · refine ⟨_, cap, rfl, hn, fun _ => ⟨g, 0, rfl, ?_, fun j hj => ?_⟩⟩
    · rcases Nat.lt_or_ge g w.heap.size with hlt | hge
      · exact hlt
      · rw [Array.getElem?_eq_none hge] at hg; cases hg
    · have h3 : cur.toList[j]? = some (Value.int k (nth L j)) := by
        have : (cur.toList.take (L.length * 1))[j]? = some (Value.int k (nth L j)) := by
          rw [hcur, List.getElem?_map, List.getElem?_eq_getElem hj, nth_lt hj]; rfl
        rw [List.getElem?_take] at this
        split at this
        · exact this
        · cases this
      simp only [World.cell?, hg, Nat.zero_add]
      simpa using h3
theorem Own.drewN {k : IntKind} {e : TypeId} {w : World} {base : Nat} {v : Value} {L : List Nat} (h : Own k e w base v L) (n : Nat) : Own k e (w.drewN n) base v L := h
/-- 'append' of one number to a row of the call's own; the number lies in a new block of one cell. -/
theorem wpList_append_num {P : Program} (w : World) {ops : Array Oper} {rest : List Oper} {o : Oper} {a : Act} {Q : Exit → Act → World → Prop} (hgd : o.guard = none) (s x : Operand) (t : TypeId)
    (ho : o.op = .call { callee := .builtin .append, args := #[s, x], argTypes := #[t, t] })
    (k : IntKind) (base : Nat) (e : TypeId) (i : TypeInfo) (bytes : Nat) (ht : P.underlying t = some (.slice e)) (hi : P.info? e = some i) (hz : i.zero = some (.int k 0))
    (hsize : i.size = 1) (hby : i.bytes = bytes) (hb8 : bytes ≤ 8)
    (v : Value) (L : List Nat) (hs : a.eval s = v) (hown : Own k e w base v L) (X : Int) (d : Nat) (hX : X = (d : Int)) (c : Nat) (hx : a.eval x = .slice (some ⟨w.heap.size, 0, none⟩) 1 c)
    (hlen : L.length ≤ 100000000) (hbase : base ≤ w.heap.size)
    (h : ∀ v' w', Hid (Own k e w' base v' (L ++ [d])) → Below base w w' → wpList P ops Q rest (a.put o.dst v') w') : wpList P ops Q (o :: rest) a (w.alloc (.cells #[.int k X] e)) := by
  subst hX
  refine wpList_append_own (w.alloc (.cells #[.int k (d : Int)] e)) hgd s x t ho base e i (.int k 0) 1 bytes ht hi hz hsize hby rfl (by decide) v L.length (L.map fun (d : Nat) => Value.int k (d : Int)) hs (World.ownsRow.alloc hown _)
    ⟨w.heap.size, 0, none⟩ 1 c [.int k (d : Int)] hx rfl ?_ ?_ ?_ ?_ ?_ ?_
  · intro j u hj
    match j, hj with
    | 0, hj =>
      simp at hj; subst hj
      unfold World.cell? Addr.add
      rw [if_pos rfl]
      dsimp only
      rw [heap_alloc_new]
      rfl
  · intro u hu; simp at hu; subst hu; rfl
  · unfold maxLen; omega
  · have : (L.length + 1) * bytes ≤ (L.length + 1) * 8 := Nat.mul_le_mul_left _ hb8
    omega
  · simp; omega
  · intro v' w' h1 h2 _
    refine h v' w' ?_ ?_
    · show World.ownsRow _ _ _ _ _ _ _
      rw [List.length_append, List.map_append]
      exact h1
    · refine ((Below.refl base w).alloc hbase _).grown h2 (by simp; omega) (fun j hj => ?_)
      exact (World.ownsRow.lt hown j hj).1

theorem below_alloc_new {w : World} (o : Obj) : Below w.heap.size w (w.alloc o) := (Below.refl _ _).alloc (Nat.le_refl _) _
/-- 'make' of n zeros: a block of its own, known whole. -/
theorem wpList_make_zeros {P : Program} (w : World) {ops : Array Oper} {rest : List Oper} {o : Oper} {a : Act} {Q : Exit → Act → World → Prop}
    (hg : o.guard = none) (l c : Operand) (t : TypeId) (hop : o.op = Op.makeSlice t l c)
    (e : TypeId) (k : IntKind) (i : TypeInfo) (bytes : Nat) (ht : P.underlying t = some (.slice e)) (hi : P.info? e = some i) (hz : i.zero = some (.int k 0)) (hsize : i.size = 1) (hbt : i.bytes = bytes)
    (kl kc : IntKind) (N C : Int) (n : Nat) (hl : a.eval l = .int kl N) (hc : a.eval c = .int kc C) (hN : N = (n : Int)) (hC : C = (n : Int)) (hb8 : bytes ≤ 8) (hn : n ≤ 100000000)
    (hK : ∀ w', Hid (Blk k e w' w.heap.size (List.replicate n 0)) → Below w.heap.size w w' → w.heap.size + 1 = w'.heap.size → wpList P ops Q rest (a.put o.dst (.slice (some ⟨w.heap.size, 0, none⟩) n n)) w') :
    wpList P ops Q (o :: rest) a w := by
  subst hN
  subst hC
  refine wpList_make_row w hg l c t hop e i (.int k 0) ht hi hz hsize rfl kl kc n hl hc ?_ (by omega) ?_
  · have : i.bytes * n ≤ 8 * n := Nat.mul_le_mul_right _ (by omega)
    omega
  refine hK _ ?_ (below_alloc_new _) (by simp)
  show _ = _
  rw [heap_alloc_new]
  have : madeCells #[Value.int k 0] n = ((List.replicate n 0).map fun (d : Nat) => Value.int k (d : Int)).toArray := by
    apply Array.ext
    · simp [madeCells]
    · intro j h1 h2
      simp [madeCells, Nat.mod_one]
  rw [this]

theorem splice_map {α β : Type} (f : α → β) (L : List α) (o : Nat) (cs : List α) : splice (L.map f) o (cs.map f) = (splice L o cs).map f := by simp [splice]
theorem splice_all {α : Type} (L cs : List α) (h : L.length = cs.length) : splice L 0 cs = cs := by simp [splice, ← h]
/-- 'copy' of a whole row into a block that is known whole. -/
theorem wpList_copy_row {P : Program} {w : World} {ops : Array Oper} {rest : List Oper} {o : Oper} {a : Act} {Q : Exit → Act → World → Prop} (hgd : o.guard = none) (d s : Operand) (dT sT : TypeId)
    (ho : o.op = .call { callee := .builtin .copy, args := #[d, s], argTypes := #[dT, sT] }) (elem : TypeId) (hu : P.underlying dT = some (.slice elem)) (hsz : (P.info? elem).map (·.size) = some 1)
    (k : IntKind) (t : TypeId) (g dLen dCap sCap : Nat) (A : Option Addr) (M L : List Nat) (hd : a.eval d = .slice (some ⟨g, 0, none⟩) dLen dCap) (hs : a.eval s = .slice A L.length sCap)
    (hg : Blk k t w g M) (hR : Row k w g A sCap L) (hfit : L.length ≤ dLen) (hM : dLen ≤ M.length)
    (h : ∀ w', Hid (Blk k t w' g (splice M 0 L)) → Below g w w' → wpList P ops Q rest (a.put o.dst (goInt L.length)) w') :
    wpList P ops Q (o :: rest) a w := by
  refine wpList_copy_splice hgd d s dT sT ho elem hu hsz (some ⟨g, 0, none⟩) A dLen dCap L.length sCap hd hs g 0 (M.map fun (d : Nat) => Value.int k (d : Int)) t hg (L.map fun (d : Nat) => Value.int k (d : Int)) ?_ ?_ ?_ ?_ g w (Below.refl _ _) (Nat.le_refl _) ?_
  · simp only [List.length_map]; exact (Nat.min_eq_left hfit).symm
  · intro hp
    refine ⟨rfl, ?_⟩
    obtain ⟨b, o, e, _, hc⟩ := hR.spot (by simpa using hp)
    refine ⟨_, e, fun j v hj => ?_⟩
    have hjl : j < L.length := by
      rcases Nat.lt_or_ge j L.length with h1 | h1
      · exact h1
      · rw [List.getElem?_eq_none (by simpa using h1)] at hj; cases hj
    have h2 := hc j hjl
    have h3 : v = .int k (nth L j) := by
      rw [List.getElem?_map, List.getElem?_eq_getElem hjl] at hj
      simp at hj
      rw [← hj, nth_lt hjl]
    rw [h3, ← h2]
    unfold Addr.add
    split
    · rename_i h0; subst h0; simp
    · rfl
  · simpa using Nat.le_trans hfit hM
  · intro v hv
    obtain ⟨d, _, rfl⟩ := List.mem_map.1 hv
    rfl
  · intro w' h1 h2
    have h3 := h1.out
    rw [splice_map] at h3
    have h4 := h w' h3 h2
    simpa using h4

/-- Where the numbers of a row end when the zeros at its end are left out. -/
def trimN (L : List Nat) : Nat → Nat
  | 0 => 0
  | n + 1 => if nth L n = 0 then trimN L n else n + 1
theorem trimN_le (L : List Nat) (n : Nat) : trimN L n ≤ n := by
  induction n with
  | zero => simp [trimN]
  | succ n ih => unfold trimN; split <;> omega

/-- The order of two numbers as -1, 0, 1. -/
def cmpZ (x y : Nat) : Int := if x < y then -1 else if x = y then 0 else 1
/-- Of two rows of one length: the order of the highest numbers below n in which they differ. -/
def cmpDown (L M : List Nat) : Nat → Int
  | 0 => 0
  | n + 1 => if nth L n = nth M n then cmpDown L M n else cmpZ (nth L n) (nth M n)
def cmpL (L M : List Nat) : Int := if L.length = M.length then cmpDown L M L.length else cmpZ L.length M.length

/-- A quiet contract at a world that has drawn before: the draws add up. -/
theorem quiet_more {P : Program} {f : FuncId} {args : Array Value} {w : World} {a n : Nat} {v : Value}
    (h : ∀ W : World, Calls P f args W fun e w' => e = .returned v ∧ ∃ m, w' = W.drewN m) :
    Calls P f args (w.drewN (a + n)) fun e w'' => e = .returned v ∧ ∃ m, w'' = w.drewN (a + m) :=
  (h _).mono fun _ _ ⟨he, m, hm⟩ => ⟨he, n + m, by rw [hm, World.drewN_drewN, Nat.add_assoc]⟩
theorem quiet_one {P : Program} {f : FuncId} {args : Array Value} {w : World} {n : Nat} {v : Value}
    (h : ∀ W : World, Calls P f args W fun e w' => e = .returned v ∧ ∃ m, w' = W.drewN m) :
    Calls P f args (w.drewN n) fun e w'' => e = .returned v ∧ ∃ m, w'' = w.drewN m :=
  (h _).mono fun _ _ ⟨he, m, hm⟩ => ⟨he, n + m, by rw [hm, World.drewN_drewN]⟩
theorem same_quiet {P : Program} {f : FuncId} {args : Array Value} {v : Value} (h : ∀ W : World, Calls P f args W fun e w' => e = .returned v ∧ W = w') :
    ∀ W : World, Calls P f args W fun e w' => e = .returned v ∧ ∃ m, w' = W.drewN m := fun W => (h W).mono fun _ _ ⟨he, hw⟩ => ⟨he, 0, by rw [← hw]; rfl⟩

theorem drew3 (w : World) (a b c : Nat) : ((w.drewN a).drewN b).drewN c = w.drewN (a + b + c) := by rw [World.drewN_drewN, World.drewN_drewN, Nat.add_assoc]

theorem grown_refl (w : World) (row : Option Nat) : w.grownBy w row := World.grownBy.refl w _
theorem grown_set {a w : World} {g : Nat} (h : a.grownBy w (some g)) (i : Nat) (u : Value) : a.grownBy (w.setCell ⟨g, i, none⟩ u) (some g) :=
  ⟨h.os, h.tape, h.output, by simpa [World.setCell] using h.size, fun j hj hne => (Below.heap_setCell w _ u j (by rintro rfl; exact hne rfl)).trans (h.block j hj hne)⟩
theorem grown_drewN {a w : World} {row : Option Nat} (h : a.grownBy w row) (n : Nat) : a.grownBy (w.drewN n) row := ⟨h.os, h.tape, h.output, h.size, h.block⟩
theorem grown_below {B g : Nat} {a w w' : World} (h : Below B a w) (hg : w.grownBy w' (some g)) (hB : B ≤ g) (hs : B ≤ w.heap.size) : Below B a w' :=
  ⟨hg.os.trans h.os, hg.tape.trans h.tape, hg.output.trans h.output, Nat.le_trans h.size hg.size, fun i hi => (hg.block i (by omega) (by intro e; injection e; omega)).trans (h.block i hi)⟩
theorem grown_none_below {B : Nat} {a w w' : World} (h : Below B a w) (hg : w.grownBy w' none) (hs : B ≤ w.heap.size) : Below B a w' :=
  ⟨hg.os.trans h.os, hg.tape.trans h.tape, hg.output.trans h.output, Nat.le_trans h.size hg.size, fun i hi => (hg.block i (by omega) (by simp)).trans (h.block i hi)⟩
theorem below_drewN {B : Nat} {a w : World} (h : Below B a w) (n : Nat) : Below B a (w.drewN n) := ⟨h.os, h.tape, h.output, h.size, h.block⟩

theorem ret_int {k : IntKind} {a b : Int} (h : a = b) : Ending.returned (.int k a) = .returned (.int k b) := by rw [h]
end Go.Proofs.YtbfbijokhlkekaaDoor
