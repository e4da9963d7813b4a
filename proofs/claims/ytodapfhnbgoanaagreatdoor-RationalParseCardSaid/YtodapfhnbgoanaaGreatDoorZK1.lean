/- Contracts of the functions that the statements reach, part 1: what was proved of each, callees first. -/
import Derived.Deep.RegionHeld
import Derived.Below
import Derived.Deep.Draws
import Derived.Test.YtodapfhnbgoanaaGreatDoorProg
import Derived.WalkKit
import Derived.WalkSpells
import Derived.Lib.Hide
import Derived.Deep.QuietTactic
import Derived.BigQuiet
import Derived.Laws.Rows
import Derived.Laws.CopyOwn
import Derived.Deep.OwnRows
import Derived.Outline
import Derived.StillTail
import Derived.Lib.ItoaNum
import Derived.Shelf.Strings.Builder1
import Derived.Shelf.Strings.Builder2
import Derived.Shelf.Strings.Trim
import Derived.Shelf.Small.Utf8
import Derived.Shelf.Small.Bits
import Derived.Shelf.Small.Strs
import Derived.Shelf.Small.Wraps
import Derived.Shelf.Strings.BuilderF
import Derived.Shelf.Strings.BuilderK
import Derived.Shelf.Strings.Builder2Cap
import Derived.Shelf.Strconv.Itoa0
import Derived.Shelf.Strconv.Itoa1
import Derived.Shelf.LaysM
import Derived.Shelf.Strconv.Itoa2
import Derived.Shelf.Strings.Search1
import Derived.Shelf.Strings.Search2
import Derived.Shelf.Strings.Cut
import Derived.Shelf.Strings.Shaped
import Derived.Shelf.Strconv.AppendUint10
import Derived.Shelf.Strings.Prefix
import Derived.Shelf.Unicode.Decode
import Derived.Shelf.Strings.Runes
import Derived.Shelf.Strings.AsciiSet
import Derived.Shelf.Bits.Mul64
import Derived.Shelf.Strings.Repeat
import Derived.Shelf.Unicode.DecodeSlow
import Derived.Shelf.Unicode.DecodeAny
import Derived.Shelf.Strings.BuilderCap
import Derived.Ground.Names2Prog
import Derived.Shelf.Slices.SearchI
import Derived.Laws.BytesString
import Derived.Laws.Cells
import Derived.Laws.RangeAny
namespace Go.Proofs.YtodapfhnbgoanaaGreatDoor
open Go Go.RowKit
structure Fact where
 p : Value → World → Prop
 st : ∀ v w w', Below w.heap.size w w' → p v w → p v w'
def Fact.triv : Fact := ⟨fun _ _ => True, fun _ _ _ _ _ => trivial⟩
def look : List (Nat × Fact) → Nat → Fact
 | [], _ => Fact.triv
 | (k, f) :: rest, d => bif Nat.beq k d then f else look rest d
def factOf (FL : List (Nat × Fact)) (dst : Option Nat) (v : Value) (w : World) : Prop := match dst with
 | none => True
 | some d => (look FL d).p v w
def fillL (u : Nat → Value) : List Nat → Array Value → Array Value
 | [], t => t
 | d :: ds, t => fillL u ds (t.setIfInBounds d (u d))
def upd (u : Nat → Value) (d : Option Nat) (v : Value) (n : Nat) : Value := match d with
 | none => u n
 | some d => if n = d then v else u n
theorem fillL_size (u : Nat → Value) (ds : List Nat) : ∀ t : Array Value, (fillL u ds t).size = t.size := by
 induction ds with
 | nil => intro t; rfl
 | cons d ds ih => intro t; rw [fillL, ih]; simp
theorem fillL_get (u : Nat → Value) (ds : List Nat) : ∀ (t : Array Value) (n : Nat), (fillL u ds t)[n]? = if n < t.size then (if n ∈ ds then some (u n) else t[n]?) else none := by
 induction ds with
 | nil => intro t n; by_cases h : n < t.size <;> simp [fillL, h]
 | cons d ds ih =>
  intro t n
  rw [fillL, ih]
  by_cases h : n < t.size
  ·simp only [Array.size_setIfInBounds, h, if_true, List.mem_cons]
   by_cases h1 : n ∈ ds
   ·simp [h1]
   ·by_cases h2 : n = d
    ·subst h2; simp [h1, h]
    ·simp only [h1, h2, if_false, or_self]; rw [Array.getElem?_setIfInBounds_ne (Ne.symm h2)]
  ·simp [h]
theorem fillL_upd (u : Nat → Value) (ds : List Nat) (t : Array Value) (d : Nat) (v : Value) (hd : d ∈ ds) : (fillL u ds t).setIfInBounds d v = fillL (upd u (some d) v) ds t := by
 apply Array.ext_getElem?
 intro n
 rw [Array.getElem?_setIfInBounds, fillL_get, fillL_get, fillL_size]
 by_cases h : n < t.size
 ·by_cases h2 : d = n
  ·subst h2; simp [h, hd, upd]
  ·simp only [h, h2, if_true, if_false]
   by_cases h3 : n ∈ ds
   ·simp [h3, upd, Ne.symm h2]
   ·simp [h3]
 ·simp only [h, if_false]
  by_cases h2 : d = n
  ·subst h2; simp [h]
  ·simp [h2]
theorem fillL_self (ds : List Nat) (t : Array Value) : fillL (fun d => t.getD d undef) ds t = t := by
 apply Array.ext_getElem?
 intro n
 rw [fillL_get]
 by_cases h : n < t.size
 ·simp [h]
 ·simp [h]
theorem filter_less {p q : Nat → Bool} {i : Nat} (hpi : p i = true) (hqi : q i = false) (h : ∀ j, q j = true → p j = true) : ∀ l : List Nat, i ∈ l → (l.filter q).length < (l.filter p).length := by
 have hle : ∀ l : List Nat, (l.filter q).length ≤ (l.filter p).length := by
  intro l
  induction l with
  | nil => simp
  | cons x l ih =>
   rw [List.filter_cons, List.filter_cons]
   by_cases hq : q x = true
   ·simp [hq, h x hq]; exact ih
   ·by_cases hp : p x = true <;> simp [hq, hp] <;> omega
 intro l hl
 induction l with
 | nil => cases hl
 | cons x l ih =>
  rw [List.filter_cons, List.filter_cons]
  rcases List.mem_cons.1 hl with rfl | hl
  ·simp [hpi, hqi]; have := hle l; omega
  ·have := ih hl
   by_cases hq : q x = true
   ·simp [hq, h x hq]; exact this
   ·by_cases hp : p x = true <;> simp [hq, hp] <;> omega
section
variable {P : Program} {ops : Array Oper} {Q : Exit → Act → World → Prop} {FL : List (Nat × Fact)} {J : World → Prop} {t0 : Array Value} {df : List Deferred} {ds : List Nat}
theorem put_fill (u : Nat → Value) (o : Oper) (v : Value) (hd : ∀ d, o.dst = some d → d ∈ ds) : (⟨fillL u ds t0, df⟩ : Act).put o.dst v = ⟨fillL (upd u o.dst v) ds t0, df⟩ := by
 cases h : o.dst with
 | none => rfl
 | some d =>
  show Act.mk ((fillL u ds t0).setIfInBounds d v) df = _
  rw [fillL_upd _ _ _ _ _ (hd d h)]
theorem none_listed (n j : Nat) : (Array.replicate n false).getD j false = false := by
 by_cases h : j < n <;> simp [h]
end
open Go.RowKit
def nth (L : List Nat) (k : Nat) : Nat := L.getD k 0
theorem nth_lt {L : List Nat} {k : Nat} (h : k < L.length) : nth L k = L[k] := by simp [nth, h]
theorem nth_ge {L : List Nat} {k : Nat} (h : L.length ≤ k) : nth L k = 0 := by simp [nth, h]
theorem nth_all {L : List Nat} {b : Nat} (h : ∀ d ∈ L, d < b) (hb : 0 < b) (k : Nat) : nth L k < b := by
 rcases Nat.lt_or_ge k L.length with hk | hk
 ·rw [nth_lt hk]; exact h _ (List.getElem_mem hk)
 ·rw [nth_ge hk]; exact hb
def Cells (k : IntKind) (w : World) (b o : Nat) (L : List Nat) : Prop := ∀ j, j < L.length → w.cell? ⟨b, o + j, none⟩ = some (.int k (nth L j))
def Blk (k : IntKind) (t : TypeId) (w : World) (g : Nat) (L : List Nat) : Prop := w.heap[g]? = some (.cells (L.map fun (d : Nat) => Value.int k (d : Int)).toArray t (0, 0))
section
variable {k : IntKind} {t : TypeId} {w w' : World} {b o g B : Nat} {L : List Nat}
theorem Cells.keep (h : Cells k w b o L) (hk : ∀ j, w'.cell? ⟨b, j, none⟩ = w.cell? ⟨b, j, none⟩) : Cells k w' b o L := fun j hj => (hk _).trans (h j hj)
theorem Cells.below (h : Cells k w b o L) (hb : Below B w w') (hB : b < B) : Cells k w' b o L := h.keep fun _ => hb.cell (by exact hB)
theorem Cells.grown {row : Option Nat} (h : Cells k w b o L) (hg : w.grownBy w' row) (hB : b < w.heap.size) (hr : some b ≠ row) : Cells k w' b o L :=
 h.keep fun _ => World.cell?_of_block (hg.block b hB hr)
theorem Cells.take (h : Cells k w b o L) (n : Nat) : Cells k w b o (L.take n) := fun j hj => by
 have h1 : j < n ∧ j < L.length := by rw [List.length_take] at hj; omega
 rw [h j h1.2]; simp [nth, h1.1]
theorem Cells.drop (h : Cells k w b o L) (n : Nat) : Cells k w b (o + n) (L.drop n) := fun j hj => by
 have h1 : n + j < L.length := by simp [List.length_drop] at hj; omega
 have h2 := h (n + j) h1
 rw [Nat.add_assoc, h2]; simp [nth]
theorem Blk.lt (h : Blk k t w g L) : g < w.heap.size := by
 rcases Nat.lt_or_ge g w.heap.size with hlt | hge
 ·exact hlt
 ·unfold Blk at h; rw [Array.getElem?_eq_none hge] at h; cases h
theorem Blk.cell (h : Blk k t w g L) (i : Nat) (hi : i < L.length) : w.cell? ⟨g, i, none⟩ = some (.int k (nth L i)) := by
 unfold Blk at h
 simp [World.cell?, h, nth, hi]
theorem Blk.frozen (h : Blk k t w g L) (i : Nat) : w.frozen? ⟨g, i, none⟩ = false := by
 unfold Blk at h
 simp [World.frozen?, h]
theorem Blk.cells (h : Blk k t w g L) : Cells k w g 0 L := fun j hj => by simpa using h.cell j hj
theorem Blk.set_ (h : Blk k t w g L) (i x : Nat) : Blk k t (w.setCell ⟨g, i, none⟩ (.int k x)) g (L.set i x) := by
 unfold Blk at h ⊢
 simp [World.setCell, Array.getElem?_modify, h, List.map_set]
theorem Blk.setI (h : Blk k t w g L) (i : Nat) {v : Int} {x : Nat} (hv : v = (x : Int)) : Blk k t (w.setCell ⟨g, i, none⟩ (.int k v)) g (L.set i x) := by
 subst hv; exact h.set_ i x
theorem Blk.far (h : Blk k t w g L) {p : Addr} (hp : g ≠ p.block) (u : Value) : Blk k t (w.setCell p u) g L := (Below.heap_setCell w p u g hp).trans h
theorem Blk.drew (h : Blk k t w g L) : Blk k t w.drew g L := h
theorem Blk.drewN (h : Blk k t w g L) (n : Nat) : Blk k t (w.drewN n) g L := h
theorem Blk.alloc (h : Blk k t w g L) (o : Obj) : Blk k t (w.alloc o) g L := (Below.heap_alloc w o g h.lt).trans h
theorem Blk.below (h : Blk k t w g L) (hb : Below B w w') (hg : g < B) : Blk k t w' g L := (hb.block g hg).trans h
theorem Blk.grown {row : Option Nat} (h : Blk k t w g L) (hb : w.grownBy w' row) (hg : some g ≠ row) : Blk k t w' g L := (hb.block g h.lt hg).trans h
end
structure Row (k : IntKind) (w : World) (B : Nat) (A : Option Addr) (c : Nat) (L : List Nat) : Prop where
 len : L.length ≤ c
 spot : 0 < L.length → ∃ b o, A = some ⟨b, o, none⟩ ∧ b < B ∧ Cells k w b o L
section
variable {k : IntKind} {t : TypeId} {w w' : World} {g B B' c : Nat} {A : Option Addr} {L : List Nat}
theorem Row.keep (h : Row k w B A c L) (hk : ∀ b j, b < B → w'.cell? ⟨b, j, none⟩ = w.cell? ⟨b, j, none⟩) : Row k w' B A c L :=
 ⟨h.len, fun hp => by obtain ⟨b, o, e, hb, hc⟩ := h.spot hp; exact ⟨b, o, e, hb, hc.keep fun j => hk b j hb⟩⟩
theorem Row.more (h : Row k w B A c L) (hB : B ≤ B') : Row k w B' A c L := ⟨h.len, fun hp => by obtain ⟨b, o, e, hb, hc⟩ := h.spot hp; exact ⟨b, o, e, by omega, hc⟩⟩
theorem Row.below (h : Row k w B A c L) (hb : Below B w w') : Row k w' B A c L := h.keep fun b _ hB => hb.cell (by exact hB)
theorem Row.drewN (h : Row k w B A c L) (n : Nat) : Row k (w.drewN n) B A c L := h.keep fun _ _ _ => rfl
theorem Row.drew (h : Row k w B A c L) : Row k w.drew B A c L := h.keep fun _ _ _ => rfl
theorem Row.alloc (h : Row k w B A c L) (hB : B ≤ w.heap.size) (o : Obj) : Row k (w.alloc o) B A c L := h.keep fun b j hb => World.cell?_alloc_lt w o _ (by show b < _; omega)
theorem Row.nil (k : IntKind) (w : World) (B : Nat) (A : Option Addr) (c : Nat) : Row k w B A c [] := ⟨Nat.zero_le _, fun h => absurd h (by simp)⟩
theorem Row.take (h : Row k w B A c L) (n : Nat) : Row k w B A c (L.take n) :=
 ⟨by have := h.len; rw [List.length_take]; omega, fun hp => by
  obtain ⟨b, o, e, hb, hc⟩ := h.spot (by rw [List.length_take] at hp; omega)
  exact ⟨b, o, e, hb, hc.take n⟩⟩
theorem Row.ofBlk (h : Blk k t w g L) (hB : g < B) (hc : L.length ≤ c) : Row k w B (some ⟨g, 0, none⟩) c L := ⟨hc, fun _ => ⟨g, 0, rfl, hB, h.cells⟩⟩
end
def Own (k : IntKind) (e : TypeId) (w : World) (base : Nat) (v : Value) (L : List Nat) : Prop := w.ownsRow base e 1 v L.length (L.map fun (d : Nat) => Value.int k (d : Int))
theorem Own.nil (k : IntKind) (e : TypeId) (w : World) (base : Nat) : Own k e w base (.slice none 0 0) [] := World.ownsRow_nil _ _ _ _
theorem Own.row {k : IntKind} {e : TypeId} {w : World} {base : Nat} {v : Value} {L : List Nat} (h : Own k e w base v L) :
  ∃ A c, v = .slice A L.length c ∧ Row k w w.heap.size A c L := by
 obtain ⟨h1, h2⟩ := h
 rcases h2 with ⟨rfl, h0⟩ | ⟨g, cap, cur, rfl, hbg, hg, hn, hcap, hsz, hcur⟩
 ·obtain rfl : L = [] := List.eq_nil_of_length_eq_zero h0
  exact ⟨none, 0, rfl, Row.nil _ _ _ _ _⟩
 ·refine ⟨_, cap, rfl, hn, fun _ => ⟨g, 0, rfl, ?_, fun j hj => ?_⟩⟩
  ·rcases Nat.lt_or_ge g w.heap.size with hlt | hge
   ·exact hlt
   ·rw [Array.getElem?_eq_none hge] at hg; cases hg
  ·have h3 : cur.toList[j]? = some (Value.int k (nth L j)) := by
    have : (cur.toList.take (L.length * 1))[j]? = some (Value.int k (nth L j)) := by
     rw [hcur, List.getElem?_map, List.getElem?_eq_getElem hj, nth_lt hj]; rfl
    rw [List.getElem?_take] at this
    split at this
    ·exact this
    ·cases this
   simp only [World.cell?, hg, Nat.zero_add]
   simpa using h3
theorem wpList_append_num {P : Program} (w : World) {ops : Array Oper} {rest : List Oper} {o : Oper} {a : Act} {Q : Exit → Act → World → Prop} (hgd : o.guard = none) (s x : Operand) (t : TypeId)
  (ho : o.op = .call { callee := .builtin .append, args := #[s, x], argTypes := #[t, t] })
  (k : IntKind) (base : Nat) (e : TypeId) (i : TypeInfo) (bytes : Nat) (ht : P.underlying t = some (.slice e)) (hi : P.info? e = some i) (hz : i.zero = some (.int k 0))
  (hsize : i.size = 1) (hby : i.bytes = bytes) (hb8 : bytes ≤ 8)
  (v : Value) (L : List Nat) (hs : a.eval s = v) (hown : Own k e w base v L) (X : Int) (d : Nat) (hX : X = (d : Int)) (c : Nat) (hx : a.eval x = .slice (some ⟨w.heap.size, 0, none⟩) 1 c)
  (hlen : L.length ≤ 100000000) (hbase : base ≤ w.heap.size)
  (h : ∀ v' w', Hid (Own k e w' base v' (L ++ [d])) → Below base w w' → wpList P ops Q rest (a.put o.dst v') w') : wpList P ops Q (o :: rest) a (w.alloc (.cells #[.int k X] e)) := by
 subst hX
 refine wpList_append_own (w.alloc (.cells #[.int k (d : Int)] e)) hgd s x t ho base e i (.int k 0) 1 bytes ht hi hz hsize hby rfl (by decide) v L.length (L.map fun (d : Nat) => Value.int k (d : Int)) hs (World.ownsRow.alloc hown _)
  ⟨w.heap.size, 0, none⟩ 1 c [.int k (d : Int)] hx rfl ?_ ?_ ?_ ?_ ?_ ?_
 ·intro j u hj
  match j, hj with
  | 0, hj =>
   simp at hj; subst hj
   unfold World.cell? Addr.add
   rw [if_pos rfl]
   dsimp only
   rw [heap_alloc_new]
   rfl
 ·intro u hu; simp at hu; subst hu; rfl
 ·unfold maxLen; omega
 ·have : (L.length + 1) * bytes ≤ (L.length + 1) * 8 := Nat.mul_le_mul_left _ hb8
  omega
 ·simp; omega
 ·intro v' w' h1 h2 _
  refine h v' w' ?_ ?_
  ·show World.ownsRow _ _ _ _ _ _ _
   rw [List.length_append, List.map_append]
   exact h1
  ·refine ((Below.refl base w).alloc hbase _).grown h2 (by simp; omega) (fun j hj => ?_)
   exact (World.ownsRow.lt hown j hj).1
theorem below_alloc_new {w : World} (o : Obj) : Below w.heap.size w (w.alloc o) := (Below.refl _ _).alloc (Nat.le_refl _) _
theorem wpList_make_zeros {P : Program} (w : World) {ops : Array Oper} {rest : List Oper} {o : Oper} {a : Act} {Q : Exit → Act → World → Prop}
  (hg : o.guard = none) (l c : Operand) (t : TypeId) (hop : o.op = Op.makeSlice t l c)
  (e : TypeId) (k : IntKind) (i : TypeInfo) (bytes : Nat) (ht : P.underlying t = some (.slice e)) (hi : P.info? e = some i) (hz : i.zero = some (.int k 0)) (hsize : i.size = 1) (hbt : i.bytes = bytes)
  (kl kc : IntKind) (N C : Int) (n : Nat) (hl : a.eval l = .int kl N) (hc : a.eval c = .int kc C) (hN : N = (n : Int)) (hC : C = (n : Int)) (hb8 : bytes ≤ 8) (hn : n ≤ 100000000)
  (hK : ∀ w', Hid (Blk k e w' w.heap.size (List.replicate n 0)) → Below w.heap.size w w' → w.heap.size + 1 = w'.heap.size → wpList P ops Q rest (a.put o.dst (.slice (some ⟨w.heap.size, 0, none⟩) n n)) w') :
  wpList P ops Q (o :: rest) a w := by
 subst hN
 subst hC
 refine wpList_make_row w hg l c t hop e i (.int k 0) ht hi hz hsize rfl kl kc n hl hc ?_ (by omega) ?_
 ·have : i.bytes * n ≤ 8 * n := Nat.mul_le_mul_right _ (by omega)
  omega
 refine hK _ ?_ (below_alloc_new _) (by simp)
 show _ = _
 rw [heap_alloc_new]
 have : madeCells #[Value.int k 0] n = ((List.replicate n 0).map fun (d : Nat) => Value.int k (d : Int)).toArray := by
  apply Array.ext
  ·simp [madeCells]
  ·intro j h1 h2
   simp [madeCells, Nat.mod_one]
 rw [this]
theorem splice_map {α β : Type} (f : α → β) (L : List α) (o : Nat) (cs : List α) : splice (L.map f) o (cs.map f) = (splice L o cs).map f := by simp [splice]
theorem splice_all {α : Type} (L cs : List α) (h : L.length = cs.length) : splice L 0 cs = cs := by simp [splice, ← h]
theorem wpList_copy_row {P : Program} {w : World} {ops : Array Oper} {rest : List Oper} {o : Oper} {a : Act} {Q : Exit → Act → World → Prop} (hgd : o.guard = none) (d s : Operand) (dT sT : TypeId)
  (ho : o.op = .call { callee := .builtin .copy, args := #[d, s], argTypes := #[dT, sT] }) (elem : TypeId) (hu : P.underlying dT = some (.slice elem)) (hsz : (P.info? elem).map (·.size) = some 1)
  (k : IntKind) (t : TypeId) (g dLen dCap sCap : Nat) (A : Option Addr) (M L : List Nat) (hd : a.eval d = .slice (some ⟨g, 0, none⟩) dLen dCap) (hs : a.eval s = .slice A L.length sCap)
  (hg : Blk k t w g M) (hR : Row k w g A sCap L) (hfit : L.length ≤ dLen) (hM : dLen ≤ M.length)
  (h : ∀ w', Hid (Blk k t w' g (splice M 0 L)) → Below g w w' → wpList P ops Q rest (a.put o.dst (goInt L.length)) w') :
  wpList P ops Q (o :: rest) a w := by
 refine wpList_copy_splice hgd d s dT sT ho elem hu hsz (some ⟨g, 0, none⟩) A dLen dCap L.length sCap hd hs g 0 (M.map fun (d : Nat) => Value.int k (d : Int)) t hg (L.map fun (d : Nat) => Value.int k (d : Int)) ?_ ?_ ?_ ?_ g w (Below.refl _ _) (Nat.le_refl _) ?_
 ·simp only [List.length_map]; exact (Nat.min_eq_left hfit).symm
 ·intro hp
  refine ⟨rfl, ?_⟩
  obtain ⟨b, o, e, _, hc⟩ := hR.spot (by simpa using hp)
  refine ⟨_, e, fun j v hj => ?_⟩
  have hjl : j < L.length := by
   rcases Nat.lt_or_ge j L.length with h1 | h1
   ·exact h1
   ·rw [List.getElem?_eq_none (by simpa using h1)] at hj; cases hj
  have h2 := hc j hjl
  have h3 : v = .int k (nth L j) := by
   rw [List.getElem?_map, List.getElem?_eq_getElem hjl] at hj
   simp at hj
   rw [← hj, nth_lt hjl]
  rw [h3, ← h2]
  unfold Addr.add
  split
  ·rename_i h0; subst h0; simp
  ·rfl
 ·simpa using Nat.le_trans hfit hM
 ·intro v hv
  obtain ⟨d, _, rfl⟩ := List.mem_map.1 hv
  rfl
 ·intro w' h1 h2
  have h3 := h1.out
  rw [splice_map] at h3
  have h4 := h w' h3 h2
  simpa using h4
def trimN (L : List Nat) : Nat → Nat
 | 0 => 0
 | n + 1 => if nth L n = 0 then trimN L n else n + 1
theorem trimN_le (L : List Nat) (n : Nat) : trimN L n ≤ n := by
 induction n with
 | zero => simp [trimN]
 | succ n ih => unfold trimN; split <;> omega
def cmpZ (x y : Nat) : Int := if x < y then -1 else if x = y then 0 else 1
def cmpDown (L M : List Nat) : Nat → Int
 | 0 => 0
 | n + 1 => if nth L n = nth M n then cmpDown L M n else cmpZ (nth L n) (nth M n)
def cmpL (L M : List Nat) : Int := if L.length = M.length then cmpDown L M L.length else cmpZ L.length M.length
theorem quiet_more {P : Program} {f : FuncId} {args : Array Value} {w : World} {a n : Nat} {v : Value}
  (h : ∀ W : World, Calls P f args W fun e w' => e = .returned v ∧ ∃ m, w' = W.drewN m) :
  Calls P f args (w.drewN (a + n)) fun e w'' => e = .returned v ∧ ∃ m, w'' = w.drewN (a + m) :=
 (h _).mono fun _ _ ⟨he, m, hm⟩ => ⟨he, n + m, by rw [hm, World.drewN_drewN, Nat.add_assoc]⟩
theorem same_quiet {P : Program} {f : FuncId} {args : Array Value} {v : Value} (h : ∀ W : World, Calls P f args W fun e w' => e = .returned v ∧ W = w') :
  ∀ W : World, Calls P f args W fun e w' => e = .returned v ∧ ∃ m, w' = W.drewN m := fun W => (h W).mono fun _ _ ⟨he, hw⟩ => ⟨he, 0, by rw [← hw]; rfl⟩
theorem drew3 (w : World) (a b c : Nat) : ((w.drewN a).drewN b).drewN c = w.drewN (a + b + c) := by rw [World.drewN_drewN, World.drewN_drewN, Nat.add_assoc]
theorem grown_refl (w : World) (row : Option Nat) : w.grownBy w row := World.grownBy.refl w _
theorem grown_set {a w : World} {g : Nat} (h : a.grownBy w (some g)) (i : Nat) (u : Value) : a.grownBy (w.setCell ⟨g, i, none⟩ u) (some g) :=
 ⟨h.os, h.tape, h.output, by simpa [World.setCell] using h.size, fun j hj hne => (Below.heap_setCell w _ u j (by rintro rfl; exact hne rfl)).trans (h.block j hj hne)⟩
theorem grown_drewN {a w : World} {row : Option Nat} (h : a.grownBy w row) (n : Nat) : a.grownBy (w.drewN n) row := ⟨h.os, h.tape, h.output, h.size, h.block⟩
theorem grown_below {B g : Nat} {a w w' : World} (h : Below B a w) (hg : w.grownBy w' (some g)) (hB : B ≤ g) (hs : B ≤ w.heap.size) : Below B a w' :=
 ⟨hg.os.trans h.os, hg.tape.trans h.tape, hg.output.trans h.output, Nat.le_trans h.size hg.size, fun i hi => (hg.block i (by omega) (by intro e; injection e; omega)).trans (h.block i hi)⟩
theorem grown_none_below {B : Nat} {a w w' : World} (h : Below B a w) (hg : w.grownBy w' none) (hs : B ≤ w.heap.size) : Below B a w' :=
 ⟨hg.os.trans h.os, hg.tape.trans h.tape, hg.output.trans h.output, Nat.le_trans h.size hg.size, fun i hi => (hg.block i (by omega) (by simp)).trans (h.block i hi)⟩
theorem below_drewN {B : Nat} {a w : World} (h : Below B a w) (n : Nat) : Below B a (w.drewN n) := ⟨h.os, h.tape, h.output, h.size, h.block⟩
theorem dret_bool {a b : Bool} (h : a = b) : Ending.returned (.bool a) = .returned (.bool b) := by rw [h]
theorem ret_int {k : IntKind} {a b : Int} (h : a = b) : Ending.returned (.int k a) = .returned (.int k b) := by rw [h]
open Go Go.RowKit
def AS.NoInt (w : World) (b : Nat) : Prop := ∀ j k n, w.cell? ⟨b, j, none⟩ ≠ some (.int k n)
open AS (NoInt)
def Leaf (x : Value) : Prop := ∀ k n, x ≠ .int k n
theorem Leaf.bool (b : Bool) : Leaf (.bool b) := fun _ _ h => by cases h
theorem Leaf.slice (A : Option Addr) (l c : Nat) : Leaf (.slice A l c) := fun _ _ h => by cases h
structure Bx (t : TypeId) (w : World) (g : Nat) (vs : List Value) : Prop where
 blk : w.heap[g]? = some (.cells vs.toArray t (0, 0))
 leaf : ∀ v ∈ vs, Leaf v
section
variable {t : TypeId} {w w' : World} {g : Nat} {vs : List Value}
theorem Bx.lt (h : Bx t w g vs) : g < w.heap.size := by
 rcases Nat.lt_or_ge g w.heap.size with hlt | hge
 ·exact hlt
 ·have := h.blk; rw [Array.getElem?_eq_none hge] at this; cases this
theorem Bx.cell (h : Bx t w g vs) (i : Nat) : w.cell? ⟨g, i, none⟩ = vs[i]? := by
 simp [World.cell?, h.blk]
theorem Bx.frozen (h : Bx t w g vs) (i : Nat) : w.frozen? ⟨g, i, none⟩ = false := by
 simp [World.frozen?, h.blk]
theorem Bx.noInt (h : Bx t w g vs) : NoInt w g := by
 intro j k n hc
 rw [h.cell] at hc
 exact h.leaf _ (List.mem_of_getElem? hc) k n rfl
theorem Bx.up (h : Bx t w g vs) (hb : Below w.heap.size w w') : Bx t w' g vs := ⟨(hb.block g h.lt).trans h.blk, h.leaf⟩
theorem Bx.new (t : TypeId) (w : World) (vs : List Value) (h : ∀ v ∈ vs, Leaf v) : Bx t (w.alloc (.cells vs.toArray t)) w.heap.size vs := ⟨heap_alloc_new w _, h⟩
theorem Bx.alloc (h : Bx t w g vs) (o : Obj) : Bx t (w.alloc o) g vs := h.up (below_alloc_new _)
theorem Bx.set (h : Bx t w g vs) (i : Nat) {v : Value} (hv : Leaf v) : Bx t (w.setCell ⟨g, i, none⟩ v) g (vs.set i v) := by
 refine ⟨?_, ?_⟩
 ·simp [World.setCell, Array.getElem?_modify, h.blk]
 ·intro x hx
  rcases List.mem_or_eq_of_mem_set hx with h1 | h1
  ·exact h.leaf x h1
  ·rw [h1]; exact hv
theorem Bx.far (h : Bx t w g vs) {g' : Nat} (hne : g' ≠ g) (i : Nat) (v : Value) : Bx t (w.setCell ⟨g', i, none⟩ v) g vs := ⟨(Below.heap_setCell w _ v g (Ne.symm hne)).trans h.blk, h.leaf⟩
theorem hup (h : Hid (Bx t w g vs)) (hb : Below w.heap.size w w') : Hid (Bx t w' g vs) := Lib.hid (h.out.up hb)
theorem Bx.c2 {a b : Value} (h : Bx t w g [a, b]) : w.cell? ⟨g, 0, none⟩ = some a ∧ w.cell? ⟨g, 1, none⟩ = some b := ⟨h.cell 0, h.cell 1⟩
theorem Bx.cz2 {a b : Value} (h : Bx t w g [a, b]) : w.cell? ⟨g, 0, none⟩ = some a ∧ w.cell? ⟨g, 1, none⟩ = some b ∧ w.frozen? ⟨g, 0, none⟩ = false ∧ w.frozen? ⟨g, 1, none⟩ = false := ⟨h.cell 0, h.cell 1, h.frozen 0, h.frozen 1⟩
theorem Bx.c4 {a b c d : Value} (h : Bx t w g [a, b, c, d]) : w.cell? ⟨g, 0, none⟩ = some a ∧ w.cell? ⟨g, 1, none⟩ = some b ∧ w.cell? ⟨g, 2, none⟩ = some c ∧ w.cell? ⟨g, 3, none⟩ = some d := ⟨h.cell 0, h.cell 1, h.cell 2, h.cell 3⟩
theorem Bx.cz4 {a b c d : Value} (h : Bx t w g [a, b, c, d]) : w.cell? ⟨g, 0, none⟩ = some a ∧ w.cell? ⟨g, 1, none⟩ = some b ∧ w.cell? ⟨g, 2, none⟩ = some c ∧ w.cell? ⟨g, 3, none⟩ = some d ∧
  w.frozen? ⟨g, 0, none⟩ = false ∧ w.frozen? ⟨g, 1, none⟩ = false ∧ w.frozen? ⟨g, 2, none⟩ = false ∧ w.frozen? ⟨g, 3, none⟩ = false := ⟨h.cell 0, h.cell 1, h.cell 2, h.cell 3, h.frozen 0, h.frozen 1, h.frozen 2, h.frozen 3⟩
theorem Bx.d2 {a b : Value} (h : Bx t w g [a, b]) : w.cell? ⟨g, 0, none⟩ = some a ∧ w.cell? ⟨g, 1, none⟩ = some b ∧ g < w.heap.size := ⟨h.cell 0, h.cell 1, h.lt⟩
theorem Bx.e2 {a b : Value} (h : Bx t w g [a, b]) : w.cell? ⟨g, 0, none⟩ = some a ∧ w.cell? ⟨g, 1, none⟩ = some b ∧ w.frozen? ⟨g, 0, none⟩ = false ∧ w.frozen? ⟨g, 1, none⟩ = false ∧ g < w.heap.size := ⟨h.cell 0, h.cell 1, h.frozen 0, h.frozen 1, h.lt⟩
theorem Bx.d4 {a b c d : Value} (h : Bx t w g [a, b, c, d]) : w.cell? ⟨g, 0, none⟩ = some a ∧ w.cell? ⟨g, 1, none⟩ = some b ∧ w.cell? ⟨g, 2, none⟩ = some c ∧ w.cell? ⟨g, 3, none⟩ = some d ∧ g < w.heap.size := ⟨h.cell 0, h.cell 1, h.cell 2, h.cell 3, h.lt⟩
theorem Bx.e4 {a b c d : Value} (h : Bx t w g [a, b, c, d]) : w.cell? ⟨g, 0, none⟩ = some a ∧ w.cell? ⟨g, 1, none⟩ = some b ∧ w.cell? ⟨g, 2, none⟩ = some c ∧ w.cell? ⟨g, 3, none⟩ = some d ∧
  w.frozen? ⟨g, 0, none⟩ = false ∧ w.frozen? ⟨g, 1, none⟩ = false ∧ w.frozen? ⟨g, 2, none⟩ = false ∧ w.frozen? ⟨g, 3, none⟩ = false ∧ g < w.heap.size := ⟨h.cell 0, h.cell 1, h.cell 2, h.cell 3, h.frozen 0, h.frozen 1, h.frozen 2, h.frozen 3, h.lt⟩
theorem Bx.set2 {a b a' b' : Value} (h : Bx t w g [a, b]) (ha : Leaf a') (hb : Leaf b') : Bx t ((w.setCell ⟨g, 0, none⟩ a').setCell ⟨g, 1, none⟩ b') g [a', b'] := (h.set 0 ha).set 1 hb
theorem Bx.set4 {a b c d a' b' c' d' : Value} (h : Bx t w g [a, b, c, d]) (ha : Leaf a') (hb : Leaf b') (hc : Leaf c') (hd : Leaf d') : Bx t ((((w.setCell ⟨g, 0, none⟩ a').setCell ⟨g, 1, none⟩ b').setCell ⟨g, 2, none⟩ c').setCell ⟨g, 3, none⟩ d') g [a', b', c', d'] := (((h.set 0 ha).set 1 hb).set 2 hc).set 3 hd
theorem Bx.far2 (h : Bx t w g vs) {g' : Nat} (hne : g' ≠ g) (a b : Value) : Bx t ((w.setCell ⟨g', 0, none⟩ a).setCell ⟨g', 1, none⟩ b) g vs := (h.far hne 0 a).far hne 1 b
theorem Below.set2 {B : Nat} {w0 w1 : World} {g : Nat} (h : Below B w0 w1) (hg : B ≤ g) (a b : Value) : Below B w0 ((w1.setCell ⟨g, 0, none⟩ a).setCell ⟨g, 1, none⟩ b) := Below.setCell (p := ⟨g, 1, none⟩) (Below.setCell (p := ⟨g, 0, none⟩) h hg a) hg b
theorem Below.set4 {B : Nat} {w0 w1 : World} {g : Nat} (h : Below B w0 w1) (hg : B ≤ g) (a b c d : Value) : Below B w0 ((((w1.setCell ⟨g, 0, none⟩ a).setCell ⟨g, 1, none⟩ b).setCell ⟨g, 2, none⟩ c).setCell ⟨g, 3, none⟩ d) := Below.setCell (p := ⟨g, 3, none⟩) (Below.setCell (p := ⟨g, 2, none⟩) (Below.set2 h hg a b) hg c) hg d
end
end Go.Proofs.YtodapfhnbgoanaaGreatDoor
namespace Go.Proofs.YtodapfhnbgoanaaGreatDoor.AS
open Go Go.RowKit
open Go.Proofs.YtodapfhnbgoanaaGreatDoor (fillL upd fillL_size fillL_get fillL_upd fillL_self filter_less none_listed put_fill)
structure Keep (w w' : World) : Prop where
 size : w.heap.size ≤ w'.heap.size
 blk : ∀ i, i < w.heap.size → (∃ j k n, w.cell? ⟨i, j, none⟩ = some (.int k n)) → w'.heap[i]? = w.heap[i]?
 box : ∀ (t : TypeId) (g : Nat) (vs : List Value), 2 ≤ vs.length → Bx t w g vs → ∃ vs' : List Value, vs'.length = vs.length ∧ Bx t w' g vs'
theorem Keep.refl (w : World) : Keep w w := ⟨Nat.le_refl _, fun _ _ _ => rfl, fun _ _ vs _ h => ⟨vs, rfl, h⟩⟩
theorem Keep.ofBelow {w w' : World} (h : Below w.heap.size w w') : Keep w w' := ⟨h.size, fun i hi _ => h.block i hi, fun _ _ vs _ hb => ⟨vs, rfl, hb.up h⟩⟩
theorem Keep.cell {w w' : World} (h : Keep w w') {i j : Nat} (hi : i < w.heap.size) {j' : Nat} {k : IntKind} {n : Int} (hc : w.cell? ⟨i, j', none⟩ = some (.int k n)) : w'.cell? ⟨i, j, none⟩ = w.cell? ⟨i, j, none⟩ :=
 World.cell?_of_block (h.blk i hi ⟨j', k, n, hc⟩)
theorem Keep.trans {w w' w2 : World} (h : Keep w w') (h2 : Keep w' w2) : Keep w w2 := by
 refine ⟨Nat.le_trans h.size h2.size, fun i hi ⟨j, k, n, hc⟩ => ?_, fun t g vs h0 hb => by obtain ⟨vs', hl, h3⟩ := h.box t g vs h0 hb; obtain ⟨vs2, hl2, h4⟩ := h2.box t g vs' (by omega) h3; exact ⟨vs2, hl2.trans hl, h4⟩⟩
 have h3 := h.blk i hi ⟨j, k, n, hc⟩
 rw [← h3]
 refine h2.blk i (Nat.lt_of_lt_of_le hi h.size) ⟨j, k, n, ?_⟩
 rw [World.cell?_of_block h3]; exact hc
theorem Keep.setCell {t : TypeId} {w : World} {b : Nat} {vs : List Value} (h : Bx t w b vs) (i : Nat) {v : Value} (hv : Leaf v) : Keep w (w.setCell ⟨b, i, none⟩ v) := by
 refine ⟨by simp [World.setCell], fun j hj ⟨o, k, n, hc⟩ => ?_, fun t' g vs' _ hb => ?_⟩
 ·refine Below.heap_setCell w _ v j ?_
  rintro rfl
  exact h.noInt _ _ _ hc
 ·by_cases hg : b = g
  ·subst hg
   exact ⟨_, by simp, hb.set i hv⟩
  ·exact ⟨vs', rfl, hb.far hg i v⟩
structure Fact where
 p : Value → World → Prop
 st : ∀ v w w', Keep w w' → p v w → p v w'
def Fact.triv : Fact := ⟨fun _ _ => True, fun _ _ _ _ _ => trivial⟩
def Fact.is (x : Value) : Fact := ⟨fun v _ => v = x, fun _ _ _ _ h => h⟩
def look : List (Nat × Fact) → Nat → Fact
 | [], _ => Fact.triv
 | (k, f) :: rest, d => bif Nat.beq k d then f else look rest d
def temps (FL : List (Nat × Fact)) : List Nat := FL.map (·.1)
def factOf (FL : List (Nat × Fact)) (dst : Option Nat) (v : Value) (w : World) : Prop := match dst with
 | none => True
 | some d => (look FL d).p v w
def Facts (FL : List (Nat × Fact)) (u : Nat → Value) (w : World) : List Nat → Prop
 | [] => True
 | d :: ds => (look FL d).p (u d) w ∧ Facts FL u w ds
theorem facts_mk {FL : List (Nat × Fact)} {u : Nat → Value} {w : World} {ds : List Nat} (h : ∀ d ∈ ds, (look FL d).p (u d) w) : Facts FL u w ds := by
 induction ds with
 | nil => trivial
 | cons d ds ih => exact ⟨h d (List.mem_cons_self ..), ih fun e he => h e (List.mem_cons_of_mem _ he)⟩
theorem facts_get {FL : List (Nat × Fact)} {u : Nat → Value} {w : World} {ds : List Nat} (h : Facts FL u w ds) (d : Nat) (hd : d ∈ ds) : (look FL d).p (u d) w := by
 induction ds with
 | nil => cases hd
 | cons e ds ih =>
  rcases List.mem_cons.1 hd with rfl | hd
  ·exact h.1
  ·exact ih h.2 hd
def edgesOk (ops : Array Oper) : Bool := (List.range ops.size).all fun i => match ops[i]? with
 | none => true
 | some o => o.after.all fun e => !Region.binds .any e || decide (e.on < i)
def needsOk (ops : Array Oper) (pt : List (List Nat)) (ds : List Nat) : Bool :=
 (List.range ops.size).all fun i => match ops[i]? with
  | none => true
  | some o => (match o.dst with | some d => ds.contains d | none => true) &&
   (pt.getD i []).all fun d => o.after.any fun e => Region.binds .any e && ((match ops[e.on]? with | some o' => o'.dst == some d | none => false) || (pt.getD e.on []).contains d)
def onceOk (ops : Array Oper) : Bool := (List.range ops.size).all fun i => (List.range ops.size).all fun j => match ops[i]?, ops[j]? with
 | some o, some o' => Nat.beq i j || (match o.dst, o'.dst with | some d, some d' => !Nat.beq d d' | _, _ => true)
 | _, _ => true
def storesOk (ops : Array Oper) (pt : List (List Nat)) (st : List Nat) (js : List (List Nat)) : Bool :=
 (List.range st.length).all fun m => decide (st.getD m 0 < ops.size) && (match ops[st.getD m 0]? with | some o => o.dst == none | none => false) &&
  (Nat.beq m 0 || Region.waitsFor .any ops (st.getD m 0) (st.getD (m - 1) 0)) && (js.getD (m + 1) []).all fun d => (pt.getD (st.getD m 0) []).contains d || (js.getD m []).contains d
def waits2 (ops : Array Oper) (s i : Nat) : Bool := Region.waitsFor .any ops s i || (List.range ops.size).any fun j => Region.waitsFor .any ops s j && Region.waitsFor .any ops j i
def limOk (ops : Array Oper) (st lm : List Nat) : Bool :=
 (List.range ops.size).all fun i => Nat.beq (lm.getD i st.length) st.length || waits2 ops (st.getD (lm.getD i st.length) ops.size) i
def allWritten (ops : Array Oper) (ds : List Nat) : Bool := ds.all fun d => ops.any fun o => o.dst == some d
def allocsOk (ops : Array Oper) (al st : List Nat) : Bool := al.all fun d => st.all fun s => (List.range ops.size).any fun i => (match ops[i]? with | some o => o.dst == some d | none => false) && waits2 ops s i
def chk (al : List Nat) (ops : Array Oper) (pt : List (List Nat)) (ds st : List Nat) (js : List (List Nat)) (lm : List Nat) : Bool :=
 allocsOk ops al st && al.all ds.contains && edgesOk ops && needsOk ops pt ds && onceOk ops && storesOk ops pt st js && limOk ops st lm && allWritten ops ds && (js.getD 0 []).isEmpty
section
variable {P : Program} {ops : Array Oper} {Q : Exit → Act → World → Prop} {FL : List (Nat × Fact)} {J : Nat → List Value → World → Prop} {t0 : Array Value} {df : List Deferred} {ds : List Nat}
 {st lm al : List Nat} {js : List (List Nat)} {pt : List (List Nat)}
def aOk (al : List Nat) (dst : Option Nat) (v : Value) (w w' : World) : Prop := match dst with
 | some d => bif al.contains d then v = .pointer (some ⟨w.heap.size, 0, none⟩) ∧ w.heap.size < w'.heap.size else True
 | none => True
def Apart (al : List Nat) (u : Nat → Value) : Prop := ∀ d ∈ al, ∀ d' ∈ al, d ≠ d' → u d ≠ u d'
def StepOk (al : List Nat) (P : Program) (ops : Array Oper) (Q : Exit → Act → World → Prop) (FL : List (Nat × Fact)) (J : Nat → List Value → World → Prop) (js : List (List Nat)) (fr : (Nat → Value) → Array Value) (df : List Deferred) (o : Oper) (need : List Nat) (lim : Nat) : Prop :=
 ∀ (k : Nat) (u : Nat → Value) (w : World), k ≤ lim → J k ((js.getD k []).map u) w → Facts FL u w need → ∀ K : Act → World → Prop, Shut (∀ v w', Below w.heap.size w w' → factOf FL o.dst v w' → aOk al o.dst v w w' → K ((⟨fr u, df⟩ : Act).put o.dst v) w') →
  if Region.wanted o (yielded ops (fr u)) = true then Oper.wp P o ⟨fr u, df⟩ w K Q else K ((⟨fr u, df⟩ : Act).put o.dst undef) w
def StoreOk (al : List Nat) (P : Program) (ops : Array Oper) (Q : Exit → Act → World → Prop) (FL : List (Nat × Fact)) (J : Nat → List Value → World → Prop) (js : List (List Nat)) (fr : (Nat → Value) → Array Value) (df : List Deferred) (o : Oper) (need : List Nat) (k : Nat) : Prop :=
 ∀ (u : Nat → Value) (w : World), J k ((js.getD k []).map u) w → Apart al u → Facts FL u w need → ∀ K : Act → World → Prop, Shut (∀ v w', J (k + 1) ((js.getD (k + 1) []).map u) w' → Keep w w' → K ((⟨fr u, df⟩ : Act).put o.dst v) w') →
  if Region.wanted o (yielded ops (fr u)) = true then Oper.wp P o ⟨fr u, df⟩ w K Q else K ((⟨fr u, df⟩ : Act).put o.dst undef) w
def StepsOk (al : List Nat) (P : Program) (ops : Array Oper) (Q : Exit → Act → World → Prop) (FL : List (Nat × Fact)) (J : Nat → List Value → World → Prop) (js : List (List Nat)) (fr : (Nat → Value) → Array Value) (df : List Deferred) (pt : List (List Nat)) (st lm : List Nat) : List Oper → Nat → Prop
 | [], _ => True
 | o :: rest, i => (match st.idxOf? i with
   | some k => StoreOk al P ops Q FL J js fr df o (pt.getD i []) k
   | none => StepOk al P ops Q FL J js fr df o (pt.getD i []) (lm.getD i st.length)) ∧ StepsOk al P ops Q FL J js fr df pt st lm rest (i + 1)
theorem StepsOk.nil {fr : (Nat → Value) → Array Value} {i : Nat} : StepsOk al P ops Q FL J js fr df pt st lm [] i := trivial
theorem sc {fr : (Nat → Value) → Array Value} {o : Oper} {rest : List Oper} {i : Nat} {need : List Nat} {lim : Nat} (h0 : st.idxOf? i = none) (h1 : pt.getD i [] = need) (h2 : lm.getD i st.length = lim)
  (h : StepOk al P ops Q FL J js fr df o need lim) (hs : StepsOk al P ops Q FL J js fr df pt st lm rest (i + 1)) : StepsOk al P ops Q FL J js fr df pt st lm (o :: rest) i := ⟨by rw [h0, h1, h2]; exact h, hs⟩
theorem ss {fr : (Nat → Value) → Array Value} {o : Oper} {rest : List Oper} {i k : Nat} {need : List Nat} (h0 : st.idxOf? i = some k) (h1 : pt.getD i [] = need)
  (h : StoreOk al P ops Q FL J js fr df o need k) (hs : StepsOk al P ops Q FL J js fr df pt st lm rest (i + 1)) : StepsOk al P ops Q FL J js fr df pt st lm (o :: rest) i := ⟨by rw [h0, h1]; exact h, hs⟩
theorem steps_at {fr : (Nat → Value) → Array Value} : ∀ (l : List Oper) (i0 : Nat), StepsOk al P ops Q FL J js fr df pt st lm l i0 → ∀ i o, l[i]? = some o → (match st.idxOf? (i0 + i) with
      | some k => StoreOk al P ops Q FL J js fr df o (pt.getD (i0 + i) []) k
      | none => StepOk al P ops Q FL J js fr df o (pt.getD (i0 + i) []) (lm.getD (i0 + i) st.length)) := by
  intro l
  induction l with
  | nil => intro i0 _ i o h; simp at h
  | cons x l ih =>
    intro i0 hs i o h
    cases i with
    | zero => simp at h; subst h; exact hs.1
    | succ i =>
      have := ih (i0 + 1) hs.2 i o (by simpa using h)
      rwa [show i0 + 1 + i = i0 + (i + 1) by omega] at this
def Written (ops : Array Oper) (listed : Array Bool) (d : Nat) : Prop := ∃ j o', listed.getD j false = true ∧ ops[j]? = some o' ∧ o'.dst = some d
structure Inv (al : List Nat) (ops : Array Oper) (FL : List (Nat × Fact)) (J : Nat → List Value → World → Prop) (js : List (List Nat)) (t0 : Array Value) (df : List Deferred) (ds : List Nat) (pt : List (List Nat)) (st : List Nat) (listed : Array Bool) (a : Act) (w : World) : Prop where
 fr : ∃ k u, a = ⟨fillL u ds t0, df⟩ ∧ (∀ d, Written ops listed d → (look FL d).p (u d) w) ∧ J k ((js.getD k []).map u) w ∧ k ≤ st.length ∧ (∀ m, m < k → listed.getD (st.getD m 0) false = true) ∧
  (∀ m, k ≤ m → m < st.length → listed.getD (st.getD m 0) false = false) ∧ (∀ d ∈ js.getD k [], Written ops listed d) ∧ (∀ d ∈ al, Written ops listed d → ∃ g, u d = .pointer (some ⟨g, 0, none⟩) ∧ g < w.heap.size) ∧
  (∀ d ∈ al, ∀ d' ∈ al, d ≠ d' → Written ops listed d → Written ops listed d' → u d ≠ u d')
 cl : ∀ i, listed.getD i false = true → ∀ d ∈ pt.getD i [], Written ops listed d
 cs : ∀ j oj, ops[j]? = some oj → listed.getD j false = true → ∀ e ∈ oj.after, Region.binds .any e = true → listed.getD e.on false = true
 sz : listed.size = ops.size
theorem Written.more {listed : Array Bool} {d i : Nat} (h : Written ops listed d) : Written ops (listed.setIfInBounds i true) d := by
 obtain ⟨j, o', h1, h2, h3⟩ := h
 exact ⟨j, o', getD_set_true h1, h2, h3⟩
theorem getD_flag {listed : Array Bool} {i : Nat} (h : i < listed.size) : listed.getD i true = listed.getD i false := by simp [h]
structure Chk (al : List Nat) (ops : Array Oper) (pt : List (List Nat)) (ds st : List Nat) (js : List (List Nat)) (lm : List Nat) : Prop where
 edge : ∀ (i : Nat) (o : Oper), ops[i]? = some o → ∀ e ∈ o.after, Region.binds .any e = true → e.on < i
 dst : ∀ (i : Nat) (o : Oper), ops[i]? = some o → ∀ d, o.dst = some d → d ∈ ds
 need : ∀ (i : Nat) (o : Oper), ops[i]? = some o → ∀ d ∈ pt.getD i [], ∃ e ∈ o.after, Region.binds .any e = true ∧ ((∃ o' : Oper, ops[e.on]? = some o' ∧ o'.dst = some d) ∨ d ∈ pt.getD e.on [])
 once : ∀ (i j : Nat) (o o' : Oper) (d : Nat), ops[i]? = some o → ops[j]? = some o' → o.dst = some d → o'.dst = some d → i = j
 slt : ∀ m, m < st.length → st.getD m 0 < ops.size
 sdst : ∀ m, m < st.length → ∀ o : Oper, ops[st.getD m 0]? = some o → o.dst = none
 schain : ∀ m, 0 < m → m < st.length → Region.waitsFor .any ops (st.getD m 0) (st.getD (m - 1) 0) = true
 sjs : ∀ m, m < st.length → ∀ d ∈ js.getD (m + 1) [], d ∈ pt.getD (st.getD m 0) [] ∨ d ∈ js.getD m []
 lim : ∀ i, i < ops.size → lm.getD i st.length = st.length ∨ waits2 ops (st.getD (lm.getD i st.length) ops.size) i = true
 wr : ∀ d ∈ ds, ∃ (i : Nat) (o : Oper), ops[i]? = some o ∧ o.dst = some d
 js0 : js.getD 0 [] = []
 alw : ∀ d ∈ al, ∀ m, m < st.length → ∃ (i : Nat) (o : Oper), ops[i]? = some o ∧ o.dst = some d ∧ waits2 ops (st.getD m 0) i = true
 ald : ∀ d ∈ al, d ∈ ds
theorem chk_spec (h : chk al ops pt ds st js lm = true) : Chk al ops pt ds st js lm := by
 unfold chk at h
 simp only [Bool.and_eq_true] at h
 obtain ⟨⟨⟨⟨⟨⟨⟨⟨h8, h9⟩, h1⟩, h2⟩, h3⟩, h4⟩, h5⟩, h6⟩, h7⟩ := h
 have lt : ∀ (i : Nat) (o : Oper), ops[i]? = some o → i ∈ List.range ops.size := fun i o ho => List.mem_range.2 (Array.getElem?_eq_some_iff.1 ho).1
 constructor
 ·intro i o ho e he hb
  have h := List.all_eq_true.1 h1 i (lt i o ho)
  rw [ho] at h
  dsimp only at h
  rw [Array.all_eq_true_iff_forall_mem] at h
  have h := h e he
  rw [hb] at h
  simpa using h
 ·intro i o ho d hd
  have h := List.all_eq_true.1 h2 i (lt i o ho)
  rw [ho] at h
  dsimp only at h
  rw [hd] at h
  simp only [Bool.and_eq_true] at h
  simpa using h.1
 ·intro i o ho d hd
  have h := List.all_eq_true.1 h2 i (lt i o ho)
  rw [ho] at h
  simp only [Bool.and_eq_true] at h
  have h := List.all_eq_true.1 h.2 d hd
  rw [Array.any_eq_true] at h
  obtain ⟨k, hk, h⟩ := h
  rw [Bool.and_eq_true, Bool.or_eq_true] at h
  refine ⟨o.after[k], Array.getElem_mem _, h.1, ?_⟩
  rcases h.2 with h4 | h4
  ·left
   cases h5 : ops[(o.after[k]).on]? with
   | none => rw [h5] at h4; cases h4
   | some o' => rw [h5] at h4; exact ⟨o', rfl, by simpa using h4⟩
  ·right; simpa using h4
 ·intro i j o o' d ho ho' hd hd'
  have h := List.all_eq_true.1 (List.all_eq_true.1 h3 i (lt i o ho)) j (lt j o' ho')
  rw [ho, ho'] at h
  dsimp only at h
  rw [hd, hd'] at h
  simpa using h
 ·intro m hm
  have h := List.all_eq_true.1 h4 m (List.mem_range.2 hm)
  simp only [Bool.and_eq_true, decide_eq_true_eq] at h
  exact h.1.1.1
 ·intro m hm o ho
  have h := List.all_eq_true.1 h4 m (List.mem_range.2 hm)
  simp only [Bool.and_eq_true, decide_eq_true_eq] at h
  have h := h.1.1.2
  rw [ho] at h
  simpa using h
 ·intro m h0 hm
  have h := List.all_eq_true.1 h4 m (List.mem_range.2 hm)
  simp only [Bool.and_eq_true, decide_eq_true_eq, Bool.or_eq_true, Nat.beq_eq] at h
  rcases h.1.2 with h | h
  ·omega
  ·exact h
 ·intro m hm d hd
  have h := List.all_eq_true.1 h4 m (List.mem_range.2 hm)
  simp only [Bool.and_eq_true] at h
  have h := List.all_eq_true.1 h.2 d hd
  simpa using h
 ·intro i hi
  have h := List.all_eq_true.1 h5 i (List.mem_range.2 hi)
  simp only [Bool.or_eq_true, Nat.beq_eq] at h
  exact h
 ·intro d hd
  have h := List.all_eq_true.1 h6 d hd
  rw [Array.any_eq_true] at h
  obtain ⟨k, hk, h⟩ := h
  exact ⟨k, ops[k], by simp [hk], by simpa using h⟩
 ·simpa using h7
 ·intro d hd m hm
  have h := List.all_eq_true.1 (List.all_eq_true.1 h8 d hd) (st.getD m 0) (by simp [hm])
  obtain ⟨i, hi, h⟩ := List.any_eq_true.1 h
  rw [Bool.and_eq_true] at h
  cases ho : ops[i]? with
  | none => rw [ho] at h; cases h.1
  | some o => rw [ho] at h; exact ⟨i, o, ho, by simpa using h.1, h.2⟩
 ·intro d hd
  have h := List.all_eq_true.1 h9 d hd
  simpa using h
theorem inv_step (hc : Chk al ops pt ds st js lm) (hst : ∀ k l w w', Below w.heap.size w w' → J k l w → J k l w') (hs : StepsOk al P ops Q FL J js (fun u => fillL u ds t0) df pt st lm ops.toList 0) {listed : Array Bool} {a : Act} {w : World}
    (hI : Inv al ops FL J js t0 df ds pt st listed a w) {i : Nat} (hi : i ∈ Region.ready .any ops listed) :
    wpOp P ops Q i (Inv al ops FL J js t0 df ds pt st (listed.setIfInBounds i true)) a w := by
  obtain ⟨h0, o, ho, hall⟩ := mem_ready.1 hi
  have hlt : i < ops.size := (Array.getElem?_eq_some_iff.1 ho).1
  have hil : i < listed.size := by rw [hI.sz]; exact hlt
  have hun : listed.getD i false = false := by rw [← getD_flag hil]; exact h0
  obtain ⟨k, u, rfl, hfac, hJ, hk, hk1, hk2, hk3, hk4, hk5⟩ := hI.fr
  have hneed : ∀ d ∈ pt.getD i [], Written ops listed d := by
    intro d hd
    obtain ⟨e, he, hb, h1⟩ := hc.need i o ho d hd
    have h2 := hall e he hb
    rcases h1 with ⟨o', h3, h4⟩ | h3
    · exact ⟨e.on, o', h2, h3, h4⟩
    · exact hI.cl e.on h2 d h3
  have hstep := steps_at _ _ hs i o (by simpa using ho)
  rw [Nat.zero_add] at hstep
  have hcs : ∀ j oj, ops[j]? = some oj → (listed.setIfInBounds i true).getD j false = true → ∀ e ∈ oj.after, Region.binds .any e = true → (listed.setIfInBounds i true).getD e.on false = true := by
    intro j oj hj hl e he hb
    by_cases hij : i = j
    · subst hij
      have : oj = o := Option.some.inj (hj.symm.trans ho)
      subst this
      exact getD_set_true (hall e he hb)
    · rw [getD_set_ne false hij] at hl
      exact getD_set_true (hI.cs j oj hj hl e he hb)
  have hcl : ∀ j, (listed.setIfInBounds i true).getD j false = true → ∀ d ∈ pt.getD j [], Written ops (listed.setIfInBounds i true) d := by
    intro j hj d hd
    by_cases hij : i = j
    · subst hij; exact (hneed d hd).more
    · rw [getD_set_ne false hij] at hj
      exact (hI.cl j hj d hd).more
  have hwait : ∀ m, m < k → ∀ j, Region.waitsFor .any ops (st.getD m 0) j = true → listed.getD j false = true := by
    intro m hm j hw
    obtain ⟨oj, hoj, e, he, hb, hon⟩ := Region.waitsFor_spec hw
    rw [← hon]
    exact hI.cs _ oj hoj (hk1 m hm) e he hb
  have hwait2 : ∀ m, m < k → ∀ j, waits2 ops (st.getD m 0) j = true → listed.getD j false = true := by
    intro m hm j hw
    unfold waits2 at hw
    rw [Bool.or_eq_true] at hw
    rcases hw with hw | hw
    · exact hwait m hm j hw
    · obtain ⟨x, -, hx⟩ := List.any_eq_true.1 hw
      rw [Bool.and_eq_true] at hx
      obtain ⟨oj, hoj, e, he, hb, hon⟩ := Region.waitsFor_spec hx.2
      rw [← hon]
      exact hI.cs _ oj hoj (hwait m hm x hx.1) e he hb
  cases hsi : st.idxOf? i with
  | none =>
    rw [hsi] at hstep
    have hns : ∀ m, m < st.length → st.getD m 0 ≠ i := by
      intro m hm e
      have h1 : i ∈ st := by rw [← e]; simp [hm]
      have h2 := List.idxOf?_eq_none_iff.1 hsi
      exact h2 h1
    have hlim : k ≤ lm.getD i st.length := by
      rcases hc.lim i hlt with h1 | h1
      · omega
      · rcases Nat.lt_or_ge (lm.getD i st.length) k with h2 | h2
        · exfalso
          have h3 := hwait2 _ h2 i (by
            have e : st.getD (lm.getD i st.length) ops.size = st.getD (lm.getD i st.length) 0 := by
              have : lm.getD i st.length < st.length := by omega
              generalize lm.getD i st.length = z at *
              simp [this]
            rw [← e]; exact h1)
          rw [hun] at h3; cases h3
        · exact h2
    refine wpOp_step ho (fun K' hK => hstep k u w hlim hJ (facts_mk fun d hd => hfac d (hneed d hd)) K' ?_)
    intro v w' hb hf hao
    have hwi : ∀ d, Written ops (listed.setIfInBounds i true) d → o.dst = some d ∨ Written ops listed d := by
      rintro d ⟨j, o', h1, h2, h3⟩
      by_cases hij : i = j
      · subst hij
        rw [ho] at h2
        injection h2 with h2
        subst h2
        exact .inl h3
      · rw [getD_set_ne false hij] at h1
        exact .inr ⟨j, o', h1, h2, h3⟩
    have hnw : ∀ d, o.dst = some d → ¬ Written ops listed d := by
      rintro d hd ⟨j, o', h1, h2, h3⟩
      have := hc.once i j o o' d ho h2 hd h3
      subst this
      rw [hun] at h1; cases h1
    have hne : ∀ d, o.dst ≠ some d → upd u o.dst v d = u d := by
      intro d hd
      cases h : o.dst with
      | none => rfl
      | some d' => rw [h] at hd; simp only [upd]; rw [if_neg (fun h => hd (by rw [h]))]
    have hal : ∀ d ∈ al, o.dst = some d → v = .pointer (some ⟨w.heap.size, 0, none⟩) ∧ w.heap.size < w'.heap.size := by
      intro d hd h
      unfold aOk at hao
      rw [h] at hao
      dsimp only at hao
      rw [show al.contains d = true by simpa using hd] at hao
      exact hao
    refine hK _ _ ⟨⟨k, upd u o.dst v, put_fill u o v (hc.dst i o ho), ?_, ?_, hk, fun m hm => getD_set_true (hk1 m hm), fun m hm hm' => ?_, fun d hd => (hk3 d hd).more, fun d hd hw => ?_, fun d hd d' hd' hdd hw hw' => ?_⟩, hcl, hcs, by simpa using hI.sz⟩
    · rintro d ⟨j, o', h1, h2, h3⟩
      by_cases hd : o.dst = some d
      · rw [hd] at hf ⊢
        have e : upd u (some d) v d = v := by simp [upd]
        rw [e]; exact hf
      · have hw : Written ops listed d := by
          by_cases hij : i = j
          · subst hij
            rw [ho] at h2
            injection h2 with h2
            subst h2
            exact absurd h3 hd
          · rw [getD_set_ne false hij] at h1
            exact ⟨j, o', h1, h2, h3⟩
        have e : upd u o.dst v d = u d := by
          cases h : o.dst with
          | none => rfl
          | some d' => rw [h] at hd; simp only [upd]; rw [if_neg (fun h => hd (by rw [h]))]
        rw [e]
        exact (look FL d).st _ _ _ (Keep.ofBelow hb) (hfac d hw)
    · have e : (js.getD k []).map (upd u o.dst v) = (js.getD k []).map u := by
        apply List.map_congr_left
        intro d hd
        cases h : o.dst with
        | none => rfl
        | some d' =>
          simp only [upd]
          rw [if_neg]
          rintro rfl
          obtain ⟨j, o', h1, h2, h3⟩ := hk3 d hd
          have := hc.once i j o o' d ho h2 h h3
          subst this
          rw [hun] at h1; cases h1
      rw [e]
      exact hst _ _ _ _ hb hJ
    · rw [getD_set_ne false (Ne.symm (hns m hm'))]; exact hk2 m hm hm'
    · by_cases h : o.dst = some d
      · obtain ⟨h1, h2⟩ := hal d hd h
        exact ⟨w.heap.size, by rw [h]; simp [upd, h1], h2⟩
      · rcases hwi d hw with h1 | h1
        · exact absurd h1 h
        · obtain ⟨g, h2, h3⟩ := hk4 d hd h1
          exact ⟨g, by rw [hne d h]; exact h2, Nat.lt_of_lt_of_le h3 hb.size⟩
    · by_cases h : o.dst = some d
      · have h' : o.dst ≠ some d' := fun h2 => hdd (by rw [h] at h2; injection h2)
        rcases hwi d' hw' with h1 | h1
        · exact absurd h1 h'
        · obtain ⟨g, h2, h3⟩ := hk4 d' hd' h1
          rw [hne d' h', h2, h]
          simp only [upd, if_pos]
          rw [(hal d hd h).1]
          intro he
          simp at he <;> omega
      · rcases hwi d hw with h1 | h1
        · exact absurd h1 h
        · by_cases h' : o.dst = some d'
          · obtain ⟨g, h2, h3⟩ := hk4 d hd h1
            rw [hne d h, h2, h']
            simp only [upd, if_pos]
            rw [(hal d' hd' h').1]
            intro he
            simp at he <;> omega
          · rcases hwi d' hw' with h2 | h2
            · exact absurd h2 h'
            · rw [hne d h, hne d' h']; exact hk5 d hd d' hd' hdd h1 h2
  | some m =>
    rw [hsi] at hstep
    obtain ⟨hm, hmi, -⟩ := List.idxOf?_eq_some_iff.1 hsi
    have hmi' : st.getD m 0 = i := by simp [hm]; exact hmi
    have hmk : m = k := by
      rcases Nat.lt_trichotomy m k with h1 | h1 | h1
      · have := hk1 m h1; rw [hmi', hun] at this; cases this
      · exact h1
      · exfalso
        have h2 := hc.schain m (by omega) hm
        rw [hmi'] at h2
        obtain ⟨oj, hoj, e, he, hb, hon⟩ := Region.waitsFor_spec h2
        have : oj = o := Option.some.inj (hoj.symm.trans ho)
        subst this
        have h3 := hall e he hb
        rw [hon, hk2 (m - 1) (by omega) (by omega)] at h3
        cases h3
    subst hmk
    have hdn : o.dst = none := hc.sdst m hm o (by rw [hmi']; exact ho)
    have hwal : ∀ d ∈ al, Written ops listed d := by
      intro d hd
      obtain ⟨j, o', h1, h2, h3⟩ := hc.alw d hd m hm
      rw [hmi'] at h3
      refine ⟨j, o', ?_, h1, h2⟩
      unfold waits2 at h3
      rw [Bool.or_eq_true] at h3
      rcases h3 with h3 | h3
      · obtain ⟨oj, hoj, e, he, hb, hon⟩ := Region.waitsFor_spec h3
        have : oj = o := Option.some.inj (hoj.symm.trans ho)
        subst this
        rw [← hon]; exact hall e he hb
      · obtain ⟨x, -, hx⟩ := List.any_eq_true.1 h3
        rw [Bool.and_eq_true] at hx
        obtain ⟨oj, hoj, e, he, hb, hon⟩ := Region.waitsFor_spec hx.1
        have : oj = o := Option.some.inj (hoj.symm.trans ho)
        subst this
        have h4 := hall e he hb
        rw [hon] at h4
        obtain ⟨oj2, hoj2, e2, he2, hb2, hon2⟩ := Region.waitsFor_spec hx.2
        rw [← hon2]
        exact hI.cs _ oj2 hoj2 h4 e2 he2 hb2
    refine wpOp_step ho (fun K' hK => hstep u w hJ (fun d hd d' hd' hdd => hk5 d hd d' hd' hdd (hwal d hd) (hwal d' hd')) (facts_mk fun d hd => hfac d (hneed d hd)) K' ?_)
    intro v w' hJ' hb
    refine hK _ _ ⟨⟨m + 1, u, by rw [hdn]; rfl, ?_, hJ', hm, fun j hj => ?_, fun j hj hj' => ?_, fun d hd => ?_, fun d hd hw => ?_, fun d hd d' hd' hdd hw hw' => hk5 d hd d' hd' hdd (hwal d hd) (hwal d' hd')⟩, hcl, hcs, by simpa using hI.sz⟩
    · rintro d ⟨j, o', h1, h2, h3⟩
      have hij : i ≠ j := by
        rintro rfl
        rw [ho] at h2
        injection h2 with h2
        subst h2
        rw [hdn] at h3; cases h3
      rw [getD_set_ne false hij] at h1
      exact (look FL d).st _ _ _ hb (hfac d ⟨j, o', h1, h2, h3⟩)
    · by_cases h1 : j = m
      · subst h1; rw [hmi']; simp [hil]
      · exact getD_set_true (hk1 j (by omega))
    · have h1 := hk2 j (by omega) hj'
      by_cases h2 : st.getD j 0 = i
      · exfalso
        have h3 : ∀ n, m ≤ n → n < st.length → i ≤ st.getD n 0 ∧ (m < n → i < st.getD n 0) := by
          intro n
          induction n with
          | zero => intro h4 h5; exact ⟨by have : m = 0 := by omega
                                           subst this; rw [hmi']; exact Nat.le_refl _, fun h => by omega⟩
          | succ n ih =>
            intro h4 h5
            by_cases h6 : m = n + 1
            · subst h6; exact ⟨by rw [hmi']; exact Nat.le_refl _, fun h => by omega⟩
            · have h7 := ih (by omega) (by omega)
              have h8 := hc.schain (n + 1) (by omega) h5
              obtain ⟨oj, hoj, e, he, hb', hon⟩ := Region.waitsFor_spec h8
              have h9 := hc.edge _ oj hoj e he hb'
              rw [hon, Nat.add_sub_cancel] at h9
              exact ⟨by omega, fun _ => by omega⟩
        have := (h3 j (by omega) hj').2 (by omega)
        omega
      · rw [getD_set_ne false (Ne.symm h2)]; exact h1
    · rcases hc.sjs m hm d hd with h1 | h1
      · rw [hmi'] at h1; exact (hneed d h1).more
      · exact (hk3 d h1).more
    · obtain ⟨g, h1, h2⟩ := hk4 d hd (hwal d hd)
      exact ⟨g, h1, Nat.lt_of_lt_of_le h2 hb.size⟩
theorem ready_nil_all (hc : Chk al ops pt ds st js lm) {listed : Array Bool} (hsz : listed.size = ops.size) (hr : Region.ready .any ops listed = []) : ∀ n i, i < n → i < ops.size → listed.getD i false = true := by
 intro n
 induction n with
 | zero => intro i h; omega
 | succ n ih =>
  intro i hin hi
  have hil : i < listed.size := by omega
  cases hv : listed.getD i false with
  | true => rfl
  | false =>
   exfalso
   have ho : ops[i]? = some ops[i] := by simp [hi]
   have : i ∈ Region.ready .any ops listed := by
    rw [mem_ready]
    refine ⟨by simp [hil] at hv ⊢; exact hv, _, ho, fun e he hb => ?_⟩
    have h1 := hc.edge i _ ho e he hb
    exact ih e.on (by omega) (by omega)
   rw [hr] at this
   cases this
theorem wpAny_inv (hc : Chk al ops pt ds st js lm) (hst : ∀ k l w w', Below w.heap.size w w' → J k l w → J k l w') (hs : StepsOk al P ops Q FL J js (fun u => fillL u ds t0) df pt st lm ops.toList 0)
  (hend : ∀ u w, J st.length ((js.getD st.length []).map u) w → Facts FL u w ds → Q .normal ⟨fillL u ds t0, df⟩ w) :
  ∀ (fuel : Nat) (listed : Array Bool) (a : Act) (w : World), ((List.range ops.size).filter fun j => !listed.getD j true).length ≤ fuel → Inv al ops FL J js t0 df ds pt st listed a w → wpAny P .any ops Q fuel listed a w := by
 have hfin : ∀ (listed : Array Bool) (a : Act) (w : World), Inv al ops FL J js t0 df ds pt st listed a w → Region.ready .any ops listed = [] → Q .normal a w := by
  intro listed a w hI hr
  obtain ⟨k, u, rfl, hfac, hJ, hk, hk1, hk2, hk3, hk4, hk5⟩ := hI.fr
  have hall := ready_nil_all hc hI.sz hr
  have hkl : k = st.length := by
   rcases Nat.lt_or_ge k st.length with h | h
   ·have h1 := hk2 k (Nat.le_refl _) h
    rw [hall (st.getD k 0 + 1) _ (by omega) (hc.slt k h)] at h1
    cases h1
   ·omega
  subst hkl
  refine hend u w hJ (facts_mk fun d hd => hfac d ?_)
  obtain ⟨i, o, h1, h2⟩ := hc.wr d hd
  exact ⟨i, o, hall (i + 1) i (by omega) (Array.getElem?_eq_some_iff.1 h1).1, h1, h2⟩
 intro fuel
 induction fuel with
 | zero =>
  intro listed a w hcnt hI
  have hr : Region.ready .any ops listed = [] := by
   rw [List.eq_nil_iff_forall_not_mem]
   intro j hj
   obtain ⟨h0, o, ho, -⟩ := mem_ready.1 hj
   have hlt : j < ops.size := (Array.getElem?_eq_some_iff.1 ho).1
   have hm : j ∈ (List.range ops.size).filter fun j => !listed.getD j true := by
    rw [List.mem_filter]
    exact ⟨List.mem_range.2 hlt, by rw [h0]; rfl⟩
   have := List.length_pos_of_mem hm
   omega
  exact ⟨hr, hfin _ _ _ hI hr⟩
 | succ fuel ih =>
  intro listed a w hcnt hI
  refine ⟨fun hr => hfin _ _ _ hI hr, fun i hi => ?_⟩
  obtain ⟨h0, o, ho, -⟩ := mem_ready.1 hi
  have hlt : i < ops.size := (Array.getElem?_eq_some_iff.1 ho).1
  refine wpOp_mono (fun a' w' hI' => ih _ a' w' ?_ hI') (inv_step hc hst hs hI hi)
  have := filter_less (p := fun j => !listed.getD j true) (q := fun j => !(listed.setIfInBounds i true).getD j true) (i := i) (by simp only [h0]; rfl) (by
   have hil : i < listed.size := by rw [hI.sz]; exact hlt
   simp [hil]) (fun j hj => by
   by_cases hij : i = j
   ·subst hij
    exfalso
    have hil : i < listed.size := by rw [hI.sz]; exact hlt
    simp [hil] at hj
   ·rw [getD_set_ne true hij] at hj; exact hj) (List.range ops.size) (List.mem_range.2 hlt)
  omega
theorem region_facts {id : Nat} {w : World} {opl : List Oper} (FL : List (Nat × Fact)) (J : Nat → List Value → World → Prop) (pt : List (List Nat)) (st : List Nat) (js : List (List Nat)) (lm : List Nat) (al : List Nat) {fr : (Nat → Value) → Array Value} (hfr : ∀ u, fillL u (temps FL) t0 = fr u)
  (hm : P.follows .mixedOrders = true) (hchk : chk al opl.toArray pt (temps FL) st js lm = true) (hst : ∀ k l w w', Below w.heap.size w w' → J k l w → J k l w') (hJ : J 0 [] w.drew)
  (hs : StepsOk al P opl.toArray Q FL J js fr df pt st lm opl 0)
  (hend : ∀ u w, J st.length ((js.getD st.length []).map u) w → Facts FL u w (temps FL) → Q .normal ⟨fr u, df⟩ w) : (Code.region id opl.toArray true).wp P Q ⟨t0, df⟩ w := by
 obtain rfl : (fun u => fillL u (temps FL) t0) = fr := funext hfr
 have hc := chk_spec hchk
 refine wp_region_any hm (wpAny_inv (t0 := t0) hc hst hs hend opl.toArray.size _ _ _ ?_ ⟨⟨0, fun d => t0.getD d undef, by rw [fillL_self], ?_, by rw [hc.js0]; exact hJ, Nat.zero_le _, fun m h => by omega, fun m _ _ => none_listed _ _, fun d hd => (by rw [hc.js0] at hd; cases hd), fun d _ hw => (by obtain ⟨j, o', h1, _, _⟩ := hw; rw [none_listed] at h1; cases h1), fun d _ d' _ _ hw => by obtain ⟨j, o', h1, _, _⟩ := hw; rw [none_listed] at h1; cases h1⟩, ?_, ?_, by simp⟩)
 ·exact Nat.le_trans (List.length_filter_le _ _) (by simp)
 ·rintro d ⟨j, o', h1, -, -⟩
  rw [none_listed] at h1; cases h1
 ·intro i hi
  rw [none_listed] at hi; cases hi
 ·intro j oj _ hl
  rw [none_listed] at hl; cases hl
end
end Go.Proofs.YtodapfhnbgoanaaGreatDoor.AS
namespace Go.Proofs.YtodapfhnbgoanaaGreatDoor
open Go.Lib (decDigits)
def valB (b : Nat) : List Nat → Nat
 | [] => 0
 | d :: r => d + b * valB b r
theorem valB_append (b : Nat) (l m : List Nat) : valB b (l ++ m) = valB b l + b ^ l.length * valB b m := by
 induction l with
 | nil => simp [valB]
 | cons d r ih =>
  simp only [List.cons_append, valB, ih, List.length_cons, Nat.pow_succ, Nat.mul_add]
  rw [Nat.add_assoc, ← Nat.mul_assoc, Nat.mul_comm (b ^ r.length) b]
theorem valB_lt {b : Nat} {l : List Nat} (h : ∀ d ∈ l, d < b) : valB b l < b ^ l.length := by
 induction l with
 | nil => simp [valB]
 | cons d r ih =>
  have h1 := h d (by simp)
  have h2 := ih fun x hx => h x (by simp [hx])
  simp only [valB, List.length_cons, Nat.pow_succ]
  have h3 : b * (valB b r + 1) ≤ b * b ^ r.length := Nat.mul_le_mul_left b h2
  rw [Nat.mul_add] at h3
  rw [Nat.mul_comm (b ^ r.length)]
  omega
theorem valB_zeros (b n : Nat) : valB b (List.replicate n 0) = 0 := by
 induction n with
 | zero => rfl
 | succ n ih => simp [List.replicate_succ, valB, ih]
theorem valB_drop (b : Nat) (L : List Nat) (k : Nat) (h : k < L.length) : valB b (L.drop k) = nth L k + b * valB b (L.drop (k + 1)) := by
 rw [List.drop_eq_getElem_cons h, valB, nth_lt h]
def padk : Nat → Nat → List UInt8
 | 0, _ => []
 | k + 1, r => padk k (r / 10) ++ [UInt8.ofNat (48 + r % 10)]
theorem padk_length (k r : Nat) : (padk k r).length = k := by
 induction k generalizing r with
 | zero => rfl
 | succ k ih => simp [padk, ih]
theorem dec_pad (k q r : Nat) (hq : 0 < q) (hr : r < 10 ^ k) : decDigits (q * 10 ^ k + r) = decDigits q ++ padk k r := by
 induction k generalizing r with
 | zero => simp at hr; subst hr; simp [padk]
 | succ k ih =>
  have e : q * 10 ^ (k + 1) = 10 * (q * 10 ^ k) := by rw [Nat.pow_succ]; rw [← Nat.mul_assoc, Nat.mul_comm]
  have hp : 0 < 10 ^ k := Nat.pow_pos (by omega)
  have hge : 1 ≤ q * 10 ^ k := Nat.mul_pos hq hp
  rw [decDigits, dif_neg (by omega), e]
  have e1 : (10 * (q * 10 ^ k) + r) / 10 = q * 10 ^ k + r / 10 := by omega
  have e2 : (10 * (q * 10 ^ k) + r) % 10 = r % 10 := by omega
  rw [Nat.pow_succ] at hr
  rw [e1, e2, ih (r / 10) (by omega), padk, List.append_assoc]
def lowPads (p : Nat) : List Nat → List UInt8
 | [] => []
 | d :: r => lowPads p r ++ padk p d
theorem lowPads_length (p : Nat) (l : List Nat) : (lowPads p l).length = p * l.length := by
 induction l with
 | nil => rfl
 | cons d r ih => simp [lowPads, ih, padk_length, Nat.mul_add]
theorem valB_pos (b : Nat) (l : List Nat) (top : Nat) (ht : 0 < top) (hb : 0 < b) : 0 < valB b (l ++ [top]) := by
 rw [valB_append]
 have : 0 < b ^ l.length * valB b [top] := Nat.mul_pos (Nat.pow_pos hb) (by simp [valB, ht])
 omega
theorem dec_limbs (p : Nat) (l : List Nat) (top : Nat) (ht : 0 < top) (hl : ∀ d ∈ l, d < 10 ^ p) : decDigits (valB (10 ^ p) (l ++ [top])) = decDigits top ++ lowPads p l := by
 induction l with
 | nil => simp [valB, lowPads]
 | cons d r ih =>
  have h1 : d < 10 ^ p := hl d (by simp)
  have h2 := ih fun x hx => hl x (by simp [hx])
  have hv := valB_pos (10 ^ p) r top ht (Nat.pow_pos (by omega))
  simp only [List.cons_append, valB, lowPads]
  rw [Nat.add_comm, Nat.mul_comm, dec_pad p _ d hv h1, h2, List.append_assoc]
def numOf (l : List UInt8) : Nat := l.foldl (fun n c => 10 * n + (c.toNat - 48)) 0
theorem numOf_snoc (l : List UInt8) (c : UInt8) : numOf (l ++ [c]) = 10 * numOf l + (c.toNat - 48) := by simp [numOf]
def isDig (c : UInt8) : Bool := decide (48 ≤ c.toNat) && decide (c.toNat ≤ 57)
theorem isDig_iff {c : UInt8} : isDig c = true ↔ 48 ≤ c.toNat ∧ c.toNat ≤ 57 := by simp [isDig]
def okNum (l : List UInt8) : Bool := l.all isDig && (l == [48] || (l.length != 0 && l.head? != some 48))
theorem numOf_pos {l : List UInt8} (hd : ∀ c ∈ l, isDig c = true) (h0 : l ≠ []) (h : l.head? ≠ some 48) : 0 < numOf l := by
 match l, h0, h, hd with
 | c :: r, _, h, hd =>
  clear h0
  have hc := isDig_iff.1 (hd c (by simp))
  have h48 : c.toNat ≠ 48 := fun e => h (by
   have : c = 48 := by apply UInt8.toNat_inj.1; rw [e]; rfl
   simp [this])
  have key : ∀ (r : List UInt8) (n : Nat), 0 < n → 0 < r.foldl (fun n c => 10 * n + (c.toNat - 48)) n := by
   intro r
   induction r with
   | nil => intro n hn; exact hn
   | cons d s ih => intro n hn; exact ih _ (by show 0 < 10 * n + _; omega)
  exact key r _ (by show 0 < 10 * 0 + _; omega)
theorem dec_small {d : Nat} (h : d < 10) : decDigits d = [UInt8.ofNat (48 + d)] := by rw [decDigits, dif_pos h]
theorem dec_numOf (l : List UInt8) (hd : ∀ c ∈ l, isDig c = true) (h0 : l ≠ []) (h : l = [48] ∨ l.head? ≠ some 48) : decDigits (numOf l) = l := by
 suffices H : ∀ (n : Nat) (l : List UInt8), l.length = n → (∀ c ∈ l, isDig c = true) → l ≠ [] → (l.length = 1 ∨ l.head? ≠ some 48) → decDigits (numOf l) = l by
  refine H _ l rfl hd h0 ?_
  rcases h with h | h
  ·left; simp [h]
  ·right; exact h
 intro n
 induction n with
 | zero => intro l hl _ h0; exact absurd (List.eq_nil_of_length_eq_zero hl) h0
 | succ n ih =>
  intro l hl hd h0 h
  obtain ⟨i, c, rfl⟩ : ∃ i c, l = i ++ [c] := ⟨l.dropLast, l.getLast h0, (List.dropLast_concat_getLast h0).symm⟩
  have hc := isDig_iff.1 (hd c (by simp))
  have ec : UInt8.ofNat (48 + (c.toNat - 48)) = c := by
   rw [show 48 + (c.toNat - 48) = c.toNat by omega]; simp
  rw [numOf_snoc]
  by_cases hi : i = []
  ·subst hi
   show decDigits (10 * 0 + _) = _
   rw [dec_small (by omega), Nat.mul_zero, Nat.zero_add, ec]; rfl
  ·have hh : (i ++ [c]).head? = i.head? := by cases i with | nil => exact absurd rfl hi | cons a b => rfl
   have hl1 : (i ++ [c]).length ≠ 1 := by cases i with | nil => exact absurd rfl hi | cons a b => simp
   have h' : i.head? ≠ some 48 := by rcases h with h | h; exact absurd h hl1; rwa [hh] at h
   have hdi : ∀ x ∈ i, isDig x = true := fun x hx => hd x (by simp [hx])
   have hp := numOf_pos hdi hi h'
   have := dec_pad 1 (numOf i) (c.toNat - 48) hp (by omega)
   rw [show 10 * numOf i = numOf i * 10 ^ 1 by omega, this, ih i (by simpa using hl) hdi hi (.inr h')]
   have e2 : (c.toNat - 48) % 10 = c.toNat - 48 := by omega
   simp [padk, e2, ec]
def Lim (L : List Nat) : Prop := ∀ d ∈ L, d < 1000000000
theorem Lim.nth {L : List Nat} (h : Lim L) (k : Nat) : nth L k < 1000000000 := nth_all h (by omega) k
theorem Lim.set {L : List Nat} (h : Lim L) (i : Nat) {x : Nat} (hx : x < 1000000000) : Lim (L.set i x) := fun d hd => by
 rcases List.mem_or_eq_of_mem_set hd with h1 | h1
 ·exact h d h1
 ·omega
theorem Lim.take {L : List Nat} (h : Lim L) (n : Nat) : Lim (L.take n) := fun d hd => h d (List.mem_of_mem_take hd)
def addSt (o : Nat) (B M : List Nat) : Nat → List Nat × Nat
 | 0 => (M, 0)
 | k + 1 => ((addSt o B M k).1.set (o + k) ((nth (addSt o B M k).1 (o + k) + (addSt o B M k).2 + nth B k) % 1000000000),
   (nth (addSt o B M k).1 (o + k) + (addSt o B M k).2 + nth B k) / 1000000000)
theorem addSt_succ (o : Nat) (B M : List Nat) (k : Nat) : addSt o B M (k + 1) = ((addSt o B M k).1.set (o + k) ((nth (addSt o B M k).1 (o + k) + (addSt o B M k).2 + nth B k) % 1000000000),
      (nth (addSt o B M k).1 (o + k) + (addSt o B M k).2 + nth B k) / 1000000000) := rfl
theorem addSt_ok {o : Nat} {B M : List Nat} (hB : Lim B) (hM : Lim M) (k : Nat) :
  Lim (addSt o B M k).1 ∧ (addSt o B M k).2 ≤ 1 ∧ (addSt o B M k).1.length = M.length := by
 induction k with
 | zero => exact ⟨hM, by simp [addSt], rfl⟩
 | succ k ih =>
  obtain ⟨h1, h2, h3⟩ := ih
  refine ⟨h1.set _ (Nat.mod_lt _ (by omega)), ?_, by simp [addSt, h3]⟩
  have a := h1.nth (o + k)
  have b := hB.nth k
  simp only [addSt]
  omega
def subSt (B M : List Nat) : Nat → List Nat × Nat
 | 0 => (M, 0)
 | k + 1 => if nth (subSt B M k).1 k < (subSt B M k).2 + nth B k
   then ((subSt B M k).1.set k (nth (subSt B M k).1 k + 1000000000 - ((subSt B M k).2 + nth B k)), 1)
   else ((subSt B M k).1.set k (nth (subSt B M k).1 k - ((subSt B M k).2 + nth B k)), 0)
theorem subSt_succ (B M : List Nat) (k : Nat) : subSt B M (k + 1) = if nth (subSt B M k).1 k < (subSt B M k).2 + nth B k
      then ((subSt B M k).1.set k (nth (subSt B M k).1 k + 1000000000 - ((subSt B M k).2 + nth B k)), 1)
      else ((subSt B M k).1.set k (nth (subSt B M k).1 k - ((subSt B M k).2 + nth B k)), 0) := rfl
theorem subSt_ok {B M : List Nat} (hB : Lim B) (hM : Lim M) (k : Nat) :
  Lim (subSt B M k).1 ∧ (subSt B M k).2 ≤ 1 ∧ (subSt B M k).1.length = M.length := by
 induction k with
 | zero => exact ⟨hM, by simp [subSt], rfl⟩
 | succ k ih =>
  obtain ⟨h1, h2, h3⟩ := ih
  have a := h1.nth k
  have b := hB.nth k
  rw [subSt_succ]
  split
  ·exact ⟨h1.set _ (by omega), by simp, by simp [h3]⟩
  ·exact ⟨h1.set _ (by omega), by simp, by simp [h3]⟩
def mulRow (x o : Nat) (B M : List Nat) : Nat → List Nat × Nat
 | 0 => (M, 0)
 | j + 1 => ((mulRow x o B M j).1.set (o + j) ((x * nth B j + nth (mulRow x o B M j).1 (o + j) + (mulRow x o B M j).2) % 1000000000),
   (x * nth B j + nth (mulRow x o B M j).1 (o + j) + (mulRow x o B M j).2) / 1000000000)
theorem mulRow_succ (x o : Nat) (B M : List Nat) (j : Nat) : mulRow x o B M (j + 1) =
  ((mulRow x o B M j).1.set (o + j) ((x * nth B j + nth (mulRow x o B M j).1 (o + j) + (mulRow x o B M j).2) % 1000000000),
   (x * nth B j + nth (mulRow x o B M j).1 (o + j) + (mulRow x o B M j).2) / 1000000000) := rfl
theorem mul_lt_lim {x y : Nat} (hx : x < 1000000000) (hy : y < 1000000000) : x * y ≤ 999999998000000001 := by
 have : x * y ≤ 999999999 * 999999999 := Nat.mul_le_mul (by omega) (by omega)
 omega
theorem mul_lt_limI {x y : Nat} (hx : x < 1000000000) (hy : y < 1000000000) : (x : Int) * (y : Int) ≤ 999999998000000001 := by
 have h := mul_lt_lim hx hy
 have e : ((x * y : Nat) : Int) = (x : Int) * (y : Int) := by simp
 omega
theorem mul_nonnegI (x y : Nat) : 0 ≤ (x : Int) * (y : Int) := by
 have e : ((x * y : Nat) : Int) = (x : Int) * (y : Int) := by simp
 omega
theorem mulRow_ok {x o : Nat} {B M : List Nat} (hx : x < 1000000000) (hB : Lim B) (hM : Lim M) (j : Nat) :
  Lim (mulRow x o B M j).1 ∧ (mulRow x o B M j).2 < 1000000000 ∧ (mulRow x o B M j).1.length = M.length := by
 induction j with
 | zero => exact ⟨hM, by simp [mulRow], rfl⟩
 | succ j ih =>
  obtain ⟨h1, h2, h3⟩ := ih
  have a := h1.nth (o + j)
  have b := mul_lt_lim hx (hB.nth j)
  rw [mulRow_succ]
  exact ⟨h1.set _ (Nat.mod_lt _ (by omega)), by show _ / _ < _; omega, by simp [h3]⟩
def mulSt (A B M : List Nat) : Nat → List Nat
 | 0 => M
 | i + 1 => (mulRow (nth A i) i B (mulSt A B M i) B.length).1.set (i + B.length) (mulRow (nth A i) i B (mulSt A B M i) B.length).2
theorem mulSt_succ (A B M : List Nat) (i : Nat) : mulSt A B M (i + 1) =
  (mulRow (nth A i) i B (mulSt A B M i) B.length).1.set (i + B.length) (mulRow (nth A i) i B (mulSt A B M i) B.length).2 := rfl
theorem mulSt_ok {A B M : List Nat} (hA : Lim A) (hB : Lim B) (hM : Lim M) (i : Nat) : Lim (mulSt A B M i) ∧ (mulSt A B M i).length = M.length := by
 induction i with
 | zero => exact ⟨hM, rfl⟩
 | succ i ih =>
  obtain ⟨a, b, c⟩ := mulRow_ok (o := i) (hA.nth i) hB ih.1 B.length
  rw [mulSt_succ]
  exact ⟨a.set _ b, by simp [c, ih.2]⟩
def digAt (s : List UInt8) (i : Nat) : Nat := (s.getD i 0).toNat - 48
def rdSt (s : List UInt8) (M : List Nat) : Nat → List Nat
 | 0 => M
 | i + 1 => (rdSt s M i).set ((s.length - 1 - i) / 9) (nth (rdSt s M i) ((s.length - 1 - i) / 9) * 10 + digAt s i)
theorem rdSt_succ (s : List UInt8) (M : List Nat) (i : Nat) : rdSt s M (i + 1) = (rdSt s M i).set ((s.length - 1 - i) / 9) (nth (rdSt s M i) ((s.length - 1 - i) / 9) * 10 + digAt s i) := rfl
theorem nth_set_eq {L : List Nat} {i x : Nat} (h : i < L.length) : nth (L.set i x) i = x := by simp [nth, h]
theorem nth_set_ne {L : List Nat} {i j x : Nat} (h : i ≠ j) : nth (L.set i x) j = nth L j := by simp [nth, List.getElem?_set_ne h]
theorem drop_set_low {L : List Nat} {i k x : Nat} (h : i < k) : (L.set i x).drop k = L.drop k := by rw [List.drop_set]; simp [h]
theorem nth_zeros (n k : Nat) : nth (List.replicate n 0) k = 0 := by
 simp only [nth, List.getD_eq_getElem?_getD, List.getElem?_replicate]
 split <;> simp
structure RdInv (n m i N : Nat) (M : List Nat) : Prop where
 len : M.length = m
 low : ∀ j, j < (n - i) / 9 → nth M j = 0
 cur : nth M ((n - i) / 9) < 10 ^ (9 - (n - i) % 9)
 lim : Lim M
 val : N = valB 1000000000 (M.drop ((n - i) / 9 + 1)) * 10 ^ (9 - (n - i) % 9) + nth M ((n - i) / 9)
theorem digAt_lt {s : List UInt8} {i : Nat} (hd : ∀ c ∈ s, isDig c = true) (hi : i < s.length) : digAt s i < 10 := by
 have := isDig_iff.1 (hd s[i] (List.getElem_mem hi))
 simp only [digAt, List.getD_eq_getElem?_getD, List.getElem?_eq_getElem hi, Option.getD_some]
 omega
theorem numOf_take {s : List UInt8} {i : Nat} (hi : i < s.length) : numOf (s.take (i + 1)) = 10 * numOf (s.take i) + digAt s i := by
 rw [List.take_succ_eq_append_getElem hi, numOf_snoc]
 simp [digAt, hi]
theorem rd_step {n m i N d : Nat} {M : List Nat} (hm : m = (n + 8) / 9) (hi : i < n) (hd : d < 10) (h : RdInv n m i N M) :
  RdInv n m (i + 1) (10 * N + d) (M.set ((n - 1 - i) / 9) (nth M ((n - 1 - i) / 9) * 10 + d)) := by
  obtain ⟨h1, h2, h3, h4, h5⟩ := h
  subst h5
  have hdig := hd
  have eS : n - 1 - i = (n - i) - 1 := by omega
  rw [eS]
  suffices H : ∀ R, R = n - (i + 1) → RdInv n m (n - R) _ (M.set ((n - i - 1) / 9) (nth M ((n - i - 1) / 9) * 10 + d)) by
   have := H _ rfl
   rwa [show n - (n - (i + 1)) = i + 1 by omega] at this
  intro R0 hR0
  have hRR : n - (n - R0) = n - i - 1 := by omega
  have hRn : n - i ≤ n := by omega
  have hR1 : 1 ≤ n - i := by omega
  suffices H : (M.set ((n - i - 1) / 9) (nth M ((n - i - 1) / 9) * 10 + d)).length = m ∧ (∀ j, j < (n - i - 1) / 9 → nth (M.set ((n - i - 1) / 9) (nth M ((n - i - 1) / 9) * 10 + d)) j = 0) ∧
    nth (M.set ((n - i - 1) / 9) (nth M ((n - i - 1) / 9) * 10 + d)) ((n - i - 1) / 9) < 10 ^ (9 - (n - i - 1) % 9) ∧ Lim (M.set ((n - i - 1) / 9) (nth M ((n - i - 1) / 9) * 10 + d)) ∧
    10 * (valB 1000000000 (M.drop ((n - i) / 9 + 1)) * 10 ^ (9 - (n - i) % 9) + nth M ((n - i) / 9)) + d =
     valB 1000000000 ((M.set ((n - i - 1) / 9) (nth M ((n - i - 1) / 9) * 10 + d)).drop ((n - i - 1) / 9 + 1)) * 10 ^ (9 - (n - i - 1) % 9) + nth (M.set ((n - i - 1) / 9) (nth M ((n - i - 1) / 9) * 10 + d)) ((n - i - 1) / 9) by
   exact ⟨H.1, by rw [hRR]; exact H.2.1, by rw [hRR]; exact H.2.2.1, H.2.2.2.1, by rw [hRR]; exact H.2.2.2.2⟩
  clear hRR hR0 R0 eS hi
  generalize n - i = R at *
  by_cases hc : R % 9 = 0
  ·obtain ⟨k, rfl⟩ : ∃ k, R = 9 * (k + 1) := ⟨R / 9 - 1, by omega⟩
   have e1 : (9 * (k + 1) - 1) / 9 = k := by omega
   have e2 : (9 * (k + 1) - 1) % 9 = 8 := by omega
   have e3 : 9 * (k + 1) / 9 = k + 1 := by omega
   have e4 : 9 * (k + 1) % 9 = 0 := by omega
   rw [e3] at h2 h3
   rw [e4] at h3
   rw [e1, e2, e3, e4]
   have hz : nth M k = 0 := h2 k (by omega)
   have hk : k < M.length := by omega
   rw [hz]
   refine ⟨by simp [h1], ?_, ?_, ?_, ?_⟩
   ·intro j hj; rw [nth_set_ne (by omega)]; exact h2 j (by omega)
   ·rw [nth_set_eq hk]; omega
   ·exact h4.set _ (by omega)
   ·rw [nth_set_eq hk, drop_set_low (by omega)]
    rcases Nat.lt_or_ge (k + 1) M.length with hl | hl
    ·rw [valB_drop _ _ _ hl]
     simp only [Nat.sub_zero, Nat.reducePow, Nat.reduceSub]
     omega
    ·rw [List.drop_of_length_le (by omega), List.drop_of_length_le hl, nth_ge hl]
     simp [valB]
  ·have e1 : (R - 1) / 9 = R / 9 := by omega
   have e2 : (R - 1) % 9 = R % 9 - 1 := by omega
   rw [e1, e2]
   have hk : R / 9 < M.length := by omega
   have e3 : 9 - (R % 9 - 1) = (9 - R % 9) + 1 := by omega
   refine ⟨by simp [h1], ?_, ?_, ?_, ?_⟩
   ·intro j hj; rw [nth_set_ne (by omega)]; exact h2 j hj
   ·rw [nth_set_eq hk, e3, Nat.pow_succ]; omega
   ·have : (10 : Nat) ^ (9 - R % 9) ≤ 10 ^ 8 := Nat.pow_le_pow_right (by omega) (by omega)
    exact h4.set _ (by omega)
   ·rw [nth_set_eq hk, drop_set_low (by omega), e3, Nat.pow_succ, ← Nat.mul_assoc, Nat.mul_add]
    generalize valB 1000000000 (M.drop (R / 9 + 1)) * 10 ^ (9 - R % 9) = q
    omega
theorem rd_inv {s : List UInt8} (hd : ∀ c ∈ s, isDig c = true) (i : Nat) (hi : i ≤ s.length) : RdInv s.length ((s.length + 8) / 9) i (numOf (s.take i)) (rdSt s (List.replicate ((s.length + 8) / 9) 0) i) := by
 induction i with
 | zero =>
  refine ⟨by simp [rdSt], fun j _ => nth_zeros _ _, ?_, ?_, ?_⟩
  ·rw [rdSt, nth_zeros]; exact Nat.pow_pos (by omega)
  ·intro d hd; have := (List.mem_replicate.1 hd).2; omega
  ·rw [rdSt, nth_zeros, List.drop_replicate, valB_zeros]; simp [numOf]
 | succ i ih =>
  rw [rdSt_succ, numOf_take (by omega)]
  exact rd_step rfl (by omega) (digAt_lt hd (by omega)) (ih (by omega))
theorem rd_room {n m i N : Nat} {M : List Nat} (h : RdInv n m i N M) (hm : m = (n + 8) / 9) (hi : i < n) :
  (n - 1 - i) / 9 < m ∧ nth M ((n - 1 - i) / 9) < 100000000 := by
 refine ⟨by omega, ?_⟩
 by_cases hc : (n - i) % 9 = 0
 ·rw [h.low _ (by omega)]; omega
 ·have e1 : (n - 1 - i) / 9 = (n - i) / 9 := by omega
  rw [e1]
  have : (10 : Nat) ^ (9 - (n - i) % 9) ≤ 10 ^ 8 := Nat.pow_le_pow_right (by omega) (by omega)
  have := h.cur
  omega
theorem rd_end {n m N : Nat} {M : List Nat} (h : RdInv n m n N M) (hm : 0 < m) : valB 1000000000 M = N := by
 have := h.val
 rw [this]
 simp only [Nat.sub_self, Nat.zero_div, Nat.zero_mod, Nat.sub_zero]
 have hv := valB_drop 1000000000 M 0 (by rw [h.len]; exact hm)
 rw [List.drop_zero] at hv
 rw [hv]
 simp only [Nat.reducePow, Nat.zero_add]
 omega
theorem trimN_val (b : Nat) (L : List Nat) (n : Nat) (hn : n ≤ L.length) : valB b (L.take (trimN L n)) = valB b (L.take n) := by
 induction n with
 | zero => simp [trimN]
 | succ n ih =>
  unfold trimN
  split
  ·rename_i h
   rw [ih (by omega), List.take_succ_eq_append_getElem (by omega), valB_append, ← nth_lt (by omega), h]
   simp [valB]
  ·rfl
theorem trimN_top (L : List Nat) (n : Nat) (h : 0 < trimN L n) : nth L (trimN L n - 1) ≠ 0 := by
 induction n with
 | zero => simp [trimN] at h
 | succ n ih =>
  by_cases h0 : nth L n = 0
  ·rw [trimN, if_pos h0] at h ⊢; exact ih h
  ·rw [trimN, if_neg h0]; exact h0
theorem nth_take {L : List Nat} {n k : Nat} (h : k < n) : nth (L.take n) k = nth L k := by
 simp only [nth, List.getD_eq_getElem?_getD, List.getElem?_take, h, if_true]
theorem valB_set (b : Nat) : ∀ (L : List Nat) (i v : Nat), i < L.length → valB b (L.set i v) + b ^ i * nth L i = valB b L + b ^ i * v
 | [], i, v, h => by simp at h
 | d :: r, 0, v, _ => by simp [valB, nth]; omega
 | d :: r, i + 1, v, h => by
  have ih := valB_set b r i v (by simpa using h)
  have e : nth (d :: r) (i + 1) = nth r i := by simp [nth]
  simp only [List.set_cons_succ, valB, e, Nat.pow_succ]
  grind
theorem valB_take_succ (b : Nat) (L : List Nat) (k : Nat) (h : k < L.length) : valB b (L.take (k + 1)) = valB b (L.take k) + b ^ k * nth L k := by
 rw [List.take_succ_eq_append_getElem h, valB_append, List.length_take, Nat.min_eq_left (by omega), nth_lt h]
 simp [valB]
theorem valB_take_over (b : Nat) (L : List Nat) (k : Nat) (h : L.length ≤ k) : valB b (L.take k) = valB b L := by rw [List.take_of_length_le h]
theorem mulRow_val {x o : Nat} {B M : List Nat} (ho : o + B.length ≤ M.length) (j : Nat) (hj : j ≤ B.length) (hM : Lim M) (hB : Lim B) (hx : x < 1000000000) :
  valB 1000000000 (mulRow x o B M j).1 + 1000000000 ^ (o + j) * (mulRow x o B M j).2 = valB 1000000000 M + 1000000000 ^ o * (x * valB 1000000000 (B.take j)) := by
 induction j with
 | zero => simp [mulRow, valB]
 | succ j ih =>
  replace ih := ih (by omega)
  have hl := (mulRow_ok (o := o) hx hB hM j).2.2
  rw [mulRow_succ, valB_take_succ _ _ _ (by omega)]
  have hs := valB_set 1000000000 (mulRow x o B M j).1 (o + j) ((x * nth B j + nth (mulRow x o B M j).1 (o + j) + (mulRow x o B M j).2) % 1000000000) (by omega)
  generalize mulRow x o B M j = q at *
  obtain ⟨Q, y⟩ := q
  dsimp only at *
  have ht := Nat.div_add_mod (x * nth B j + nth Q (o + j) + y) 1000000000
  generalize (x * nth B j + nth Q (o + j) + y) % 1000000000 = r at *
  generalize (x * nth B j + nth Q (o + j) + y) / 1000000000 = c at *
  generalize valB 1000000000 (Q.set (o + j) r) = V at *
  generalize valB 1000000000 Q = VQ at *
  generalize valB 1000000000 M = VM at *
  generalize valB 1000000000 (B.take j) = VB at *
  generalize nth B j = bj at *
  generalize nth Q (o + j) = qj at *
  rw [← Nat.add_assoc, Nat.pow_succ]
  have e : (1000000000 : Nat) ^ (o + j) = 1000000000 ^ o * 1000000000 ^ j := Nat.pow_add _ _ _
  rw [e] at hs ih ⊢
  generalize (1000000000 : Nat) ^ o = po at *
  generalize (1000000000 : Nat) ^ j = pj at *
  have h1 : po * pj * (1000000000 * c + r) = po * pj * (x * bj + qj + y) := by rw [ht]
  clear ht e hl hj ho hx hB hM
  grind
theorem mulRow_high {x o : Nat} {B M : List Nat} (j k : Nat) (hk : o + j ≤ k) : nth (mulRow x o B M j).1 k = nth M k := by
 induction j with
 | zero => rfl
 | succ j ih => rw [mulRow_succ]; rw [nth_set_ne (by omega)]; exact ih (by omega)
theorem mulSt_val {A B M : List Nat} (hA : Lim A) (hB : Lim B) (hM : Lim M) (hz : ∀ k, nth M k = 0) (hl : M.length = A.length + B.length) (h0 : valB 1000000000 M = 0) (i : Nat) (hi : i ≤ A.length) :
  valB 1000000000 (mulSt A B M i) = valB 1000000000 (A.take i) * valB 1000000000 B ∧ (∀ k, i + B.length ≤ k → nth (mulSt A B M i) k = 0) := by
 induction i with
 | zero => exact ⟨by simp [mulSt, valB, h0], fun k _ => hz k⟩
 | succ i ih =>
  obtain ⟨ih1, ih2⟩ := ih (by omega)
  have hok := mulSt_ok hA hB hM i
  have hr := mulRow_val (x := nth A i) (o := i) (B := B) (M := mulSt A B M i) (by rw [hok.2]; omega) B.length (Nat.le_refl _) hok.1 hB (hA.nth i)
  have hro := mulRow_ok (x := nth A i) (o := i) (hA.nth i) hB hok.1 B.length
  have hh := mulRow_high (x := nth A i) (o := i) (B := B) (M := mulSt A B M i) B.length (i + B.length) (Nat.le_refl _)
  have hh2 := fun k hk => mulRow_high (x := nth A i) (o := i) (B := B) (M := mulSt A B M i) B.length k hk
  rw [ih2 _ (Nat.le_refl _)] at hh
  rw [mulSt_succ, valB_take_succ _ _ _ (by omega)]
  have hs := valB_set 1000000000 (mulRow (nth A i) i B (mulSt A B M i) B.length).1 (i + B.length) (mulRow (nth A i) i B (mulSt A B M i) B.length).2 (by rw [hro.2.2, hok.2]; omega)
  refine ⟨?_, fun k hk => ?_⟩
  ·rw [hh] at hs
   rw [List.take_of_length_le (Nat.le_refl _)] at hr
   generalize valB 1000000000 ((mulRow (nth A i) i B (mulSt A B M i) B.length).1.set (i + B.length) (mulRow (nth A i) i B (mulSt A B M i) B.length).2) = V at *
   generalize valB 1000000000 (mulRow (nth A i) i B (mulSt A B M i) B.length).1 = V1 at *
   generalize 1000000000 ^ (i + B.length) * (mulRow (nth A i) i B (mulSt A B M i) B.length).2 = V2 at *
   rw [Nat.mul_zero, Nat.add_zero] at hs
   rw [hs, hr, ih1, Nat.add_mul, Nat.mul_assoc]
  ·rw [nth_set_ne (by omega), hh2 k (by omega)]
   exact ih2 k (by omega)
theorem mul_val {A B : List Nat} (hA : Lim A) (hB : Lim B) : valB 1000000000 (mulSt A B (List.replicate (A.length + B.length) 0) A.length) = valB 1000000000 A * valB 1000000000 B := by
 have := (mulSt_val (M := List.replicate (A.length + B.length) 0) hA hB (fun d hd => by have := (List.mem_replicate.1 hd).2; omega) (nth_zeros _) (by simp) (valB_zeros _ _) A.length (Nat.le_refl _)).1
 rwa [List.take_of_length_le (Nat.le_refl _)] at this
theorem addSt_val {o : Nat} {B M : List Nat} (hB : Lim B) (hM : Lim M) (k : Nat) (hk : o + k ≤ M.length) :
  valB 1000000000 (addSt o B M k).1 + 1000000000 ^ (o + k) * (addSt o B M k).2 = valB 1000000000 M + 1000000000 ^ o * valB 1000000000 (B.take k) := by
 induction k with
 | zero => simp [addSt, valB]
 | succ k ih =>
  replace ih := ih (by omega)
  have hl := (addSt_ok (o := o) hB hM k).2.2
  rw [addSt_succ]
  have hs := valB_set 1000000000 (addSt o B M k).1 (o + k) ((nth (addSt o B M k).1 (o + k) + (addSt o B M k).2 + nth B k) % 1000000000) (by omega)
  have hbt : valB 1000000000 (B.take (k + 1)) = valB 1000000000 (B.take k) + 1000000000 ^ k * nth B k := by
   rcases Nat.lt_or_ge k B.length with h | h
   ·exact valB_take_succ _ _ _ h
   ·rw [valB_take_over _ _ _ h, valB_take_over _ _ _ (by omega), nth_ge h]; simp
  rw [hbt]
  generalize addSt o B M k = q at *
  obtain ⟨Q, y⟩ := q
  dsimp only at *
  have ht := Nat.div_add_mod (nth Q (o + k) + y + nth B k) 1000000000
  generalize (nth Q (o + k) + y + nth B k) % 1000000000 = r at *
  generalize (nth Q (o + k) + y + nth B k) / 1000000000 = c at *
  generalize valB 1000000000 (Q.set (o + k) r) = V at *
  generalize valB 1000000000 Q = VQ at *
  generalize valB 1000000000 M = VM at *
  generalize valB 1000000000 (B.take k) = VB at *
  generalize nth B k = bj at *
  generalize nth Q (o + k) = qj at *
  rw [← Nat.add_assoc, Nat.pow_succ]
  have e : (1000000000 : Nat) ^ (o + k) = 1000000000 ^ o * 1000000000 ^ k := Nat.pow_add _ _ _
  rw [e] at hs ih ⊢
  generalize (1000000000 : Nat) ^ o = po at *
  generalize (1000000000 : Nat) ^ k = pj at *
  have h1 : po * pj * (1000000000 * c + r) = po * pj * (qj + y + bj) := by rw [ht]
  clear ht e hl hk hB hM hbt
  grind
theorem subSt_val {B M : List Nat} (hB : Lim B) (hM : Lim M) (k : Nat) (hk : k ≤ M.length) :
  valB 1000000000 (subSt B M k).1 + valB 1000000000 (B.take k) = valB 1000000000 M + 1000000000 ^ k * (subSt B M k).2 := by
 induction k with
 | zero => simp [subSt, valB]
 | succ k ih =>
  replace ih := ih (by omega)
  obtain ⟨h1, h2, hl⟩ := subSt_ok hB hM k
  have a := h1.nth k
  have b := hB.nth k
  rw [subSt_succ]
  have hbt : valB 1000000000 (B.take (k + 1)) = valB 1000000000 (B.take k) + 1000000000 ^ k * nth B k := by
   rcases Nat.lt_or_ge k B.length with h | h
   ·exact valB_take_succ _ _ _ h
   ·rw [valB_take_over _ _ _ h, valB_take_over _ _ _ (by omega), nth_ge h]; simp
  rw [hbt]
  have hs := fun v => valB_set 1000000000 (subSt B M k).1 k v (by omega)
  generalize subSt B M k = q at *
  obtain ⟨Q, y⟩ := q
  dsimp only at *
  rw [Nat.pow_succ]
  generalize (1000000000 : Nat) ^ k = pj at *
  split
  ·rename_i hlt
   have hs' := hs (nth Q k + 1000000000 - (y + nth B k))
   obtain ⟨v, hv⟩ : ∃ v, nth Q k + 1000000000 - (y + nth B k) = v := ⟨_, rfl⟩
   have hv2 : v + (y + nth B k) = nth Q k + 1000000000 := by omega
   rw [hv] at hs' ⊢
   dsimp only
   have h3 : pj * (v + (y + nth B k)) = pj * (nth Q k + 1000000000) := by rw [hv2]
   clear hs hv hv2 hbt hl a b h1 h2 hB hM hk hlt
   grind
  ·rename_i hge
   have hs' := hs (nth Q k - (y + nth B k))
   obtain ⟨v, hv⟩ : ∃ v, nth Q k - (y + nth B k) = v := ⟨_, rfl⟩
   have hv2 : v + (y + nth B k) = nth Q k := by omega
   rw [hv] at hs' ⊢
   dsimp only
   have h3 : pj * (v + (y + nth B k)) = pj * nth Q k := by rw [hv2]
   clear hs hv hv2 hbt hl a b h1 h2 hB hM hk hge
   grind
open Go.RowKit
set_option maxHeartbeats 800000 in
theorem addTo_any (g o n c : Nat) (A' : Option Addr) (c' : Nat) (M L : List Nat) (w : World) (hn : o + n ≤ M.length) (hm : M.length ≤ 3000000) (hl : L.length ≤ 1000000)
  (hM : Lim M) (hL : Lim L) (hblk : Blk .u32 86 w g M) (hR : Row .u32 w g A' c' L) :
  Calls Tryz.prog 79 #[.slice (some ⟨g, o, none⟩) n c, .slice A' L.length c'] w fun e w' => e = .returned (.tuple #[]) ∧ Blk .u32 86 w' g (addSt o L M n).1 ∧ w.grownBy w' (some g) := by
 generalize hl' : L.length = l at *
 have HL := Lib.hid hl'
 clear hl'
 go_enter Tryz.func79, Tryz.ntmps79
 go_wp2
 go_loopw [4, 9] (fun cv iv wr => ∃ k : Nat, k ≤ n ∧ iv = .int .i64 k ∧ cv = .int .u32 (addSt o L M k).2 ∧ Blk .u32 86 wr g (addSt o L M k).1 ∧ w.grownBy wr (some g)) (fun _ iv _ => n - (intOf iv).toNat)
 case atStart => exact ⟨0, Nat.zero_le _, rfl, rfl, hblk, grown_refl _ _⟩
 case round =>
  obtain ⟨k, hk, rfl, rfl, hb, hgr⟩ := hrel
  obtain ⟨h1, h2, h3⟩ := addSt_ok (o := o) hL hM k
  have HS := Lib.hid (addSt_succ o L M k)
  generalize hs : addSt o L M k = s at *
  have HK := Lib.hid hs
  clear hs
  obtain ⟨S, x⟩ := s
  dsimp only at *
  by_cases hlt : k < n
  ·have hc := hb.cell (o + k) (by omega)
   have hfr := hb.frozen (o + k)
   have b1 := h1.nth (o + k)
   have b2 := hL.nth k
   by_cases hkl : k < l
   ·obtain ⟨b', o', rfl, hbg, hcell'⟩ := hR.spot (by rw [HL.out]; omega)
    have hc' := (hcell'.grown hgr (by have := hblk.lt; omega) (by intro e; injection e; omega)) k (by rw [HL.out]; exact hkl)
    clear hcell'
    go_wp2
    go_roundw
    case rel =>
     have E := HS.out
     have e1 := hb.set_ (o + k) ((nth S (o + k) + x + nth L k) % 1000000000)
     exact ⟨k + 1, by omega, by go_num, by rw [E]; simp, by rw [E]; simpa using e1, grown_set hgr _ _⟩
    case measure => simp [intOf]; omega
   ·have hz : nth L k = 0 := nth_ge (by rw [HL.out]; omega)
    have HZ := Lib.hid hz
    clear hz
    go_wp2
    go_roundw
    case rel =>
     have E := HS.out
     have e1 := hb.set_ (o + k) ((nth S (o + k) + x + nth L k) % 1000000000)
     exact ⟨k + 1, by omega, by go_num, by rw [E]; simp [HZ.out], by rw [E]; simpa [HZ.out] using e1, grown_set hgr _ _⟩
    case measure => simp [intOf]; omega
  ·obtain rfl : k = n := by omega
   go_wp2
   go_end0
   exact ⟨rfl, by rw [HK.out]; exact hb, hgr⟩
set_option maxHeartbeats 400000 in
theorem trim_any (A : Option Addr) (c b o : Nat) (L : List Nat) (w : World) (hl : L.length ≤ 4000000) (hc : L.length ≤ c)
  (hA : 0 < L.length → A = some ⟨b, o, none⟩) (hcell : Cells .u32 w b o L) :
  Calls Tryz.prog 61 #[.slice A L.length c] w fun e w' => e = .returned (.slice A (trimN L L.length) c) ∧ w = w' := by
 generalize hn : L.length = n at *
 have HN := Lib.hid hn
 clear hn
 have HA := Lib.hid hA
 clear hA
 go_enter Tryz.func61, Tryz.ntmps61
 go_wp2
 go_loop [3] (fun v => ∃ k : Nat, k ≤ n ∧ v = .int .i64 k ∧ Hid (trimN L k = trimN L n)) (fun v => (intOf v).toNat)
 case atStart => exact ⟨n, Nat.le_refl _, rfl, rfl⟩
 case round =>
  obtain ⟨k, hk, rfl, ht⟩ := hrel
  rcases Nat.eq_zero_or_pos k with rfl | hpos
  ·have hd : decide ((0 : Int) < ((0 : Nat) : Int)) = false := by simp
   go_wp2
   go_ret
   exact ⟨by rw [← ht.out]; rfl, rfl⟩
  ·obtain ⟨m, rfl⟩ : ∃ m, k = m + 1 := ⟨k - 1, by omega⟩
   have h1 : ((0 : Int) < ((m + 1 : Nat) : Int)) := by omega
   have hc := hcell m (by rw [HN.out]; omega)
   obtain rfl := HA.out (by omega)
   by_cases hz : nth L m = 0
   ·go_wp2
    go_round
    case rel => exact ⟨m, by omega, rfl, by have := ht.out; rw [trimN, if_pos hz] at this; exact this⟩
    case measure => simp [intOf]
   ·go_wp2
    go_ret
    exact ⟨by have := ht.out; rw [trimN, if_neg hz] at this; rw [← this]; rfl, rfl⟩
theorem info68 : (Tryz.prog.info? 86).map (fun i => (i.zero, i.size, i.bytes)) = some (some (.int .u32 0), 1, 4) := by kernel_rfl
theorem size68 : (Tryz.prog.info? 86).map (·.size) = some 1 := by kernel_rfl
set_option maxHeartbeats 800000 in
theorem copied_any (A : Option Addr) (c : Nat) (L : List Nat) (w : World) (hl : L.length ≤ 3000000) (hR : Row .u32 w w.heap.size A c L) :
  Calls Tryz.prog 77 #[.slice A L.length c] w fun e w' => e = .returned (.slice (some ⟨w.heap.size, 0, none⟩) L.length L.length) ∧ Blk .u32 86 w' w.heap.size L ∧ Below w.heap.size w w' := by
 obtain ⟨i0, hi, hz0, hz1, hz2⟩ := info_parts info68
 generalize hl' : L.length = l at *
 have HL := Lib.hid hl'
 clear hl'
 go_enter Tryz.func77, Tryz.ntmps77
 go_wp2_with (first
  | (refine wpList_make_zeros _ rfl (.tmp 5) (.tmp 5) 23 rfl 86 .u32 i0 4 Tryz.underlying23 hi hz0 hz1 hz2 .i64 .i64 _ _ l rfl rfl rfl rfl (by omega) (by omega) ?_; intro w1 hb1 hB1 hs1)
  | (refine wpList_copy_row rfl (.tmp 7) (.tmp 8) 23 23 rfl 86 Tryz.underlying23 size68 .u32 86 w.heap.size l l c A (List.replicate l 0) L rfl (by rw [HL.out]; rfl) hb1.out (hR.below hB1) (by rw [HL.out]; omega) (by simp) ?_; intro w2 hb2 hB2))
 go_ret
 refine ⟨rfl, ?_, hB1.trans hB2⟩
 have := hb2.out
 rwa [splice_all _ _ (by simp [HL.out])] at this
set_option maxHeartbeats 800000 in
theorem add_long (A A' : Option Addr) (c c' : Nat) (L M : List Nat) (w : World) (hl : L.length ≤ 1000000) (hml : M.length ≤ L.length)
  (hL : Lim L) (hM : Lim M) (hR : Row .u32 w w.heap.size A c L) (hR' : Row .u32 w w.heap.size A' c' M) :
  Calls Tryz.prog 56 #[.slice A L.length c, .slice A' M.length c'] w fun e w' =>
   let R := (addSt 0 M (L ++ [0]) (L.length + 1)).1
   e = .returned (.slice (some ⟨w.heap.size, 0, none⟩) (trimN R (L.length + 1)) (L.length + 1)) ∧ Blk .u32 86 w' w.heap.size R ∧ Below w.heap.size w w' := by
 obtain ⟨i0, hi, hz0, hz1, hz2⟩ := info_parts info68
 generalize hl' : L.length = l at *
 generalize hm' : M.length = m at *
 have HL := Lib.hid hl'
 have HM := Lib.hid hm'
 clear hl' hm'
 have hno : ¬ l < m := by omega
 go_enter Tryz.func56, Tryz.ntmps56
 go_wp2_with (first
  | (refine wpList_make_zeros _ rfl (.tmp 15) (.tmp 15) 23 rfl 86 .u32 i0 4 Tryz.underlying23 hi hz0 hz1 hz2 .i64 .i64 _ _ (l + 1) rfl rfl (by omega) (by omega) (by omega) (by omega) ?_; intro w1 hb1 hB1 hs1)
  | (refine wpList_copy_row rfl (.tmp 17) (.tmp 18) 23 23 rfl 86 Tryz.underlying23 size68 .u32 86 w.heap.size (l + 1) (l + 1) c A (List.replicate (l + 1) 0) L rfl (by rw [HL.out]; rfl) hb1.out (hR.below hB1) (by rw [HL.out]; omega) (by simp) ?_; intro w2 hb2 hB2)
  | fail)
 have hb3 := hb2.out
 have e1 : splice (List.replicate (l + 1) 0) 0 L = L ++ [0] := by
  simp [splice, HL.out]
 rw [e1] at hb3
 have hlen : (L ++ [0]).length = l + 1 := by simp [HL.out]
 have hA := addTo_any w.heap.size 0 (l + 1) (l + 1) A' c' (L ++ [0]) M w2 (by omega) (by omega) (by rw [HM.out]; omega)
  (by intro d hd; rcases List.mem_append.1 hd with h | h; exact hL d h; simp at h; omega) hM hb3 ((hR'.below hB1).below hB2)
 rw [HM.out] at hA
 clear hlen e1 hb2 hb1 hb3
 refine hA.mono ?_
 rintro e w3 ⟨rfl, hb4, hg4⟩
 have hB4 : Below w.heap.size w w3 := grown_below (hB1.trans hB2) hg4 (Nat.le_refl _) (hB1.trans hB2).size
 have H4 := Lib.hid hb4
 have ok := addSt_ok (o := 0) hM (M := L ++ [0]) (by intro d hd; rcases List.mem_append.1 hd with h | h; exact hL d h; simp at h; omega) (l + 1)
 have hlen : (addSt 0 M (L ++ [0]) (l + 1)).1.length = l + 1 := by rw [ok.2.2]; simp [HL.out]
 have hT := trim_any (some ⟨w.heap.size, 0, none⟩) (l + 1) w.heap.size 0 (addSt 0 M (L ++ [0]) (l + 1)).1 w3 (by omega) (by omega) (fun _ => rfl) hb4.cells
 rw [hlen] at hT
 clear ok hlen hb4
 go_wp2_with fail
 refine hT.mono ?_
 rintro e w4 ⟨rfl, rfl⟩
 go_wp2_with fail
 go_ret
 exact ⟨rfl, H4.out, hB4⟩
def codes (l : List UInt8) : List Nat := l.map (·.toNat)
theorem codes_append (a b : List UInt8) : codes (a ++ b) = codes a ++ codes b := by simp [codes]
theorem codes_length (a : List UInt8) : (codes a).length = a.length := by simp [codes]
end Go.Proofs.YtodapfhnbgoanaaGreatDoor
namespace Go.Proofs
open Go.Shelf
def Tryz.lays134_ren : Go.Shelf.Ren := ⟨fun | 134 => 139 | 129 => 110 | n => n, fun | 53 => 74 | 3 => 3 | 4 => 4 | 46 => 110 | 5 => 5 | 9 => 9 | n => n, fun | n => n⟩
theorem Tryz.lays134 : Go.Proofs.Lays.n134 Tryz.prog Tryz.lays134_ren := {
 mixed := by kernel_rfl
 f129 := Tryz.func110.trans (congrArg some (by kernel_rfl))
 f134 := Tryz.func139.trans (congrArg some (by kernel_rfl))
 t3 := Tryz.underlying3
 a3 := Tryz.isAgg3
 z3 := Tryz.sizeOf3
 v3 := Tryz.zeroValue3
 t4 := Tryz.underlying4
 a4 := Tryz.isAgg4
 z4 := Tryz.sizeOf4
 v4 := Tryz.zeroValue4
 t5 := Tryz.underlying5
 a5 := Tryz.isAgg5
 z5 := Tryz.sizeOf5
 v5 := Tryz.zeroValue5
 t9 := Tryz.underlying9
 a9 := Tryz.isAgg9
 z9 := Tryz.sizeOf9
 v9 := Tryz.zeroValue9
 t46 := Tryz.underlying110
 a46 := Tryz.isAgg110
 z46 := Tryz.sizeOf110
 v46 := Tryz.zeroValue110
 t53 := Tryz.underlying74
 a53 := Tryz.isAgg74
 z53 := Tryz.sizeOf74
 v53 := Tryz.zeroValue74 }
theorem Tryz.bits_LeadingZeros64 (x : Int) (w : World) (h0 : 0 ≤ x) (h1 : x ≤ 18446744073709551615) :
  Calls Tryz.prog 139 #[.int .u64 x] w fun e w' => e = .returned (.int .i64 (64 - (Lib.bitLen x.toNat : Int))) ∧ w' = w := Any.bits_LeadingZeros64 Tryz.lays134 x w h0 h1
def Tryz.lays210_ren : Go.Shelf.Ren := ⟨fun | 210 => 60 | 206 => 62 | n => n, fun | 9 => 9 | 4 => 4 | 3 => 3 | n => n, fun | n => n⟩
def Tryz.lays103_ren : Go.Shelf.Ren := ⟨fun | 103 => 35 | 210 => 60 | 206 => 62 | n => n, fun | 9 => 9 | 4 => 4 | 24 => 69 | 3 => 3 | n => n, fun | n => n⟩
theorem Tryz.lays103 : Go.Proofs.Lays.n103 Tryz.prog Tryz.lays103_ren := {
 mixed := by kernel_rfl
 f103 := Tryz.func35.trans (congrArg some (by kernel_rfl))
 f206 := Tryz.func62.trans (congrArg some (by kernel_rfl))
 f210 := Tryz.func60.trans (congrArg some (by kernel_rfl))
 t3 := Tryz.underlying3
 a3 := Tryz.isAgg3
 z3 := Tryz.sizeOf3
 v3 := Tryz.zeroValue3
 t4 := Tryz.underlying4
 a4 := Tryz.isAgg4
 z4 := Tryz.sizeOf4
 v4 := Tryz.zeroValue4
 t9 := Tryz.underlying9
 a9 := Tryz.isAgg9
 z9 := Tryz.sizeOf9
 v9 := Tryz.zeroValue9
 t24 := Tryz.underlying69
 a24 := Tryz.isAgg69
 z24 := Tryz.sizeOf69
 v24 := Tryz.zeroValue69 }
open Go.RowKit in
theorem Tryz.strings_CutPrefix (s p : ByteArray) (w : World) :
  Calls Tryz.prog 35 #[.string s, .string p] w fun e w' => e = .returned (.tuple #[.string ⟨(Lib.trimPrefix s.data.toList p.data.toList).toArray⟩, .bool (Lib.hasPrefix s.data.toList p.data.toList)]) ∧ w' = w := Any.strings_CutPrefix Tryz.lays103 s p w
def Tryz.lays219_ren : Go.Shelf.Ren := ⟨fun | 219 => 59 | 217 => 81 | 225 => 82 | 224 => 83 | 267 => 84 | 266 => 101 | 314 => 102 | n => n, fun | 9 => 9 | 3 => 3 | 4 => 4 | 5 => 5 | 46 => 110 | 146 => 123 | 51 => 86 | n => n, fun | 1 => 0 | n => n⟩
def Tryz.lays145_ren : Go.Shelf.Ren := ⟨fun | 145 => 13 | 220 => 34 | 219 => 59 | 217 => 81 | 225 => 82 | 224 => 83 | 267 => 84 | 266 => 101 | 314 => 102 | n => n, fun | 9 => 9 | 4 => 4 | 59 => 46 | 3 => 3 | 5 => 5 | 46 => 110 | 146 => 123 | 51 => 86 | n => n, fun | 1 => 0 | n => n⟩
theorem Tryz.lays145 : Go.Proofs.Lays.n145 Tryz.prog Tryz.lays145_ren := {
 mixed := by kernel_rfl
 f145 := Tryz.func13.trans (congrArg some (by kernel_rfl))
 f217 := Tryz.func81.trans (congrArg some (by kernel_rfl))
 f219 := Tryz.func59.trans (congrArg some (by kernel_rfl))
 f220 := Tryz.func34.trans (congrArg some (by kernel_rfl))
 f224 := Tryz.func83.trans (congrArg some (by kernel_rfl))
 f225 := Tryz.func82.trans (congrArg some (by kernel_rfl))
 f266 := Tryz.func101.trans (congrArg some (by kernel_rfl))
 f267 := Tryz.func84.trans (congrArg some (by kernel_rfl))
 f314 := Tryz.func102.trans (congrArg some (by kernel_rfl))
 t3 := Tryz.underlying3
 a3 := Tryz.isAgg3
 z3 := Tryz.sizeOf3
 v3 := Tryz.zeroValue3
 t4 := Tryz.underlying4
 a4 := Tryz.isAgg4
 z4 := Tryz.sizeOf4
 v4 := Tryz.zeroValue4
 t5 := Tryz.underlying5
 a5 := Tryz.isAgg5
 z5 := Tryz.sizeOf5
 v5 := Tryz.zeroValue5
 t9 := Tryz.underlying9
 a9 := Tryz.isAgg9
 z9 := Tryz.sizeOf9
 v9 := Tryz.zeroValue9
 t46 := Tryz.underlying110
 a46 := Tryz.isAgg110
 z46 := Tryz.sizeOf110
 v46 := Tryz.zeroValue110
 t51 := Tryz.underlying86
 a51 := Tryz.isAgg86
 z51 := Tryz.sizeOf86
 v51 := Tryz.zeroValue86
 t59 := Tryz.underlying46
 a59 := Tryz.isAgg46
 z59 := Tryz.sizeOf46
 v59 := Tryz.zeroValue46
 t146 := Tryz.underlying123
 a146 := Tryz.isAgg123
 z146 := Tryz.sizeOf123
 v146 := Tryz.zeroValue123
 g1 := by kernel_rfl }
open Go.RowKit Go.Lib in
theorem Tryz.strings_Cut (s sep : ByteArray) (m : Int) (w : World) (hs : s.size < 4294967281) (hm : w.cell? ⟨0, 0, none⟩ = some (.int .i64 m)) :
  Calls Tryz.prog 13 #[.string s, .string sep] w fun e w' => e = .returned (.tuple #[.string ⟨(Lib.cut s.data.toList sep.data.toList).1.toArray⟩, .string ⟨(Lib.cut s.data.toList sep.data.toList).2.1.toArray⟩, .bool (Lib.cut s.data.toList sep.data.toList).2.2]) ∧ ∃ n, w' = w.drewN n := Any.strings_Cut Tryz.lays145 s sep m w hs hm
def Tryz.laysM288_ren : Go.Shelf.Ren := ⟨fun | 288 => 76 | 283 => 93 | 284 => 94 | 285 => 95 | 286 => 96 | 129 => 110 | 317 => 109 | 318 => 111 | 319 => 112 | 320 => 113 | 337 => 126 | 338 => 127 | n => n, fun | 37 => 84 | 53 => 74 | 3 => 3 | 4 => 4 | 9 => 9 | 171 => 116 | 0 => 0 | 173 => 119 | 212 => 138 | 51 => 86 | 5 => 5 | 20 => 20 | 213 => 139 | 46 => 110 | 232 => 168 | 233 => 169 | n => n, fun | 17 => 1 | 18 => 2 | 19 => 3 | n => n⟩
theorem Tryz.laysM288 : Go.Proofs.LaysM.n288 Tryz.prog Tryz.laysM288_ren := {
 mixed := by kernel_rfl
 f129 := Tryz.func110.trans (congrArg some (by kernel_rfl))
 f283 := Tryz.func93.trans (congrArg some (by kernel_rfl))
 f284 := Tryz.func94.trans (congrArg some (by kernel_rfl))
 f285 := Tryz.func95.trans (congrArg some (by kernel_rfl))
 f286 := Tryz.func96.trans (congrArg some (by kernel_rfl))
 f288 := Tryz.func76.trans (congrArg some (by kernel_rfl))
 f317 := Tryz.func109.trans (congrArg some (by kernel_rfl))
 f318 := Tryz.func111.trans (congrArg some (by kernel_rfl))
 f319 := Tryz.func112.trans (congrArg some (by kernel_rfl))
 f320 := Tryz.func113.trans (congrArg some (by kernel_rfl))
 f337 := Tryz.func126.trans (congrArg some (by kernel_rfl))
 f338 := Tryz.func127.trans (congrArg some (by kernel_rfl))
 t0 := Tryz.underlying0
 a0 := Tryz.isAgg0
 z0 := Tryz.sizeOf0
 v0 := Tryz.zeroValue0
 t3 := Tryz.underlying3
 a3 := Tryz.isAgg3
 z3 := Tryz.sizeOf3
 v3 := Tryz.zeroValue3
 t4 := Tryz.underlying4
 a4 := Tryz.isAgg4
 z4 := Tryz.sizeOf4
 v4 := Tryz.zeroValue4
 t5 := Tryz.underlying5
 a5 := Tryz.isAgg5
 z5 := Tryz.sizeOf5
 v5 := Tryz.zeroValue5
 t9 := Tryz.underlying9
 a9 := Tryz.isAgg9
 z9 := Tryz.sizeOf9
 v9 := Tryz.zeroValue9
 t20 := Tryz.underlying20
 a20 := Tryz.isAgg20
 z20 := Tryz.sizeOf20
 v20 := Tryz.zeroValue20
 t37 := Tryz.underlying84
 a37 := Tryz.isAgg84
 z37 := Tryz.sizeOf84
 v37 := Tryz.zeroValue84
 t46 := Tryz.underlying110
 a46 := Tryz.isAgg110
 z46 := Tryz.sizeOf110
 v46 := Tryz.zeroValue110
 t51 := Tryz.underlying86
 a51 := Tryz.isAgg86
 z51 := Tryz.sizeOf86
 v51 := Tryz.zeroValue86
 t53 := Tryz.underlying74
 a53 := Tryz.isAgg74
 z53 := Tryz.sizeOf74
 v53 := Tryz.zeroValue74
 t171 := Tryz.underlying116
 a171 := Tryz.isAgg116
 z171 := Tryz.sizeOf116
 v171 := Tryz.zeroValue116
 t173 := Tryz.underlying119
 a173 := Tryz.isAgg119
 z173 := Tryz.sizeOf119
 v173 := Tryz.zeroValue119
 t212 := Tryz.underlying138
 a212 := Tryz.isAgg138
 z212 := Tryz.sizeOf138
 v212 := Tryz.zeroValue138
 t213 := Tryz.underlying139
 a213 := Tryz.isAgg139
 z213 := Tryz.sizeOf139
 t232 := Tryz.underlying168
 a232 := Tryz.isAgg168
 z232 := Tryz.sizeOf168
 v232 := Tryz.zeroValue168
 t233 := Tryz.underlying169
 a233 := Tryz.isAgg169
 z233 := Tryz.sizeOf169
 v233 := Tryz.zeroValue169
 g17 := by kernel_rfl
 g18 := by kernel_rfl
 g19 := by kernel_rfl
 i0 := by kernel_rfl
 i3 := by kernel_rfl
 i4 := by kernel_rfl
 i5 := by kernel_rfl
 i9 := by kernel_rfl
 i20 := by kernel_rfl
 i37 := by kernel_rfl
 i46 := by kernel_rfl
 i51 := by kernel_rfl
 i53 := by kernel_rfl
 i171 := by kernel_rfl
 i173 := by kernel_rfl
 i212 := by kernel_rfl
 i232 := by kernel_rfl
 i233 := by kernel_rfl
 m17 := by kernel_rfl
 m18 := by kernel_rfl
 m19 := by kernel_rfl }
open Go.RowKit Go.Sort Go.Lib in
theorem Tryz.internal_strconv_AppendUint_10_small (B n u : Nat) (hu : u < 100) (sv : Value) (xs : List Value) (w : World) (hown : w.ownsRow B 5 1 sv n xs) (hBw : B ≤ w.heap.size) (hlim : n + 20 ≤ 140737488355328) :
  Calls Tryz.prog 76 #[sv, .int .u64 u, .int .i64 10] w fun e w' => ∃ v', e = .returned v' ∧ w'.ownsRow B 5 1 v' (n + (Lib.decDigits u).length) (xs ++ Lib.byteCells (Lib.decDigits u)) ∧ Below B w w' ∧ Lib.OthersKept 5 none w w' := Any.internal_strconv_AppendUint_10_small Tryz.laysM288 B n u hu sv xs w hown hBw hlim
open Go.RowKit Go.Sort Go.Lib in
theorem Tryz.internal_strconv_AppendUint_10_big (B n u : Nat) (hu : 100 ≤ u) (hu64 : u < 18446744073709551616) (sv : Value) (xs : List Value) (w : World) (hown : w.ownsRow B 5 1 sv n xs) (hBw : B ≤ w.heap.size) (hlim : n + 20 ≤ 140737488355328) (htab : Lib.TabIs Tryz.prog w "internal/strconv.uint64pow10" .u64 Lib.pow10Tab) :
  Calls Tryz.prog 76 #[sv, .int .u64 u, .int .i64 10] w fun e w' => ∃ v', e = .returned v' ∧ w'.ownsRow B 5 1 v' (n + (Lib.decDigits u).length) (xs ++ Lib.byteCells (Lib.decDigits u)) ∧ Below B w w' ∧ Lib.OthersKept 5 none w w' := Any.internal_strconv_AppendUint_10_big Tryz.laysM288 B n u hu hu64 sv xs w hown hBw hlim htab
def Tryz.lays99_ren : Go.Shelf.Ren := ⟨fun | 99 => 40 | 206 => 62 | n => n, fun | 9 => 9 | 4 => 4 | 3 => 3 | n => n, fun | n => n⟩
theorem Tryz.lays99 : Go.Proofs.Lays.n99 Tryz.prog Tryz.lays99_ren := {
 mixed := by kernel_rfl
 f99 := Tryz.func40.trans (congrArg some (by kernel_rfl))
 f206 := Tryz.func62.trans (congrArg some (by kernel_rfl))
 t3 := Tryz.underlying3
 a3 := Tryz.isAgg3
 z3 := Tryz.sizeOf3
 v3 := Tryz.zeroValue3
 t4 := Tryz.underlying4
 a4 := Tryz.isAgg4
 z4 := Tryz.sizeOf4
 v4 := Tryz.zeroValue4
 t9 := Tryz.underlying9
 a9 := Tryz.isAgg9
 z9 := Tryz.sizeOf9
 v9 := Tryz.zeroValue9 }
open Go.RowKit Go.Lib in
theorem Tryz.strings_HasPrefix (s p : ByteArray) (w : World) :
  Calls Tryz.prog 40 #[.string s, .string p] w fun e w' => e = .returned (.bool (Lib.hasPrefix s.data.toList p.data.toList)) ∧ w' = w := Any.strings_HasPrefix Tryz.lays99 s p w
def Tryz.lays101_ren : Go.Shelf.Ren := ⟨fun | 101 => 42 | 208 => 66 | 206 => 62 | n => n, fun | 9 => 9 | 4 => 4 | 3 => 3 | n => n, fun | n => n⟩
theorem Tryz.lays101 : Go.Proofs.Lays.n101 Tryz.prog Tryz.lays101_ren := {
 mixed := by kernel_rfl
 f101 := Tryz.func42.trans (congrArg some (by kernel_rfl))
 f206 := Tryz.func62.trans (congrArg some (by kernel_rfl))
 f208 := Tryz.func66.trans (congrArg some (by kernel_rfl))
 t3 := Tryz.underlying3
 a3 := Tryz.isAgg3
 z3 := Tryz.sizeOf3
 v3 := Tryz.zeroValue3
 t4 := Tryz.underlying4
 a4 := Tryz.isAgg4
 z4 := Tryz.sizeOf4
 v4 := Tryz.zeroValue4
 t9 := Tryz.underlying9
 a9 := Tryz.isAgg9
 z9 := Tryz.sizeOf9
 v9 := Tryz.zeroValue9 }
open Go.RowKit Go.Lib in
theorem Tryz.strings_TrimPrefix (s p : ByteArray) (w : World) :
  Calls Tryz.prog 42 #[.string s, .string p] w fun e w' => e = .returned (.string ⟨(Lib.trimPrefix s.data.toList p.data.toList).toArray⟩) ∧ w' = w := Any.strings_TrimPrefix Tryz.lays101 s p w
def Tryz.lays264_ren : Go.Shelf.Ren := ⟨fun | 264 => 123 | n => n, fun | 53 => 74 | 46 => 110 | n => n, fun | n => n⟩
theorem Tryz.lays264 : Go.Proofs.Lays.n264 Tryz.prog Tryz.lays264_ren := {
 mixed := by kernel_rfl
 f264 := Tryz.func123.trans (congrArg some (by kernel_rfl))
 t46 := Tryz.underlying110
 a46 := Tryz.isAgg110
 z46 := Tryz.sizeOf110
 v46 := Tryz.zeroValue110
 t53 := Tryz.underlying74
 a53 := Tryz.isAgg74
 z53 := Tryz.sizeOf74
 v53 := Tryz.zeroValue74 }
open Go.RowKit Go.Lib in
theorem Tryz.bits_Mul64 (x y : Nat) (hx : x < 18446744073709551616) (hy : y < 18446744073709551616) (w : World) :
  Calls Tryz.prog 123 #[.int .u64 x, .int .u64 y] w fun e w' => e = .returned (.tuple #[.int .u64 ((x * y / 18446744073709551616 : Nat) : Int), .int .u64 ((x * y % 18446744073709551616 : Nat) : Int)]) ∧ w' = w := Any.bits_Mul64 Tryz.lays264 x y hx hy w
def Tryz.lays105_ren : Go.Shelf.Ren := ⟨fun | 105 => 86 | 212 => 104 | 99 => 40 | 165 => 105 | 166 => 106 | 170 => 107 | 169 => 108 | 263 => 122 | 264 => 123 | 206 => 62 | 240 => 124 | 241 => 125 | 276 => 133 | 277 => 134 | n => n, fun | 9 => 9 | 3 => 3 | 4 => 4 | 20 => 20 | 0 => 0 | 46 => 110 | 109 => 125 | 5 => 5 | 72 => 129 | 76 => 133 | 51 => 86 | 146 => 123 | 53 => 74 | 148 => 155 | 70 => 127 | 37 => 84 | 75 => 132 | 127 => 157 | 164 => 165 | 80 => 136 | n => n, fun | n => n⟩
theorem Tryz.lays105 : Go.Proofs.Lays.n105 Tryz.prog Tryz.lays105_ren := {
 mixed := by kernel_rfl
 f99 := Tryz.func40.trans (congrArg some (by kernel_rfl))
 f105 := Tryz.func86.trans (congrArg some (by kernel_rfl))
 f165 := Tryz.func105.trans (congrArg some (by kernel_rfl))
 f166 := Tryz.func106.trans (congrArg some (by kernel_rfl))
 f169 := Tryz.func108.trans (congrArg some (by kernel_rfl))
 f170 := Tryz.func107.trans (congrArg some (by kernel_rfl))
 f206 := Tryz.func62.trans (congrArg some (by kernel_rfl))
 f212 := Tryz.func104.trans (congrArg some (by kernel_rfl))
 f240 := Tryz.func124.trans (congrArg some (by kernel_rfl))
 f241 := Tryz.func125.trans (congrArg some (by kernel_rfl))
 f263 := Tryz.func122.trans (congrArg some (by kernel_rfl))
 f264 := Tryz.func123.trans (congrArg some (by kernel_rfl))
 f276 := Tryz.func133.trans (congrArg some (by kernel_rfl))
 f277 := Tryz.func134.trans (congrArg some (by kernel_rfl))
 t0 := Tryz.underlying0
 a0 := Tryz.isAgg0
 z0 := Tryz.sizeOf0
 v0 := Tryz.zeroValue0
 t3 := Tryz.underlying3
 a3 := Tryz.isAgg3
 z3 := Tryz.sizeOf3
 v3 := Tryz.zeroValue3
 t4 := Tryz.underlying4
 a4 := Tryz.isAgg4
 z4 := Tryz.sizeOf4
 v4 := Tryz.zeroValue4
 t5 := Tryz.underlying5
 a5 := Tryz.isAgg5
 z5 := Tryz.sizeOf5
 v5 := Tryz.zeroValue5
 t9 := Tryz.underlying9
 a9 := Tryz.isAgg9
 z9 := Tryz.sizeOf9
 v9 := Tryz.zeroValue9
 t20 := Tryz.underlying20
 a20 := Tryz.isAgg20
 z20 := Tryz.sizeOf20
 v20 := Tryz.zeroValue20
 t37 := Tryz.underlying84
 a37 := Tryz.isAgg84
 z37 := Tryz.sizeOf84
 v37 := Tryz.zeroValue84
 t46 := Tryz.underlying110
 a46 := Tryz.isAgg110
 z46 := Tryz.sizeOf110
 v46 := Tryz.zeroValue110
 t51 := Tryz.underlying86
 a51 := Tryz.isAgg86
 z51 := Tryz.sizeOf86
 v51 := Tryz.zeroValue86
 t53 := Tryz.underlying74
 a53 := Tryz.isAgg74
 z53 := Tryz.sizeOf74
 v53 := Tryz.zeroValue74
 t70 := Tryz.underlying127
 a70 := Tryz.isAgg127
 z70 := Tryz.sizeOf127
 v70 := Tryz.zeroValue127
 t72 := Tryz.underlying129
 a72 := Tryz.isAgg129
 z72 := Tryz.sizeOf129
 v72 := Tryz.zeroValue129
 t75 := Tryz.underlying132
 a75 := Tryz.isAgg132
 z75 := Tryz.sizeOf132
 v75 := Tryz.zeroValue132
 t76 := Tryz.underlying133
 a76 := Tryz.isAgg133
 z76 := Tryz.sizeOf133
 v76 := Tryz.zeroValue133
 t109 := Tryz.underlying125
 a109 := Tryz.isAgg125
 z109 := Tryz.sizeOf125
 v109 := Tryz.zeroValue125
 t127 := Tryz.underlying157
 a127 := Tryz.isAgg157
 z127 := Tryz.sizeOf157
 v127 := Tryz.zeroValue157
 t146 := Tryz.underlying123
 a146 := Tryz.isAgg123
 z146 := Tryz.sizeOf123
 v146 := Tryz.zeroValue123
 t148 := Tryz.underlying155
 a148 := Tryz.isAgg155
 z148 := Tryz.sizeOf155
 v148 := Tryz.zeroValue155
 t164 := Tryz.underlying165
 a164 := Tryz.isAgg165
 z164 := Tryz.sizeOf165
 v164 := Tryz.zeroValue165 }
theorem Tryz.Builder_Extra_105 : Builder.Extra Tryz.prog Tryz.lays105_ren := {
 sizeBuilder := by kernel_rfl
 liesBuilder := by kernel_rfl
 t5 := Tryz.underlying5
 a5 := Tryz.isAgg5
 z5 := Tryz.sizeOf5
 v5 := Tryz.zeroValue5
 infoByte := by kernel_rfl
 cellsByte := by kernel_rfl
 sizeByte := by kernel_rfl
 neB5 := by decide }
open Go.RowKit Go.Lib in
theorem Tryz.strings_Repeat (s : ByteArray) (c : Nat) (w : World) (hc : c ≤ 9223372036854775807) (hlen : s.size * c ≤ 140737488355328) :
  Calls Tryz.prog 86 #[.string s, .int .i64 c] w fun e w' => e = .returned (.string ⟨(Lib.repeatL s.data.toList c).toArray⟩) ∧ Below w.heap.size w w' := Any.strings_Repeat Tryz.lays105 Tryz.Builder_Extra_105 s c w hc hlen
end Go.Proofs
namespace Go.Proofs.YtodapfhnbgoanaaGreatDoor
open Go.RowKit
open Go.Lib (decDigits)
set_option maxHeartbeats 800000
set_option maxRecDepth 100000
theorem info5 : (Tryz.prog.info? 5).map (fun i => (i.zero, i.size, i.bytes)) = some (some (.int .u8 0), 1, 1) := by kernel_rfl
theorem byteCells_codes (l : List UInt8) : Lib.byteCells l = (codes l).map fun (d : Nat) => Value.int .u8 (d : Int) := by simp [Lib.byteCells, codes]
theorem digit_code (d : Nat) : (UInt8.ofNat (48 + d % 10)).toNat = 48 + d % 10 := by
 rw [UInt8.toNat_ofNat']; omega
theorem padk_step (r j : Nat) (hj : j < 9) : codes ((padk 9 r).take (j + 1)) = codes ((padk 9 r).take j) ++ [48 + r / (10 ^ (9 - j) / 10) % 10] := by
 match j, hj with
 | 0, _ => simp [padk, codes, Nat.div_div_eq_div_mul]; omega
 | 1, _ => simp [padk, codes, Nat.div_div_eq_div_mul]; omega
 | 2, _ => simp [padk, codes, Nat.div_div_eq_div_mul]; omega
 | 3, _ => simp [padk, codes, Nat.div_div_eq_div_mul]; omega
 | 4, _ => simp [padk, codes, Nat.div_div_eq_div_mul]; omega
 | 5, _ => simp [padk, codes, Nat.div_div_eq_div_mul]; omega
 | 6, _ => simp [padk, codes, Nat.div_div_eq_div_mul]; omega
 | 7, _ => simp [padk, codes, Nat.div_div_eq_div_mul]; omega
 | 8, _ => simp [padk, codes, Nat.div_div_eq_div_mul]; omega
theorem unit_facts (j : Nat) (hj : j < 9) : 1 ≤ 10 ^ (9 - j) / 10 ∧ 10 ^ (9 - j) / 10 ≤ 100000000 ∧ 10 ^ (9 - j) / 10 / 10 = 10 ^ (9 - (j + 1)) / 10 := by
 match j, hj with
 | 0, _ => decide
 | 1, _ => decide
 | 2, _ => decide
 | 3, _ => decide
 | 4, _ => decide
 | 5, _ => decide
 | 6, _ => decide
 | 7, _ => decide
 | 8, _ => decide
theorem appendLimb_any (r B : Nat) (v : Value) (T : List UInt8) (w : World) (hr : r < 1000000000) (hT : T.length ≤ 10000000) (hB : B ≤ w.heap.size) (hown : Own .u8 5 w B v (codes T)) :
  Calls Tryz.prog 51 #[v, .int .u32 r] w fun e w' => ∃ v', e = .returned v' ∧ Own .u8 5 w' B v' (codes (T ++ padk 9 r)) ∧ Below B w w' := by
 obtain ⟨i0, hi, hz0, hz1, hz2⟩ := info_parts info5
 go_enter Tryz.func51, Tryz.ntmps51
 go_wp2
 go_loopw [0, 5] (fun tv uv wr => ∃ j : Nat, j ≤ 9 ∧ uv = .int .u32 ((10 ^ (9 - j) / 10 : Nat) : Int) ∧ Own .u8 5 wr B tv (codes T ++ codes ((padk 9 r).take j)) ∧ Below B w wr) (fun _ uv _ => (intOf uv).toNat)
 case atStart => exact ⟨0, by omega, rfl, by simpa [codes] using hown, Below.refl _ _⟩
 case round =>
  obtain ⟨j, hj, rfl, ho, hbw⟩ := hrel
  by_cases hlt : j < 9
  ·obtain ⟨u1, u2, u3⟩ := unit_facts j hlt
   have hst := padk_step r j hlt
   have hlen : (codes T ++ codes ((padk 9 r).take j)).length ≤ 20000000 := by
    rw [List.length_append, codes_length, codes_length, List.length_take, padk_length]; omega
   generalize 10 ^ (9 - j) / 10 = u at *
   have U3 := Lib.hid u3
   have HST := Lib.hid hst
   have HLEN := Lib.hid hlen
   clear u3 hst hlen
   have q1 : 0 ≤ (r : Int) / (u : Int) := Int.ediv_nonneg (by omega) (by omega)
   have q2 : (r : Int) / (u : Int) ≤ (r : Int) := Int.ediv_le_self _ (by omega)
   have hsz := hbw.size
   have hu0 : ((u : Int) == 0) = false := by simp; omega
   have hu1 : decide ((0 : Int) < (u : Int)) = true := by simp; omega
   go_wp2_with (first
    | (at_builtin; go_loud (refine wpList_append_num wr rfl (.tmp 10) (.tmp 17) 84 rfl .u8 B 5 i0 1 Tryz.underlying84 hi hz0 hz1 hz2 (by omega) u0 _ (by rfl) ho _ (48 + r / u % 10) ?_ 1 rfl (Nat.le_trans HLEN.out (by omega)) ?_ ?_; (simp); (omega); intro v2 w2 ho2 hb2))
    | fail)
   go_roundw
   case rel =>
    have o2 := ho2.out
    rw [List.append_assoc, ← HST.out] at o2
    exact ⟨j + 1, by omega, by rw [← U3.out]; simp, o2, hbw.trans hb2⟩
   case measure => simp [intOf]; omega
  ·obtain rfl : j = 9 := by omega
   have e9 : ((10 ^ (9 - 9) / 10 : Nat) : Int) = 0 := by decide
   rw [e9]
   have o9 : Own .u8 5 wr B u0 (codes (T ++ padk 9 r)) := by
    rw [List.take_of_length_le (by rw [padk_length]; omega), ← codes_append] at ho
    exact ho
   have hdf : decide ((0 : Int) < (0 : Int)) = false := by decide
   clear ho e9
   go_wp2
   go_ret
   exact ⟨_, rfl, o9, hbw⟩
theorem appendUint_any (u B : Nat) (v : Value) (T : List UInt8) (w : World) (hu : u < 10000000000000000000) (hT : T.length ≤ 10000000) (hB : B ≤ w.heap.size) (hown : Own .u8 5 w B v (codes T))
  (htab : Lib.TabIs Tryz.prog w "internal/strconv.uint64pow10" .u64 Lib.pow10Tab) :
  Calls Tryz.prog 50 #[v, .int .u64 u, .int .i64 10] w fun e w' => ∃ v', e = .returned v' ∧ Own .u8 5 w' B v' (codes (T ++ decDigits u)) ∧ Below B w w' := by
 have hc : Calls Tryz.prog 76 #[v, .int .u64 u, .int .i64 10] w fun e w' => ∃ v', e = .returned v' ∧ w'.ownsRow B 5 1 v' (codes T ++ codes (decDigits u)).length ((codes T ++ codes (decDigits u)).map fun (d : Nat) => Value.int .u8 (d : Int)) ∧ Below B w w' := by
  by_cases h : u < 100
  ·refine (Tryz.internal_strconv_AppendUint_10_small B _ u h v _ w hown hB (by rw [codes_length]; omega)).mono ?_
   rintro e w' ⟨v', he, ho, hb, _⟩
   refine ⟨v', he, ?_, hb⟩
   rw [List.length_append, codes_length (decDigits u), List.map_append, ← byteCells_codes (decDigits u)]
   exact ho
  ·refine (Tryz.internal_strconv_AppendUint_10_big B _ u (by omega) (by omega) v _ w hown hB (by rw [codes_length]; omega) htab).mono ?_
   rintro e w' ⟨v', he, ho, hb, _⟩
   refine ⟨v', he, ?_, hb⟩
   rw [List.length_append, codes_length (decDigits u), List.map_append, ← byteCells_codes (decDigits u)]
   exact ho
 have HC := Lib.hid hc
 clear hc htab hown
 go_enter Tryz.func50, Tryz.ntmps50
 go_wp2_with fail
 refine HC.out.mono ?_
 rintro e w' ⟨v', rfl, ho, hb⟩
 have HO := Lib.hid ho
 clear ho
 go_wp2_with fail
 go_ret
 exact ⟨_, rfl, by rw [codes_append]; exact HO.out, hb⟩
theorem fold_push (l : List UInt8) (acc : ByteArray) : (codes l).foldl (fun (r : ByteArray) (n : Nat) => r.push (UInt8.ofNat (n : Int).toNat)) acc = ⟨acc.data ++ l.toArray⟩ := by
 induction l generalizing acc with
 | nil => simp [codes]
 | cons c r ih =>
  show (codes r).foldl _ (acc.push (UInt8.ofNat (c.toNat : Int).toNat)) = _
  rw [ih]
  have : UInt8.ofNat (c.toNat : Int).toNat = c := by simp
  rw [this]
  simp [ByteArray.push]
theorem run_bytes_str {P : Program} {w : World} {e : TypeId} {base : Nat} {v : Value} {T : List UInt8} (src dst : TypeId) (hs : P.underlying src = some (.slice e)) (he : P.underlying e = some (.int .u8)) (hd : P.underlying dst = some .string)
  (hown : Own .u8 e w base v (codes T)) (hT : T ≠ []) : (convert src dst v).run P w = .ok (.string ⟨T.toArray⟩) w := by
 obtain ⟨A, c, rfl, hrow⟩ := hown.row
 obtain ⟨b, o, rfl, _, hc⟩ := hrow.spot (by rw [codes_length]; exact List.length_pos_iff.2 hT)
 rw [run_convert_bytes_string w src dst e _ _ _ hs he hd]
 have hl : (loadCells ⟨b, o, none⟩ (codes T).length).run P w = .ok (((codes T).map fun (n : Nat) => (n : Int)).map (Value.int .u8)).toArray w := by
  have := run_loadCells_list (P := P) (w := w) ⟨b, o, none⟩ (((codes T).map fun (n : Nat) => (n : Int)).map (Value.int .u8)) (fun j v hj => by
   have hjl : j < (codes T).length := by
    rcases Nat.lt_or_ge j (codes T).length with h | h
    ·exact h
    ·rw [List.getElem?_eq_none (by simpa using h)] at hj; cases hj
   have h2 := hc j hjl
   have h3 : v = .int .u8 (nth (codes T) j) := by
    rw [List.getElem?_map, List.getElem?_map, List.getElem?_eq_getElem hjl] at hj
    simp at hj
    rw [← hj, nth_lt hjl]
   rw [h3, ← h2]
   unfold Addr.add
   split
   ·rename_i h0; subst h0; simp
   ·rfl)
  simpa using this
 rw [run_bytesToString w _ _ _ _ hl, List.foldl_map, fold_push]
 simp [ByteArray.empty, ByteArray.emptyWithCapacity]
 rfl
theorem wpList_bytes_str {P : Program} {w : World} {ops : Array Oper} {rest : List Oper} {o : Oper} {a : Act} {Q : Exit → Act → World → Prop} (hg : o.guard = none) (src dst : TypeId) (x : Operand) (hop : o.op = Op.convert src dst x)
  (e : TypeId) (hs : P.underlying src = some (.slice e)) (he : P.underlying e = some (.int .u8)) (hd : P.underlying dst = some .string)
  (base : Nat) (v : Value) (T : List UInt8) (hx : a.eval x = v) (hown : Own .u8 e w base v (codes T)) (hT : T ≠ [])
  (h : wpList P ops Q rest (a.put o.dst (.string ⟨T.toArray⟩)) w) : wpList P ops Q (o :: rest) a w := by
 refine wpList_plain hg fun K hK => ?_
 have hrun := run_bytes_str src dst hs he hd hown hT
 unfold Oper.wp
 simp [execOp, hop, hx, hrun, Result.andThen]
 exact hK _ _ h
set_option maxHeartbeats 1600000
set_option maxRecDepth 20000
def decI (neg : Bool) (n : Nat) : List UInt8 := (if neg then [45] else []) ++ decDigits n
abbrev Tab (B : Nat) (w : World) : Prop := Lib.TabBelow Tryz.prog B w "internal/strconv.uint64pow10" .u64 Lib.pow10Tab
theorem Below.less {B B' : Nat} {w w' : World} (h : Below B' w w') (hB : B ≤ B') : Below B w w' := ⟨h.os, h.tape, h.output, h.size, fun k hk => h.block k (by omega)⟩
theorem Tab.more {B B' : Nat} {w : World} (h : Tab B w) (hB : B ≤ B') : Tab B' w := fun w' hb => h w' (Below.less hb hB)
theorem make_own8 {P : Program} (w : World) {ops : Array Oper} {rest : List Oper} {o : Oper} {a : Act} {Q : Exit → Act → World → Prop}
  (hg : o.guard = none) (l c : Operand) (t : TypeId) (hop : o.op = Op.makeSlice t l c)
  (e : TypeId) (i : TypeInfo) (h1 : P.underlying t = some (.slice e)) (h2 : P.info? e = some i) (h3 : i.zero = some (.int .u8 0)) (h4 : i.size = 1) (h5 : i.bytes = 1)
  (kl kc : IntKind) (C : Int) (n : Nat) (hl : a.eval l = .int kl 0) (hc : a.eval c = .int kc C) (hC : C = (n : Int)) (hn : n ≤ 100000000)
  (hK : ∀ w', Hid (Own .u8 e w' w.heap.size (.slice (some ⟨w.heap.size, 0, none⟩) 0 n) (codes [])) → Below w.heap.size w w' → wpList P ops Q rest (a.put o.dst (.slice (some ⟨w.heap.size, 0, none⟩) 0 n)) w') :
  wpList P ops Q (o :: rest) a w :=
 wpList_make_own w hg l c t hop w.heap.size e i (.int .u8 0) 1 h1 h2 h3 h4 kl kc C n hl hc hC (by rw [h5]; omega) (by unfold maxLen; omega) (Nat.le_refl _)
  fun w' ho hgr => hK w' ho (grown_none_below (Below.refl _ _) hgr (Nat.le_refl _))
theorem boxed {w w1 : World} {x y : Value} {t : TypeId} (h : Below (w.alloc (.cells #[x, y] t)).heap.size (w.alloc (.cells #[x, y] t)) w1) :
  w1.cell? ⟨w.heap.size, 0, none⟩ = some x ∧ w1.cell? ⟨w.heap.size, 1, none⟩ = some y ∧ w.heap.size + 1 ≤ w1.heap.size ∧ Below (w.heap.size + 1) (w.alloc (.cells #[x, y] t)) w1 := by
 have hs : (w.alloc (.cells #[x, y] t)).heap.size = w.heap.size + 1 := by simp
 rw [hs] at h
 have hh := heap_alloc_new w (.cells #[x, y] t)
 refine ⟨?_, ?_, by have := h.size; omega, h⟩
 ·rw [h.cell (by show w.heap.size < _; omega)]; unfold World.cell?; dsimp only; rw [hh]; rfl
 ·rw [h.cell (by show w.heap.size < _; omega)]; unfold World.cell?; dsimp only; rw [hh]; rfl
theorem boxedF {w w1 : World} {cs : Array Value} {t : TypeId} (h : Below (w.heap.size + 1) (w.alloc (.cells cs t)) w1) (i : Nat) : w1.frozen? ⟨w.heap.size, i, none⟩ = false := by
 rw [h.frozen (by show w.heap.size < _; omega)]
 unfold World.frozen?; dsimp only; rw [heap_alloc_new]; simp
theorem nDigits_le (k : Nat) : ∀ n, n < 10 ^ (k + 1) → Go.Lib.nDigits n ≤ k + 1 := by
 induction k with
 | zero => intro n h; rw [Go.Lib.nDigits_small (by simpa using h)]; omega
 | succ k ih =>
  intro n h
  by_cases h10 : n < 10
  ·rw [Go.Lib.nDigits_small h10]; omega
  ·rw [Go.Lib.nDigits_big h10]
   have := ih (n / 10) (by rw [Nat.pow_succ] at h; omega)
   omega
theorem dec_ne (n : Nat) : decDigits n ≠ [] := by
 rw [decDigits]
 split <;> simp
theorem dec_len (n : Nat) (h : n < 1000000000) : (decDigits n).length ≤ 10 := by
 rw [Go.Lib.decDigits_length]
 have := nDigits_le 8 n (by omega)
 omega
theorem boxed2 {w w1 : World} {x y : Value} {t : TypeId} (h : Below (w.heap.size + 1) (w.alloc (.cells #[x, y] t)) w1) :
  w1.cell? ⟨w.heap.size, 0, none⟩ = some x ∧ w1.cell? ⟨w.heap.size, 1, none⟩ = some y := by
 have hs : (w.alloc (.cells #[x, y] t)).heap.size = w.heap.size + 1 := by simp
 have := boxed (w := w) (w1 := w1) (x := x) (y := y) (t := t) (by rw [hs]; exact h)
 exact ⟨this.1, this.2.1⟩
theorem text_long (neg : Bool) (A : Option Addr) (c : Nat) (L : List Nat) (w : World) (hn : 0 < L.length) (hl : L.length ≤ 100000) (hL : Lim L) (htop : nth L (L.length - 1) ≠ 0)
  (hR : Row .u32 w w.heap.size A c L) (ht : Tab w.heap.size w) :
  Calls Tryz.prog 26 #[.agg #[.bool neg, .slice A L.length c]] w fun e w' => e = .returned (.string ⟨(decI neg (valB 1000000000 L)).toArray⟩) ∧ Below w.heap.size w w' := by
 obtain ⟨i0, hi, hz0, hz1, hz2⟩ := info_parts info5
 obtain ⟨b, o, rfl, hb, hcell⟩ := hR.spot hn
 generalize hl' : L.length = l at *
 have HL := Lib.hid hl'
 clear hl'
 have h0 : ((l : Int) == 0) = false := by simp; omega
 have htl := hL.nth (l - 1)
 have e1 : ((l : Int) - 1).toNat = l - 1 := by omega
 have hval : decI neg (valB 1000000000 L) = (if neg then [45] else []) ++ (decDigits (nth L (l - 1)) ++ lowPads 9 (L.take (l - 1))) := by
  unfold decI
  congr 1
  have := dec_limbs 9 (L.take (l - 1)) (nth L (l - 1)) (by omega) (fun d hd => hL d (List.mem_of_mem_take hd))
  rw [← this]
  have e2 : L.take (l - 1) ++ [nth L (l - 1)] = L := by
   have hh : l - 1 < L.length := by rw [HL.out]; omega
   rw [nth_lt hh, List.take_append_getElem]
   exact List.take_of_length_le (by rw [HL.out]; omega)
  rw [e2]
 have HV := Lib.hid hval
 clear hval e1 htop
 generalize htt : nth L (l - 1) = top at *
 have HTT := Lib.hid htt
 clear htt
 have HT := Lib.hid ht
 clear ht
 have ⟨S, hS, hS2⟩ : ∃ S : List UInt8, Hid ((if neg then [45] else []) = S) ∧ S.length ≤ 1 := ⟨_, rfl, by cases neg <;> simp⟩
 cases neg
 case false =>
  obtain rfl : [] = S := hS
  go_enter Tryz.func26, Tryz.ntmps26
  go_wp2_with (refine make_own8 _ rfl (.const (.int .i64 0)) (.tmp 14) 84 rfl 5 i0 Tryz.underlying84 hi hz0 hz1 hz2 .i64 .i64 _ (l * 9 + 1) rfl rfl ?_ ?_ ?_; (omega); (omega); intro w1 ho1 hb1; have X := boxed hb1; have hx0 := X.1; have hx1 := X.2.1; have hs1 := X.2.2.1; have hbx := X.2.2.2; clear X hb1; have hcl := hcell.below (Below.trans (below_alloc_new _) (Below.less hbx (Nat.le_succ _))) hb; have hlast := hcl (l - 1) (by rw [HL.out]; omega); rw [HTT.out] at hlast)
  refine (appendUint_any top (w.heap.size + 1) _ [] w1 (by omega) (by simp) hs1 (by simpa using ho1.out) (HT.out.on (Below.trans (below_alloc_new _) (Below.less hbx (Nat.le_succ _))) |>.here)).mono ?_
  rintro e w2 ⟨v2, rfl, ho2, hb2⟩
  have hbx2 := hbx.trans hb2
  clear hx0 hx1 hcl hlast hb2
  have hx1 := (boxed2 hbx2).2
  have HO2 := Lib.hid ho2
  clear ho2 ho1
  go_wp2_with fail
  generalize hP : [] ++ decDigits top = P0 at *
  have hPl : P0.length ≤ 21 := by rw [← hP]; have := dec_len top htl; simp; omega
  have HP := Lib.hid hP
  clear hP
  go_loopw [3, 5] (fun tv iv wr => ∃ k : Nat, k ≤ l - 1 ∧ iv = .int .i64 ((k : Int) - 1) ∧ Own .u8 5 wr (w.heap.size + 1) tv (codes (P0 ++ lowPads 9 ((L.take (l - 1)).drop k))) ∧
   Below (w.heap.size + 1) (w.alloc (.cells #[.bool false, .slice (some ⟨b, o, none⟩) l c] 25)) wr) (fun _ iv _ => (intOf iv + 1).toNat)
  case atStart => exact ⟨l - 1, by omega, by congr 1; omega, by rw [List.drop_of_length_le (by rw [List.length_take, HL.out]; omega)]; simpa [lowPads] using HO2.out, hbx2⟩
  case round =>
   clear hx1 hbx2
   obtain ⟨k, hk, rfl, ho, hbr⟩ := hrel
   have hx1 := (boxed2 hbr).2
   rcases Nat.eq_zero_or_pos k with rfl | hpos
   ·have hd : decide ((0 : Int) ≤ ((0 : Nat) : Int) - 1) = false := by simp
    have HO := Lib.hid ho
    clear ho
    have hne : P0 ++ lowPads 9 ((L.take (l - 1)).drop 0) ≠ [] := by rw [← HP.out]; simp [dec_ne]
    have HNE := Lib.hid hne
    clear hne
    go_wp2_with (refine wpList_bytes_str rfl 84 9 (.tmp 46) rfl 5 Tryz.underlying84 Tryz.underlying5 Tryz.underlying9 (w.heap.size + 1) u3 _ (by rfl) HO.out HNE.out ?_)
    go_ret
    exact ⟨by rw [HV.out, ← HP.out]; simp, (below_alloc_new _).trans (Below.less hbr (Nat.le_succ _))⟩
   ·obtain ⟨m, rfl⟩ : ∃ m, k = m + 1 := ⟨k - 1, by omega⟩
    have h1 : ((0 : Int) ≤ ((m + 1 : Nat) : Int) - 1) := by omega
    have e1 : ((m + 1 : Nat) : Int) - 1 = (m : Int) := by omega
    rw [e1]
    clear e1 h1
    have hm := (hcell.below (Below.trans (below_alloc_new _) (Below.less hbr (Nat.le_succ _))) hb) m (by rw [HL.out]; omega)
    have hml := hL.nth m
    have hsr : w.heap.size + 1 ≤ wr.heap.size := by have := hbr.size; simpa using this
    have hlen : (P0 ++ lowPads 9 ((L.take (l - 1)).drop (m + 1))).length ≤ 10000000 := by
     rw [List.length_append, lowPads_length, List.length_drop, List.length_take, HL.out]; omega
    have hst : lowPads 9 ((L.take (l - 1)).drop m) = lowPads 9 ((L.take (l - 1)).drop (m + 1)) ++ padk 9 (nth L m) := by
     have hml2 : m < (L.take (l - 1)).length := by rw [List.length_take, HL.out]; omega
     rw [List.drop_eq_getElem_cons hml2, lowPads, nth_lt (by rw [HL.out]; omega)]
     simp
    have hap := appendLimb_any (nth L m) (w.heap.size + 1) u3 _ wr hml hlen hsr ho
    have HAP := Lib.hid hap
    have HST := Lib.hid hst
    clear hlen hst ho hap
    go_wp2_with fail
    refine HAP.out.mono ?_
    rintro e w3 ⟨v3, rfl, ho3, hb3⟩
    have HO3 := Lib.hid ho3
    clear ho3 hx1 hm
    go_wp2_with fail
    go_roundw
    case rel => exact ⟨m, by omega, rfl, by rw [HST.out, ← List.append_assoc]; exact HO3.out, hbr.trans hb3⟩
    case measure => simp [intOf]
 case true =>
  obtain rfl : [45] = S := hS
  go_enter Tryz.func26, Tryz.ntmps26
  go_wp2_with (first
   | (refine make_own8 _ rfl (.const (.int .i64 0)) (.tmp 14) 84 rfl 5 i0 Tryz.underlying84 hi hz0 hz1 hz2 .i64 .i64 _ (l * 9 + 1) rfl rfl ?_ ?_ ?_; (omega); (omega); intro w1 ho1 hb1; have X := boxed hb1; have hx0 := X.1; have hx1 := X.2.1; have hs1 := X.2.2.1; have hbx := X.2.2.2; clear X hb1)
   | (at_builtin; refine wpList_append_num w1 rfl (.tmp 18) (.tmp 19) 84 rfl .u8 (w.heap.size + 1) 5 i0 1 Tryz.underlying84 hi hz0 hz1 hz2 (by omega) (.slice (some ⟨w.heap.size + 1, 0, none⟩) 0 (l * 9 + 1)) (codes []) (by rfl) (by simpa using ho1.out) _ 45 ?_ 1 rfl ?_ ?_ ?_; (rfl); (simp [codes]); (exact hs1); intro w4 w5 ho5 hb5; have hbx5 := hbx.trans hb5; have hx5 := (boxed2 hbx5).1; have hx6 := (boxed2 hbx5).2; have hs5 := Nat.le_trans hs1 hb5.size; clear hb5 hx0 hx1; have hcl := hcell.below (Below.trans (below_alloc_new _) (Below.less hbx5 (Nat.le_succ _))) hb; have hlast := hcl (l - 1) (by rw [HL.out]; omega); rw [HTT.out] at hlast)
   | fail)
  refine (appendUint_any top (w.heap.size + 1) _ [45] w5 (by omega) (by simp) hs5 ho5.out (HT.out.on (Below.trans (below_alloc_new _) (Below.less hbx5 (Nat.le_succ _))) |>.here)).mono ?_
  rintro e w2 ⟨v2, rfl, ho2, hb2⟩
  have hbx2 := hbx5.trans hb2
  clear hx5 hx6 hcl hlast hb2
  have hx1 := (boxed2 hbx2).2
  have HO2 := Lib.hid ho2
  clear ho2 ho5
  go_wp2_with fail
  generalize hP : [45] ++ decDigits top = P0 at *
  have hPl : P0.length ≤ 21 := by rw [← hP]; have := dec_len top htl; simp; omega
  have HP := Lib.hid hP
  clear hP
  go_loopw [3, 5] (fun tv iv wr => ∃ k : Nat, k ≤ l - 1 ∧ iv = .int .i64 ((k : Int) - 1) ∧ Own .u8 5 wr (w.heap.size + 1) tv (codes (P0 ++ lowPads 9 ((L.take (l - 1)).drop k))) ∧
   Below (w.heap.size + 1) (w.alloc (.cells #[.bool true, .slice (some ⟨b, o, none⟩) l c] 25)) wr) (fun _ iv _ => (intOf iv + 1).toNat)
  case atStart => exact ⟨l - 1, by omega, by congr 1; omega, by rw [List.drop_of_length_le (by rw [List.length_take, HL.out]; omega)]; simpa [lowPads] using HO2.out, hbx2⟩
  case round =>
   clear hx1 hbx2
   obtain ⟨k, hk, rfl, ho, hbr⟩ := hrel
   have hx1 := (boxed2 hbr).2
   rcases Nat.eq_zero_or_pos k with rfl | hpos
   ·have hd : decide ((0 : Int) ≤ ((0 : Nat) : Int) - 1) = false := by simp
    have HO := Lib.hid ho
    clear ho
    have hne : P0 ++ lowPads 9 ((L.take (l - 1)).drop 0) ≠ [] := by rw [← HP.out]; simp
    have HNE := Lib.hid hne
    clear hne
    go_wp2_with (refine wpList_bytes_str rfl 84 9 (.tmp 46) rfl 5 Tryz.underlying84 Tryz.underlying5 Tryz.underlying9 (w.heap.size + 1) u3 _ (by rfl) HO.out HNE.out ?_)
    go_ret
    exact ⟨by rw [HV.out, ← HP.out]; simp, (below_alloc_new _).trans (Below.less hbr (Nat.le_succ _))⟩
   ·obtain ⟨m, rfl⟩ : ∃ m, k = m + 1 := ⟨k - 1, by omega⟩
    have h1 : ((0 : Int) ≤ ((m + 1 : Nat) : Int) - 1) := by omega
    have e1 : ((m + 1 : Nat) : Int) - 1 = (m : Int) := by omega
    rw [e1]
    clear e1 h1
    have hm := (hcell.below (Below.trans (below_alloc_new _) (Below.less hbr (Nat.le_succ _))) hb) m (by rw [HL.out]; omega)
    have hml := hL.nth m
    have hsr : w.heap.size + 1 ≤ wr.heap.size := by have := hbr.size; simpa using this
    have hlen : (P0 ++ lowPads 9 ((L.take (l - 1)).drop (m + 1))).length ≤ 10000000 := by
     rw [List.length_append, lowPads_length, List.length_drop, List.length_take, HL.out]; omega
    have hst : lowPads 9 ((L.take (l - 1)).drop m) = lowPads 9 ((L.take (l - 1)).drop (m + 1)) ++ padk 9 (nth L m) := by
     have hml2 : m < (L.take (l - 1)).length := by rw [List.length_take, HL.out]; omega
     rw [List.drop_eq_getElem_cons hml2, lowPads, nth_lt (by rw [HL.out]; omega)]
     simp
    have hap := appendLimb_any (nth L m) (w.heap.size + 1) u3 _ wr hml hlen hsr ho
    have HAP := Lib.hid hap
    have HST := Lib.hid hst
    clear hlen hst ho hap
    go_wp2_with fail
    refine HAP.out.mono ?_
    rintro e w3 ⟨v3, rfl, ho3, hb3⟩
    have HO3 := Lib.hid ho3
    clear ho3 hx1 hm
    go_wp2_with fail
    go_roundw
    case rel => exact ⟨m, by omega, rfl, by rw [HST.out, ← List.append_assoc]; exact HO3.out, hbr.trans hb3⟩
    case measure => simp [intOf]
theorem text_zero (neg : Bool) (A : Option Addr) (c : Nat) (w : World) :
  Calls Tryz.prog 26 #[.agg #[.bool neg, .slice A 0 c]] w fun e w' => e = .returned (.string ⟨#[48]⟩) ∧ Below w.heap.size w w' := by
 go_enter Tryz.func26, Tryz.ntmps26
 go_wp2
 go_ret
 exact ⟨rfl, below_alloc_new _⟩
structure Canon (L : List Nat) : Prop where
 lim : Lim L
 top : 0 < L.length → nth L (L.length - 1) ≠ 0
theorem decI_nil : decI false (valB 1000000000 []) = [48] := by
 show [] ++ decDigits 0 = _
 rw [dec_small (by omega)]; rfl
theorem text_any (neg : Bool) (A : Option Addr) (c : Nat) (L : List Nat) (w : World) (hl : L.length ≤ 100000) (hL : Canon L) (hneg : neg = true → L ≠ [])
  (hR : Row .u32 w w.heap.size A c L) (ht : Tab w.heap.size w) :
  Calls Tryz.prog 26 #[.agg #[.bool neg, .slice A L.length c]] w fun e w' => e = .returned (.string ⟨(decI neg (valB 1000000000 L)).toArray⟩) ∧ Below w.heap.size w w' := by
 rcases Nat.eq_zero_or_pos L.length with h | h
 ·obtain rfl : L = [] := List.eq_nil_of_length_eq_zero h
  cases neg
  ·rw [decI_nil]; exact text_zero _ _ _ _
  ·exact absurd rfl (hneg rfl)
 ·exact text_long neg A c L w h hl hL.lim (hL.top h) hR ht
theorem decode_high (s : ByteArray) (pos : Nat) (h : pos < s.size) (ha : 128 ≤ (s[pos]'h).toNat) : 128 ≤ (Utf8.decode s pos).1 := by
 have e : s.get! (pos + 0) = s[pos]'h := by
  show s.get! pos = _
  simp [ByteArray.get!, getElem!_pos, h]
  rfl
 have hr : 128 ≤ Utf8.runeError := by decide
 unfold Utf8.decode
 simp only [e]
 rw [if_neg (by omega)]
 repeat' split
 all_goals first | (rename_i hc; simp at hc; omega) | exact hr
theorem toList_get (s : ByteArray) (k : Nat) (h : k < s.size) : s.data.toList[k]'(by simpa using h) = s[k] := by simp; rfl
theorem no_num (s : ByteArray) (k : Nat) (h : k < s.size) (hd : ¬ isDig (s[k]'h) = true) : okNum s.data.toList = false := by
 have : s.data.toList.all isDig = false := by
  rw [List.all_eq_false]
  refine ⟨s[k], ?_, by simpa using hd⟩
  rw [← toList_get s k h]
  exact List.getElem_mem _
 simp [okNum, this]
theorem all_dig (s : ByteArray) (h : ∀ j, j < s.size → ∀ (h2 : j < s.size), isDig (s[j]'h2) = true) : s.data.toList.all isDig = true := by
 rw [List.all_eq_true]
 intro x hx
 obtain ⟨j, hj, rfl⟩ := List.getElem_of_mem hx
 have hj' : j < s.size := by simpa using hj
 rw [toList_get s j hj']
 exact h j hj' hj'
theorem okNum_head (s : ByteArray) (h : 0 < s.size) (ha : s.data.toList.all isDig = true) (hn : (s.data.toList == [48]) = false) : okNum s.data.toList = ((((s[0]'h).toNat : Nat) : Int) != 48) := by
 have e := toList_get s 0 h
 have hl : s.data.toList.length = s.size := by simp
 unfold okNum
 rw [ha, hn]
 rcases hs : s.data.toList with _ | ⟨c, r⟩
 ·rw [hs] at hl; simp at hl; omega
 ·have e : c = s[0] := by
   rw [← e]; simp [hs]
  rw [← e]
  by_cases hc : c = 48
  ·subst hc; rfl
  ·have hc' : ¬ c.toNat = 48 := fun e => hc (by apply UInt8.toNat_inj.1; rw [e]; rfl)
   have : ((c.toNat : Int) != 48) = true := by simp; omega
   rw [this]
   simpa using hc
set_option maxHeartbeats 800000 in
theorem isNumber_any (s : ByteArray) (w : World) (_hs : s.size ≤ 1000000) :
  Calls Tryz.prog 36 #[.string s] w fun e w' => e = .returned (.bool (okNum s.data.toList)) ∧ Below w.heap.size w w' := by
 go_enter Tryz.func36, Tryz.ntmps36
 go_wp2
 go_loopw [] (fun wr => ∃ k : Nat, k ≤ s.size ∧ wr = w.iter s k ∧ Hid (∀ j (h : j < k) (h2 : j < s.size), isDig (s[j]'h2) = true)) (fun wr => s.size - wr.iterPos w.heap.size)
 case atStart => exact ⟨0, Nat.zero_le _, rfl, fun j h _ => absurd h (by omega)⟩
 case round =>
  obtain ⟨k, hk, rfl, hd⟩ := hrel
  by_cases hlt : k < s.size
  ·by_cases ha : (s[k]'hlt).toNat < 128
   ·have hnx := fun ty => run_next_ascii (P := Tryz.prog) w s k ty hlt ha
    by_cases hdig : isDig (s[k]'hlt) = true
    ·have h1 := (isDig_iff.1 hdig).1
     have h2 := (isDig_iff.1 hdig).2
     have hq : decide ((((s[k]'hlt).toNat : Nat) : Int) < 48) = false := by simp; omega
     go_wp2
     go_roundw
     case rel => exact ⟨k + 1, by omega, rfl, fun j hj h2 => by
      rcases Nat.lt_succ_iff_lt_or_eq.1 hj with h3 | rfl
      ·exact hd.out j h3 h2
      ·exact hdig⟩
     case measure => simp; omega
    ·have hno : okNum s.data.toList = false := no_num s k hlt hdig
     have hno' := Lib.hid hno
     clear hno
     by_cases h48 : (s[k]'hlt).toNat < 48
     ·have hq : decide ((((s[k]'hlt).toNat : Nat) : Int) < 48) = true := by simp; omega
      go_wp2
      go_ret
      exact ⟨by rw [hno'.out]; rfl, (Below.refl _ _).alloc (Nat.le_refl _) _⟩
     ·have hq : decide ((((s[k]'hlt).toNat : Nat) : Int) < 48) = false := by simp; omega
      have h57 : ¬ (s[k]'hlt).toNat ≤ 57 := fun h => hdig (isDig_iff.2 ⟨by omega, h⟩)
      go_wp2
      go_ret
      exact ⟨by rw [hno'.out]; rfl, (Below.refl _ _).alloc (Nat.le_refl _) _⟩
   ·have hnx := fun ty => run_next_any (P := Tryz.prog) w s k ty hlt
    have hhi := decode_high s k hlt (by omega)
    have hno : okNum s.data.toList = false := no_num s k hlt (fun h => by have := isDig_iff.1 h; omega)
    have hno' := Lib.hid hno
    clear hno
    have hq : decide ((((Utf8.decode s k).1 : Nat) : Int) < 48) = false := by simp; omega
    go_wp2
    go_ret
    exact ⟨by rw [hno'.out]; rfl, (Below.refl _ _).alloc (Nat.le_refl _) _⟩
  ·obtain rfl : k = s.size := by omega
   have hnx := fun ty => run_next_end (P := Tryz.prog) w s s.size ty hlt
   have hall : s.data.toList.all isDig = true := all_dig s hd.out
   have Hall := Lib.hid hall
   clear hall
   by_cases h1 : s.data.toList = [48]
   ·have b1 : (s.toList == [48]) = true := by rw [ByteArray.toList_eq, h1]; rfl
    go_wp2
    go_ret
    exact ⟨by unfold okNum; rw [Hall.out, h1]; rfl, (Below.refl _ _).alloc (Nat.le_refl _) _⟩
   ·have b1 : (s.toList == [48]) = false := by rw [ByteArray.toList_eq]; simpa using h1
    have B1 : Hid ((s.data.toList == [48]) = false) := by show _ = _; simpa using h1
    rcases Nat.eq_zero_or_pos s.size with h0 | h0
    ·have b2 : s.toList.isEmpty = true := by rw [ByteArray.toList_eq]; simp at h0; simp [h0]
     have B2 : Hid (s.data.toList.length = 0) := by show _ = _; simpa using h0
     clear h0 h1
     go_wp2
     go_ret
     exact ⟨by unfold okNum; rw [Hall.out, B1.out, B2.out]; rfl, (Below.refl _ _).alloc (Nat.le_refl _) _⟩
    ·have b2 : s.toList.isEmpty = false := by rw [ByteArray.toList_eq, List.isEmpty_eq_false_iff, ← List.length_pos_iff]; simpa using h0
     have hb : okNum s.data.toList = ((((s[0]'h0).toNat : Nat) : Int) != 48) := okNum_head s h0 Hall.out B1.out
     have HB := Lib.hid hb
     clear hb h1 B1
     go_wp2
     go_ret
     exact ⟨by rw [HB.out]; rfl, (Below.refl _ _).alloc (Nat.le_refl _) _⟩
end Go.Proofs.YtodapfhnbgoanaaGreatDoor
