/- 'both' of the statements: two integers of the program and of the reference. -/
import Derived.Test.YtbfbijokhlkekaaDoorLawParse
namespace Go.Proofs.YtbfbijokhlkekaaDoor
open Go.RowKit

/-- Block b is the box of a struct of two cells. -/
structure Box (w : World) (b : Nat) (x y : Value) : Prop where
  c0 : w.cell? ⟨b, 0, none⟩ = some x
  c1 : w.cell? ⟨b, 1, none⟩ = some y
  hi : ∀ i, w.cell? ⟨b, i + 2, none⟩ = none
  f0 : w.frozen? ⟨b, 0, none⟩ = false
  f1 : w.frozen? ⟨b, 1, none⟩ = false
def setPair (w : World) (b : Nat) (u v : Value) : World := (w.setCell ⟨b, 0, none⟩ u).setCell ⟨b, 1, none⟩ v
section
variable {w w' : World} {b b' B : Nat} {x y u v : Value}
theorem Box.below (h : Box w b x y) (hb : Below B w w') (hB : b < B) : Box w' b x y :=
  ⟨(hb.cell (by exact hB)).trans h.c0, (hb.cell (by exact hB)).trans h.c1, fun i => (hb.cell (by exact hB)).trans (h.hi i), (hb.frozen (by exact hB)).trans h.f0, (hb.frozen (by exact hB)).trans h.f1⟩
theorem Box.store (h : Box w b x y) (u v : Value) : Box (setPair w b u v) b u v := by
  have n1 : (⟨b, 1, none⟩ : Addr) ≠ ⟨b, 0, none⟩ := by simp
  refine ⟨?_, ?_, fun i => ?_, ?_, ?_⟩
  · unfold setPair; rw [World.cell?_setCell_other _ _ _ _ n1]; exact World.cell?_setCell_same _ _ _ h.c0
  · unfold setPair; exact World.cell?_setCell_same _ _ _ (by rw [World.cell?_setCell_other _ _ _ _ n1.symm]; exact h.c1)
  · unfold setPair; rw [World.cell?_setCell_other _ _ _ _ (by simp), World.cell?_setCell_other _ _ _ _ (by simp)]; exact h.hi i
  · unfold setPair; simp [h.f0]
  · unfold setPair; simp [h.f1]
theorem Box.other (h : Box w b x y) (hne : b' ≠ b) (u v : Value) : Box (setPair w b' u v) b x y := by
  have n : ∀ i j : Nat, (⟨b', i, none⟩ : Addr) ≠ ⟨b, j, none⟩ := fun i j e => hne (congrArg Addr.block e)
  refine ⟨?_, ?_, fun i => ?_, ?_, ?_⟩
  · unfold setPair; rw [World.cell?_setCell_other _ _ _ _ (n _ _), World.cell?_setCell_other _ _ _ _ (n _ _)]; exact h.c0
  · unfold setPair; rw [World.cell?_setCell_other _ _ _ _ (n _ _), World.cell?_setCell_other _ _ _ _ (n _ _)]; exact h.c1
  · unfold setPair; rw [World.cell?_setCell_other _ _ _ _ (n _ _), World.cell?_setCell_other _ _ _ _ (n _ _)]; exact h.hi i
  · unfold setPair; simp [h.f0]
  · unfold setPair; simp [h.f1]
theorem Box.new (w : World) (x y : Value) (t : TypeId) : Box (w.alloc (.cells #[x, y] t)) w.heap.size x y := by
  have hh := heap_alloc_new w (.cells #[x, y] t)
  refine ⟨?_, ?_, fun i => ?_, ?_, ?_⟩
  · unfold World.cell?; dsimp only; rw [hh]; rfl
  · unfold World.cell?; dsimp only; rw [hh]; rfl
  · unfold World.cell?; dsimp only; rw [hh]; simp
  · unfold World.frozen?; dsimp only; rw [hh]; simp
  · unfold World.frozen?; dsimp only; rw [hh]; simp
theorem Box.row {k : IntKind} {A : Option Addr} {c : Nat} {L : List Nat} (hbx : Box w b x y) (h : Row k w B A c L) (hx : ∀ n, x ≠ .int k n) (hy : ∀ n, y ≠ .int k n) (u v : Value) : Row k (setPair w b u v) B A c L := by
  refine ⟨h.len, fun hp => ?_⟩
  obtain ⟨b', o, e, hbB, hc⟩ := h.spot hp
  have hne : b ≠ b' := by
    rintro rfl
    have h0 := hc 0 hp
    match o, h0 with
    | 0, h0 => rw [hbx.c0] at h0; exact hx _ (Option.some.inj h0)
    | 1, h0 => rw [hbx.c1] at h0; exact hy _ (Option.some.inj h0)
    | o + 2, h0 => rw [Nat.add_zero, hbx.hi o] at h0; cases h0
  refine ⟨b', o, e, hbB, hc.keep fun j => ?_⟩
  unfold setPair
  rw [World.cell?_setCell_other _ _ _ _ (fun e => hne (congrArg Addr.block e)), World.cell?_setCell_other _ _ _ _ (fun e => hne (congrArg Addr.block e))]
theorem setPair_size (w : World) (b : Nat) (u v : Value) : (setPair w b u v).heap.size = w.heap.size := by unfold setPair; rw [setCell_size, setCell_size]
theorem below_setPair {a : World} (h : Below B a w) (hB : B ≤ b) (u v : Value) : Below B a (setPair w b u v) := (h.setCell (by exact hB) _).setCell (by exact hB) _
end

/-- Four new boxes. -/
theorem four_boxes (w : World) (x0 y0 x1 y1 x2 y2 x3 y3 : Value) (t0 t1 t2 t3 : TypeId) :
    let W := (((w.alloc (.cells #[x0, y0] t0)).alloc (.cells #[x1, y1] t1)).alloc (.cells #[x2, y2] t2)).alloc (.cells #[x3, y3] t3)
    Box W w.heap.size x0 y0 ∧ Box W (w.heap.size + 1) x1 y1 ∧ Box W (w.heap.size + 1 + 1) x2 y2 ∧ Box W (w.heap.size + 1 + 1 + 1) x3 y3 ∧ W.heap.size = w.heap.size + 4 ∧ Below w.heap.size w W := by
  intro W
  have s1 : (w.alloc (.cells #[x0, y0] t0)).heap.size = w.heap.size + 1 := by simp
  have s2 : ((w.alloc (.cells #[x0, y0] t0)).alloc (.cells #[x1, y1] t1)).heap.size = w.heap.size + 1 + 1 := by simp
  have s3 : (((w.alloc (.cells #[x0, y0] t0)).alloc (.cells #[x1, y1] t1)).alloc (.cells #[x2, y2] t2)).heap.size = w.heap.size + 1 + 1 + 1 := by simp
  have b0 := Box.new w x0 y0 t0
  have b1 := Box.new (w.alloc (.cells #[x0, y0] t0)) x1 y1 t1
  have b2 := Box.new ((w.alloc (.cells #[x0, y0] t0)).alloc (.cells #[x1, y1] t1)) x2 y2 t2
  have b3 := Box.new (((w.alloc (.cells #[x0, y0] t0)).alloc (.cells #[x1, y1] t1)).alloc (.cells #[x2, y2] t2)) x3 y3 t3
  have a1 := below_alloc_new (w := w.alloc (.cells #[x0, y0] t0)) (.cells #[x1, y1] t1)
  have a2 := below_alloc_new (w := (w.alloc (.cells #[x0, y0] t0)).alloc (.cells #[x1, y1] t1)) (.cells #[x2, y2] t2)
  have a3 := below_alloc_new (w := ((w.alloc (.cells #[x0, y0] t0)).alloc (.cells #[x1, y1] t1)).alloc (.cells #[x2, y2] t2)) (.cells #[x3, y3] t3)
  rw [s1] at b1 a1
  rw [s2] at b2 a2
  rw [s3] at b3 a3
  refine ⟨((b0.below a1 (by omega)).below a2 (by omega)).below a3 (by omega), (b1.below a2 (by omega)).below a3 (by omega), b2.below a3 (by omega), b3, by simp [W], ?_⟩
  exact (below_a3 w _ _ _).trans (Below.less a3 (by omega))
end Go.Proofs.YtbfbijokhlkekaaDoor
