/- 'both' of the statements. -/
import Derived.Test.YtbfbijokhlkekaaDoorBoth
namespace Go.Proofs.YtbfbijokhlkekaaDoor
open Go.RowKit

/-- What 'both' returns: two integers of the program, two of the reference, and whether both texts are good. -/
def BothPost (s t : ByteArray) (w : World) (e : Ending) (w' : World) : Prop := ∃ k1 A1 c1 L1 k2 A2 c2 L2 k3 A3 c3 L3 k4 A4 c4 L4 ok,
  e = .returned (.tuple #[.agg #[.bool k1, .slice A1 (List.length L1) c1], .agg #[.bool k2, .slice A2 (List.length L2) c2], .agg #[.bool k3, .slice A3 (List.length L3) c3], .agg #[.bool k4, .slice A4 (List.length L4) c4], .bool ok]) ∧
  IntR w' w'.heap.size k1 A1 c1 L1 ∧ IntR w' w'.heap.size k2 A2 c2 L2 ∧ RefR w' w'.heap.size k3 A3 c3 L3 ∧ RefR w' w'.heap.size k4 A4 c4 L4 ∧
  List.length L1 ≤ 223 ∧ List.length L2 ≤ 223 ∧ List.length L3 ≤ 500 ∧ List.length L4 ≤ 500 ∧
  (ok = true → errOf s.data.toList = 0 ∧ errOf t.data.toList = 0 ∧ k1 = negOf s.data.toList ∧ val9 L1 = numOf (restOf s.data.toList) ∧ k2 = negOf t.data.toList ∧ val9 L2 = numOf (restOf t.data.toList) ∧
    k3 = negOf s.data.toList ∧ valB 10000 L3 = numOf (restOf s.data.toList) ∧ k4 = negOf t.data.toList ∧ valB 10000 L4 = numOf (restOf t.data.toList)) ∧ Below w.heap.size w w'

theorem below_set1 {B b : Nat} {a w : World} (h : Below B a w) (hB : B ≤ b) (i : Nat) (u : Value) : Below B a (w.setCell ⟨b, i, none⟩ u) := h.setCell (by exact hB) _
theorem keep0 (W : World) (b : Nat) (x y : Value) (h : W.cell? ⟨b, 0, none⟩ = some x) : ((W.setCell ⟨b, 0, none⟩ x).setCell ⟨b, 1, none⟩ y).cell? ⟨b, 0, none⟩ = some x := by
  rw [World.cell?_setCell_other _ _ _ _ (by simp)]; exact World.cell?_setCell_same _ _ _ h
theorem keep1 (W : World) (b : Nat) (x y : Value) (h : W.cell? ⟨b, 1, none⟩ = some y) : ((W.setCell ⟨b, 0, none⟩ x).setCell ⟨b, 1, none⟩ y).cell? ⟨b, 1, none⟩ = some y :=
  World.cell?_setCell_same _ _ _ (by rw [World.cell?_setCell_other _ _ _ _ (by simp)]; exact h)

set_option maxRecDepth 20000 in
set_option maxHeartbeats 6400000 in
theorem both_long (s t : ByteArray) (w : World) (h : 600 < s.size ∨ 600 < t.size) : Calls Tryd.prog 22 #[.string s, .string t] w (BothPost s t w) := by
  have hfin : ∀ W, Below w.heap.size w W → BothPost s t w (.returned (.tuple #[.agg #[.bool false, .slice none 0 0], .agg #[.bool false, .slice none 0 0], .agg #[.bool false, .slice none 0 0], .agg #[.bool false, .slice none 0 0], .bool false])) W := fun W hb =>
    ⟨false, none, 0, [], false, none, 0, [], false, none, 0, [], false, none, 0, [], false, rfl, IntR.zero _ _ _ _, IntR.zero _ _ _ _, RefR.zero _ _ _ _, RefR.zero _ _ _ _, by simp, by simp, by simp, by simp, fun h => absurd h Bool.false_ne_true, hb⟩
  have HF := Lib.hid hfin
  clear hfin
  have F := four_boxes w (.bool false) (.slice none 0 0) (.bool false) (.slice none 0 0) (.bool false) (.slice none 0 0) (.bool false) (.slice none 0 0) 25 25 31 31
  by_cases h1 : 600 < s.size
  · clear h
    go_enter Tryd.func22, Tryd.ntmps22
    go_wp2_with fail
    change Code.wp Tryd.prog _ _ _ ((((w.alloc (.cells #[.bool false, .slice none 0 0] 25)).alloc (.cells #[.bool false, .slice none 0 0] 25)).alloc (.cells #[.bool false, .slice none 0 0] 31)).alloc (.cells #[.bool false, .slice none 0 0] 31))
    generalize (((w.alloc (.cells #[.bool false, .slice none 0 0] 25)).alloc (.cells #[.bool false, .slice none 0 0] 25)).alloc (.cells #[.bool false, .slice none 0 0] 31)).alloc (.cells #[.bool false, .slice none 0 0] 31) = W at *
    obtain ⟨b0, b1, b2, b3, hsz, hbw⟩ := F
    have HBW := Lib.hid hbw
    have HSZ := Lib.hid hsz
    clear hbw hsz
    have x0 := b0.c0
    have y0 := b0.c1
    have p0 := b0.f0
    have q0 := b0.f1
    have x1 := b1.c0
    have y1 := b1.c1
    have p1 := b1.f0
    have q1 := b1.f1
    have x2 := b2.c0
    have y2 := b2.c1
    have p2 := b2.f0
    have q2 := b2.f1
    have x3 := b3.c0
    have y3 := b3.c1
    have p3 := b3.f0
    have q3 := b3.f1
    clear b0 b1 b2 b3
    have n1 : ¬ w.heap.size = w.heap.size + 1 + 1 := by omega
    have n2 : ¬ w.heap.size = w.heap.size + 1 + 1 + 1 := by omega
    have n3 : ¬ w.heap.size + 1 = w.heap.size + 1 + 1 + 1 := by omega
    have n4 : ¬ w.heap.size + 1 + 1 = w.heap.size := by omega
    have n5 : ¬ w.heap.size + 1 + 1 + 1 = w.heap.size := by omega
    have n6 : ¬ w.heap.size + 1 + 1 + 1 = w.heap.size + 1 := by omega
    have ks0 := keep0
    have ks1 := keep1
    go_region_held3 (fun w' => w'.cell? ⟨w.heap.size, 0, none⟩ = some (.bool false) ∧ w'.cell? ⟨w.heap.size, 1, none⟩ = some (.slice none 0 0) ∧
        w'.cell? ⟨w.heap.size + 1, 0, none⟩ = some (.bool false) ∧ w'.cell? ⟨w.heap.size + 1, 1, none⟩ = some (.slice none 0 0) ∧
        w'.cell? ⟨w.heap.size + 1 + 1, 0, none⟩ = some (.bool false) ∧ w'.cell? ⟨w.heap.size + 1 + 1, 1, none⟩ = some (.slice none 0 0) ∧
        w'.cell? ⟨w.heap.size + 1 + 1 + 1, 0, none⟩ = some (.bool false) ∧ w'.cell? ⟨w.heap.size + 1 + 1 + 1, 1, none⟩ = some (.slice none 0 0)) (go_keep)
      (fail)
    all_goals
      go_wp2
      refine bodyPost_ret (v := .tuple #[.agg #[.bool false, .slice none 0 0], .agg #[.bool false, .slice none 0 0], .agg #[.bool false, .slice none 0 0], .agg #[.bool false, .slice none 0 0], .bool false]) (by simp [results, Tryd.results22, go_sem, x0, y0, x1, y1, x2, y2, x3, y3]) rfl (HF.out _ ?_)
      repeat (first | (with_reducible exact HBW.out) | (with_reducible refine below_drew ?_) | (with_reducible refine below_drewN ?_ _) | (with_reducible refine below_set1 ?_ ?_ _ _; rotate_left; omega))
  · have h2 : 600 < t.size := by omega
    clear h
    go_enter Tryd.func22, Tryd.ntmps22
    go_wp2_with fail
    change Code.wp Tryd.prog _ _ _ ((((w.alloc (.cells #[.bool false, .slice none 0 0] 25)).alloc (.cells #[.bool false, .slice none 0 0] 25)).alloc (.cells #[.bool false, .slice none 0 0] 31)).alloc (.cells #[.bool false, .slice none 0 0] 31))
    generalize (((w.alloc (.cells #[.bool false, .slice none 0 0] 25)).alloc (.cells #[.bool false, .slice none 0 0] 25)).alloc (.cells #[.bool false, .slice none 0 0] 31)).alloc (.cells #[.bool false, .slice none 0 0] 31) = W at *
    obtain ⟨b0, b1, b2, b3, hsz, hbw⟩ := F
    have HBW := Lib.hid hbw
    have HSZ := Lib.hid hsz
    clear hbw hsz
    have x0 := b0.c0
    have y0 := b0.c1
    have p0 := b0.f0
    have q0 := b0.f1
    have x1 := b1.c0
    have y1 := b1.c1
    have p1 := b1.f0
    have q1 := b1.f1
    have x2 := b2.c0
    have y2 := b2.c1
    have p2 := b2.f0
    have q2 := b2.f1
    have x3 := b3.c0
    have y3 := b3.c1
    have p3 := b3.f0
    have q3 := b3.f1
    clear b0 b1 b2 b3
    have n1 : ¬ w.heap.size = w.heap.size + 1 + 1 := by omega
    have n2 : ¬ w.heap.size = w.heap.size + 1 + 1 + 1 := by omega
    have n3 : ¬ w.heap.size + 1 = w.heap.size + 1 + 1 + 1 := by omega
    have n4 : ¬ w.heap.size + 1 + 1 = w.heap.size := by omega
    have n5 : ¬ w.heap.size + 1 + 1 + 1 = w.heap.size := by omega
    have n6 : ¬ w.heap.size + 1 + 1 + 1 = w.heap.size + 1 := by omega
    have ks0 := keep0
    have ks1 := keep1
    go_region_held3 (fun w' => w'.cell? ⟨w.heap.size, 0, none⟩ = some (.bool false) ∧ w'.cell? ⟨w.heap.size, 1, none⟩ = some (.slice none 0 0) ∧
        w'.cell? ⟨w.heap.size + 1, 0, none⟩ = some (.bool false) ∧ w'.cell? ⟨w.heap.size + 1, 1, none⟩ = some (.slice none 0 0) ∧
        w'.cell? ⟨w.heap.size + 1 + 1, 0, none⟩ = some (.bool false) ∧ w'.cell? ⟨w.heap.size + 1 + 1, 1, none⟩ = some (.slice none 0 0) ∧
        w'.cell? ⟨w.heap.size + 1 + 1 + 1, 0, none⟩ = some (.bool false) ∧ w'.cell? ⟨w.heap.size + 1 + 1 + 1, 1, none⟩ = some (.slice none 0 0)) (go_keep)
      (fail)
    all_goals
      go_wp2
      refine bodyPost_ret (v := .tuple #[.agg #[.bool false, .slice none 0 0], .agg #[.bool false, .slice none 0 0], .agg #[.bool false, .slice none 0 0], .agg #[.bool false, .slice none 0 0], .bool false]) (by simp [results, Tryd.results22, go_sem, x0, y0, x1, y1, x2, y2, x3, y3]) rfl (HF.out _ ?_)
      repeat (first | (with_reducible exact HBW.out) | (with_reducible refine below_drew ?_) | (with_reducible refine below_drewN ?_ _) | (with_reducible refine below_set1 ?_ ?_ _ _; rotate_left; omega))

/-- The four boxes of a call that began in world w. -/
structure St (w W : World) (x0 y0 x1 y1 x2 y2 x3 y3 : Value) : Prop where
  b0 : Box W w.heap.size x0 y0
  b1 : Box W (w.heap.size + 1) x1 y1
  b2 : Box W (w.heap.size + 1 + 1) x2 y2
  b3 : Box W (w.heap.size + 1 + 1 + 1) x3 y3
  bw : Below w.heap.size w W
  sz : w.heap.size + 4 ≤ W.heap.size
section
variable {w W W' : World} {x0 y0 x1 y1 x2 y2 x3 y3 : Value}
theorem St.call (h : St w W x0 y0 x1 y1 x2 y2 x3 y3) (hb : Below W.heap.size W W') : St w W' x0 y0 x1 y1 x2 y2 x3 y3 :=
  ⟨h.b0.below hb (by have := h.sz; omega), h.b1.below hb (by have := h.sz; omega), h.b2.below hb (by have := h.sz; omega), h.b3.below hb (by have := h.sz; omega), h.bw.trans (Below.less hb h.bw.size), Nat.le_trans h.sz hb.size⟩
theorem St.s0 (h : St w W x0 y0 x1 y1 x2 y2 x3 y3) (u v : Value) : St w (setPair W w.heap.size u v) u v x1 y1 x2 y2 x3 y3 :=
  ⟨h.b0.store u v, h.b1.other (by omega) u v, h.b2.other (by omega) u v, h.b3.other (by omega) u v, below_setPair h.bw (Nat.le_refl _) u v, by rw [setPair_size]; exact h.sz⟩
theorem St.s1 (h : St w W x0 y0 x1 y1 x2 y2 x3 y3) (u v : Value) : St w (setPair W (w.heap.size + 1) u v) x0 y0 u v x2 y2 x3 y3 :=
  ⟨h.b0.other (by omega) u v, h.b1.store u v, h.b2.other (by omega) u v, h.b3.other (by omega) u v, below_setPair h.bw (by omega) u v, by rw [setPair_size]; exact h.sz⟩
theorem St.s2 (h : St w W x0 y0 x1 y1 x2 y2 x3 y3) (u v : Value) : St w (setPair W (w.heap.size + 1 + 1) u v) x0 y0 x1 y1 u v x3 y3 :=
  ⟨h.b0.other (by omega) u v, h.b1.other (by omega) u v, h.b2.store u v, h.b3.other (by omega) u v, below_setPair h.bw (by omega) u v, by rw [setPair_size]; exact h.sz⟩
theorem St.s3 (h : St w W x0 y0 x1 y1 x2 y2 x3 y3) (u v : Value) : St w (setPair W (w.heap.size + 1 + 1 + 1) u v) x0 y0 x1 y1 x2 y2 u v :=
  ⟨h.b0.other (by omega) u v, h.b1.other (by omega) u v, h.b2.other (by omega) u v, h.b3.store u v, below_setPair h.bw (by omega) u v, by rw [setPair_size]; exact h.sz⟩
end
theorem IntR.pair {w : World} {b B : Nat} {z : Bool} {a : Option Addr} {n cc : Nat} (hb : Box w b (.bool z) (.slice a n cc)) {k : Bool} {A : Option Addr} {c : Nat} {L : List Nat} (h : IntR w B k A c L) (u v : Value) : IntR (setPair w b u v) B k A c L :=
  ⟨hb.row h.row (fun _ => by simp) (fun _ => by simp) u v, h.canon, h.sgn⟩
theorem RefR.pair {w : World} {b B : Nat} {z : Bool} {a : Option Addr} {n cc : Nat} (hb : Box w b (.bool z) (.slice a n cc)) {k : Bool} {A : Option Addr} {c : Nat} {L : List Nat} (h : RefR w B k A c L) (u v : Value) : RefR (setPair w b u v) B k A c L :=
  ⟨hb.row h.row (fun _ => by simp) (fun _ => by simp) u v, h.lim, h.top, h.sgn⟩
theorem RefR.lift {w w1 : World} {B : Nat} {n : Bool} {A : Option Addr} {c : Nat} {L : List Nat} (h : RefR w B n A c L) (hb : Below w.heap.size w w1) (hB : B ≤ w.heap.size) : RefR w1 w1.heap.size n A c L :=
  ⟨((h.row.more hB).below hb).more hb.size, h.lim, h.top, h.sgn⟩
theorem IntR.lift1 {w w1 : World} {B : Nat} {n : Bool} {A : Option Addr} {c : Nat} {L : List Nat} (h : IntR w B n A c L) (hb : Below w.heap.size w w1) (hB : B ≤ w.heap.size) : IntR w1 w1.heap.size n A c L :=
  ⟨((h.row.more hB).below hb).more hb.size, h.canon, h.sgn⟩

theorem Box.drew {w : World} {b : Nat} {x y : Value} (h : Box w b x y) : Box w.drew b x y := ⟨h.c0, h.c1, h.hi, h.f0, h.f1⟩
theorem IntR.drew {w : World} {B : Nat} {k : Bool} {A : Option Addr} {c : Nat} {L : List Nat} (h : IntR w B k A c L) : IntR w.drew B k A c L := ⟨h.row.drew, h.canon, h.sgn⟩
theorem RefR.drew {w : World} {B : Nat} {k : Bool} {A : Option Addr} {c : Nat} {L : List Nat} (h : RefR w B k A c L) : RefR w.drew B k A c L := ⟨h.row.drew, h.lim, h.top, h.sgn⟩
theorem drew_size (w : World) : w.drew.heap.size = w.heap.size := rfl
theorem St.drew {w W : World} {x0 y0 x1 y1 x2 y2 x3 y3 : Value} (h : St w W x0 y0 x1 y1 x2 y2 x3 y3) : St w W.drew x0 y0 x1 y1 x2 y2 x3 y3 :=
  ⟨h.b0.drew, h.b1.drew, h.b2.drew, h.b3.drew, below_drew h.bw, by rw [drew_size]; exact h.sz⟩
/-- Each box gets back what it held. -/
def lastW (w W : World) (x0 y0 x1 y1 x2 y2 x3 y3 : Value) : World :=
  (setPair (setPair (setPair (setPair W w.heap.size x0 y0) (w.heap.size + 1) x1 y1) (w.heap.size + 1 + 1) x2 y2) (w.heap.size + 1 + 1 + 1) x3 y3).drew
theorem lastW_size (w W : World) (x0 y0 x1 y1 x2 y2 x3 y3 : Value) : (lastW w W x0 y0 x1 y1 x2 y2 x3 y3).heap.size = W.heap.size := by
  unfold lastW
  rw [drew_size, setPair_size, setPair_size, setPair_size, setPair_size]
section
variable {w W : World} {z0 z1 z2 z3 : Bool} {a0 a1 a2 a3 : Option Addr} {n0 n1 n2 n3 m0 m1 m2 m3 : Nat}
theorem St.last (h : St w W (.bool z0) (.slice a0 n0 m0) (.bool z1) (.slice a1 n1 m1) (.bool z2) (.slice a2 n2 m2) (.bool z3) (.slice a3 n3 m3)) :
    St w (lastW w W (.bool z0) (.slice a0 n0 m0) (.bool z1) (.slice a1 n1 m1) (.bool z2) (.slice a2 n2 m2) (.bool z3) (.slice a3 n3 m3)) (.bool z0) (.slice a0 n0 m0) (.bool z1) (.slice a1 n1 m1) (.bool z2) (.slice a2 n2 m2) (.bool z3) (.slice a3 n3 m3) := by
  have h4 := (((h.s0 (.bool z0) (.slice a0 n0 m0)).s1 (.bool z1) (.slice a1 n1 m1)).s2 (.bool z2) (.slice a2 n2 m2)).s3 (.bool z3) (.slice a3 n3 m3)
  unfold lastW
  exact h4.drew
theorem IntR.last (h : St w W (.bool z0) (.slice a0 n0 m0) (.bool z1) (.slice a1 n1 m1) (.bool z2) (.slice a2 n2 m2) (.bool z3) (.slice a3 n3 m3)) {k : Bool} {A : Option Addr} {c : Nat} {L : List Nat} (hi : IntR W W.heap.size k A c L) :
    IntR (lastW w W (.bool z0) (.slice a0 n0 m0) (.bool z1) (.slice a1 n1 m1) (.bool z2) (.slice a2 n2 m2) (.bool z3) (.slice a3 n3 m3)) (lastW w W (.bool z0) (.slice a0 n0 m0) (.bool z1) (.slice a1 n1 m1) (.bool z2) (.slice a2 n2 m2) (.bool z3) (.slice a3 n3 m3)).heap.size k A c L := by
  rw [lastW_size]
  have h0 := h.s0 (.bool z0) (.slice a0 n0 m0)
  have h1 := h0.s1 (.bool z1) (.slice a1 n1 m1)
  have h2 := h1.s2 (.bool z2) (.slice a2 n2 m2)
  have i3 := IntR.pair h2.b3 (IntR.pair h1.b2 (IntR.pair h0.b1 (IntR.pair h.b0 hi (.bool z0) (.slice a0 n0 m0)) (.bool z1) (.slice a1 n1 m1)) (.bool z2) (.slice a2 n2 m2)) (.bool z3) (.slice a3 n3 m3)
  unfold lastW
  exact i3.drew
theorem RefR.last (h : St w W (.bool z0) (.slice a0 n0 m0) (.bool z1) (.slice a1 n1 m1) (.bool z2) (.slice a2 n2 m2) (.bool z3) (.slice a3 n3 m3)) {k : Bool} {A : Option Addr} {c : Nat} {L : List Nat} (hi : RefR W W.heap.size k A c L) :
    RefR (lastW w W (.bool z0) (.slice a0 n0 m0) (.bool z1) (.slice a1 n1 m1) (.bool z2) (.slice a2 n2 m2) (.bool z3) (.slice a3 n3 m3)) (lastW w W (.bool z0) (.slice a0 n0 m0) (.bool z1) (.slice a1 n1 m1) (.bool z2) (.slice a2 n2 m2) (.bool z3) (.slice a3 n3 m3)).heap.size k A c L := by
  rw [lastW_size]
  have h0 := h.s0 (.bool z0) (.slice a0 n0 m0)
  have h1 := h0.s1 (.bool z1) (.slice a1 n1 m1)
  have h2 := h1.s2 (.bool z2) (.slice a2 n2 m2)
  have i3 := RefR.pair h2.b3 (RefR.pair h1.b2 (RefR.pair h0.b1 (RefR.pair h.b0 hi (.bool z0) (.slice a0 n0 m0)) (.bool z1) (.slice a1 n1 m1)) (.bool z2) (.slice a2 n2 m2)) (.bool z3) (.slice a3 n3 m3)
  unfold lastW
  exact i3.drew
end

end Go.Proofs.YtbfbijokhlkekaaDoor
