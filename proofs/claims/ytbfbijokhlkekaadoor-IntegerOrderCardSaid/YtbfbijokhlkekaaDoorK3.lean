/- Contracts of the functions that the statement reaches, part 3: what was proved of each, callees first. -/
import Derived.BigRegion
import Derived.Test.YtbfbijokhlkekaaDoorRows
import Derived.ProofKit
import Derived.LaidMore
import Derived.OpenShut
import Derived.Stop.Joined
import Derived.ChangeSame
import Derived.Lib.LaidTab
import Derived.Test.YtbfbijokhlkekaaDoorK2
/- 'both' of the statements. -/
namespace Go.Proofs.YtbfbijokhlkekaaDoor
open Go.RowKit

/-- What 'both' returns: two integers of the program, two of the reference, and whether both texts are good. -/
def BothPost (s t : ByteArray) (w : World) (e : Ending) (w' : World) : Prop := ∃ k1 A1 c1 L1 k2 A2 c2 L2 k3 A3 c3 L3 k4 A4 c4 L4 ok,
  e = .returned (.tuple #[.agg #[.bool k1, .slice A1 (List.length L1) c1], .agg #[.bool k2, .slice A2 (List.length L2) c2], .agg #[.bool k3, .slice A3 (List.length L3) c3], .agg #[.bool k4, .slice A4 (List.length L4) c4], .bool ok]) ∧
  IntR w' w'.heap.size k1 A1 c1 L1 ∧ IntR w' w'.heap.size k2 A2 c2 L2 ∧ RefR w' w'.heap.size k3 A3 c3 L3 ∧ RefR w' w'.heap.size k4 A4 c4 L4 ∧
  List.length L1 ≤ 223 ∧ List.length L2 ≤ 223 ∧ List.length L3 ≤ 500 ∧ List.length L4 ≤ 500 ∧
  (ok = true → errOf s.data.toList = 0 ∧ errOf t.data.toList = 0 ∧ k1 = negOf s.data.toList ∧ val9 L1 = numOf (restOf s.data.toList) ∧ k2 = negOf t.data.toList ∧ val9 L2 = numOf (restOf t.data.toList) ∧
    k3 = negOf s.data.toList ∧ valB 10000 L3 = numOf (restOf s.data.toList) ∧ k4 = negOf t.data.toList ∧ valB 10000 L4 = numOf (restOf t.data.toList)) ∧ Below w.heap.size w w'

theorem below_set1 {B b : Nat} {a w : World} (h : Below B a w) (hB : B ≤ b) (i : Nat) (u : Value) : Below B a (w.setCell ⟨b, i, none⟩ u) := h.setCell (by exact hB) _
theorem keep0 (W : World) (b : Nat) (x y : Value) (h : W.cell? ⟨b, 0, none⟩ = some x) : ((W.setCell ⟨b, 0, none⟩ x).setCell ⟨b, 1, none⟩ y).cell? ⟨b, 0, none⟩ = some x := by
  rw [World.cell?_setCell_other _ _ _ _ (by simp)]; exact World.cell?_setCell_same _ _ _ h
theorem keep1 (W : World) (b : Nat) (x y : Value) (h : W.cell? ⟨b, 1, none⟩ = some y) : ((W.setCell ⟨b, 0, none⟩ x).setCell ⟨b, 1, none⟩ y).cell? ⟨b, 1, none⟩ = some y :=
  World.cell?_setCell_same _ _ _ (by rw [World.cell?_setCell_other _ _ _ _ (by simp)]; exact h)

set_option maxRecDepth 20000 in
set_option maxHeartbeats 6400000 in
theorem both_long (s t : ByteArray) (w : World) (h : 600 < s.size ∨ 600 < t.size) : Calls Tryd.prog 22 #[.string s, .string t] w (BothPost s t w) := by
  have hfin : ∀ W, Below w.heap.size w W → BothPost s t w (.returned (.tuple #[.agg #[.bool false, .slice none 0 0], .agg #[.bool false, .slice none 0 0], .agg #[.bool false, .slice none 0 0], .agg #[.bool false, .slice none 0 0], .bool false])) W := fun W hb =>
    ⟨false, none, 0, [], false, none, 0, [], false, none, 0, [], false, none, 0, [], false, rfl, IntR.zero _ _ _ _, IntR.zero _ _ _ _, RefR.zero _ _ _ _, RefR.zero _ _ _ _, by simp, by simp, by simp, by simp, fun h => absurd h Bool.false_ne_true, hb⟩
  have HF := Lib.hid hfin
  clear hfin
  have F := four_boxes w (.bool false) (.slice none 0 0) (.bool false) (.slice none 0 0) (.bool false) (.slice none 0 0) (.bool false) (.slice none 0 0) 25 25 31 31
  by_cases h1 : 600 < s.size
  · clear h
    go_enter Tryd.func22, Tryd.ntmps22
    go_wp2_with fail
    change Code.wp Tryd.prog _ _ _ ((((w.alloc (.cells #[.bool false, .slice none 0 0] 25)).alloc (.cells #[.bool false, .slice none 0 0] 25)).alloc (.cells #[.bool false, .slice none 0 0] 31)).alloc (.cells #[.bool false, .slice none 0 0] 31))
    generalize (((w.alloc (.cells #[.bool false, .slice none 0 0] 25)).alloc (.cells #[.bool false, .slice none 0 0] 25)).alloc (.cells #[.bool false, .slice none 0 0] 31)).alloc (.cells #[.bool false, .slice none 0 0] 31) = W at *
    obtain ⟨b0, b1, b2, b3, hsz, hbw⟩ := F
    have HBW := Lib.hid hbw
    have HSZ := Lib.hid hsz
    clear hbw hsz
    have x0 := b0.c0
    have y0 := b0.c1
    have p0 := b0.f0
    have q0 := b0.f1
    have x1 := b1.c0
    have y1 := b1.c1
    have p1 := b1.f0
    have q1 := b1.f1
    have x2 := b2.c0
    have y2 := b2.c1
    have p2 := b2.f0
    have q2 := b2.f1
    have x3 := b3.c0
    have y3 := b3.c1
    have p3 := b3.f0
    have q3 := b3.f1
    clear b0 b1 b2 b3
    have n1 : ¬ w.heap.size = w.heap.size + 1 + 1 := by omega
    have n2 : ¬ w.heap.size = w.heap.size + 1 + 1 + 1 := by omega
    have n3 : ¬ w.heap.size + 1 = w.heap.size + 1 + 1 + 1 := by omega
    have n4 : ¬ w.heap.size + 1 + 1 = w.heap.size := by omega
    have n5 : ¬ w.heap.size + 1 + 1 + 1 = w.heap.size := by omega
    have n6 : ¬ w.heap.size + 1 + 1 + 1 = w.heap.size + 1 := by omega
    have ks0 := keep0
    have ks1 := keep1
    go_region_held3 (fun w' => w'.cell? ⟨w.heap.size, 0, none⟩ = some (.bool false) ∧ w'.cell? ⟨w.heap.size, 1, none⟩ = some (.slice none 0 0) ∧
        w'.cell? ⟨w.heap.size + 1, 0, none⟩ = some (.bool false) ∧ w'.cell? ⟨w.heap.size + 1, 1, none⟩ = some (.slice none 0 0) ∧
        w'.cell? ⟨w.heap.size + 1 + 1, 0, none⟩ = some (.bool false) ∧ w'.cell? ⟨w.heap.size + 1 + 1, 1, none⟩ = some (.slice none 0 0) ∧
        w'.cell? ⟨w.heap.size + 1 + 1 + 1, 0, none⟩ = some (.bool false) ∧ w'.cell? ⟨w.heap.size + 1 + 1 + 1, 1, none⟩ = some (.slice none 0 0)) (go_keep)
      (fail)
    all_goals
      go_wp2
      refine bodyPost_ret (v := .tuple #[.agg #[.bool false, .slice none 0 0], .agg #[.bool false, .slice none 0 0], .agg #[.bool false, .slice none 0 0], .agg #[.bool false, .slice none 0 0], .bool false]) (by simp [results, Tryd.results22, go_sem, x0, y0, x1, y1, x2, y2, x3, y3]) rfl (HF.out _ ?_)
      repeat (first | (with_reducible exact HBW.out) | (with_reducible refine below_drew ?_) | (with_reducible refine below_drewN ?_ _) | (with_reducible refine below_set1 ?_ ?_ _ _; rotate_left; omega))
  · have h2 : 600 < t.size := by omega
    clear h
    go_enter Tryd.func22, Tryd.ntmps22
    go_wp2_with fail
    change Code.wp Tryd.prog _ _ _ ((((w.alloc (.cells #[.bool false, .slice none 0 0] 25)).alloc (.cells #[.bool false, .slice none 0 0] 25)).alloc (.cells #[.bool false, .slice none 0 0] 31)).alloc (.cells #[.bool false, .slice none 0 0] 31))
    generalize (((w.alloc (.cells #[.bool false, .slice none 0 0] 25)).alloc (.cells #[.bool false, .slice none 0 0] 25)).alloc (.cells #[.bool false, .slice none 0 0] 31)).alloc (.cells #[.bool false, .slice none 0 0] 31) = W at *
    obtain ⟨b0, b1, b2, b3, hsz, hbw⟩ := F
    have HBW := Lib.hid hbw
    have HSZ := Lib.hid hsz
    clear hbw hsz
    have x0 := b0.c0
    have y0 := b0.c1
    have p0 := b0.f0
    have q0 := b0.f1
    have x1 := b1.c0
    have y1 := b1.c1
    have p1 := b1.f0
    have q1 := b1.f1
    have x2 := b2.c0
    have y2 := b2.c1
    have p2 := b2.f0
    have q2 := b2.f1
    have x3 := b3.c0
    have y3 := b3.c1
    have p3 := b3.f0
    have q3 := b3.f1
    clear b0 b1 b2 b3
    have n1 : ¬ w.heap.size = w.heap.size + 1 + 1 := by omega
    have n2 : ¬ w.heap.size = w.heap.size + 1 + 1 + 1 := by omega
    have n3 : ¬ w.heap.size + 1 = w.heap.size + 1 + 1 + 1 := by omega
    have n4 : ¬ w.heap.size + 1 + 1 = w.heap.size := by omega
    have n5 : ¬ w.heap.size + 1 + 1 + 1 = w.heap.size := by omega
    have n6 : ¬ w.heap.size + 1 + 1 + 1 = w.heap.size + 1 := by omega
    have ks0 := keep0
    have ks1 := keep1
    go_region_held3 (fun w' => w'.cell? ⟨w.heap.size, 0, none⟩ = some (.bool false) ∧ w'.cell? ⟨w.heap.size, 1, none⟩ = some (.slice none 0 0) ∧
        w'.cell? ⟨w.heap.size + 1, 0, none⟩ = some (.bool false) ∧ w'.cell? ⟨w.heap.size + 1, 1, none⟩ = some (.slice none 0 0) ∧
        w'.cell? ⟨w.heap.size + 1 + 1, 0, none⟩ = some (.bool false) ∧ w'.cell? ⟨w.heap.size + 1 + 1, 1, none⟩ = some (.slice none 0 0) ∧
        w'.cell? ⟨w.heap.size + 1 + 1 + 1, 0, none⟩ = some (.bool false) ∧ w'.cell? ⟨w.heap.size + 1 + 1 + 1, 1, none⟩ = some (.slice none 0 0)) (go_keep)
      (fail)
    all_goals
      go_wp2
      refine bodyPost_ret (v := .tuple #[.agg #[.bool false, .slice none 0 0], .agg #[.bool false, .slice none 0 0], .agg #[.bool false, .slice none 0 0], .agg #[.bool false, .slice none 0 0], .bool false]) (by simp [results, Tryd.results22, go_sem, x0, y0, x1, y1, x2, y2, x3, y3]) rfl (HF.out _ ?_)
      repeat (first | (with_reducible exact HBW.out) | (with_reducible refine below_drew ?_) | (with_reducible refine below_drewN ?_ _) | (with_reducible refine below_set1 ?_ ?_ _ _; rotate_left; omega))

/-- The four boxes of a call that began in world w. -/
structure St (w W : World) (x0 y0 x1 y1 x2 y2 x3 y3 : Value) : Prop where
  b0 : Box W w.heap.size x0 y0
  b1 : Box W (w.heap.size + 1) x1 y1
  b2 : Box W (w.heap.size + 1 + 1) x2 y2
  b3 : Box W (w.heap.size + 1 + 1 + 1) x3 y3
  bw : Below w.heap.size w W
  sz : w.heap.size + 4 ≤ W.heap.size
section
variable {w W W' : World} {x0 y0 x1 y1 x2 y2 x3 y3 : Value}
theorem St.call (h : St w W x0 y0 x1 y1 x2 y2 x3 y3) (hb : Below W.heap.size W W') : St w W' x0 y0 x1 y1 x2 y2 x3 y3 :=
  ⟨h.b0.below hb (by have := h.sz; omega), h.b1.below hb (by have := h.sz; omega), h.b2.below hb (by have := h.sz; omega), h.b3.below hb (by have := h.sz; omega), h.bw.trans (Below.less hb h.bw.size), Nat.le_trans h.sz hb.size⟩
theorem St.s0 (h : St w W x0 y0 x1 y1 x2 y2 x3 y3) (u v : Value) : St w (setPair W w.heap.size u v) u v x1 y1 x2 y2 x3 y3 :=
  ⟨h.b0.store u v, h.b1.other (by omega) u v, h.b2.other (by omega) u v, h.b3.other (by omega) u v, below_setPair h.bw (Nat.le_refl _) u v, by rw [setPair_size]; exact h.sz⟩
theorem St.s1 (h : St w W x0 y0 x1 y1 x2 y2 x3 y3) (u v : Value) : St w (setPair W (w.heap.size + 1) u v) x0 y0 u v x2 y2 x3 y3 :=
  ⟨h.b0.other (by omega) u v, h.b1.store u v, h.b2.other (by omega) u v, h.b3.other (by omega) u v, below_setPair h.bw (by omega) u v, by rw [setPair_size]; exact h.sz⟩
theorem St.s2 (h : St w W x0 y0 x1 y1 x2 y2 x3 y3) (u v : Value) : St w (setPair W (w.heap.size + 1 + 1) u v) x0 y0 x1 y1 u v x3 y3 :=
  ⟨h.b0.other (by omega) u v, h.b1.other (by omega) u v, h.b2.store u v, h.b3.other (by omega) u v, below_setPair h.bw (by omega) u v, by rw [setPair_size]; exact h.sz⟩
theorem St.s3 (h : St w W x0 y0 x1 y1 x2 y2 x3 y3) (u v : Value) : St w (setPair W (w.heap.size + 1 + 1 + 1) u v) x0 y0 x1 y1 x2 y2 u v :=
  ⟨h.b0.other (by omega) u v, h.b1.other (by omega) u v, h.b2.other (by omega) u v, h.b3.store u v, below_setPair h.bw (by omega) u v, by rw [setPair_size]; exact h.sz⟩
end
theorem IntR.pair {w : World} {b B : Nat} {z : Bool} {a : Option Addr} {n cc : Nat} (hb : Box w b (.bool z) (.slice a n cc)) {k : Bool} {A : Option Addr} {c : Nat} {L : List Nat} (h : IntR w B k A c L) (u v : Value) : IntR (setPair w b u v) B k A c L :=
  ⟨hb.row h.row (fun _ => by simp) (fun _ => by simp) u v, h.canon, h.sgn⟩
theorem RefR.pair {w : World} {b B : Nat} {z : Bool} {a : Option Addr} {n cc : Nat} (hb : Box w b (.bool z) (.slice a n cc)) {k : Bool} {A : Option Addr} {c : Nat} {L : List Nat} (h : RefR w B k A c L) (u v : Value) : RefR (setPair w b u v) B k A c L :=
  ⟨hb.row h.row (fun _ => by simp) (fun _ => by simp) u v, h.lim, h.top, h.sgn⟩
theorem RefR.lift {w w1 : World} {B : Nat} {n : Bool} {A : Option Addr} {c : Nat} {L : List Nat} (h : RefR w B n A c L) (hb : Below w.heap.size w w1) (hB : B ≤ w.heap.size) : RefR w1 w1.heap.size n A c L :=
  ⟨((h.row.more hB).below hb).more hb.size, h.lim, h.top, h.sgn⟩
theorem IntR.lift1 {w w1 : World} {B : Nat} {n : Bool} {A : Option Addr} {c : Nat} {L : List Nat} (h : IntR w B n A c L) (hb : Below w.heap.size w w1) (hB : B ≤ w.heap.size) : IntR w1 w1.heap.size n A c L :=
  ⟨((h.row.more hB).below hb).more hb.size, h.canon, h.sgn⟩

theorem Box.drew {w : World} {b : Nat} {x y : Value} (h : Box w b x y) : Box w.drew b x y := ⟨h.c0, h.c1, h.hi, h.f0, h.f1⟩
theorem IntR.drew {w : World} {B : Nat} {k : Bool} {A : Option Addr} {c : Nat} {L : List Nat} (h : IntR w B k A c L) : IntR w.drew B k A c L := ⟨h.row.drew, h.canon, h.sgn⟩
theorem RefR.drew {w : World} {B : Nat} {k : Bool} {A : Option Addr} {c : Nat} {L : List Nat} (h : RefR w B k A c L) : RefR w.drew B k A c L := ⟨h.row.drew, h.lim, h.top, h.sgn⟩
theorem drew_size (w : World) : w.drew.heap.size = w.heap.size := rfl
theorem St.drew {w W : World} {x0 y0 x1 y1 x2 y2 x3 y3 : Value} (h : St w W x0 y0 x1 y1 x2 y2 x3 y3) : St w W.drew x0 y0 x1 y1 x2 y2 x3 y3 :=
  ⟨h.b0.drew, h.b1.drew, h.b2.drew, h.b3.drew, below_drew h.bw, by rw [drew_size]; exact h.sz⟩
/-- Each box gets back what it held. -/
def lastW (w W : World) (x0 y0 x1 y1 x2 y2 x3 y3 : Value) : World :=
  (setPair (setPair (setPair (setPair W w.heap.size x0 y0) (w.heap.size + 1) x1 y1) (w.heap.size + 1 + 1) x2 y2) (w.heap.size + 1 + 1 + 1) x3 y3).drew
theorem lastW_size (w W : World) (x0 y0 x1 y1 x2 y2 x3 y3 : Value) : (lastW w W x0 y0 x1 y1 x2 y2 x3 y3).heap.size = W.heap.size := by
  unfold lastW
  rw [drew_size, setPair_size, setPair_size, setPair_size, setPair_size]
section
variable {w W : World} {z0 z1 z2 z3 : Bool} {a0 a1 a2 a3 : Option Addr} {n0 n1 n2 n3 m0 m1 m2 m3 : Nat}
theorem St.last (h : St w W (.bool z0) (.slice a0 n0 m0) (.bool z1) (.slice a1 n1 m1) (.bool z2) (.slice a2 n2 m2) (.bool z3) (.slice a3 n3 m3)) :
    St w (lastW w W (.bool z0) (.slice a0 n0 m0) (.bool z1) (.slice a1 n1 m1) (.bool z2) (.slice a2 n2 m2) (.bool z3) (.slice a3 n3 m3)) (.bool z0) (.slice a0 n0 m0) (.bool z1) (.slice a1 n1 m1) (.bool z2) (.slice a2 n2 m2) (.bool z3) (.slice a3 n3 m3) := by
  have h4 := (((h.s0 (.bool z0) (.slice a0 n0 m0)).s1 (.bool z1) (.slice a1 n1 m1)).s2 (.bool z2) (.slice a2 n2 m2)).s3 (.bool z3) (.slice a3 n3 m3)
  unfold lastW
  exact h4.drew
theorem IntR.last (h : St w W (.bool z0) (.slice a0 n0 m0) (.bool z1) (.slice a1 n1 m1) (.bool z2) (.slice a2 n2 m2) (.bool z3) (.slice a3 n3 m3)) {k : Bool} {A : Option Addr} {c : Nat} {L : List Nat} (hi : IntR W W.heap.size k A c L) :
    IntR (lastW w W (.bool z0) (.slice a0 n0 m0) (.bool z1) (.slice a1 n1 m1) (.bool z2) (.slice a2 n2 m2) (.bool z3) (.slice a3 n3 m3)) (lastW w W (.bool z0) (.slice a0 n0 m0) (.bool z1) (.slice a1 n1 m1) (.bool z2) (.slice a2 n2 m2) (.bool z3) (.slice a3 n3 m3)).heap.size k A c L := by
  rw [lastW_size]
  have h0 := h.s0 (.bool z0) (.slice a0 n0 m0)
  have h1 := h0.s1 (.bool z1) (.slice a1 n1 m1)
  have h2 := h1.s2 (.bool z2) (.slice a2 n2 m2)
  have i3 := IntR.pair h2.b3 (IntR.pair h1.b2 (IntR.pair h0.b1 (IntR.pair h.b0 hi (.bool z0) (.slice a0 n0 m0)) (.bool z1) (.slice a1 n1 m1)) (.bool z2) (.slice a2 n2 m2)) (.bool z3) (.slice a3 n3 m3)
  unfold lastW
  exact i3.drew
theorem RefR.last (h : St w W (.bool z0) (.slice a0 n0 m0) (.bool z1) (.slice a1 n1 m1) (.bool z2) (.slice a2 n2 m2) (.bool z3) (.slice a3 n3 m3)) {k : Bool} {A : Option Addr} {c : Nat} {L : List Nat} (hi : RefR W W.heap.size k A c L) :
    RefR (lastW w W (.bool z0) (.slice a0 n0 m0) (.bool z1) (.slice a1 n1 m1) (.bool z2) (.slice a2 n2 m2) (.bool z3) (.slice a3 n3 m3)) (lastW w W (.bool z0) (.slice a0 n0 m0) (.bool z1) (.slice a1 n1 m1) (.bool z2) (.slice a2 n2 m2) (.bool z3) (.slice a3 n3 m3)).heap.size k A c L := by
  rw [lastW_size]
  have h0 := h.s0 (.bool z0) (.slice a0 n0 m0)
  have h1 := h0.s1 (.bool z1) (.slice a1 n1 m1)
  have h2 := h1.s2 (.bool z2) (.slice a2 n2 m2)
  have i3 := RefR.pair h2.b3 (RefR.pair h1.b2 (RefR.pair h0.b1 (RefR.pair h.b0 hi (.bool z0) (.slice a0 n0 m0)) (.bool z1) (.slice a1 n1 m1)) (.bool z2) (.slice a2 n2 m2)) (.bool z3) (.slice a3 n3 m3)
  unfold lastW
  exact i3.drew
end

end Go.Proofs.YtbfbijokhlkekaaDoor

/- 'both' of two texts of at most 600 bytes. -/
namespace Go.Proofs.YtbfbijokhlkekaaDoor
open Go.RowKit

set_option maxRecDepth 20000 in
set_option maxHeartbeats 6400000 in
theorem both_short (s t : ByteArray) (w : World) (hs : s.size ≤ 600) (ht : t.size ≤ 600) : Calls Tryd.prog 22 #[.string s, .string t] w (BothPost s t w) := by
  have F := four_boxes w (.bool false) (.slice none 0 0) (.bool false) (.slice none 0 0) (.bool false) (.slice none 0 0) (.bool false) (.slice none 0 0) 25 25 31 31
  have P1 := Lib.hid (fun W => parse_any s W (by omega))
  have P2 := Lib.hid (fun W => parse_any t W (by omega))
  have R1 := Lib.hid (fun W => rparse_any s W (by omega))
  have R2 := Lib.hid (fun W => rparse_any t W (by omega))
  go_enter Tryd.func22, Tryd.ntmps22
  go_wp2_with fail
  change Calls Tryd.prog 13 #[.string s] ((((w.alloc (.cells #[.bool false, .slice none 0 0] 25)).alloc (.cells #[.bool false, .slice none 0 0] 25)).alloc (.cells #[.bool false, .slice none 0 0] 31)).alloc (.cells #[.bool false, .slice none 0 0] 31)) _
  generalize (((w.alloc (.cells #[.bool false, .slice none 0 0] 25)).alloc (.cells #[.bool false, .slice none 0 0] 25)).alloc (.cells #[.bool false, .slice none 0 0] 31)).alloc (.cells #[.bool false, .slice none 0 0] 31) = W0 at *
  obtain ⟨b0, b1, b2, b3, hsz, hbw⟩ := F
  have S0 : St w W0 _ _ _ _ _ _ _ _ := ⟨b0, b1, b2, b3, hbw, by omega⟩
  clear b0 b1 b2 b3 hsz hbw
  refine (P1.out _).mono ?_
  rintro e w1 ⟨k1, A1, c1, L1, rfl, hi1, hl1, hok1, hno1, hb1⟩
  have S1 := S0.call hb1
  clear S0 hb1
  have x0 := S1.b0.c0
  have y0 := S1.b0.c1
  have p0 := S1.b0.f0
  have q0 := S1.b0.f1
  go_wp2_with fail
  change Calls Tryd.prog 13 #[.string t] (setPair w1 w.heap.size (.bool k1) (.slice A1 (List.length L1) c1)) _
  have S2 := S1.s0 (.bool k1) (.slice A1 (List.length L1) c1)
  have I1 := IntR.pair S1.b0 hi1 (.bool k1) (.slice A1 (List.length L1) c1)
  have hz1 := setPair_size w1 w.heap.size (.bool k1) (.slice A1 (List.length L1) c1)
  generalize setPair w1 w.heap.size (.bool k1) (.slice A1 (List.length L1) c1) = W1 at *
  rw [← hz1] at I1
  clear S1 hi1 x0 y0 p0 q0 hz1
  refine (P2.out _).mono ?_
  rintro e w2 ⟨k2, A2, c2, L2, rfl, hi2, hl2, hok2, hno2, hb2⟩
  have S3 := S2.call hb2
  have I2 := I1.lift1 hb2 (Nat.le_refl _)
  clear S2 hb2 I1
  have x0 := S3.b1.c0
  have y0 := S3.b1.c1
  have p0 := S3.b1.f0
  have q0 := S3.b1.f1
  go_wp2_with fail
  change Calls Tryd.prog 14 #[.string s] (setPair w2 (w.heap.size + 1) (.bool k2) (.slice A2 (List.length L2) c2)) _
  have S4 := S3.s1 (.bool k2) (.slice A2 (List.length L2) c2)
  have I3 := IntR.pair S3.b1 I2 (.bool k2) (.slice A2 (List.length L2) c2)
  have J3 := IntR.pair S3.b1 hi2 (.bool k2) (.slice A2 (List.length L2) c2)
  have hz1 := setPair_size w2 (w.heap.size + 1) (.bool k2) (.slice A2 (List.length L2) c2)
  generalize setPair w2 (w.heap.size + 1) (.bool k2) (.slice A2 (List.length L2) c2) = W2 at *
  rw [← hz1] at I3 J3
  clear S3 hi2 x0 y0 p0 q0 hz1 I2
  refine (R1.out _).mono ?_
  rintro e w3 ⟨k3, A3, c3, L3, rfl, hi3, hl3, hok3, hno3, hb3⟩
  have S5 := S4.call hb3
  have I4 := I3.lift1 hb3 (Nat.le_refl _)
  have J4 := J3.lift1 hb3 (Nat.le_refl _)
  clear S4 hb3 I3 J3
  have x0 := S5.b2.c0
  have y0 := S5.b2.c1
  have p0 := S5.b2.f0
  have q0 := S5.b2.f1
  go_wp2_with fail
  change Calls Tryd.prog 14 #[.string t] (setPair w3 (w.heap.size + 1 + 1) (.bool k3) (.slice A3 (List.length L3) c3)) _
  have S6 := S5.s2 (.bool k3) (.slice A3 (List.length L3) c3)
  have I5 := IntR.pair S5.b2 I4 (.bool k3) (.slice A3 (List.length L3) c3)
  have J5 := IntR.pair S5.b2 J4 (.bool k3) (.slice A3 (List.length L3) c3)
  have M5 := RefR.pair S5.b2 hi3 (.bool k3) (.slice A3 (List.length L3) c3)
  have hz1 := setPair_size w3 (w.heap.size + 1 + 1) (.bool k3) (.slice A3 (List.length L3) c3)
  generalize setPair w3 (w.heap.size + 1 + 1) (.bool k3) (.slice A3 (List.length L3) c3) = W3 at *
  rw [← hz1] at I5 J5 M5
  clear S5 hi3 x0 y0 p0 q0 hz1 I4 J4
  refine (R2.out _).mono ?_
  rintro e w4 ⟨k4, A4, c4, L4, rfl, hi4, hl4, hok4, hno4, hb4⟩
  have S7 := S6.call hb4
  have I6 := I5.lift1 hb4 (Nat.le_refl _)
  have J6 := J5.lift1 hb4 (Nat.le_refl _)
  have M6 := M5.lift hb4 (Nat.le_refl _)
  clear S6 hb4 I5 J5 M5
  have x0 := S7.b3.c0
  have y0 := S7.b3.c1
  have p0 := S7.b3.f0
  have q0 := S7.b3.f1
  go_wp2_with fail
  change Code.wp Tryd.prog _ _ _ (setPair w4 (w.heap.size + 1 + 1 + 1) (.bool k4) (.slice A4 (List.length L4) c4))
  have S8 := S7.s3 (.bool k4) (.slice A4 (List.length L4) c4)
  have I7 := IntR.pair S7.b3 I6 (.bool k4) (.slice A4 (List.length L4) c4)
  have J7 := IntR.pair S7.b3 J6 (.bool k4) (.slice A4 (List.length L4) c4)
  have M7 := RefR.pair S7.b3 M6 (.bool k4) (.slice A4 (List.length L4) c4)
  have N7 := RefR.pair S7.b3 hi4 (.bool k4) (.slice A4 (List.length L4) c4)
  have hz1 := setPair_size w4 (w.heap.size + 1 + 1 + 1) (.bool k4) (.slice A4 (List.length L4) c4)
  generalize setPair w4 (w.heap.size + 1 + 1 + 1) (.bool k4) (.slice A4 (List.length L4) c4) = W4 at *
  rw [← hz1] at I7 J7 M7 N7
  clear S7 x0 y0 p0 q0 hz1 I6 J6 M6 hi4
  have x0 := S8.b0.c0
  have y0 := S8.b0.c1
  have p0 := S8.b0.f0
  have q0 := S8.b0.f1
  have x1 := S8.b1.c0
  have y1 := S8.b1.c1
  have p1 := S8.b1.f0
  have q1 := S8.b1.f1
  have x2 := S8.b2.c0
  have y2 := S8.b2.c1
  have p2 := S8.b2.f0
  have q2 := S8.b2.f1
  have x3 := S8.b3.c0
  have y3 := S8.b3.c1
  have p3 := S8.b3.f0
  have q3 := S8.b3.f1
  have HS8 := Lib.hid S8
  have HI7 := Lib.hid I7
  have HJ7 := Lib.hid J7
  have HM7 := Lib.hid M7
  have HN7 := Lib.hid N7
  clear S8 I7 J7 M7 N7
  have n1 : ¬ w.heap.size = w.heap.size + 1 + 1 := by omega
  have n2 : ¬ w.heap.size = w.heap.size + 1 + 1 + 1 := by omega
  have n3 : ¬ w.heap.size + 1 = w.heap.size + 1 + 1 + 1 := by omega
  have n4 : ¬ w.heap.size + 1 + 1 = w.heap.size := by omega
  have n5 : ¬ w.heap.size + 1 + 1 + 1 = w.heap.size := by omega
  have n6 : ¬ w.heap.size + 1 + 1 + 1 = w.heap.size + 1 := by omega
  have ks0 := keep0
  have ks1 := keep1
  have hpost : ∀ (ok : Bool) (W : World), (ok = true → errOf s.data.toList = 0 ∧ errOf t.data.toList = 0) → St w W (.bool k1) (.slice A1 (List.length L1) c1) (.bool k2) (.slice A2 (List.length L2) c2) (.bool k3) (.slice A3 (List.length L3) c3) (.bool k4) (.slice A4 (List.length L4) c4) →
      IntR W W.heap.size k1 A1 c1 L1 → IntR W W.heap.size k2 A2 c2 L2 → RefR W W.heap.size k3 A3 c3 L3 → RefR W W.heap.size k4 A4 c4 L4 →
      BothPost s t w (.returned (.tuple #[.agg #[.bool k1, .slice A1 (List.length L1) c1], .agg #[.bool k2, .slice A2 (List.length L2) c2], .agg #[.bool k3, .slice A3 (List.length L3) c3], .agg #[.bool k4, .slice A4 (List.length L4) c4], .bool ok])) W := by
    intro ok W hk hS h1 h2 h3 h4
    refine ⟨k1, A1, c1, L1, k2, A2, c2, L2, k3, A3, c3, L3, k4, A4, c4, L4, ok, rfl, h1, h2, h3, h4, hl1, hl2, hl3, hl4, fun h => ?_, hS.bw⟩
    obtain ⟨e1, e2⟩ := hk h
    exact ⟨e1, e2, (hok1.out e1).1, (hok1.out e1).2, (hok2.out e2).1, (hok2.out e2).2, (hok3.out e1).1, (hok3.out e1).2, (hok4.out e2).1, (hok4.out e2).2⟩
  have HP := Lib.hid hpost
  clear hpost hok1 hok2 hok3 hok4 hno1 hno2 hno3 hno4 hl1 hl2 hl3 hl4
  generalize errOf s.data.toList = er1 at *
  generalize errOf t.data.toList = er2 at *
  by_cases h1 : er1 = 0
  · by_cases h2 : er2 = 0
    · subst h1
      subst h2
      go_region_held3 (fun w' => w'.cell? ⟨w.heap.size, 0, none⟩ = some (.bool k1) ∧ w'.cell? ⟨w.heap.size, 1, none⟩ = some (.slice A1 (List.length L1) c1) ∧
        w'.cell? ⟨w.heap.size + 1, 0, none⟩ = some (.bool k2) ∧ w'.cell? ⟨w.heap.size + 1, 1, none⟩ = some (.slice A2 (List.length L2) c2) ∧
        w'.cell? ⟨w.heap.size + 1 + 1, 0, none⟩ = some (.bool k3) ∧ w'.cell? ⟨w.heap.size + 1 + 1, 1, none⟩ = some (.slice A3 (List.length L3) c3) ∧
        w'.cell? ⟨w.heap.size + 1 + 1 + 1, 0, none⟩ = some (.bool k4) ∧ w'.cell? ⟨w.heap.size + 1 + 1 + 1, 1, none⟩ = some (.slice A4 (List.length L4) c4)) (go_keep)
      (fail)
      all_goals
        go_wp2
        refine bodyPost_ret (v := .tuple #[.agg #[.bool k1, .slice A1 (List.length L1) c1], .agg #[.bool k2, .slice A2 (List.length L2) c2], .agg #[.bool k3, .slice A3 (List.length L3) c3], .agg #[.bool k4, .slice A4 (List.length L4) c4], .bool true]) (by simp [results, Tryd.results22, go_sem, x0, y0, x1, y1, x2, y2, x3, y3]) rfl ?_
        exact HP.out true _ (fun _ => ⟨trivial, trivial⟩) (St.last HS8.out) (IntR.last HS8.out HI7.out) (IntR.last HS8.out HJ7.out) (RefR.last HS8.out HM7.out) (RefR.last HS8.out HN7.out)
    · subst h1
      have g2 : ((er2 : Int) == 0) = false := by rw [beq_eq_false_iff_ne]; exact h2
      clear ks0 ks1
      go_region
      all_goals
        go_wp2
        refine bodyPost_ret (v := .tuple #[.agg #[.bool k1, .slice A1 (List.length L1) c1], .agg #[.bool k2, .slice A2 (List.length L2) c2], .agg #[.bool k3, .slice A3 (List.length L3) c3], .agg #[.bool k4, .slice A4 (List.length L4) c4], .bool false]) (by simp [results, Tryd.results22, go_sem, x0, y0, x1, y1, x2, y2, x3, y3]) rfl ?_
        exact HP.out false _ (fun h => absurd h Bool.false_ne_true) (St.last HS8.out) (IntR.last HS8.out HI7.out) (IntR.last HS8.out HJ7.out) (RefR.last HS8.out HM7.out) (RefR.last HS8.out HN7.out)
  · have g1 : ((er1 : Int) == 0) = false := by rw [beq_eq_false_iff_ne]; exact h1
    clear ks0 ks1
    go_region
    all_goals
      go_wp2
      refine bodyPost_ret (v := .tuple #[.agg #[.bool k1, .slice A1 (List.length L1) c1], .agg #[.bool k2, .slice A2 (List.length L2) c2], .agg #[.bool k3, .slice A3 (List.length L3) c3], .agg #[.bool k4, .slice A4 (List.length L4) c4], .bool false]) (by simp [results, Tryd.results22, go_sem, x0, y0, x1, y1, x2, y2, x3, y3]) rfl ?_
      exact HP.out false _ (fun h => absurd h Bool.false_ne_true) (St.last HS8.out) (IntR.last HS8.out HI7.out) (IntR.last HS8.out HJ7.out) (RefR.last HS8.out HM7.out) (RefR.last HS8.out HN7.out)

theorem both_any (s t : ByteArray) (w : World) : Calls Tryd.prog 22 #[.string s, .string t] w (BothPost s t w) := by
  by_cases h1 : 600 < s.size
  · exact both_long s t w (.inl h1)
  · by_cases h2 : 600 < t.size
    · exact both_long s t w (.inr h2)
    · exact both_short s t w (by omega) (by omega)
end Go.Proofs.YtbfbijokhlkekaaDoor

/- The product of limbs of four digits. -/
namespace Go.Proofs.YtbfbijokhlkekaaDoor

/-- All numbers of a row are limbs. -/
def Lim4 (L : List Nat) : Prop := ∀ d ∈ L, d < 10000
theorem Lim4.nth {L : List Nat} (h : Lim4 L) (k : Nat) : nth L k < 10000 := nth_all h (by omega) k
theorem Lim4.set {L : List Nat} (h : Lim4 L) (i : Nat) {x : Nat} (hx : x < 10000) : Lim4 (L.set i x) := fun d hd => by
  rcases List.mem_or_eq_of_mem_set hd with h1 | h1
  · exact h d h1
  · omega
theorem Lim4.take {L : List Nat} (h : Lim4 L) (n : Nat) : Lim4 (L.take n) := fun d hd => h d (List.mem_of_mem_take hd)
theorem Lim4.drop {L : List Nat} (h : Lim4 L) (n : Nat) : Lim4 (L.drop n) := fun d hd => h d (List.mem_of_mem_drop hd)

/-- One round of a product: x times the number j of B is added to place o + j, with a carry. -/
def mulRow4 (x o : Nat) (B M : List Nat) : Nat → List Nat × Nat
  | 0 => (M, 0)
  | j + 1 => ((mulRow4 x o B M j).1.set (o + j) ((nth (mulRow4 x o B M j).1 (o + j) + x * nth B j + (mulRow4 x o B M j).2) % 10000),
      (nth (mulRow4 x o B M j).1 (o + j) + x * nth B j + (mulRow4 x o B M j).2) / 10000)
theorem mulRow_succ4 (x o : Nat) (B M : List Nat) (j : Nat) : mulRow4 x o B M (j + 1) =
    ((mulRow4 x o B M j).1.set (o + j) ((nth (mulRow4 x o B M j).1 (o + j) + x * nth B j + (mulRow4 x o B M j).2) % 10000),
      (nth (mulRow4 x o B M j).1 (o + j) + x * nth B j + (mulRow4 x o B M j).2) / 10000) := rfl
theorem mul_lt_lim4 {x y : Nat} (hx : x < 10000) (hy : y < 10000) : x * y ≤ 99980001 := by
  have : x * y ≤ 9999 * 9999 := Nat.mul_le_mul (by omega) (by omega)
  omega
theorem mul_lt_limI4 {x y : Nat} (hx : x < 10000) (hy : y < 10000) : (x : Int) * (y : Int) ≤ 99980001 := by
  have h := mul_lt_lim4 hx hy
  have e : ((x * y : Nat) : Int) = (x : Int) * (y : Int) := by simp
  omega
theorem mul_nonnegI4 (x y : Nat) : 0 ≤ (x : Int) * (y : Int) := by
  have e : ((x * y : Nat) : Int) = (x : Int) * (y : Int) := by simp
  omega
theorem mulRow_ok4 {x o : Nat} {B M : List Nat} (hx : x < 10000) (hB : Lim4 B) (hM : Lim4 M) (j : Nat) :
    Lim4 (mulRow4 x o B M j).1 ∧ (mulRow4 x o B M j).2 < 10000 ∧ (mulRow4 x o B M j).1.length = M.length := by
  induction j with
  | zero => exact ⟨hM, by simp [mulRow4], rfl⟩
  | succ j ih =>
    obtain ⟨h1, h2, h3⟩ := ih
    have a := h1.nth (o + j)
    have b := mul_lt_lim4 hx (hB.nth j)
    rw [mulRow_succ4]
    exact ⟨h1.set _ (Nat.mod_lt _ (by omega)), by show _ / _ < _; omega, by simp [h3]⟩

/-- A product: after i rounds. -/
def mulSt4 (A B M : List Nat) : Nat → List Nat
  | 0 => M
  | i + 1 => (mulRow4 (nth A i) i B (mulSt4 A B M i) B.length).1.set (i + B.length) (mulRow4 (nth A i) i B (mulSt4 A B M i) B.length).2
theorem mulSt_succ4 (A B M : List Nat) (i : Nat) : mulSt4 A B M (i + 1) =
    (mulRow4 (nth A i) i B (mulSt4 A B M i) B.length).1.set (i + B.length) (mulRow4 (nth A i) i B (mulSt4 A B M i) B.length).2 := rfl
theorem mulSt_ok4 {A B M : List Nat} (hA : Lim4 A) (hB : Lim4 B) (hM : Lim4 M) (i : Nat) : Lim4 (mulSt4 A B M i) ∧ (mulSt4 A B M i).length = M.length := by
  induction i with
  | zero => exact ⟨hM, rfl⟩
  | succ i ih =>
    obtain ⟨a, b, c⟩ := mulRow_ok4 (o := i) (hA.nth i) hB ih.1 B.length
    rw [mulSt_succ4]
    exact ⟨a.set _ b, by simp [c, ih.2]⟩
theorem mulRow_val4 {x o : Nat} {B M : List Nat} (ho : o + B.length ≤ M.length) (j : Nat) (hj : j ≤ B.length) (hM : Lim4 M) (hB : Lim4 B) (hx : x < 10000) :
    valB 10000 (mulRow4 x o B M j).1 + 10000 ^ (o + j) * (mulRow4 x o B M j).2 = valB 10000 M + 10000 ^ o * (x * valB 10000 (B.take j)) := by
  induction j with
  | zero => simp [mulRow4, valB]
  | succ j ih =>
    replace ih := ih (by omega)
    have hl := (mulRow_ok4 (o := o) hx hB hM j).2.2
    rw [mulRow_succ4, valB_take_succ _ _ _ (by omega)]
    have hs := valB_set 10000 (mulRow4 x o B M j).1 (o + j) ((nth (mulRow4 x o B M j).1 (o + j) + x * nth B j + (mulRow4 x o B M j).2) % 10000) (by omega)
    generalize mulRow4 x o B M j = q at *
    obtain ⟨Q, y⟩ := q
    dsimp only at *
    have ht := Nat.div_add_mod (nth Q (o + j) + x * nth B j + y) 10000
    generalize (nth Q (o + j) + x * nth B j + y) % 10000 = r at *
    generalize (nth Q (o + j) + x * nth B j + y) / 10000 = c at *
    generalize valB 10000 (Q.set (o + j) r) = V at *
    generalize valB 10000 Q = VQ at *
    generalize valB 10000 M = VM at *
    generalize valB 10000 (B.take j) = VB at *
    generalize nth B j = bj at *
    generalize nth Q (o + j) = qj at *
    rw [← Nat.add_assoc, Nat.pow_succ]
    have e : (10000 : Nat) ^ (o + j) = 10000 ^ o * 10000 ^ j := Nat.pow_add _ _ _
    rw [e] at hs ih ⊢
    generalize (10000 : Nat) ^ o = po at *
    generalize (10000 : Nat) ^ j = pj at *
    have h1 : po * pj * (10000 * c + r) = po * pj * (qj + x * bj + y) := by rw [ht]
    clear ht e hl hj ho hx hB hM
    grind

/-- Behind the places that were written there are zeros. -/
theorem mulRow_high4 {x o : Nat} {B M : List Nat} (j k : Nat) (hk : o + j ≤ k) : nth (mulRow4 x o B M j).1 k = nth M k := by
  induction j with
  | zero => rfl
  | succ j ih => rw [mulRow_succ4]; rw [nth_set_ne (by omega)]; exact ih (by omega)
theorem mulSt_val4 {A B M : List Nat} (hA : Lim4 A) (hB : Lim4 B) (hM : Lim4 M) (hz : ∀ k, nth M k = 0) (hl : M.length = A.length + B.length) (h0 : valB 10000 M = 0) (i : Nat) (hi : i ≤ A.length) :
    valB 10000 (mulSt4 A B M i) = valB 10000 (A.take i) * valB 10000 B ∧ (∀ k, i + B.length ≤ k → nth (mulSt4 A B M i) k = 0) := by
  induction i with
  | zero => exact ⟨by simp [mulSt4, valB, h0], fun k _ => hz k⟩
  | succ i ih =>
    obtain ⟨ih1, ih2⟩ := ih (by omega)
    have hok := mulSt_ok4 hA hB hM i
    have hr := mulRow_val4 (x := nth A i) (o := i) (B := B) (M := mulSt4 A B M i) (by rw [hok.2]; omega) B.length (Nat.le_refl _) hok.1 hB (hA.nth i)
    have hro := mulRow_ok4 (x := nth A i) (o := i) (hA.nth i) hB hok.1 B.length
    have hh := mulRow_high4 (x := nth A i) (o := i) (B := B) (M := mulSt4 A B M i) B.length (i + B.length) (Nat.le_refl _)
    have hh2 := fun k hk => mulRow_high4 (x := nth A i) (o := i) (B := B) (M := mulSt4 A B M i) B.length k hk
    rw [ih2 _ (Nat.le_refl _)] at hh
    rw [mulSt_succ4, valB_take_succ _ _ _ (by omega)]
    have hs := valB_set 10000 (mulRow4 (nth A i) i B (mulSt4 A B M i) B.length).1 (i + B.length) (mulRow4 (nth A i) i B (mulSt4 A B M i) B.length).2 (by rw [hro.2.2, hok.2]; omega)
    refine ⟨?_, fun k hk => ?_⟩
    · rw [hh] at hs
      rw [List.take_of_length_le (Nat.le_refl _)] at hr
      generalize valB 10000 ((mulRow4 (nth A i) i B (mulSt4 A B M i) B.length).1.set (i + B.length) (mulRow4 (nth A i) i B (mulSt4 A B M i) B.length).2) = V at *
      generalize valB 10000 (mulRow4 (nth A i) i B (mulSt4 A B M i) B.length).1 = V1 at *
      generalize 10000 ^ (i + B.length) * (mulRow4 (nth A i) i B (mulSt4 A B M i) B.length).2 = V2 at *
      rw [Nat.mul_zero, Nat.add_zero] at hs
      rw [hs, hr, ih1, Nat.add_mul, Nat.mul_assoc]
    · rw [nth_set_ne (by omega), hh2 k (by omega)]
      exact ih2 k (by omega)
/-- The product of two rows. -/
theorem mul_val4 {A B : List Nat} (hA : Lim4 A) (hB : Lim4 B) : valB 10000 (mulSt4 A B (List.replicate (A.length + B.length) 0) A.length) = valB 10000 A * valB 10000 B := by
  have := (mulSt_val4 (M := List.replicate (A.length + B.length) 0) hA hB (fun d hd => by have := (List.mem_replicate.1 hd).2; omega) (nth_zeros _) (by simp) (valB_zeros _ _) A.length (Nat.le_refl _)).1
  rwa [List.take_of_length_le (Nat.le_refl _)] at this

end Go.Proofs.YtbfbijokhlkekaaDoor

/- The reference's 'mul'. -/
namespace Go.Proofs.YtbfbijokhlkekaaDoor
open Go.RowKit

set_option maxHeartbeats 1600000 in
theorem rmul_walk (A A' : Option Addr) (c c' : Nat) (L M : List Nat) (w : World) (hl : L.length ≤ 1000000) (hml : M.length ≤ 1000000)
    (hL : Lim4 L) (hM : Lim4 M) (hR : Row .i64 w w.heap.size A c L) (hR' : Row .i64 w w.heap.size A' c' M) :
    Calls Tryd.prog 58 #[.slice A L.length c, .slice A' M.length c'] w fun e w' =>
      e = .returned (.slice (some ⟨w.heap.size, 0, none⟩) (trimN (mulSt4 L M (List.replicate (L.length + M.length) 0) L.length) (L.length + M.length)) (L.length + M.length)) ∧
        Blk .i64 3 w' w.heap.size (mulSt4 L M (List.replicate (L.length + M.length) 0) L.length) ∧ Below w.heap.size w w' := by
  obtain ⟨i0, hi, hz0, hz1, hz2⟩ := info_parts info3
  have hZ : Lim4 (List.replicate (L.length + M.length) 0) := fun d hd => by have := (List.mem_replicate.1 hd).2; omega
  have hZl : (List.replicate (L.length + M.length) 0).length = L.length + M.length := by simp
  generalize hz : List.replicate (L.length + M.length) 0 = Z at *
  generalize hl' : L.length = l at *
  generalize hm' : M.length = m at *
  have HL := Lib.hid hl'
  have HM := Lib.hid hm'
  have HZ := Lib.hid hz
  have HZL := Lib.hid hZl
  clear hl' hm' hz hZl
  go_enter Tryd.func58, Tryd.ntmps58
  go_wp2_with (first
    | (refine wpList_make_zeros _ rfl (.tmp 14) (.tmp 14) 29 rfl 3 .i64 i0 8 Tryd.underlying29 hi hz0 hz1 hz2 .i64 .i64 _ _ (l + m) rfl rfl (by omega) (by omega) (by omega) (by omega) ?_; intro w1 hb1 hB1 hs1)
    | fail)
  have hb1' := hb1.out
  rw [HZ.out] at hb1'
  have hg := hb1'.lt
  clear hs1 hb1
  go_loopw [6] (fun iv wr => ∃ i : Nat, i ≤ l ∧ iv = .int .i64 i ∧ Blk .i64 3 wr w.heap.size (mulSt4 L M Z i) ∧ w1.grownBy wr (some w.heap.size)) (fun iv _ => l - (intOf iv).toNat)
  case atStart => exact ⟨0, Nat.zero_le _, rfl, hb1', grown_refl _ _⟩
  case round =>
    obtain ⟨i, hk, rfl, hb, hgr⟩ := hrel
    obtain ⟨h1, h2⟩ := mulSt_ok4 hL hM hZ i
    have HS := Lib.hid (mulSt_succ4 L M Z i)
    have h3 : (mulSt4 L M Z i).length = l + m := by rw [h2, HZL.out]
    clear h2
    generalize hs : mulSt4 L M Z i = S at *
    have HK := Lib.hid hs
    have H3 := Lib.hid h3
    clear hs h3
    by_cases hlt : i < l
    · obtain ⟨b, o, rfl, hbg, hcell⟩ := hR.spot (by rw [HL.out]; omega)
      have hx := hL.nth i
      have hcell2 := hcell.below hB1 hbg
      generalize hxx : nth L i = x at *
      have HX := Lib.hid hxx
      clear hcell hxx
      go_wp2
      have hbS := hb
      go_loopw [7, 8] (fun cv jv wq => ∃ j : Nat, j ≤ m ∧ jv = .int .i64 j ∧ cv = .int .i64 (mulRow4 x i M S j).2 ∧ Blk .i64 3 wq w.heap.size (mulRow4 x i M S j).1 ∧ w1.grownBy wq (some w.heap.size)) (fun _ jv _ => m - (intOf jv).toNat)
      case atStart => exact ⟨0, Nat.zero_le _, rfl, rfl, hbS, hgr⟩
      case round =>
        obtain ⟨j, hj, rfl, rfl, hbq, hgq⟩ := hrel
        obtain ⟨g1, g2, g3⟩ := mulRow_ok4 (o := i) hx hM h1 j
        have HS' := Lib.hid (mulRow_succ4 x i M S j)
        generalize hq : mulRow4 x i M S j = q at *
        have HQ := Lib.hid hq
        clear hq
        obtain ⟨Q, y⟩ := q
        dsimp only at *
        rw [H3.out] at g3
        have G3 := Lib.hid g3
        clear g3
        by_cases hjt : j < m
        · obtain ⟨b', o', rfl, hbg', hcell'⟩ := hR'.spot (by rw [HM.out]; omega)
          have hcy := ((hcell'.below hB1 hbg').grown hgq (by omega) (by intro e; injection e; omega)) j (by rw [HM.out]; exact hjt)
          have hcx := (hcell2.grown hgq (by omega) (by intro e; injection e; omega)) i (by rw [HL.out]; exact hlt)
          rw [HX.out] at hcx
          have hc := hbq.cell (i + j) (by rw [G3.out]; omega)
          have hfr := hbq.frozen (i + j)
          have b1 := g1.nth (i + j)
          have b2 := hM.nth j
          have b4 := mul_lt_limI4 hx b2
          have b5 := mul_nonnegI4 x (nth M j)
          clear hcell' hcell2
          go_wp2
          go_quiet (fail)
          go_wp2
          go_roundw
          case rel =>
            have E := HS'.out
            have e1 := (hbq.drewN nq).setI (i + j) (v := ((nth Q (i + j) : Int) + (x : Int) * (nth M j : Int) + (y : Int)) % 10000) (x := (nth Q (i + j) + x * nth M j + y) % 10000) (by simp)
            exact ⟨j + 1, by omega, by go_num, by rw [E]; simp, by rw [E]; exact e1, grown_set (grown_drewN hgq _) _ _⟩
          case measure => simp [intOf]; omega
        · obtain rfl : j = m := by omega
          have hc := hbq.cell (i + j) (by rw [G3.out]; omega)
          have hfr := hbq.frozen (i + j)
          go_wp2
          go_roundw
          case rel =>
            have E := HS.out
            rw [HM.out, HQ.out] at E
            exact ⟨i + 1, by omega, by go_num, by rw [E]; exact hbq.set_ _ _, grown_set hgq _ _⟩
          case measure => simp [intOf]; omega
    · obtain rfl : i = l := by omega
      have hT := rtrim_any (some ⟨w.heap.size, 0, none⟩) (i + m) S wr wr.heap.size (by rw [H3.out]; omega) (Row.ofBlk hb hb.lt (by rw [H3.out]; exact Nat.le_refl _))
      rw [H3.out] at hT
      have hB : Below w.heap.size w wr := grown_below hB1 hgr (Nat.le_refl _) hB1.size
      have hb9 := Lib.hid hb
      have HT := Lib.hid hT
      clear hT hb
      go_wp2_with fail
      refine HT.out.mono ?_
      rintro e w4 ⟨rfl, rfl⟩
      go_wp2_with fail
      go_ret
      have hk' := HK.out
      rw [hk']
      exact ⟨rfl, hb9.out, hB⟩

abbrev val4 (L : List Nat) : Nat := valB 10000 L
/-- The integer of the reference with a sign and limbs. -/
def zR (neg : Bool) (L : List Nat) : Int := if neg then -(val4 L : Int) else (val4 L : Int)

/-- The limbs that the reference's 'trim' leaves of a block, as they read behind later blocks. -/
theorem trim_pack4 {w : World} {g B c : Nat} {R : List Nat} (hb : Blk .i64 3 w g R) (hR : ∀ d ∈ R, d < 10000) (hg : g < B) (hc : R.length ≤ c) :
    ∃ L, L.length = trimN R R.length ∧ Row .i64 w B (some ⟨g, 0, none⟩) c L ∧ (∀ d ∈ L, d < 10000) ∧ (0 < L.length → nth L (L.length - 1) ≠ 0) ∧ val4 L = val4 R := by
  have htl := trimN_le R R.length
  have el : (R.take (trimN R R.length)).length = trimN R R.length := by rw [List.length_take]; omega
  refine ⟨R.take (trimN R R.length), el, (Row.ofBlk hb hg hc).take _, fun d hd => hR d (List.mem_of_mem_take hd), ?_, ?_⟩
  · rw [el]; intro h; rw [nth_take (by omega)]; exact trimN_top _ _ h
  · rw [val4, trimN_val _ _ _ (Nat.le_refl _), List.take_of_length_le (Nat.le_refl _)]
/-- Trimmed limbs stay as they are. -/
theorem trimN_same {L : List Nat} (h : 0 < L.length → nth L (L.length - 1) ≠ 0) : trimN L L.length = L.length := by
  rcases hl : L.length with _ | n
  · rfl
  · rw [trimN, if_neg]
    have := h (by omega)
    rw [hl] at this
    exact this

theorem rmul2 (A A' : Option Addr) (c c' : Nat) (L M : List Nat) (w : World) (hl : L.length ≤ 500000) (hml : M.length ≤ 500000)
    (hL : ∀ d ∈ L, d < 10000) (hM : ∀ d ∈ M, d < 10000) (hR : Row .i64 w w.heap.size A c L) (hR' : Row .i64 w w.heap.size A' c' M) :
    Calls Tryd.prog 58 #[.slice A L.length c, .slice A' M.length c'] w fun e w' => ∃ g c R, e = .returned (.slice (some ⟨g, 0, none⟩) R.length c) ∧
      Row .i64 w' w'.heap.size (some ⟨g, 0, none⟩) c R ∧ (∀ d ∈ R, d < 10000) ∧ (0 < R.length → nth R (R.length - 1) ≠ 0) ∧ val4 R = val4 L * val4 M ∧ R.length ≤ L.length + M.length ∧ Below w.heap.size w w' ∧ w.heap.size ≤ g := by
  refine (rmul_walk A A' c c' L M w (by omega) (by omega) hL hM hR hR').mono ?_
  rintro e w' ⟨rfl, hb, hbw⟩
  have hz : Lim4 (List.replicate (L.length + M.length) 0) := fun d hd => by have := (List.mem_replicate.1 hd).2; omega
  have hok := mulSt_ok4 hL hM hz L.length
  have hv := mul_val4 hL hM
  have hlen : (mulSt4 L M (List.replicate (L.length + M.length) 0) L.length).length = L.length + M.length := by rw [hok.2]; simp
  obtain ⟨R, h1, h2, h3, h3', h4⟩ := trim_pack4 (c := L.length + M.length) hb hok.1 hb.lt (by omega)
  rw [hlen] at h1
  have htl := trimN_le (mulSt4 L M (List.replicate (L.length + M.length) 0) L.length) (L.length + M.length)
  exact ⟨_, _, R, by rw [h1], h2, h3, h3', by rw [h4]; exact hv, by omega, hbw, Nat.le_refl _⟩

theorem zR_mul (n m : Bool) {L M R : List Nat} (h : val4 R = val4 L * val4 M) (h0 : R.length = 0 → val4 R = 0) : zR ((n != m) && decide (0 < R.length)) R = zR n L * zR m M := by
  have hc : ((val4 R : Nat) : Int) = (val4 L : Int) * (val4 M : Int) := by rw [h]; simp
  unfold zR
  generalize (val4 L : Int) = x at *
  generalize (val4 M : Int) = y at *
  rcases Nat.eq_zero_or_pos R.length with h1 | h1
  · have h2 := h0 h1
    rw [h2] at hc ⊢
    have e : (decide (0 < R.length)) = false := by rw [decide_eq_false_iff_not]; omega
    rw [e, Bool.and_false]
    cases n <;> cases m <;> simp <;> grind
  · have e : (decide (0 < R.length)) = true := by rw [decide_eq_true_iff]; omega
    rw [e, Bool.and_true, hc]
    cases n <;> cases m <;> simp <;> grind
theorem val4_nil {L : List Nat} (h : L.length = 0) : val4 L = 0 := by rw [List.eq_nil_of_length_eq_zero h]; rfl
end Go.Proofs.YtbfbijokhlkekaaDoor

/- The reference's 'Mul'. -/
namespace Go.Proofs.YtbfbijokhlkekaaDoor
open Go.RowKit

theorem rsigned_trim (neg : Bool) (A : Option Addr) (c : Nat) (L : List Nat) (w : World) {n : Nat} (hl : L.length ≤ n) (ht : 0 < L.length → nth L (L.length - 1) ≠ 0) (hR : Row .i64 w w.heap.size A c L) (hn : n ≤ 4000000 := by omega) :
    Calls Tryd.prog 44 #[.bool neg, .slice A L.length c] w fun e w' => e = .returned (.agg #[.bool (neg && decide (0 < L.length)), .slice A L.length c]) ∧ Below w.heap.size w w' := by
  have := rsigned_any neg A c L w (by omega) hR
  rwa [trimN_same ht] at this

set_option maxRecDepth 20000 in
set_option maxHeartbeats 3200000 in
theorem rmulI_any (n m : Bool) (A A' : Option Addr) (c c' : Nat) (L M : List Nat) (w : World) (hl : L.length ≤ 500000) (hml : M.length ≤ 500000)
    (hL : RefR w w.heap.size n A c L) (hM : RefR w w.heap.size m A' c' M) :
    Calls Tryd.prog 33 #[.agg #[.bool n, .slice A L.length c], .agg #[.bool m, .slice A' M.length c']] w fun e w' => ∃ k A c R, e = .returned (.agg #[.bool k, .slice A R.length c]) ∧
      RefR w' w'.heap.size k A c R ∧ zR k R = zR n L * zR m M ∧ R.length ≤ L.length + M.length ∧ Below w.heap.size w w' := by
  have hM2 := fun W h1 h2 => rmul2 A A' c c' L M W hl hml hL.lim hM.lim h1 h2
  have HM2 := Lib.hid hM2
  clear hM2
  generalize hl' : L.length = l at *
  generalize hm' : M.length = l2 at *
  have HLL := Lib.hid hl'
  have HML := Lib.hid hm'
  clear hl' hm'
  go_enter Tryd.func33, Tryd.ntmps33
  go_wp2
  have hne1 : ¬ w.heap.size = w.heap.size + 1 + 1 := by omega
  have hne2 : ¬ w.heap.size + 1 + 1 = w.heap.size := by omega
  go_region_held3 (fun w' => w'.cell? ⟨w.heap.size, 0, none⟩ = some (.bool n) ∧ w'.cell? ⟨w.heap.size, 1, none⟩ = some (.slice A l c) ∧
      w'.cell? ⟨w.heap.size + 1, 0, none⟩ = some (.bool m) ∧ w'.cell? ⟨w.heap.size + 1, 1, none⟩ = some (.slice A' l2 c')) (go_keep)
    (first
      | (go_at_call 58; refine (HM2.out _ (hL.row.up (below_drew (below_a3 _ _ _ _))) (hM.row.up (below_drew (below_a3 _ _ _ _)))).mono ?_; rintro e w1 ⟨g, c1, R, rfl, hr1, hlim1, htop1, hv1, hl1, hb1, _⟩; have HB1 := Lib.hid (three (below_undrew hb1)).2.2.2.2.2.2.2.2.2; have X := three (below_undrew hb1); have hq1 := X.1; have hq2 := X.2.1; have hq3 := X.2.2.1; have hq4 := X.2.2.2.1; have hq5 := X.2.2.2.2.1; have hq6 := X.2.2.2.2.2.1; have hq7 := X.2.2.2.2.2.2.1; have hq8 := X.2.2.2.2.2.2.2.1; have hq9 := X.2.2.2.2.2.2.2.2.1; clear X hb1)
      | (go_at_call 44; refine (rsigned_trim _ _ _ R _ hl1 htop1 hr1).mono ?_; rintro e w2 ⟨rfl, hb2⟩; have HB2 := Lib.hid (below_then HB1.out hb2 hq9); have HR2 := Lib.hid (hr1.below hb2); have hs2 := hb2.size; clear hq1 hq2 hq3 hq4 hq5 hq6 hq7 hq8 hr1 hb2; have X := three' HB2.out; have hq1 := X.1; have hq2 := X.2.1; have hq3 := X.2.2.1; have hq4 := X.2.2.2.1; have hq5 := X.2.2.2.2.1; have hq6 := X.2.2.2.2.2.1; have hq7 := X.2.2.2.2.2.2.1; have hq8 := X.2.2.2.2.2.2.2.1; clear X))
  all_goals
    go_wp2
    have hbw : Below w.heap.size w w2 := (below_a3 w _ _ _).trans (Below.less HB2.out (by omega))
    refine bodyPost_ret (v := .agg #[.bool (!(n == m) && decide (0 < R.length)), .slice (some ⟨g, 0, none⟩) R.length c1]) (by simp [results, Tryd.results33, go_sem, hq5, hq6]) rfl
      ⟨_, _, _, R, rfl, ?_, zR_mul n m hv1 val4_nil, hl1, (hbw.setCell (by simp; omega) _).setCell (by simp; omega) _⟩
    rw [setCell_size, setCell_size]
    refine ⟨(HR2.out.more hs2).box3 HB2.out (fun _ => by simp) (fun _ => by simp) _ _, hlim1, htop1, fun hk hR => ?_⟩
    rw [hR] at hk
    simp at hk
end Go.Proofs.YtbfbijokhlkekaaDoor

/- IntegerProducts: for every two texts the statement about Mul returns true. -/
namespace Go.Proofs.YtbfbijokhlkekaaDoor
open Go.RowKit

theorem txt_same {w w' : World} {B B' : Nat} {n m : Bool} {A A' : Option Addr} {c c' : Nat} {L M : List Nat} (hL : IntR w B n A c L) (hM : RefR w' B' m A' c' M) (h : zI n L = zR m M) : decI n (val9 L) = decI m (val4 M) := by
  have h1 : n = true → 0 < val9 L := fun h => Nat.pos_of_ne_zero (canon_pos hL.canon (List.length_pos_iff.2 (hL.sgn h)))
  have h2 : m = true → 0 < val4 M := fun h => Nat.pos_of_ne_zero (ref_pos hM (List.length_pos_iff.2 (hM.sgn h)))
  have h3 : n = m ∧ val9 L = val4 M := by
    unfold zI zR at h
    cases n <;> cases m <;> simp at h h1 h2 ⊢ <;> omega
  rw [h3.1, h3.2]
theorem same_true (n m : Bool) (A A' : Option Addr) (c c' : Nat) (L M : List Nat) (w : World) (hl : L.length ≤ 100000) (hml : M.length ≤ 1000000)
    (hL : IntR w w.heap.size n A c L) (hM : RefR w w.heap.size m A' c' M) (hz : zI n L = zR m M) (ht : Tab w.heap.size w) :
    Calls Tryd.prog 17 #[.agg #[.bool n, .slice A L.length c], .agg #[.bool m, .slice A' M.length c']] w fun e w' => e = .returned (.bool true) ∧ Below w.heap.size w w' := by
  have h := same_any n m A A' c c' L M w hl hml hL hM ht
  rw [txt_same hL hM hz, show (decI m (val4 M) == decI m (valB 10000 M)) = true by simp] at h
  exact h
/-- The integer that a good text stands for. -/
def textZ (l : List UInt8) : Int := if negOf l then -(numOf (restOf l) : Int) else (numOf (restOf l) : Int)
theorem textZ_I {l : List UInt8} {k : Bool} {L : List Nat} (h1 : k = negOf l) (h2 : val9 L = numOf (restOf l)) : zI k L = textZ l := by unfold zI textZ; rw [h1, h2]
theorem textZ_R {l : List UInt8} {k : Bool} {L : List Nat} (h1 : k = negOf l) (h2 : valB 10000 L = numOf (restOf l)) : zR k L = textZ l := by unfold zR textZ val4; rw [h1, h2]

set_option maxRecDepth 20000 in
set_option maxHeartbeats 12800000 in
theorem law_products (s t : ByteArray) (w : World) (htab : Tab w.heap.size w) :
    Calls Tryd.prog 6 #[.string s, .string t] w fun e w' => e = .returned (.bool true) ∧ Below w.heap.size w w' := by
  have HT := Lib.hid htab
  have HBO := Lib.hid (fun W => both_any s t W)
  clear htab
  go_enter Tryd.func6, Tryd.ntmps6
  go_wp2_with fail
  refine (awake_any w HT.out).mono ?_
  rintro e w1 ⟨rfl, hb1⟩
  go_wp2_with fail
  refine (HBO.out _).mono ?_
  rintro e w2 ⟨k1, A1, c1, L1, k2, A2, c2, L2, k3, A3, c3, L3, k4, A4, c4, L4, ok, rfl, I1, I2, M1, M2, hl1, hl2, hl3, hl4, hok, hb2⟩
  have hb12 := hb1.trans (Below.less hb2 hb1.size)
  clear hb1 hb2
  have F := four_boxes w2 (.bool k1) (.slice A1 (List.length L1) c1) (.bool k2) (.slice A2 (List.length L2) c2) (.bool k3) (.slice A3 (List.length L3) c3) (.bool k4) (.slice A4 (List.length L4) c4) 25 25 31 31
  cases ok
  · have HB12 := Lib.hid hb12
    clear hb12
    go_wp2_with fail
    go_ret
    exact ⟨rfl, HB12.out.trans (Below.less F.2.2.2.2.2 HB12.out.size)⟩
  · obtain ⟨e1, e2, q1, q2, q3, q4, q5, q6, q7, q8⟩ := hok rfl
    have HZ1 := Lib.hid (textZ_I q1 q2)
    have HZ2 := Lib.hid (textZ_I q3 q4)
    have HZ3 := Lib.hid (textZ_R q5 q6)
    have HZ4 := Lib.hid (textZ_R q7 q8)
    clear hok e1 e2 q1 q2 q3 q4 q5 q6 q7 q8
    go_wp2_with fail
    change Code.wp Tryd.prog _ _ _ ((((w2.alloc (.cells #[.bool k1, .slice A1 (List.length L1) c1] 25)).alloc (.cells #[.bool k2, .slice A2 (List.length L2) c2] 25)).alloc (.cells #[.bool k3, .slice A3 (List.length L3) c3] 31)).alloc (.cells #[.bool k4, .slice A4 (List.length L4) c4] 31))
    generalize (((w2.alloc (.cells #[.bool k1, .slice A1 (List.length L1) c1] 25)).alloc (.cells #[.bool k2, .slice A2 (List.length L2) c2] 25)).alloc (.cells #[.bool k3, .slice A3 (List.length L3) c3] 31)).alloc (.cells #[.bool k4, .slice A4 (List.length L4) c4] 31) = W at *
    obtain ⟨b0, b1, b2, b3, hsz, hbw⟩ := F
    have HI1 := Lib.hid (I1.up hbw)
    have HI2 := Lib.hid (I2.up hbw)
    have HM1 := Lib.hid (M1.up hbw)
    have HM2 := Lib.hid (M2.up hbw)
    have hWw := hb12.trans (Below.less hbw hb12.size)
    have HWW := Lib.hid hWw
    have HTW := Lib.hid (tab_up HT.out hWw)
    have hy0 := b0.c0
    have hy1 := b0.c1
    have hy2 := b1.c0
    have hy3 := b1.c1
    have hy4 := b2.c0
    have hy5 := b2.c1
    have hy6 := b3.c0
    have hy7 := b3.c1
    have hlt0 : w2.heap.size < W.heap.size := by omega
    have hlt1 : w2.heap.size + 1 < W.heap.size := by omega
    have hlt2 : w2.heap.size + 1 + 1 < W.heap.size := by omega
    have hlt3 : w2.heap.size + 1 + 1 + 1 < W.heap.size := by omega
    have HC := Lib.hid (below_drew (Below.refl W.heap.size W))
    clear b0 b1 b2 b3 hsz hbw I1 I2 M1 M2 hb12 hWw
    have hf0 := hy0
    have hf1 := hy1
    have hf2 := hy2
    have hf3 := hy3
    have hf4 := hy4
    have hf5 := hy5
    have hf6 := hy6
    have hf7 := hy7
    go_region_held3 (fun w' => w'.cell? ⟨w2.heap.size, 0, none⟩ = some (.bool k1) ∧ w'.cell? ⟨w2.heap.size, 1, none⟩ = some (.slice A1 (List.length L1) c1) ∧
        w'.cell? ⟨w2.heap.size + 1, 0, none⟩ = some (.bool k2) ∧ w'.cell? ⟨w2.heap.size + 1, 1, none⟩ = some (.slice A2 (List.length L2) c2) ∧
        w'.cell? ⟨w2.heap.size + 1 + 1, 0, none⟩ = some (.bool k3) ∧ w'.cell? ⟨w2.heap.size + 1 + 1, 1, none⟩ = some (.slice A3 (List.length L3) c3) ∧
        w'.cell? ⟨w2.heap.size + 1 + 1 + 1, 0, none⟩ = some (.bool k4) ∧ w'.cell? ⟨w2.heap.size + 1 + 1 + 1, 1, none⟩ = some (.slice A4 (List.length L4) c4)) (go_keep)
      (first
        | (go_at_call 32; (with_reducible refine (mul_any k1 k2 A1 A2 c1 c2 L1 L2 _ (by omega) (by omega) (HI1.out.up HC.out) (HI2.out.up HC.out)).mono ?_); rintro e w4 ⟨kx, Ax, cx, X, rfl, hix, hzx, hlx, hb4⟩; have HX := Lib.hid hix; have HZX := Lib.hid hzx; clear hix hzx; (try (have HY9 := Lib.hid (RefR.up HY.out hb4); clear HY; have HY := HY9; clear HY9)); have HC9 := Lib.hid (below_then HC.out hb4 HC.out.size); clear HC hf0 hf1 hf2 hf3 hf4 hf5 hf6 hf7; have HC := HC9; clear HC9; have hf0 := (below_atB (i := 0) HC.out hlt0).trans hy0; have hf1 := (below_atB (i := 1) HC.out hlt0).trans hy1; have hf2 := (below_atB (i := 0) HC.out hlt1).trans hy2; have hf3 := (below_atB (i := 1) HC.out hlt1).trans hy3; have hf4 := (below_atB (i := 0) HC.out hlt2).trans hy4; have hf5 := (below_atB (i := 1) HC.out hlt2).trans hy5; have hf6 := (below_atB (i := 0) HC.out hlt3).trans hy6; have hf7 := (below_atB (i := 1) HC.out hlt3).trans hy7; clear hb4)
        | (go_at_call 33; (with_reducible refine (rmulI_any k3 k4 A3 A4 c3 c4 L3 L4 _ (by omega) (by omega) (HM1.out.up HC.out) (HM2.out.up HC.out)).mono ?_); rintro e w4 ⟨ky, Ay, cy, Y, rfl, hiy, hzy, hly, hb4⟩; have HY := Lib.hid hiy; have HZY := Lib.hid hzy; clear hiy hzy; (try (have HX9 := Lib.hid (IntR.up HX.out hb4); clear HX; have HX := HX9; clear HX9)); have HC9 := Lib.hid (below_then HC.out hb4 HC.out.size); clear HC hf0 hf1 hf2 hf3 hf4 hf5 hf6 hf7; have HC := HC9; clear HC9; have hf0 := (below_atB (i := 0) HC.out hlt0).trans hy0; have hf1 := (below_atB (i := 1) HC.out hlt0).trans hy1; have hf2 := (below_atB (i := 0) HC.out hlt1).trans hy2; have hf3 := (below_atB (i := 1) HC.out hlt1).trans hy3; have hf4 := (below_atB (i := 0) HC.out hlt2).trans hy4; have hf5 := (below_atB (i := 1) HC.out hlt2).trans hy5; have hf6 := (below_atB (i := 0) HC.out hlt3).trans hy6; have hf7 := (below_atB (i := 1) HC.out hlt3).trans hy7; clear hb4)
        | (go_at_call 17; (first | (with_reducible refine (same_true kx ky Ax Ay cx cy X Y _ (by omega) (by omega) HX.out HY.out (by rw [HZX.out, HZY.out, HZ1.out, HZ2.out, HZ3.out, HZ4.out]) (tab_up HTW.out HC.out)).mono ?_) | (with_reducible refine (same_true k1 k3 A1 A3 c1 c3 L1 L3 _ (by omega) (by omega) (HI1.out.up HC.out) (HM1.out.up HC.out) (by rw [HZ1.out, HZ3.out]) (tab_up HTW.out HC.out)).mono ?_) | (with_reducible refine (same_true k2 k4 A2 A4 c2 c4 L2 L4 _ (by omega) (by omega) (HI2.out.up HC.out) (HM2.out.up HC.out) (by rw [HZ2.out, HZ4.out]) (tab_up HTW.out HC.out)).mono ?_)); rintro e w4 ⟨rfl, hb4⟩; have HC9 := Lib.hid (below_then HC.out hb4 HC.out.size); clear HC hf0 hf1 hf2 hf3 hf4 hf5 hf6 hf7; have HC := HC9; clear HC9; have hf0 := (below_atB (i := 0) HC.out hlt0).trans hy0; have hf1 := (below_atB (i := 1) HC.out hlt0).trans hy1; have hf2 := (below_atB (i := 0) HC.out hlt1).trans hy2; have hf3 := (below_atB (i := 1) HC.out hlt1).trans hy3; have hf4 := (below_atB (i := 0) HC.out hlt2).trans hy4; have hf5 := (below_atB (i := 1) HC.out hlt2).trans hy5; have hf6 := (below_atB (i := 0) HC.out hlt3).trans hy6; have hf7 := (below_atB (i := 1) HC.out hlt3).trans hy7; clear hb4))
    all_goals
      go_wp2
      go_ret
      exact ⟨rfl, HWW.out.trans (Below.less HC.out HWW.out.size)⟩
end Go.Proofs.YtbfbijokhlkekaaDoor

/- Sums and differences of limbs of four digits. -/
namespace Go.Proofs.YtbfbijokhlkekaaDoor

/-- The reference's 'add': after k rounds, the limbs and the carry. -/
def raSt (A B : List Nat) : Nat → List Nat × Nat
  | 0 => ([], 0)
  | k + 1 => ((raSt A B k).1 ++ [((raSt A B k).2 + nth A k + nth B k) % 10000], ((raSt A B k).2 + nth A k + nth B k) / 10000)
theorem raSt_succ (A B : List Nat) (k : Nat) : raSt A B (k + 1) = ((raSt A B k).1 ++ [((raSt A B k).2 + nth A k + nth B k) % 10000], ((raSt A B k).2 + nth A k + nth B k) / 10000) := rfl
theorem raSt_ok {A B : List Nat} (hA : Lim4 A) (hB : Lim4 B) (k : Nat) : Lim4 (raSt A B k).1 ∧ (raSt A B k).2 ≤ 1 ∧ (raSt A B k).1.length = k := by
  induction k with
  | zero => exact ⟨fun _ h => absurd h (List.not_mem_nil), by simp [raSt], rfl⟩
  | succ k ih =>
    obtain ⟨h1, h2, h3⟩ := ih
    have a := hA.nth k
    have b := hB.nth k
    rw [raSt_succ]
    refine ⟨fun d hd => ?_, by show _ / _ ≤ _; omega, by simp [h3]⟩
    rcases List.mem_append.1 hd with h | h
    · exact h1 d h
    · rw [List.mem_singleton] at h; subst h; exact Nat.mod_lt _ (by omega)
theorem take_val (b : Nat) (B : List Nat) (k : Nat) : valB b (B.take (k + 1)) = valB b (B.take k) + b ^ k * nth B k := by
  rcases Nat.lt_or_ge k B.length with h | h
  · exact valB_take_succ _ _ _ h
  · rw [valB_take_over _ _ _ h, valB_take_over _ _ _ (by omega), nth_ge h]; simp
theorem raSt_val {A B : List Nat} (hA : Lim4 A) (hB : Lim4 B) (k : Nat) : valB 10000 (raSt A B k).1 + 10000 ^ k * (raSt A B k).2 = valB 10000 (A.take k) + valB 10000 (B.take k) := by
  induction k with
  | zero => simp [raSt, valB]
  | succ k ih =>
    have hl := (raSt_ok hA hB k).2.2
    rw [raSt_succ, take_val, take_val]
    dsimp only
    rw [valB_append, hl]
    generalize raSt A B k = q at *
    obtain ⟨Q, y⟩ := q
    dsimp only at *
    have ht := Nat.div_add_mod (y + nth A k + nth B k) 10000
    generalize (y + nth A k + nth B k) % 10000 = r at *
    generalize (y + nth A k + nth B k) / 10000 = c at *
    simp only [valB, Nat.mul_zero, Nat.add_zero]
    rw [Nat.pow_succ]
    generalize (10000 : Nat) ^ k = p at *
    have h1 : p * (10000 * c + r) = p * (y + nth A k + nth B k) := by rw [ht]
    clear ht hl hA hB
    grind

/-- The reference's 'sub': after k rounds, the limbs and what was borrowed. -/
def rsSt (A B : List Nat) : Nat → List Nat × Nat
  | 0 => ([], 0)
  | k + 1 => if nth A k < (rsSt A B k).2 + nth B k
      then ((rsSt A B k).1 ++ [nth A k + 10000 - ((rsSt A B k).2 + nth B k)], 1)
      else ((rsSt A B k).1 ++ [nth A k - ((rsSt A B k).2 + nth B k)], 0)
theorem rsSt_succ (A B : List Nat) (k : Nat) : rsSt A B (k + 1) = if nth A k < (rsSt A B k).2 + nth B k
      then ((rsSt A B k).1 ++ [nth A k + 10000 - ((rsSt A B k).2 + nth B k)], 1)
      else ((rsSt A B k).1 ++ [nth A k - ((rsSt A B k).2 + nth B k)], 0) := rfl
theorem rsSt_ok {A B : List Nat} (hA : Lim4 A) (hB : Lim4 B) (k : Nat) : Lim4 (rsSt A B k).1 ∧ (rsSt A B k).2 ≤ 1 ∧ (rsSt A B k).1.length = k := by
  induction k with
  | zero => exact ⟨fun _ h => absurd h (List.not_mem_nil), by simp [rsSt], rfl⟩
  | succ k ih =>
    obtain ⟨h1, h2, h3⟩ := ih
    have a := hA.nth k
    have b := hB.nth k
    rw [rsSt_succ]
    split
    · refine ⟨fun d hd => ?_, by simp, by simp [h3]⟩
      rcases List.mem_append.1 hd with h | h
      · exact h1 d h
      · rw [List.mem_singleton] at h; omega
    · refine ⟨fun d hd => ?_, by simp, by simp [h3]⟩
      rcases List.mem_append.1 hd with h | h
      · exact h1 d h
      · rw [List.mem_singleton] at h; omega
theorem rsSt_val {A B : List Nat} (hA : Lim4 A) (hB : Lim4 B) (k : Nat) : valB 10000 (rsSt A B k).1 + valB 10000 (B.take k) = valB 10000 (A.take k) + 10000 ^ k * (rsSt A B k).2 := by
  induction k with
  | zero => simp [rsSt, valB]
  | succ k ih =>
    obtain ⟨h1, h2, hl⟩ := rsSt_ok hA hB k
    have b := hB.nth k
    rw [rsSt_succ, take_val, take_val]
    generalize rsSt A B k = q at *
    obtain ⟨Q, y⟩ := q
    dsimp only at *
    rw [Nat.pow_succ]
    split
    · rename_i hlt
      dsimp only
      rw [valB_append, hl]
      simp only [valB, Nat.mul_zero, Nat.add_zero]
      obtain ⟨v, hv⟩ : ∃ v, nth A k + 10000 - (y + nth B k) = v := ⟨_, rfl⟩
      have hv2 : v + (y + nth B k) = nth A k + 10000 := by omega
      rw [hv]
      generalize (10000 : Nat) ^ k = p at *
      have h3 : p * (v + (y + nth B k)) = p * (nth A k + 10000) := by rw [hv2]
      clear hv hv2 hl h1 h2 hA hB b hlt
      grind
    · rename_i hge
      dsimp only
      rw [valB_append, hl]
      simp only [valB, Nat.mul_zero, Nat.add_zero]
      obtain ⟨v, hv⟩ : ∃ v, nth A k - (y + nth B k) = v := ⟨_, rfl⟩
      have hv2 : v + (y + nth B k) = nth A k := by omega
      rw [hv]
      generalize (10000 : Nat) ^ k = p at *
      have h3 : p * (v + (y + nth B k)) = p * nth A k := by rw [hv2]
      clear hv hv2 hl h1 h2 hA hB b hge
      grind
end Go.Proofs.YtbfbijokhlkekaaDoor

/- The reference's 'add' and 'sub'. -/
namespace Go.Proofs.YtbfbijokhlkekaaDoor
open Go.RowKit

set_option maxRecDepth 20000 in
set_option maxHeartbeats 1600000 in
theorem radd_walk (A A' : Option Addr) (c c' : Nat) (L M : List Nat) (w : World) (hl : L.length ≤ 1000000) (hml : M.length ≤ 1000000)
    (hL : Lim4 L) (hM : Lim4 M) (hR : Row .i64 w w.heap.size A c L) (hR' : Row .i64 w w.heap.size A' c' M) :
    Calls Tryd.prog 53 #[.slice A L.length c, .slice A' M.length c'] w fun e w' => ∃ v k, e = .returned v ∧ L.length ≤ k ∧ M.length ≤ k ∧ k ≤ L.length + M.length + 1 ∧ (raSt L M k).2 = 0 ∧ Own .i64 3 w' w.heap.size v (raSt L M k).1 ∧ Below w.heap.size w w' := by
  obtain ⟨i0, hi, hz0, hz1, hz2⟩ := info_parts info3
  obtain ⟨mx, hx1, hx2, hx3⟩ : ∃ mx, L.length ≤ mx ∧ M.length ≤ mx ∧ (mx = L.length ∨ mx = M.length) := ⟨max L.length M.length, by omega, by omega, by omega⟩
  have hx4 : mx ≤ 1000000 := by omega
  have HX3 := Lib.hid hx3
  clear hx3
  generalize hl' : L.length = l at *
  generalize hm' : M.length = m at *
  have HL := Lib.hid hl'
  have HM := Lib.hid hm'
  clear hl' hm'
  go_enter Tryd.func53, Tryd.ntmps53
  go_wp2
  go_loopw [5, 6, 7] (fun ov cv iv wr => ∃ k : Nat, k ≤ mx + 1 ∧ iv = .int .i64 k ∧ cv = .int .i64 (raSt L M k).2 ∧ Own .i64 3 wr w.heap.size ov (raSt L M k).1 ∧ Below w.heap.size w wr ∧ Hid (mx < k → (raSt L M k).2 = 0)) (fun _ _ iv _ => mx + 1 - (intOf iv).toNat)
  case atStart => exact ⟨0, Nat.zero_le _, rfl, rfl, Own.nil _ _ _ _, Below.refl _ _, fun _ => rfl⟩
  case round =>
    obtain ⟨k, hk, rfl, rfl, ho, hbw, hc0⟩ := hrel
    obtain ⟨h1, h2, h3⟩ := raSt_ok hL hM k
    have HS := Lib.hid (raSt_succ L M k)
    have hsz := hbw.size
    have a1 := hL.nth k
    have a2 := hM.nth k
    generalize hs : raSt L M k = S at *
    have HK := Lib.hid hs
    clear hs
    obtain ⟨Q, y⟩ := S
    dsimp only at *
    have HO := Lib.hid ho
    have H3 := Lib.hid h3
    have hql : Q.length ≤ 100000000 := by omega
    have HQL := Lib.hid hql
    clear ho h3 hql
    have step : ∀ (v2 : Value) (w2 : World) (d y' : Nat), k < mx + 1 → d = (y + nth L k + nth M k) % 10000 → y' = (y + nth L k + nth M k) / 10000 → (mx ≤ k → nth L k = 0 ∧ nth M k = 0) → Own .i64 3 w2 w.heap.size v2 (Q ++ [d]) → Below w.heap.size wr w2 →
        (k + 1 ≤ mx + 1 ∧ y' = (raSt L M (k + 1)).2 ∧ Own .i64 3 w2 w.heap.size v2 (raSt L M (k + 1)).1 ∧ Below w.heap.size w w2 ∧ Hid (mx < k + 1 → (raSt L M (k + 1)).2 = 0)) := by
      intro v2 w2 d y' hk1 hd hy hzz hown hb2
      have E := HS.out
      subst hd
      subst hy
      refine ⟨by omega, by rw [E], by rw [E]; exact hown, hbw.trans hb2, fun hmk => ?_⟩
      obtain ⟨z1, z2⟩ := hzz (by omega)
      rw [E]
      dsimp only
      rw [z1, z2]
      omega
    have HST := Lib.hid step
    clear step
    have zL : ¬ k < l → nth L k = 0 := fun h => nth_ge (by rw [HL.out]; omega)
    have zM : ¬ k < m → nth M k = 0 := fun h => nth_ge (by rw [HM.out]; omega)
    have ZL := Lib.hid zL
    have ZM := Lib.hid zM
    clear zL zM
    by_cases hkl : k < l
    · obtain ⟨b, o, rfl, hb, hcell⟩ := hR.spot (by rw [HL.out]; omega)
      have hc1 := (hcell.below hbw hb) k (by rw [HL.out]; exact hkl)
      clear hcell
      by_cases hkm : k < m
      · obtain ⟨b', o', rfl, hb', hcell'⟩ := hR'.spot (by rw [HM.out]; omega)
        have hc2 := (hcell'.below hbw hb') k (by rw [HM.out]; exact hkm)
        clear hcell'
        go_wp2_with (at_builtin; refine wpList_append_num wr rfl (.tmp 46) (.tmp 49) 29 rfl .i64 w.heap.size 3 i0 8 Tryd.underlying29 hi hz0 hz1 hz2 (by omega) u5 _ (by rfl) HO.out _ ((y + nth L k + nth M k) % 10000) ?_ 1 rfl HQL.out ?_ ?_; (simp); (exact hsz); intro v2 w2 ho2 hb2)
        go_roundw
        case rel =>
          obtain ⟨r1, r2, r3, r4, r5⟩ := HST.out v2 w2 _ _ (by omega) rfl rfl (fun h => absurd h (by omega)) ho2.out hb2
          exact ⟨k + 1, r1, by go_num, by rw [← r2]; simp, r3, r4, r5⟩
        case measure => simp [intOf]; omega
      · go_wp2_with (at_builtin; refine wpList_append_num wr rfl (.tmp 46) (.tmp 49) 29 rfl .i64 w.heap.size 3 i0 8 Tryd.underlying29 hi hz0 hz1 hz2 (by omega) u5 _ (by rfl) HO.out _ ((y + nth L k) % 10000) ?_ 1 rfl HQL.out ?_ ?_; (simp); (exact hsz); intro v2 w2 ho2 hb2)
        go_roundw
        case rel =>
          obtain ⟨r1, r2, r3, r4, r5⟩ := HST.out v2 w2 _ ((y + nth L k) / 10000) (by omega) (by rw [ZM.out hkm]; rfl) (by rw [ZM.out hkm]; rfl) (fun h => absurd h (by omega)) ho2.out hb2
          exact ⟨k + 1, r1, by go_num, by rw [← r2]; simp, r3, r4, r5⟩
        case measure => simp [intOf]; omega
    · by_cases hkm : k < m
      · obtain ⟨b', o', rfl, hb', hcell'⟩ := hR'.spot (by rw [HM.out]; omega)
        have hc2 := (hcell'.below hbw hb') k (by rw [HM.out]; exact hkm)
        clear hcell'
        go_wp2_with (at_builtin; refine wpList_append_num wr rfl (.tmp 46) (.tmp 49) 29 rfl .i64 w.heap.size 3 i0 8 Tryd.underlying29 hi hz0 hz1 hz2 (by omega) u5 _ (by rfl) HO.out _ ((y + nth M k) % 10000) ?_ 1 rfl HQL.out ?_ ?_; (simp); (exact hsz); intro v2 w2 ho2 hb2)
        go_roundw
        case rel =>
          obtain ⟨r1, r2, r3, r4, r5⟩ := HST.out v2 w2 _ ((y + nth M k) / 10000) (by omega) (by rw [ZL.out hkl, Nat.add_zero]) (by rw [ZL.out hkl, Nat.add_zero]) (fun h => absurd h (by omega)) ho2.out hb2
          exact ⟨k + 1, r1, by go_num, by rw [← r2]; simp, r3, r4, r5⟩
        case measure => simp [intOf]; omega
      · rcases Nat.eq_zero_or_pos y with rfl | hy
        · have hd0 : decide ((0 : Int) < ((0 : Nat) : Int)) = false := by simp
          go_wp2
          go_ret
          have hkk := HK.out
          refine ⟨_, rfl, k, by omega, by omega, ?_, by rw [hkk], by rw [hkk]; exact HO.out, hbw⟩
          rcases HX3.out with h | h <;> omega
        · have hkx : k < mx + 1 := by
            rcases Nat.lt_or_ge mx k with h | h
            · have := hc0.out h; omega
            · omega
          have hy2 : (0 : Int) < (y : Int) := by omega
          go_wp2_with (at_builtin; refine wpList_append_num wr rfl (.tmp 46) (.tmp 49) 29 rfl .i64 w.heap.size 3 i0 8 Tryd.underlying29 hi hz0 hz1 hz2 (by omega) u5 _ (by rfl) HO.out _ (y % 10000) ?_ 1 rfl HQL.out ?_ ?_; (simp); (exact hsz); intro v2 w2 ho2 hb2)
          go_roundw
          case rel =>
            obtain ⟨r1, r2, r3, r4, r5⟩ := HST.out v2 w2 _ (y / 10000) hkx (by rw [ZL.out hkl, ZM.out hkm]; rfl) (by rw [ZL.out hkl, ZM.out hkm]; rfl) (fun _ => ⟨ZL.out hkl, ZM.out hkm⟩) ho2.out hb2
            exact ⟨k + 1, r1, by go_num, by rw [← r2]; simp, r3, r4, r5⟩
          case measure => simp [intOf]; omega
end Go.Proofs.YtbfbijokhlkekaaDoor

/- The reference's 'sub' and 'compare'. -/
namespace Go.Proofs.YtbfbijokhlkekaaDoor
open Go.RowKit

set_option maxRecDepth 20000 in
set_option maxHeartbeats 1600000 in
theorem rsub_walk (A A' : Option Addr) (c c' : Nat) (L M : List Nat) (w : World) (hl : L.length ≤ 1000000) (hml : M.length ≤ L.length)
    (hL : Lim4 L) (hM : Lim4 M) (hR : Row .i64 w w.heap.size A c L) (hR' : Row .i64 w w.heap.size A' c' M) :
    Calls Tryd.prog 55 #[.slice A L.length c, .slice A' M.length c'] w fun e w' => ∃ A2 c2, e = .returned (.slice A2 (trimN (rsSt L M L.length).1 L.length) c2) ∧ Row .i64 w' w'.heap.size A2 c2 (rsSt L M L.length).1 ∧ Below w.heap.size w w' := by
  obtain ⟨i0, hi, hz0, hz1, hz2⟩ := info_parts info3
  generalize hl' : L.length = l at *
  generalize hm' : M.length = m at *
  have HL := Lib.hid hl'
  have HM := Lib.hid hm'
  clear hl' hm'
  go_enter Tryd.func55, Tryd.ntmps55
  go_wp2
  go_loopw [5, 6, 7] (fun ov cv iv wr => ∃ k : Nat, k ≤ l ∧ iv = .int .i64 k ∧ cv = .int .i64 (rsSt L M k).2 ∧ Own .i64 3 wr w.heap.size ov (rsSt L M k).1 ∧ Below w.heap.size w wr) (fun _ _ iv _ => l - (intOf iv).toNat)
  case atStart => exact ⟨0, Nat.zero_le _, rfl, rfl, Own.nil _ _ _ _, Below.refl _ _⟩
  case round =>
    obtain ⟨k, hk, rfl, rfl, ho, hbw⟩ := hrel
    obtain ⟨h1, h2, h3⟩ := rsSt_ok hL hM k
    have HS := Lib.hid (rsSt_succ L M k)
    have hsz := hbw.size
    have a1 := hL.nth k
    have a2 := hM.nth k
    generalize hs : rsSt L M k = S at *
    have HK := Lib.hid hs
    clear hs
    obtain ⟨Q, y⟩ := S
    dsimp only at *
    have HO := Lib.hid ho
    have H3 := Lib.hid h3
    have hql : Q.length ≤ 100000000 := by omega
    have HQL := Lib.hid hql
    clear ho h3 hql
    have zM : ¬ k < m → nth M k = 0 := fun h => nth_ge (by rw [HM.out]; omega)
    have ZM := Lib.hid zM
    clear zM
    by_cases hkl : k < l
    · obtain ⟨b, o, rfl, hb, hcell⟩ := hR.spot (by rw [HL.out]; omega)
      have hc1 := (hcell.below hbw hb) k (by rw [HL.out]; exact hkl)
      clear hcell
      by_cases hkm : k < m
      · obtain ⟨b', o', rfl, hb', hcell'⟩ := hR'.spot (by rw [HM.out]; omega)
        have hc2 := (hcell'.below hbw hb') k (by rw [HM.out]; exact hkm)
        clear hcell'
        by_cases hbo : nth L k < y + nth M k
        · go_wp2_with (at_builtin; refine wpList_append_num wr rfl (.tmp 35) (.tmp 37) 29 rfl .i64 w.heap.size 3 i0 8 Tryd.underlying29 hi hz0 hz1 hz2 (by omega) u5 _ (by rfl) HO.out _ (nth L k + 10000 - (y + nth M k)) ?_ 1 rfl HQL.out ?_ ?_; (omega); (exact hsz); intro v2 w2 ho2 hb2)
          go_roundw
          case rel =>
            have E := HS.out
            rw [if_pos hbo] at E
            exact ⟨k + 1, by omega, by go_num, by rw [E]; rfl, by rw [E]; exact ho2.out, hbw.trans hb2⟩
          case measure => simp [intOf]; omega
        · go_wp2_with (at_builtin; refine wpList_append_num wr rfl (.tmp 35) (.tmp 37) 29 rfl .i64 w.heap.size 3 i0 8 Tryd.underlying29 hi hz0 hz1 hz2 (by omega) u5 _ (by rfl) HO.out _ (nth L k - (y + nth M k)) ?_ 1 rfl HQL.out ?_ ?_; (omega); (exact hsz); intro v2 w2 ho2 hb2)
          go_roundw
          case rel =>
            have E := HS.out
            rw [if_neg hbo] at E
            exact ⟨k + 1, by omega, by go_num, by rw [E]; rfl, by rw [E]; exact ho2.out, hbw.trans hb2⟩
          case measure => simp [intOf]; omega
      · by_cases hbo : nth L k < y
        · go_wp2_with (at_builtin; refine wpList_append_num wr rfl (.tmp 35) (.tmp 37) 29 rfl .i64 w.heap.size 3 i0 8 Tryd.underlying29 hi hz0 hz1 hz2 (by omega) u5 _ (by rfl) HO.out _ (nth L k + 10000 - y) ?_ 1 rfl HQL.out ?_ ?_; (omega); (exact hsz); intro v2 w2 ho2 hb2)
          go_roundw
          case rel =>
            have E := HS.out
            simp only [ZM.out hkm, Nat.add_zero] at E
            rw [if_pos hbo] at E
            exact ⟨k + 1, by omega, by go_num, by rw [E]; rfl, by rw [E]; exact ho2.out, hbw.trans hb2⟩
          case measure => simp [intOf]; omega
        · go_wp2_with (at_builtin; refine wpList_append_num wr rfl (.tmp 35) (.tmp 37) 29 rfl .i64 w.heap.size 3 i0 8 Tryd.underlying29 hi hz0 hz1 hz2 (by omega) u5 _ (by rfl) HO.out _ (nth L k - y) ?_ 1 rfl HQL.out ?_ ?_; (omega); (exact hsz); intro v2 w2 ho2 hb2)
          go_roundw
          case rel =>
            have E := HS.out
            simp only [ZM.out hkm, Nat.add_zero] at E
            rw [if_neg hbo] at E
            exact ⟨k + 1, by omega, by go_num, by rw [E]; rfl, by rw [E]; exact ho2.out, hbw.trans hb2⟩
          case measure => simp [intOf]; omega
    · obtain rfl : k = l := by omega
      obtain ⟨A2, c2, hv, hrow⟩ := HO.out.row
      subst hv
      have hT := rtrim_any A2 c2 Q wr wr.heap.size (by have := HQL.out; rw [H3.out]; omega) hrow
      rw [H3.out] at hT
      have HT := Lib.hid hT
      have HRW := Lib.hid hrow
      clear hT hrow
      have e3 := H3.out
      rw [e3]
      clear e3
      go_wp2_with fail
      refine HT.out.mono ?_
      rintro e w4 ⟨rfl, rfl⟩
      go_wp2_with fail
      go_ret
      have hkk := HK.out
      rw [hkk]
      exact ⟨_, _, rfl, HRW.out, hbw⟩
end Go.Proofs.YtbfbijokhlkekaaDoor

/- The reference's 'compare'. -/
namespace Go.Proofs.YtbfbijokhlkekaaDoor
open Go.RowKit

set_option maxRecDepth 20000 in
set_option maxHeartbeats 1600000 in
theorem rcompare_any (A A' : Option Addr) (c c' : Nat) (L M : List Nat) (w : World) (hl : L.length ≤ 1000000) (hm : M.length ≤ 1000000)
    (hR : Row .i64 w w.heap.size A c L) (hR' : Row .i64 w w.heap.size A' c' M) :
    Calls Tryd.prog 54 #[.slice A L.length c, .slice A' M.length c'] w fun e w' => e = .returned (.int .i64 (cmpL L M)) ∧ ∃ n, w' = w.drewN n := by
  generalize hn : L.length = n at *
  generalize hn' : M.length = n' at *
  have HN := Lib.hid hn
  have HN' := Lib.hid hn'
  clear hn hn'
  by_cases hne : n = n'
  · subst hne
    have hdec : ((n : Int) != (n : Int)) = false := by simp
    go_enter Tryd.func54, Tryd.ntmps54
    go_wp2
    go_loopw [5] (fun v wr => ∃ k : Nat, k ≤ n ∧ v = .int .i64 ((k : Int) - 1) ∧ Hid (∃ d, wr = w.drewN d) ∧ Hid (cmpDown L M k = cmpDown L M n)) (fun v _ => (intOf v + 1).toNat)
    case atStart => exact ⟨n, Nat.le_refl _, rfl, ⟨0, rfl⟩, rfl⟩
    case round =>
      obtain ⟨k, hk, rfl, hw, ht⟩ := hrel
      obtain ⟨d, rfl⟩ := hw.out
      rcases Nat.eq_zero_or_pos k with rfl | hpos
      · have hd : decide ((0 : Int) ≤ ((0 : Nat) : Int) - 1) = false := by simp
        go_wp2
        go_ret
        exact ⟨by rw [cmpL, HN.out, HN'.out, if_pos rfl, ← ht.out]; rfl, d, rfl⟩
      · obtain ⟨m, rfl⟩ : ∃ m, k = m + 1 := ⟨k - 1, by omega⟩
        have h1 : ((0 : Int) ≤ ((m + 1 : Nat) : Int) - 1) := by omega
        obtain ⟨b, o, rfl, _, hcell⟩ := hR.spot (by rw [HN.out]; omega)
        obtain ⟨b', o', rfl, _, hcell'⟩ := hR'.spot (by rw [HN'.out]; omega)
        have hc1 := hcell m (by rw [HN.out]; omega)
        have hc2 := hcell' m (by rw [HN'.out]; omega)
        have e1 : ((m + 1 : Nat) : Int) - 1 = (m : Int) := by omega
        rw [e1]
        clear e1 h1 hcell hcell'
        rcases Nat.lt_trichotomy (nth L m) (nth M m) with hz | hz | hz
        · have HZ := Lib.hid hz
          go_wp2
          go_quiet (fail)
          go_wp2
          go_ret
          have hzz := HZ.out
          exact ⟨ret_int (by rw [cmpL, HN.out, HN'.out, if_pos rfl, ← ht.out, cmpDown, if_neg (by omega)]; unfold cmpZ; rw [if_pos hzz]), _, World.drewN_drewN _ _ _⟩
        · have hz1 : ¬ nth L m < nth M m := by omega
          have hz2 : ¬ nth M m < nth L m := by omega
          have HZ := Lib.hid hz
          clear hz
          go_wp2
          go_quiet (fail)
          go_wp2
          go_quiet (fail)
          go_wp2
          go_roundw
          case rel => exact ⟨m, by omega, rfl, ⟨_, rfl⟩, by have := ht.out; rw [cmpDown, if_pos HZ.out] at this; exact this⟩
          case measure => simp [intOf]
        · have hz1 : ¬ nth L m < nth M m := by omega
          have HZ := Lib.hid hz
          go_wp2
          go_quiet (fail)
          go_wp2
          go_quiet (fail)
          go_wp2
          go_ret
          have hzz := HZ.out
          exact ⟨ret_int (by rw [cmpL, HN.out, HN'.out, if_pos rfl, ← ht.out, cmpDown, if_neg (by omega)]; unfold cmpZ; rw [if_neg (by omega), if_neg (by omega)]), _, drew3 _ _ _ _⟩
  · rcases Nat.lt_or_gt_of_ne hne with hlt | hlt
    · have hdec : ((n : Int) != (n' : Int)) = true := by simp; omega
      go_enter Tryd.func54, Tryd.ntmps54
      go_wp2
      go_ret
      exact ⟨ret_int (by rw [cmpL, HN.out, HN'.out, if_neg hne]; unfold cmpZ; rw [if_pos hlt]), 0, rfl⟩
    · have hdec : ((n : Int) != (n' : Int)) = true := by simp; omega
      have hlt2 : ¬ n < n' := by omega
      go_enter Tryd.func54, Tryd.ntmps54
      go_wp2
      go_ret
      exact ⟨ret_int (by rw [cmpL, HN.out, HN'.out, if_neg hne]; unfold cmpZ; rw [if_neg hlt2, if_neg hne]), 0, rfl⟩

theorem canon_lt4 {L M : List Nat} (hL : Lim4 L) (h0 : 0 < M.length → nth M (M.length - 1) ≠ 0) (h : L.length < M.length) : val4 L < val4 M := by
  have h1 := valB_lt hL
  have h2 : (10000 : Nat) ^ L.length ≤ 10000 ^ (M.length - 1) := Nat.pow_le_pow_right (by omega) (by omega)
  have h3 := valB_take_succ 10000 M (M.length - 1) (by omega)
  rw [show M.length - 1 + 1 = M.length by omega, List.take_of_length_le (Nat.le_refl _)] at h3
  have h4 := h0 (by omega)
  have h5 : 10000 ^ (M.length - 1) * 1 ≤ 10000 ^ (M.length - 1) * nth M (M.length - 1) := Nat.mul_le_mul_left _ (by omega)
  unfold val4
  omega
theorem cmpDown_val4 {L M : List Nat} (hL : Lim4 L) (hM : Lim4 M) (n : Nat) (h1 : n ≤ L.length) (h2 : n ≤ M.length) : cmpDown L M n = cmpZ (val4 (L.take n)) (val4 (M.take n)) := by
  induction n with
  | zero => simp [cmpDown, cmpZ, valB]
  | succ n ih =>
    have e1 := valB_take_succ 10000 L n (by omega)
    have e2 := valB_take_succ 10000 M n (by omega)
    have b1 := valB_lt (hL.take n)
    have b2 := valB_lt (hM.take n)
    rw [List.length_take, Nat.min_eq_left (by omega)] at b1 b2
    unfold cmpDown val4
    rw [e1, e2]
    split
    · rename_i h
      rw [ih (by omega) (by omega), h]
      unfold cmpZ val4
      simp
    · rename_i h
      generalize valB 10000 (L.take n) = x at *
      generalize valB 10000 (M.take n) = y at *
      generalize (10000 : Nat) ^ n = p at *
      unfold cmpZ
      rcases Nat.lt_or_gt_of_ne h with h | h
      · rw [if_pos h]
        have : p * (nth L n + 1) ≤ p * nth M n := Nat.mul_le_mul_left _ h
        rw [Nat.mul_add] at this
        rw [if_pos (by omega)]
      · rw [if_neg (by omega), if_neg (by omega)]
        have : p * (nth M n + 1) ≤ p * nth L n := Nat.mul_le_mul_left _ h
        rw [Nat.mul_add] at this
        rw [if_neg (by omega), if_neg (by omega)]
theorem cmpL_val4 {w w' : World} {B B' : Nat} {n m : Bool} {A A' : Option Addr} {c c' : Nat} {L M : List Nat} (hL : RefR w B n A c L) (hM : RefR w' B' m A' c' M) : cmpL L M = cmpZ (val4 L) (val4 M) := by
  unfold cmpL
  split
  · rename_i h
    rw [cmpDown_val4 hL.lim hM.lim _ (Nat.le_refl _) (by omega), List.take_of_length_le (Nat.le_refl _), List.take_of_length_le (by omega)]
  · rename_i h
    rcases Nat.lt_or_gt_of_ne h with h | h
    · have := canon_lt4 hL.lim hM.top h
      unfold cmpZ; rw [if_pos h, if_pos this]
    · have := canon_lt4 hM.lim hL.top h
      unfold cmpZ; rw [if_neg (by omega), if_neg (by omega), if_neg (by omega), if_neg (by omega)]
theorem ref_len {w w' : World} {B B' : Nat} {n m : Bool} {A A' : Option Addr} {c c' : Nat} {L M : List Nat} (hL : RefR w B n A c L) (hM : RefR w' B' m A' c' M) (h : val4 M ≤ val4 L) : M.length ≤ L.length := by
  rcases Nat.lt_or_ge L.length M.length with hlt | hge
  · have := canon_lt4 hL.lim hM.top hlt; omega
  · exact hge
end Go.Proofs.YtbfbijokhlkekaaDoor

/- The reference's 'Add' of any two integers. -/
namespace Go.Proofs.YtbfbijokhlkekaaDoor
open Go.RowKit

theorem radd2 (A A' : Option Addr) (c c' : Nat) (L M : List Nat) (w : World) (hl : L.length ≤ 500000) (hml : M.length ≤ 500000)
    (hL : Lim4 L) (hM : Lim4 M) (hR : Row .i64 w w.heap.size A c L) (hR' : Row .i64 w w.heap.size A' c' M) :
    Calls Tryd.prog 53 #[.slice A L.length c, .slice A' M.length c'] w fun e w' => ∃ A2 c2 R, e = .returned (.slice A2 (List.length R) c2) ∧
      Row .i64 w' w'.heap.size A2 c2 R ∧ Lim4 R ∧ val4 R = val4 L + val4 M ∧ List.length R ≤ L.length + M.length + 1 ∧ Below w.heap.size w w' := by
  refine (radd_walk A A' c c' L M w (by omega) (by omega) hL hM hR hR').mono ?_
  rintro e w' ⟨v, k, rfl, h1, h2, h3, h4, ho, hb⟩
  obtain ⟨A2, c2, rfl, hrow⟩ := ho.row
  have hok := raSt_ok hL hM k
  have hv := raSt_val hL hM k
  rw [h4, valB_take_over _ _ _ h1, valB_take_over _ _ _ h2] at hv
  exact ⟨A2, c2, _, rfl, hrow, hok.1, by simpa using hv, by rw [hok.2.2]; exact h3, hb⟩
theorem rsub2 (A A' : Option Addr) (c c' : Nat) (L M : List Nat) (w : World) (hl : L.length ≤ 500000) (hml : M.length ≤ L.length)
    (hL : Lim4 L) (hM : Lim4 M) (hle : val4 M ≤ val4 L) (hR : Row .i64 w w.heap.size A c L) (hR' : Row .i64 w w.heap.size A' c' M) :
    Calls Tryd.prog 55 #[.slice A L.length c, .slice A' M.length c'] w fun e w' => ∃ A2 c2 R, e = .returned (.slice A2 (List.length R) c2) ∧
      Row .i64 w' w'.heap.size A2 c2 R ∧ Lim4 R ∧ val4 R + val4 M = val4 L ∧ List.length R ≤ L.length + M.length + 1 ∧ Below w.heap.size w w' := by
  refine (rsub_walk A A' c c' L M w (by omega) hml hL hM hR hR').mono ?_
  rintro e w' ⟨A2, c2, rfl, hrow, hb⟩
  have hok := rsSt_ok hL hM L.length
  have hv := rsSt_val hL hM L.length
  rw [valB_take_over _ _ _ (Nat.le_refl _), valB_take_over _ _ _ hml] at hv
  have hlt := valB_lt hok.1
  rw [hok.2.2] at hlt
  have hb0 : (rsSt L M L.length).2 = 0 := by
    rcases Nat.eq_zero_or_pos (rsSt L M L.length).2 with h | h
    · exact h
    · have h1 : (rsSt L M L.length).2 = 1 := by have := hok.2.1; omega
      rw [h1] at hv; simp only [val4] at hle; omega
  rw [hb0] at hv
  have htl := trimN_le (rsSt L M L.length).1 L.length
  have el : ((rsSt L M L.length).1.take (trimN (rsSt L M L.length).1 L.length)).length = trimN (rsSt L M L.length).1 L.length := by rw [List.length_take, hok.2.2]; omega
  refine ⟨A2, c2, (rsSt L M L.length).1.take (trimN (rsSt L M L.length).1 L.length), by rw [el], hrow.take _, hok.1.take _, ?_, by rw [el]; omega, hb⟩
  rw [val4, trimN_val _ _ _ (by rw [hok.2.2]; exact Nat.le_refl _), List.take_of_length_le (by rw [hok.2.2]; exact Nat.le_refl _)]
  simpa using hv
/-- 'signed' of the reference: the zeros at the end are left out. -/
theorem rsigned_pack (neg : Bool) (A : Option Addr) (c : Nat) (R : List Nat) (w : World) {n : Nat} (hl : R.length ≤ n) (hn : n ≤ 4000000) (hlim : Lim4 R) (hR : Row .i64 w w.heap.size A c R) :
    Calls Tryd.prog 44 #[.bool neg, .slice A R.length c] w fun e w' => ∃ T, e = .returned (.agg #[.bool (neg && decide (0 < List.length T)), .slice A (List.length T) c]) ∧ Row .i64 w' w'.heap.size A c T ∧ (∀ d ∈ T, d < 10000) ∧ (0 < List.length T → nth T (List.length T - 1) ≠ 0) ∧
      val4 T = val4 R ∧ List.length T ≤ R.length ∧ Below w.heap.size w w' := by
  have htl := trimN_le R R.length
  have el : (R.take (trimN R R.length)).length = trimN R R.length := by rw [List.length_take]; omega
  refine (rsigned_any neg A c R w (by omega) hR).mono ?_
  rintro e w' ⟨rfl, hb⟩
  refine ⟨R.take (trimN R R.length), by rw [el], (((hR.below hb).more hb.size).take _), fun d hd => hlim d (List.mem_of_mem_take hd), ?_, ?_, by rw [el]; exact htl, hb⟩
  · rw [el]; intro h; rw [nth_take (by omega)]; exact trimN_top _ _ h
  · rw [val4, trimN_val _ _ _ (Nat.le_refl _), List.take_of_length_le (Nat.le_refl _)]
theorem addZR (n : Bool) {L M R : List Nat} (h : val4 R = val4 L + val4 M) (h0 : R.length = 0 → val4 R = 0) : zR (n && decide (0 < R.length)) R = zR n L + zR n M := by
  unfold zR
  rcases Nat.eq_zero_or_pos R.length with h1 | h1
  · have h2 := h0 h1
    have e : (decide (0 < R.length)) = false := by rw [decide_eq_false_iff_not]; omega
    rw [e, Bool.and_false]
    cases n <;> simp <;> omega
  · have e : (decide (0 < R.length)) = true := by rw [decide_eq_true_iff]; omega
    rw [e, Bool.and_true]
    cases n <;> simp <;> omega
theorem subZR (n : Bool) {L M R : List Nat} (h : val4 R + val4 M = val4 L) (h0 : R.length = 0 → val4 R = 0) : zR (n && decide (0 < R.length)) R = zR n L + zR (!n) M := by
  unfold zR
  rcases Nat.eq_zero_or_pos R.length with h1 | h1
  · have h2 := h0 h1
    have e : (decide (0 < R.length)) = false := by rw [decide_eq_false_iff_not]; omega
    rw [e, Bool.and_false]
    cases n <;> simp <;> omega
  · have e : (decide (0 < R.length)) = true := by rw [decide_eq_true_iff]; omega
    rw [e, Bool.and_true]
    cases n <;> simp <;> omega
theorem cmp_ge' {x y : Nat} (h : y ≤ x) : 0 ≤ cmpZ x y := cmp_ge h

set_option maxRecDepth 20000 in
set_option maxHeartbeats 3200000 in
theorem radd_same (n : Bool) (A A' : Option Addr) (c c' : Nat) (L M : List Nat) (w : World) (hl : L.length ≤ 500000) (hml : M.length ≤ 500000)
    (hL : RefR w w.heap.size n A c L) (hM : RefR w w.heap.size n A' c' M) :
    Calls Tryd.prog 25 #[.agg #[.bool n, .slice A L.length c], .agg #[.bool n, .slice A' M.length c']] w fun e w' => ∃ k A c R, e = .returned (.agg #[.bool k, .slice A (List.length R) c]) ∧
      RefR w' w'.heap.size k A c R ∧ zR k R = zR n L + zR n M ∧ List.length R ≤ L.length + M.length + 1 ∧ Below w.heap.size w w' := by
  have hM2 := fun W h1 h2 => radd2 A A' c c' L M W hl hml hL.lim hM.lim h1 h2
  have HM2 := Lib.hid hM2
  clear hM2
  generalize hl' : L.length = l at *
  generalize hm' : M.length = l2 at *
  have HLL := Lib.hid hl'
  have HML := Lib.hid hm'
  clear hl' hm'
  have hbb : (n == n) = true := by simp
  go_enter Tryd.func25, Tryd.ntmps25
  go_wp2
  have hne1 : ¬ w.heap.size = w.heap.size + 1 + 1 := by omega
  have hne2 : ¬ w.heap.size + 1 + 1 = w.heap.size := by omega
  have HUP := Lib.hid (below_drew (below_a3 w (.cells #[.bool n, .slice A l c] 31) (.cells #[.bool n, .slice A' l2 c'] 31) (.cells #[.bool false, .slice none 0 0] 31)))
  go_region_held3 (fun w' => w'.cell? ⟨w.heap.size, 0, none⟩ = some (.bool n) ∧ w'.cell? ⟨w.heap.size, 1, none⟩ = some (.slice A l c) ∧
      w'.cell? ⟨w.heap.size + 1, 0, none⟩ = some (.bool n) ∧ w'.cell? ⟨w.heap.size + 1, 1, none⟩ = some (.slice A' l2 c')) (go_keep)
    (first
      | (go_at_call 53; (with_reducible refine (HM2.out _ (hL.row.up HUP.out) (hM.row.up HUP.out)).mono ?_); rintro e w1 ⟨A2, c1, R, rfl, hr1, hlim1, hv1, hl1, hb1⟩; have HB1 := Lib.hid (three (below_undrew hb1)).2.2.2.2.2.2.2.2.2; have X := three (below_undrew hb1); have hq1 := X.1; have hq2 := X.2.1; have hq3 := X.2.2.1; have hq4 := X.2.2.2.1; have hq9 := X.2.2.2.2.2.2.2.2.1; clear X hb1)
      | (go_at_call 44; refine (rsigned_pack _ _ _ R _ hl1 (by omega) hlim1 hr1).mono ?_; rintro e w2 ⟨T, rfl, hr2, hlim2, htop2, hv2, hl2, hb2⟩; have HB2 := Lib.hid (below_then HB1.out hb2 hq9); have HR2 := Lib.hid hr2; have HV2 := Lib.hid hv2; clear hq1 hq2 hq3 hq4 hr1 hr2 hv2 hb2; have X := three' HB2.out; have hq1 := X.1; have hq2 := X.2.1; have hq3 := X.2.2.1; have hq4 := X.2.2.2.1; have hq5 := X.2.2.2.2.1; have hq6 := X.2.2.2.2.2.1; have hq7 := X.2.2.2.2.2.2.1; have hq8 := X.2.2.2.2.2.2.2.1; clear X))
  all_goals
    go_wp2
    have hbw : Below w.heap.size w w2 := (below_a3 w _ _ _).trans (Below.less HB2.out (by omega))
    refine bodyPost_ret (v := .agg #[.bool (n && decide (0 < List.length T)), .slice A2 (List.length T) c1]) (by simp [results, Tryd.results25, go_sem, hq5, hq6]) rfl
      ⟨_, _, _, T, rfl, ?_, addZR n (by rw [HV2.out]; exact hv1) val4_nil, by omega, (hbw.setCell (by simp; omega) _).setCell (by simp; omega) _⟩
    rw [setCell_size, setCell_size]
    refine ⟨HR2.out.box3 HB2.out (fun _ => by simp) (fun _ => by simp) _ _, hlim2, htop2, fun hk hR => ?_⟩
    rw [hR] at hk
    simp at hk

set_option maxRecDepth 20000 in
set_option maxHeartbeats 3200000 in
theorem radd_ge (n : Bool) (A A' : Option Addr) (c c' : Nat) (L M : List Nat) (w : World) (hl : L.length ≤ 500000) (hml : M.length ≤ 500000) (hle : val4 M ≤ val4 L)
    (hL : RefR w w.heap.size n A c L) (hM : RefR w w.heap.size (!n) A' c' M) :
    Calls Tryd.prog 25 #[.agg #[.bool n, .slice A L.length c], .agg #[.bool (!n), .slice A' M.length c']] w fun e w' => ∃ k A c R, e = .returned (.agg #[.bool k, .slice A (List.length R) c]) ∧
      RefR w' w'.heap.size k A c R ∧ zR k R = zR n L + zR (!n) M ∧ List.length R ≤ L.length + M.length + 1 ∧ Below w.heap.size w w' := by
  have hM2 := fun W h1 h2 => rsub2 A A' c c' L M W hl (ref_len hL hM hle) hL.lim hM.lim hle h1 h2
  have HM2 := Lib.hid hM2
  have hC := fun W h1 h2 => rcompare_any A A' c c' L M W (by omega) (by omega) h1 h2
  have hz : cmpL L M = cmpZ (val4 L) (val4 M) := cmpL_val4 hL hM
  have hz2 : 0 ≤ cmpL L M := by rw [hz]; exact cmp_ge hle
  generalize cmpL L M = z at *
  have HC := Lib.hid hC
  clear hC hz hle
  clear hM2
  generalize hl' : L.length = l at *
  generalize hm' : M.length = l2 at *
  have HLL := Lib.hid hl'
  have HML := Lib.hid hm'
  clear hl' hm'
  have hbb : (n == !n) = false := by cases n <;> rfl
  go_enter Tryd.func25, Tryd.ntmps25
  go_wp2_with fail
  refine (HC.out _ (hL.row.up (below_a3 _ _ _ _)) (hM.row.up (below_a3 _ _ _ _))).mono ?_
  rintro e w9 ⟨rfl, nq, rfl⟩
  go_wp2_with fail
  have hne1 : ¬ w.heap.size = w.heap.size + 1 + 1 := by omega
  have hne2 : ¬ w.heap.size + 1 + 1 = w.heap.size := by omega
  have HUP := Lib.hid (below_drewN (below_a3 w (.cells #[.bool n, .slice A l c] 31) (.cells #[.bool (!n), .slice A' l2 c'] 31) (.cells #[.bool false, .slice none 0 0] 31)) (nq + 1))
  go_region_held3 (fun w' => w'.cell? ⟨w.heap.size, 0, none⟩ = some (.bool n) ∧ w'.cell? ⟨w.heap.size, 1, none⟩ = some (.slice A l c) ∧
      w'.cell? ⟨w.heap.size + 1, 0, none⟩ = some (.bool (!n)) ∧ w'.cell? ⟨w.heap.size + 1, 1, none⟩ = some (.slice A' l2 c')) (go_keep)
    (first
      | (go_at_call 55; (with_reducible refine (HM2.out _ (hL.row.up HUP.out) (hM.row.up HUP.out)).mono ?_); rintro e w1 ⟨A2, c1, R, rfl, hr1, hlim1, hv1, hl1, hb1⟩; have HB1 := Lib.hid (three (below_undrewN hb1)).2.2.2.2.2.2.2.2.2; have X := three (below_undrewN hb1); have hq1 := X.1; have hq2 := X.2.1; have hq3 := X.2.2.1; have hq4 := X.2.2.2.1; have hq9 := X.2.2.2.2.2.2.2.2.1; clear X hb1)
      | (go_at_call 44; refine (rsigned_pack _ _ _ R _ hl1 (by omega) hlim1 hr1).mono ?_; rintro e w2 ⟨T, rfl, hr2, hlim2, htop2, hv2, hl2, hb2⟩; have HB2 := Lib.hid (below_then HB1.out hb2 hq9); have HR2 := Lib.hid hr2; have HV2 := Lib.hid hv2; clear hq1 hq2 hq3 hq4 hr1 hr2 hv2 hb2; have X := three' HB2.out; have hq1 := X.1; have hq2 := X.2.1; have hq3 := X.2.2.1; have hq4 := X.2.2.2.1; have hq5 := X.2.2.2.2.1; have hq6 := X.2.2.2.2.2.1; have hq7 := X.2.2.2.2.2.2.1; have hq8 := X.2.2.2.2.2.2.2.1; clear X))
  all_goals
    go_wp2
    have hbw : Below w.heap.size w w2 := (below_a3 w _ _ _).trans (Below.less HB2.out (by omega))
    refine bodyPost_ret (v := .agg #[.bool (n && decide (0 < List.length T)), .slice A2 (List.length T) c1]) (by simp [results, Tryd.results25, go_sem, hq5, hq6]) rfl
      ⟨_, _, _, T, rfl, ?_, subZR n (by rw [HV2.out]; exact hv1) val4_nil, by omega, (hbw.setCell (by simp; omega) _).setCell (by simp; omega) _⟩
    rw [setCell_size, setCell_size]
    refine ⟨HR2.out.box3 HB2.out (fun _ => by simp) (fun _ => by simp) _ _, hlim2, htop2, fun hk hR => ?_⟩
    rw [hR] at hk
    simp at hk

set_option maxRecDepth 20000 in
set_option maxHeartbeats 3200000 in
theorem radd_lt (n : Bool) (A A' : Option Addr) (c c' : Nat) (L M : List Nat) (w : World) (hl : L.length ≤ 500000) (hml : M.length ≤ 500000) (hlt : val4 L < val4 M)
    (hL : RefR w w.heap.size n A c L) (hM : RefR w w.heap.size (!n) A' c' M) :
    Calls Tryd.prog 25 #[.agg #[.bool n, .slice A L.length c], .agg #[.bool (!n), .slice A' M.length c']] w fun e w' => ∃ k A c R, e = .returned (.agg #[.bool k, .slice A (List.length R) c]) ∧
      RefR w' w'.heap.size k A c R ∧ zR k R = zR n L + zR (!n) M ∧ List.length R ≤ L.length + M.length + 1 ∧ Below w.heap.size w w' := by
  have hM2 := fun W h1 h2 => rsub2 A' A c' c M L W hml (ref_len hM hL (by omega)) hM.lim hL.lim (by omega) h1 h2
  have HM2 := Lib.hid hM2
  have hC := fun W h1 h2 => rcompare_any A A' c c' L M W (by omega) (by omega) h1 h2
  have hz : cmpL L M = cmpZ (val4 L) (val4 M) := cmpL_val4 hL hM
  have hz2 : cmpL L M = -1 := by rw [hz]; exact cmp_lt hlt
  rw [hz2] at hC
  have HC := Lib.hid hC
  clear hC hz hz2 hlt
  clear hM2
  generalize hl' : L.length = l at *
  generalize hm' : M.length = l2 at *
  have HLL := Lib.hid hl'
  have HML := Lib.hid hm'
  clear hl' hm'
  have hbb : (n == !n) = false := by cases n <;> rfl
  go_enter Tryd.func25, Tryd.ntmps25
  go_wp2_with fail
  refine (HC.out _ (hL.row.up (below_a3 _ _ _ _)) (hM.row.up (below_a3 _ _ _ _))).mono ?_
  rintro e w9 ⟨rfl, nq, rfl⟩
  go_wp2_with fail
  have hne1 : ¬ w.heap.size = w.heap.size + 1 + 1 := by omega
  have hne2 : ¬ w.heap.size + 1 + 1 = w.heap.size := by omega
  have HUP := Lib.hid (below_drewN (below_a3 w (.cells #[.bool n, .slice A l c] 31) (.cells #[.bool (!n), .slice A' l2 c'] 31) (.cells #[.bool false, .slice none 0 0] 31)) (nq + 1))
  go_region_held3 (fun w' => w'.cell? ⟨w.heap.size, 0, none⟩ = some (.bool n) ∧ w'.cell? ⟨w.heap.size, 1, none⟩ = some (.slice A l c) ∧
      w'.cell? ⟨w.heap.size + 1, 0, none⟩ = some (.bool (!n)) ∧ w'.cell? ⟨w.heap.size + 1, 1, none⟩ = some (.slice A' l2 c')) (go_keep)
    (first
      | (go_at_call 55; (with_reducible refine (HM2.out _ (hM.row.up HUP.out) (hL.row.up HUP.out)).mono ?_); rintro e w1 ⟨A2, c1, R, rfl, hr1, hlim1, hv1, hl1, hb1⟩; have HB1 := Lib.hid (three (below_undrewN hb1)).2.2.2.2.2.2.2.2.2; have X := three (below_undrewN hb1); have hq1 := X.1; have hq2 := X.2.1; have hq3 := X.2.2.1; have hq4 := X.2.2.2.1; have hq9 := X.2.2.2.2.2.2.2.2.1; clear X hb1)
      | (go_at_call 44; refine (rsigned_pack _ _ _ R _ hl1 (by omega) hlim1 hr1).mono ?_; rintro e w2 ⟨T, rfl, hr2, hlim2, htop2, hv2, hl2, hb2⟩; have HB2 := Lib.hid (below_then HB1.out hb2 hq9); have HR2 := Lib.hid hr2; have HV2 := Lib.hid hv2; clear hq1 hq2 hq3 hq4 hr1 hr2 hv2 hb2; have X := three' HB2.out; have hq1 := X.1; have hq2 := X.2.1; have hq3 := X.2.2.1; have hq4 := X.2.2.2.1; have hq5 := X.2.2.2.2.1; have hq6 := X.2.2.2.2.2.1; have hq7 := X.2.2.2.2.2.2.1; have hq8 := X.2.2.2.2.2.2.2.1; clear X))
  all_goals
    go_wp2
    have hbw : Below w.heap.size w w2 := (below_a3 w _ _ _).trans (Below.less HB2.out (by omega))
    refine bodyPost_ret (v := .agg #[.bool ((!n) && decide (0 < List.length T)), .slice A2 (List.length T) c1]) (by simp [results, Tryd.results25, go_sem, hq5, hq6]) rfl
      ⟨_, _, _, T, rfl, ?_, ((subZR (!n) (L := M) (M := L) (R := T) (by rw [HV2.out]; exact hv1) val4_nil).trans (by rw [Bool.not_not, Int.add_comm])), by omega, (hbw.setCell (by simp; omega) _).setCell (by simp; omega) _⟩
    rw [setCell_size, setCell_size]
    refine ⟨HR2.out.box3 HB2.out (fun _ => by simp) (fun _ => by simp) _ _, hlim2, htop2, fun hk hR => ?_⟩
    rw [hR] at hk
    simp at hk

/-- 'Add' of the reference, of any two integers. -/
theorem raddI_any (n m : Bool) (A A' : Option Addr) (c c' : Nat) (L M : List Nat) (w : World) (hl : L.length ≤ 500000) (hml : M.length ≤ 500000)
    (hL : RefR w w.heap.size n A c L) (hM : RefR w w.heap.size m A' c' M) :
    Calls Tryd.prog 25 #[.agg #[.bool n, .slice A L.length c], .agg #[.bool m, .slice A' M.length c']] w fun e w' => ∃ k A c R, e = .returned (.agg #[.bool k, .slice A (List.length R) c]) ∧
      RefR w' w'.heap.size k A c R ∧ zR k R = zR n L + zR m M ∧ List.length R ≤ L.length + M.length + 1 ∧ Below w.heap.size w w' := by
  by_cases h : n = m
  · subst h
    exact radd_same n A A' c c' L M w hl hml hL hM
  · obtain rfl : m = !n := by cases n <;> cases m <;> first | rfl | exact absurd rfl h
    rcases Nat.lt_or_ge (val4 L) (val4 M) with h1 | h1
    · exact radd_lt n A A' c c' L M w hl hml h1 hL hM
    · exact radd_ge n A A' c c' L M w hl hml h1 hL hM
end Go.Proofs.YtbfbijokhlkekaaDoor

/- The reference's 'Neg', 'Sub' and 'Cmp'. -/
namespace Go.Proofs.YtbfbijokhlkekaaDoor
open Go.RowKit

theorem zR_neg (n : Bool) {L : List Nat} : zR ((!n) && decide (0 < L.length)) L = - zR n L := by
  unfold zR
  rcases Nat.eq_zero_or_pos L.length with h1 | h1
  · have h2 := val4_nil h1
    have e : (decide (0 < L.length)) = false := by rw [decide_eq_false_iff_not]; omega
    rw [e, Bool.and_false, h2]
    cases n <;> simp
  · have e : (decide (0 < L.length)) = true := by rw [decide_eq_true_iff]; omega
    rw [e, Bool.and_true]
    cases n <;> simp
set_option maxRecDepth 20000 in
set_option maxHeartbeats 3200000 in
theorem rneg_any (n : Bool) (A : Option Addr) (c : Nat) (L : List Nat) (w : World) (hl : L.length ≤ 500000) (hL : RefR w w.heap.size n A c L) :
    Calls Tryd.prog 29 #[.agg #[.bool n, .slice A L.length c]] w fun e w' => ∃ k A c, e = .returned (.agg #[.bool k, .slice A L.length c]) ∧
      RefR w' w'.heap.size k A c L ∧ zR k L = - zR n L ∧ Below w.heap.size w w' := by
  have hM2 := fun W h1 => rsigned_trim (!n) A c L W hl hL.top h1
  have HM2 := Lib.hid hM2
  clear hM2
  have HZ := Lib.hid (zR_neg n (L := L))
  generalize hl' : L.length = l at *
  have HLL := Lib.hid hl'
  clear hl'
  go_enter Tryd.func29, Tryd.ntmps29
  go_wp2_with fail
  refine (HM2.out _ (hL.row.up (below_a2 _ _ _))).mono ?_
  rintro e w1 ⟨rfl, hb1⟩
  have X := two hb1
  have hq3 := X.2.2.1
  have hq4 := X.2.2.2.1
  have hq5 := X.2.2.2.2.1
  have hq6 := X.2.2.2.2.2.1
  have HB1 := Lib.hid X.2.2.2.2.2.2.2
  have HR1 := Lib.hid (hL.up (upa2 HB1.out))
  clear X hb1
  go_wp2_with fail
  refine bodyPost_ret (v := .agg #[.bool ((!n) && decide (0 < l)), .slice A l c]) (by simp [results, Tryd.results29, go_sem, hq3, hq4]) rfl
    ⟨_, _, _, rfl, ?_, by rw [← HZ.out], ((upa2 HB1.out).setCell (by simp) _).setCell (by simp) _⟩
  rw [setCell_size, setCell_size]
  refine ⟨HR1.out.row.box2 HB1.out (fun _ => by simp) (fun _ => by simp) _ _, HR1.out.lim, HR1.out.top, fun hk hR => ?_⟩
  have h9 : l = 0 := by rw [← HLL.out, hR]; rfl
  rw [h9] at hk
  simp at hk

set_option maxRecDepth 20000 in
set_option maxHeartbeats 3200000 in
theorem rsubI_any (n m : Bool) (A A' : Option Addr) (c c' : Nat) (L M : List Nat) (w : World) (hl : L.length ≤ 500000) (hml : M.length ≤ 500000)
    (hL : RefR w w.heap.size n A c L) (hM : RefR w w.heap.size m A' c' M) :
    Calls Tryd.prog 27 #[.agg #[.bool n, .slice A L.length c], .agg #[.bool m, .slice A' M.length c']] w fun e w' => ∃ k A c R, e = .returned (.agg #[.bool k, .slice A R.length c]) ∧
      RefR w' w'.heap.size k A c R ∧ zR k R = zR n L - zR m M ∧ R.length ≤ L.length + M.length + 1 ∧ Below w.heap.size w w' := by
  have hN := fun W (h : RefR W W.heap.size m A' c' M) => rneg_any m A' c' M W hml h
  have HN := Lib.hid hN
  have hAd := fun (k : Bool) (A2 : Option Addr) (c2 : Nat) W (h1 : RefR W W.heap.size n A c L) (h2 : RefR W W.heap.size k A2 c2 M) => raddI_any n k A A2 c c2 L M W hl hml h1 h2
  have HAd := Lib.hid hAd
  clear hN hAd
  generalize hl' : L.length = l at *
  generalize hm' : M.length = l2 at *
  have HLL := Lib.hid hl'
  have HML := Lib.hid hm'
  clear hl' hm'
  go_enter Tryd.func27, Tryd.ntmps27
  go_wp2
  have hne1 : ¬ w.heap.size = w.heap.size + 1 + 1 := by omega
  have hne2 : ¬ w.heap.size + 1 + 1 = w.heap.size := by omega
  go_region_held3 (fun w' => w'.cell? ⟨w.heap.size, 0, none⟩ = some (.bool n) ∧ w'.cell? ⟨w.heap.size, 1, none⟩ = some (.slice A l c) ∧
      w'.cell? ⟨w.heap.size + 1, 0, none⟩ = some (.bool m) ∧ w'.cell? ⟨w.heap.size + 1, 1, none⟩ = some (.slice A' l2 c')) (go_keep)
    (first
      | (go_at_call 29; (with_reducible refine (HN.out _ (hM.up (below_drew (below_a3 _ _ _ _)))).mono ?_); rintro e w1 ⟨k, A2, c2, rfl, hi1, hz1, hb1⟩; have HZ1 := Lib.hid hz1; have HB1 := Lib.hid (three (below_undrew hb1)).2.2.2.2.2.2.2.2.2; have HW1 := Lib.hid ((below_drew (below_a3 w _ _ _)).trans (Below.less hb1 (below_drew (below_a3 w _ _ _)).size)); have X := three (below_undrew hb1); have hq1 := X.1; have hq2 := X.2.1; have hq3 := X.2.2.1; have hq4 := X.2.2.2.1; have hq9 := X.2.2.2.2.2.2.2.2.1; clear X hb1 hz1)
      | (go_at_call 25; (with_reducible refine (HAd.out _ _ _ _ (hL.up HW1.out) hi1).mono ?_); rintro e w2 ⟨k3, A3, c3, R, rfl, hi2, hz2, hl2, hb2⟩; have HZ2 := Lib.hid hz2; have HI2 := Lib.hid hi2; have HB2 := Lib.hid (below_then HB1.out hb2 hq9); clear hq1 hq2 hq3 hq4 hi1 hb2 hz2 hi2; have X := three' HB2.out; have hq1 := X.1; have hq2 := X.2.1; have hq3 := X.2.2.1; have hq4 := X.2.2.2.1; have hq5 := X.2.2.2.2.1; have hq6 := X.2.2.2.2.2.1; have hq7 := X.2.2.2.2.2.2.1; have hq8 := X.2.2.2.2.2.2.2.1; clear X))
  all_goals
    go_wp2
    have hbw : Below w.heap.size w w2 := (below_a3 w _ _ _).trans (Below.less HB2.out (by omega))
    refine bodyPost_ret (v := .agg #[.bool k3, .slice A3 R.length c3]) (by simp [results, Tryd.results27, go_sem, hq5, hq6]) rfl
      ⟨_, _, _, R, rfl, ?_, by rw [HZ2.out, HZ1.out]; rfl, hl2, (hbw.setCell (by simp; omega) _).setCell (by simp; omega) _⟩
    rw [setCell_size, setCell_size]
    exact ⟨HI2.out.row.box3 HB2.out (fun _ => by simp) (fun _ => by simp) _ _, HI2.out.lim, HI2.out.top, HI2.out.sgn⟩

theorem sgn_cmp {w : World} {B : Nat} {n : Bool} {A : Option Addr} {c : Nat} {L : List Nat} (h : RefR w B n A c L) : sgnI n L = cmpI (zR n L) 0 := by
  have h1 : 0 < L.length → 0 < val4 L := fun h0 => Nat.pos_of_ne_zero (ref_pos h h0)
  have h2 : L.length = 0 → val4 L = 0 := val4_nil
  have h3 : n = true → 0 < L.length := fun hn => List.length_pos_iff.2 (h.sgn hn)
  unfold sgnI cmpI zR
  cases n
  · rcases Nat.eq_zero_or_pos L.length with h0 | h0
    · have := h2 h0
      simp [h0, this]
    · have := h1 h0
      have h4 : ¬ L.length = 0 := by omega
      simp only [Bool.false_eq_true, if_false, h4]
      rw [if_neg (by omega), if_neg (by omega)]
  · have := h1 (h3 rfl)
    simp only [if_true]
    rw [if_pos (by omega)]
theorem cmp_diff (x y : Int) : cmpI (x - y) 0 = cmpI x y := by
  unfold cmpI
  by_cases h1 : x < y
  · rw [if_pos (by omega), if_pos h1]
  · rw [if_neg (by omega), if_neg h1]
    by_cases h2 : x = y
    · rw [if_pos (by omega), if_pos h2]
    · rw [if_neg (by omega), if_neg h2]
set_option maxRecDepth 20000 in
set_option maxHeartbeats 3200000 in
theorem rcmp_any (n m : Bool) (A A' : Option Addr) (c c' : Nat) (L M : List Nat) (w : World) (hl : L.length ≤ 500000) (hml : M.length ≤ 500000)
    (hL : RefR w w.heap.size n A c L) (hM : RefR w w.heap.size m A' c' M) :
    Calls Tryd.prog 31 #[.agg #[.bool n, .slice A L.length c], .agg #[.bool m, .slice A' M.length c']] w fun e w' => e = .returned (.int .i64 (cmpI (zR n L) (zR m M))) ∧ Below w.heap.size w w' := by
  have HS := Lib.hid (fun W h1 h2 => rsubI_any n m A A' c c' L M W hl hml h1 h2)
  generalize hl' : L.length = l at *
  generalize hm' : M.length = l2 at *
  have HLL := Lib.hid hl'
  have HML := Lib.hid hm'
  clear hl' hm'
  go_enter Tryd.func31, Tryd.ntmps31
  go_wp2_with fail
  refine (HS.out _ (hL.up (below_a2 _ _ _)) (hM.up (below_a2 _ _ _))).mono ?_
  rintro e w1 ⟨k, A2, c2, R, rfl, hi, hz, hl2, hb1⟩
  have HZ := Lib.hid hz
  have HB1 := Lib.hid ((below_a2 w _ _).trans (Below.less hb1 (below_a2 w _ _).size))
  have hsg := sgn_cmp hi
  rw [hz, cmp_diff] at hsg
  have HSG := Lib.hid hsg
  have hsn := hi.sgn
  clear hz hb1 hsg hi
  go_wp2_with fail
  refine (rsign_any k A2 c2 R w1 hsn).mono ?_
  rintro e w2 ⟨rfl, hb2⟩
  go_wp2_with fail
  go_ret
  exact ⟨ret_int HSG.out, HB1.out.trans (Below.less hb2 HB1.out.size)⟩
end Go.Proofs.YtbfbijokhlkekaaDoor

/- Facts of values in a region that draws its order: integers of the program and of the reference, and the calls on them. -/
namespace Go.Proofs.YtbfbijokhlkekaaDoor
open Go.RowKit

/-- The value is the program's integer z, of at most n limbs. -/
def PInt (z : Int) (n : Nat) (v : Value) (w : World) : Prop := ∃ k A c L, v = .agg #[.bool k, .slice A (List.length L) c] ∧ IntR w w.heap.size k A c L ∧ zI k L = z ∧ L.length ≤ n
/-- The value is the reference's integer z, of at most n limbs. -/
def PRef (z : Int) (n : Nat) (v : Value) (w : World) : Prop := ∃ k A c L, v = .agg #[.bool k, .slice A (List.length L) c] ∧ RefR w w.heap.size k A c L ∧ zR k L = z ∧ L.length ≤ n
theorem PInt.up {z : Int} {n : Nat} {v : Value} {w w' : World} (h : PInt z n v w) (hb : Below w.heap.size w w') : PInt z n v w' := by
  obtain ⟨k, A, c, L, h1, h2, h3⟩ := h
  exact ⟨k, A, c, L, h1, h2.up hb, h3⟩
theorem PRef.up {z : Int} {n : Nat} {v : Value} {w w' : World} (h : PRef z n v w) (hb : Below w.heap.size w w') : PRef z n v w' := by
  obtain ⟨k, A, c, L, h1, h2, h3⟩ := h
  exact ⟨k, A, c, L, h1, h2.up hb, h3⟩
theorem PInt.more {z : Int} {n m : Nat} {v : Value} {w : World} (h : PInt z n v w) (hm : n ≤ m) : PInt z m v w := by
  obtain ⟨k, A, c, L, h1, h2, h3, h4⟩ := h
  exact ⟨k, A, c, L, h1, h2, h3, by omega⟩
def Fact.int (z : Int) (n : Nat) : Fact := ⟨PInt z n, fun _ _ _ hb h => h.up hb⟩
def Fact.ref (z : Int) (n : Nat) : Fact := ⟨PRef z n, fun _ _ _ hb h => h.up hb⟩
def Fact.is (x : Value) : Fact := ⟨fun v _ => v = x, fun _ _ _ _ h => h⟩

theorem add_fact {x y : Int} {n m : Nat} {a b : Value} {w : World} (h1 : PInt x n a w) (h2 : PInt y m b w) (hn : n ≤ 500000) (hm : m ≤ 500000) :
    Calls Tryd.prog 24 #[a, b] w fun e w' => ∃ v, e = .returned v ∧ PInt (x + y) (n + m + 1) v w' ∧ Below w.heap.size w w' := by
  obtain ⟨k, A, c, L, rfl, i1, rfl, l1⟩ := h1
  obtain ⟨k', A', c', M, rfl, i2, rfl, l2⟩ := h2
  refine (add_any k k' A A' c c' L M w (by omega) (by omega) i1 i2).mono ?_
  rintro e w' ⟨q, B, d, R, rfl, hi, hz, hl, hb⟩
  exact ⟨_, rfl, ⟨q, B, d, R, rfl, hi, hz, by omega⟩, hb⟩
theorem sub_fact {x y : Int} {n m : Nat} {a b : Value} {w : World} (h1 : PInt x n a w) (h2 : PInt y m b w) (hn : n ≤ 500000) (hm : m ≤ 500000) :
    Calls Tryd.prog 26 #[a, b] w fun e w' => ∃ v, e = .returned v ∧ PInt (x - y) (n + m + 1) v w' ∧ Below w.heap.size w w' := by
  obtain ⟨k, A, c, L, rfl, i1, rfl, l1⟩ := h1
  obtain ⟨k', A', c', M, rfl, i2, rfl, l2⟩ := h2
  refine (sub_any k k' A A' c c' L M w (by omega) (by omega) i1 i2).mono ?_
  rintro e w' ⟨q, B, d, R, rfl, hi, hz, hl, hb⟩
  exact ⟨_, rfl, ⟨q, B, d, R, rfl, hi, hz, by omega⟩, hb⟩
theorem mul_fact {x y : Int} {n m : Nat} {a b : Value} {w : World} (h1 : PInt x n a w) (h2 : PInt y m b w) (hn : n ≤ 500000) (hm : m ≤ 500000) :
    Calls Tryd.prog 32 #[a, b] w fun e w' => ∃ v, e = .returned v ∧ PInt (x * y) (n + m) v w' ∧ Below w.heap.size w w' := by
  obtain ⟨k, A, c, L, rfl, i1, rfl, l1⟩ := h1
  obtain ⟨k', A', c', M, rfl, i2, rfl, l2⟩ := h2
  refine (mul_any k k' A A' c c' L M w (by omega) (by omega) i1 i2).mono ?_
  rintro e w' ⟨q, B, d, R, rfl, hi, hz, hl, hb⟩
  exact ⟨_, rfl, ⟨q, B, d, R, rfl, hi, hz, by omega⟩, hb⟩
theorem neg_fact {x : Int} {n : Nat} {a : Value} {w : World} (h1 : PInt x n a w) (hn : n ≤ 500000) :
    Calls Tryd.prog 28 #[a] w fun e w' => ∃ v, e = .returned v ∧ PInt (-x) n v w' ∧ Below w.heap.size w w' := by
  obtain ⟨k, A, c, L, rfl, i1, rfl, l1⟩ := h1
  refine (neg_any k A c L w (by omega) i1).mono ?_
  rintro e w' ⟨q, B, d, rfl, hi, hz, hb⟩
  exact ⟨_, rfl, ⟨q, B, d, L, rfl, hi, hz, by omega⟩, hb⟩
theorem cmp_fact {x y : Int} {n m : Nat} {a b : Value} {w : World} (h1 : PInt x n a w) (h2 : PInt y m b w) (hn : n ≤ 1000000) (hm : m ≤ 1000000) :
    Calls Tryd.prog 30 #[a, b] w fun e w' => e = .returned (.int .i64 (cmpI x y)) ∧ Below w.heap.size w w' := by
  obtain ⟨k, A, c, L, rfl, i1, rfl, l1⟩ := h1
  obtain ⟨k', A', c', M, rfl, i2, rfl, l2⟩ := h2
  exact cmp_any k k' A A' c c' L M w (by omega) (by omega) i1 i2
theorem sgnI_cmp {w : World} {B : Nat} {n : Bool} {A : Option Addr} {c : Nat} {L : List Nat} (h : IntR w B n A c L) : sgnI n L = cmpI (zI n L) 0 := by
  unfold sgnI zI cmpI
  cases n
  · rcases Nat.eq_zero_or_pos L.length with h0 | h0
    · have : L = [] := List.eq_nil_of_length_eq_zero h0
      subst this; simp [valB]
    · have := canon_pos h.canon h0
      have h1 : ¬ L.length = 0 := by omega
      have h2 : ¬ ((val9 L : Nat) : Int) < 0 := by omega
      have h3 : ¬ ((val9 L : Nat) : Int) = 0 := by omega
      simp only [Bool.false_eq_true, if_false]
      rw [if_neg h1, if_neg h2, if_neg h3]
  · have h1 := List.length_pos_iff.2 (h.sgn rfl)
    have := canon_pos h.canon h1
    have h2 : -((val9 L : Nat) : Int) < 0 := by omega
    simp only [if_true]
    rw [if_pos h2]
theorem sign_fact {x : Int} {n : Nat} {a : Value} {w : World} (h1 : PInt x n a w) :
    Calls Tryd.prog 15 #[a] w fun e w' => e = .returned (.int .i64 (cmpI x 0)) ∧ Below w.heap.size w w' := by
  obtain ⟨k, A, c, L, rfl, i1, rfl, l1⟩ := h1
  rw [← sgnI_cmp i1]
  exact sign_any k A c L w
theorem sign_is {x c : Int} {n : Nat} {a : Value} {w : World} (h1 : PInt x n a w) (hc : cmpI x 0 = c) :
    Calls Tryd.prog 15 #[a] w fun e w' => e = .returned (.int .i64 c) ∧ Below w.heap.size w w' := hc ▸ sign_fact h1
theorem cmp_is {x y c : Int} {n m : Nat} {a b : Value} {w : World} (h1 : PInt x n a w) (h2 : PInt y m b w) (hn : n ≤ 1000000) (hm : m ≤ 1000000) (hc : cmpI x y = c) :
    Calls Tryd.prog 30 #[a, b] w fun e w' => e = .returned (.int .i64 c) ∧ Below w.heap.size w w' := hc ▸ cmp_fact h1 h2 hn hm
theorem equal_fact {x y : Int} {n m : Nat} {a b : Value} {w : World} (h1 : PInt x n a w) (h2 : PInt y m b w) (hn : n ≤ 100000) (hm : m ≤ 100000) (hxy : x = y) (ht : Tab w.heap.size w) :
    Calls Tryd.prog 36 #[a, b] w fun e w' => e = .returned (.bool true) ∧ Below w.heap.size w w' := by
  obtain ⟨k, A, c, L, rfl, i1, rfl, l1⟩ := h1
  obtain ⟨k', A', c', M, rfl, i2, rfl, l2⟩ := h2
  exact equal_true k k' A A' c c' L M w (by omega) (by omega) i1 i2 hxy ht
theorem same_fact {x y : Int} {n m : Nat} {a b : Value} {w : World} (h1 : PInt x n a w) (h2 : PRef y m b w) (hn : n ≤ 100000) (hm : m ≤ 100000) (hxy : x = y) (ht : Tab w.heap.size w) :
    Calls Tryd.prog 17 #[a, b] w fun e w' => e = .returned (.bool true) ∧ Below w.heap.size w w' := by
  obtain ⟨k, A, c, L, rfl, i1, rfl, l1⟩ := h1
  obtain ⟨k', A', c', M, rfl, i2, rfl, l2⟩ := h2
  exact same_true k k' A A' c c' L M w (by omega) (by omega) i1 i2 hxy ht
end Go.Proofs.YtbfbijokhlkekaaDoor

/- What the rows' condition on listed variables gives; a step of every row's proof. -/
namespace Go.Proofs.YtbfbijokhlkekaaDoor
open Go.ChangeShapes Go.WideShapes Go.ChangeAt Go.WideMaps Go.WideElems Go.RowKit

theorem own : ownKnob Tryd.prog.godebug = none := by kernel_rfl
/-- The list of the listed variables. -/
abbrev laidL : List (String × DataW Unit) := [("math/bits.deBruijn32tab", Rows.laid_math_bits_deBruijn32tab), ("math/bits.deBruijn64tab", Rows.laid_math_bits_deBruijn64tab), ("internal/strconv.uint64pow10", Rows.laid_internal_strconv_uint64pow10)]
theorem door_met (os : Os) (args : Array Value) : laidMetH Tryd.prog laidL ((World.doorLaid Tryd.prog 400 os).forCall (fun _ _ => 0) ⟨#[], args, []⟩).memory :=
  laidMetH_of_parts3 (fuel := 8) (laidMet_of_run' 8 (by kernel_rfl) (by kernel_rfl)) (by kernel_rfl) (by kernel_rfl)

theorem pow_is : Rows.laid_internal_strconv_uint64pow10 (H := Unit) = Lib.tabData .u64 Lib.pow10Tab := by kernel_rfl
theorem tab_of_laid {W : World} (h : laidMetH Tryd.prog laidL W) : Tab W.heap.size W := by
  rw [MakeChecks.laidMetH_plain _ _ _ (by kernel_rfl)] at h
  obtain ⟨ps, ⟨g0, t0, cs0, f0, p0, q0, hg0, ht0, hv0, hd0, ⟨g1, t1, cs1, f1, p1, q1, hg1, ht1, hv1, hd1, ⟨g2, t2, cs2, f2, p2, q2, hg2, ht2, hv2, hd2, _, _⟩, _⟩, _⟩, _, _⟩ := h
  have hg : Tryd.prog.globalNamed "internal/strconv.uint64pow10" = some g2 := hg2
  have hgg : Tryd.prog.globalNamed "internal/strconv.uint64pow10" = some 0 := by kernel_rfl
  have hty : (Tryd.prog.globals[0]?).map (·.type) = some 104 := by kernel_rfl
  obtain rfl := Option.some.inj (hgg.symm.trans hg2)
  obtain rfl := Option.some.inj (hty.symm.trans ht2)
  refine Lib.tabBelow_of_tabIs ?_
  unfold Lib.TabIs
  rw [hv2]
  rw [pow_is] at hd2
  rw [← Lib.cells_of_tab Tryd.underlying104 Tryd.underlying67 (by kernel_rfl) (by kernel_rfl) hd2]

/-- The last step of a row whose call makes memory and leaves the old memory as it was. -/
theorem post_below {H : Type} {enc : TypeId × Value → H} {P : Program} {f : Func} {s : ChangeSpec} {ap fr ho ag : Bool} {W W' : World} {args : Array Value} {v : Value} {ds gs : List (DataW H)} {before pa pv : List MemPlace}
    (hW : DataW.Whole enc P f.params.toList s.vars ap W args.toList ds gs before)
    (hres : ∀ (b : Nat) (sp : Nat → Bool) (hd : Bool), DataW.TrodAll enc P W' b sp hd f.resultTypes.toList (v.resultList f.resultTypes.size) (s.fn H (ds ++ gs)).results [])
    (hargs : ∀ sp : Nat → Bool, (∀ p ∈ before, sp p.block = true) → DataW.TrodAll enc P W' 0 sp true f.params.toList args.toList (s.fn H (ds ++ gs)).args pa)
    (hvars : ∀ sp : Nat → Bool, (∀ p ∈ before, sp p.block = true) → DataW.TrodVars enc P W' sp s.vars (s.fn H (ds ++ gs)).vars pv)
    (hps : before = pa ++ pv) (hb : Below W.heap.size W W')
    (hok : ∀ (j : Nat) (t : TypeId) (r : Value), f.resultTypes[j]? = some t → (v.resultList f.resultTypes.size)[j]? = some r → Value.okWide P W' .any 0 t r) : s.post enc P f ap fr ho ag W args v W' := by
  have hlt : ∀ p ∈ before, p.block < W.heap.size := fun p hp => hW.lt p hp
  have hin : ∀ p ∈ before, (fun b => decide (b < W.heap.size)) p.block = true := fun p hp => by simpa using hlt p hp
  refine ⟨ds, gs, before, [], pa, pv, hW, hres _ _ _, hargs _ hin, hvars _ hin, World.keptBut_mono (fun p hp => ⟨hp, .inr (List.mem_append.1 (hps ▸ hp))⟩) (hb.frame (· ∈ before)), fun _ => ?_⟩
  obtain ⟨_, _, _, _, _, hz, hn⟩ := hW
  refine ⟨hok, _, _, ([] ++ pa) ++ pv, ⟨[] ++ pa, pv, trodAll_append (hargs _ (fun _ _ => rfl)) (hres _ _ _), hvars _ (fun _ _ => rfl), rfl, fun b off hp => ?_, fun ha => ?_⟩, ?_⟩
  · have hbe : MemPlace.cell b off ∈ before := by rw [hps]; simpa using hp
    rw [hb.frozen (hlt _ hbe)]
    exact hz b off hbe
  · have h9 := hn ha
    rw [hps] at h9
    simpa using h9
  · intro p hp _
    rw [hps, ← List.nil_append pa]
    exact hp
end Go.Proofs.YtbfbijokhlkekaaDoor
