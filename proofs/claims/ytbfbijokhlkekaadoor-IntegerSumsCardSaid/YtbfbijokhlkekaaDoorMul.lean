/- 'Mul' and 'Neg' of integers. -/
import Derived.Test.YtbfbijokhlkekaaDoorPack
import Derived.Deep.RegionHeld3
namespace Go.Proofs.YtbfbijokhlkekaaDoor
open Go.RowKit

/-- The integer with a sign and limbs. -/
def zI (neg : Bool) (L : List Nat) : Int := if neg then -(val9 L : Int) else (val9 L : Int)
theorem zI_mul (n m : Bool) {L M R : List Nat} (h : val9 R = val9 L * val9 M) (h0 : R.length = 0 → val9 R = 0) : zI ((n != m) && decide (0 < R.length)) R = zI n L * zI m M := by
  have hc : ((val9 R : Nat) : Int) = (val9 L : Int) * (val9 M : Int) := by rw [h]; simp
  unfold zI
  generalize (val9 L : Int) = x at *
  generalize (val9 M : Int) = y at *
  rcases Nat.eq_zero_or_pos R.length with h1 | h1
  · have h2 := h0 h1
    rw [h2] at hc ⊢
    have e : (decide (0 < R.length)) = false := by rw [decide_eq_false_iff_not]; omega
    rw [e, Bool.and_false]
    cases n <;> cases m <;> simp <;> grind
  · have e : (decide (0 < R.length)) = true := by rw [decide_eq_true_iff]; omega
    rw [e, Bool.and_true, hc]
    cases n <;> cases m <;> simp <;> grind
theorem canon_pos {L : List Nat} (h : Canon L) (h0 : 0 < L.length) : val9 L ≠ 0 := by
  have h1 : Canon ([] : List Nat) := ⟨fun _ h => absurd h (List.not_mem_nil), fun h => absurd h (Nat.lt_irrefl 0)⟩
  have h2 := canon_lt h1.lim h (by simpa using h0)
  have h3 : val9 [] = 0 := rfl
  omega
theorem val9_nil {L : List Nat} (h : L.length = 0) : val9 L = 0 := by rw [List.eq_nil_of_length_eq_zero h]; rfl

theorem Row.up {k : IntKind} {w W : World} {A : Option Addr} {c : Nat} {L : List Nat} (h : Row k w w.heap.size A c L) (hb : Below w.heap.size w W) : Row k W W.heap.size A c L := (h.below hb).more hb.size
theorem below_drew {B : Nat} {a w : World} (h : Below B a w) : Below B a w.drew := ⟨h.os, h.tape, h.output, h.size, h.block⟩
theorem below_undrew {B : Nat} {a w : World} (h : Below B a.drew w) : Below B a w := ⟨h.os, h.tape, h.output, h.size, h.block⟩
theorem below_undrewN {B n : Nat} {a w : World} (h : Below B (a.drewN n) w) : Below B a w := ⟨h.os, h.tape, h.output, h.size, h.block⟩
theorem below_a2 (w : World) (a b : Obj) : Below w.heap.size w ((w.alloc a).alloc b) := (below_alloc_new _).alloc (by simp) _
theorem below_a3 (w : World) (a b c : Obj) : Below w.heap.size w (((w.alloc a).alloc b).alloc c) := (below_a2 w a b).alloc (by simp; omega) _
/-- What stands in two boxes, the second one new. -/
theorem two {w w1 : World} {x y x' y' : Value} {t t' : TypeId} (h : Below ((w.alloc (.cells #[x, y] t)).alloc (.cells #[x', y'] t')).heap.size ((w.alloc (.cells #[x, y] t)).alloc (.cells #[x', y'] t')) w1) :
    w1.cell? ⟨w.heap.size, 0, none⟩ = some x ∧ w1.cell? ⟨w.heap.size, 1, none⟩ = some y ∧ w1.cell? ⟨w.heap.size + 1, 0, none⟩ = some x' ∧ w1.cell? ⟨w.heap.size + 1, 1, none⟩ = some y' ∧
    w1.frozen? ⟨w.heap.size + 1, 0, none⟩ = false ∧ w1.frozen? ⟨w.heap.size + 1, 1, none⟩ = false ∧ w.heap.size + 2 ≤ w1.heap.size ∧ Below (w.heap.size + 2) ((w.alloc (.cells #[x, y] t)).alloc (.cells #[x', y'] t')) w1 := by
  have s1 : (w.alloc (.cells #[x, y] t)).heap.size = w.heap.size + 1 := by simp
  have s2 : ((w.alloc (.cells #[x, y] t)).alloc (.cells #[x', y'] t')).heap.size = w.heap.size + 2 := by simp
  rw [s2] at h
  have hA : Below (w.heap.size + 1) (w.alloc (.cells #[x, y] t)) w1 := by
    have := (below_alloc_new (w := w.alloc (.cells #[x, y] t)) (.cells #[x', y'] t')).trans (Below.less h (by simp))
    rwa [s1] at this
  have hB : Below ((w.alloc (.cells #[x, y] t)).heap.size + 1) ((w.alloc (.cells #[x, y] t)).alloc (.cells #[x', y'] t')) w1 := by rw [s1]; exact h
  have a1 := boxed2 hA
  have a2 := boxed2 hB
  have f0 := boxedF hB 0
  have f1 := boxedF hB 1
  rw [s1] at a2 f0 f1
  exact ⟨a1.1, a1.2, a2.1, a2.2, f0, f1, by have := h.size; omega, h⟩
/-- What stands in three boxes, the third one new. -/
theorem three {w w1 : World} {x y x' y' x2 y2 : Value} {t t' t2 : TypeId} (h : Below (((w.alloc (.cells #[x, y] t)).alloc (.cells #[x', y'] t')).alloc (.cells #[x2, y2] t2)).heap.size (((w.alloc (.cells #[x, y] t)).alloc (.cells #[x', y'] t')).alloc (.cells #[x2, y2] t2)) w1) :
    w1.cell? ⟨w.heap.size, 0, none⟩ = some x ∧ w1.cell? ⟨w.heap.size, 1, none⟩ = some y ∧ w1.cell? ⟨w.heap.size + 1, 0, none⟩ = some x' ∧ w1.cell? ⟨w.heap.size + 1, 1, none⟩ = some y' ∧
    w1.cell? ⟨w.heap.size + 2, 0, none⟩ = some x2 ∧ w1.cell? ⟨w.heap.size + 2, 1, none⟩ = some y2 ∧ w1.frozen? ⟨w.heap.size + 2, 0, none⟩ = false ∧ w1.frozen? ⟨w.heap.size + 2, 1, none⟩ = false ∧
    w.heap.size + 3 ≤ w1.heap.size ∧ Below (w.heap.size + 3) (((w.alloc (.cells #[x, y] t)).alloc (.cells #[x', y'] t')).alloc (.cells #[x2, y2] t2)) w1 := by
  have s1 : (w.alloc (.cells #[x, y] t)).heap.size = w.heap.size + 1 := by simp
  have s3 : (((w.alloc (.cells #[x, y] t)).alloc (.cells #[x', y'] t')).alloc (.cells #[x2, y2] t2)).heap.size = w.heap.size + 3 := by simp
  rw [s3] at h
  have hA : Below (w.heap.size + 1) (w.alloc (.cells #[x, y] t)) w1 := by
    have := (below_a2 (w.alloc (.cells #[x, y] t)) (.cells #[x', y'] t') (.cells #[x2, y2] t2)).trans (Below.less h (by simp))
    rwa [s1] at this
  have a1 := boxed2 hA
  have hh := two (w := w.alloc (.cells #[x, y] t)) (w1 := w1) (by simpa using h)
  rw [s1] at hh
  exact ⟨a1.1, a1.2, hh.1, hh.2.1, hh.2.2.1, hh.2.2.2.1, hh.2.2.2.2.1, hh.2.2.2.2.2.1, by have := h.size; omega, h⟩

theorem two' {w w1 : World} {x y x' y' : Value} {t t' : TypeId} (h : Below (w.heap.size + 2) ((w.alloc (.cells #[x, y] t)).alloc (.cells #[x', y'] t')) w1) :
    w1.cell? ⟨w.heap.size, 0, none⟩ = some x ∧ w1.cell? ⟨w.heap.size, 1, none⟩ = some y ∧ w1.cell? ⟨w.heap.size + 1, 0, none⟩ = some x' ∧ w1.cell? ⟨w.heap.size + 1, 1, none⟩ = some y' ∧
    w1.frozen? ⟨w.heap.size + 1, 0, none⟩ = false ∧ w1.frozen? ⟨w.heap.size + 1, 1, none⟩ = false ∧ w.heap.size + 2 ≤ w1.heap.size ∧ Below (w.heap.size + 2) ((w.alloc (.cells #[x, y] t)).alloc (.cells #[x', y'] t')) w1 := by
  have s2 : ((w.alloc (.cells #[x, y] t)).alloc (.cells #[x', y'] t')).heap.size = w.heap.size + 2 := by simp
  exact two (by rw [s2]; exact h)
theorem three' {w w1 : World} {x y x' y' x2 y2 : Value} {t t' t2 : TypeId} (h : Below (w.heap.size + 3) (((w.alloc (.cells #[x, y] t)).alloc (.cells #[x', y'] t')).alloc (.cells #[x2, y2] t2)) w1) :
    w1.cell? ⟨w.heap.size, 0, none⟩ = some x ∧ w1.cell? ⟨w.heap.size, 1, none⟩ = some y ∧ w1.cell? ⟨w.heap.size + 1, 0, none⟩ = some x' ∧ w1.cell? ⟨w.heap.size + 1, 1, none⟩ = some y' ∧
    w1.cell? ⟨w.heap.size + 2, 0, none⟩ = some x2 ∧ w1.cell? ⟨w.heap.size + 2, 1, none⟩ = some y2 ∧ w1.frozen? ⟨w.heap.size + 2, 0, none⟩ = false ∧ w1.frozen? ⟨w.heap.size + 2, 1, none⟩ = false ∧
    w.heap.size + 3 ≤ w1.heap.size ∧ Below (w.heap.size + 3) (((w.alloc (.cells #[x, y] t)).alloc (.cells #[x', y'] t')).alloc (.cells #[x2, y2] t2)) w1 := by
  have s3 : (((w.alloc (.cells #[x, y] t)).alloc (.cells #[x', y'] t')).alloc (.cells #[x2, y2] t2)).heap.size = w.heap.size + 3 := by simp
  exact three (by rw [s3]; exact h)
theorem Row.box3 {k : IntKind} {w w1 : World} {B : Nat} {A : Option Addr} {c : Nat} {L : List Nat} {a b : Obj} {x y : Value} {t : TypeId} (h : Row k w1 B A c L)
    (hb : Below (w.heap.size + 3) (((w.alloc a).alloc b).alloc (.cells #[x, y] t)) w1)
    (hx : ∀ n, x ≠ .int k n) (hy : ∀ n, y ≠ .int k n) (u v : Value) : Row k ((w1.setCell ⟨w.heap.size + 1 + 1, 0, none⟩ u).setCell ⟨w.heap.size + 1 + 1, 1, none⟩ v) B A c L := by
  have s2 : ((w.alloc a).alloc b).heap.size = w.heap.size + 1 + 1 := by simp
  have := Row.box (w := (w.alloc a).alloc b) h (by rw [s2]; exact hb) hx hy u v
  rwa [s2] at this
theorem Row.box2 {k : IntKind} {w w1 : World} {B : Nat} {A : Option Addr} {c : Nat} {L : List Nat} {a : Obj} {x y : Value} {t : TypeId} (h : Row k w1 B A c L)
    (hb : Below (w.heap.size + 2) ((w.alloc a).alloc (.cells #[x, y] t)) w1)
    (hx : ∀ n, x ≠ .int k n) (hy : ∀ n, y ≠ .int k n) (u v : Value) : Row k ((w1.setCell ⟨w.heap.size + 1, 0, none⟩ u).setCell ⟨w.heap.size + 1, 1, none⟩ v) B A c L := by
  have s2 : (w.alloc a).heap.size = w.heap.size + 1 := by simp
  have := Row.box (w := w.alloc a) h (by rw [s2]; exact hb) hx hy u v
  rwa [s2] at this
theorem below_then {B : Nat} {a w w' : World} (h : Below B a w) (hb : Below w.heap.size w w') (hB : B ≤ w.heap.size) : Below B a w' := h.trans (Below.less hb hB)

set_option maxRecDepth 20000 in
set_option maxHeartbeats 3200000 in
theorem mul_any (n m : Bool) (A A' : Option Addr) (c c' : Nat) (L M : List Nat) (w : World) (hl : L.length ≤ 500000) (hml : M.length ≤ 500000)
    (hL : IntR w w.heap.size n A c L) (hM : IntR w w.heap.size m A' c' M) :
    Calls Tryd.prog 32 #[.agg #[.bool n, .slice A L.length c], .agg #[.bool m, .slice A' M.length c']] w fun e w' => ∃ k A c R, e = .returned (.agg #[.bool k, .slice A R.length c]) ∧
      IntR w' w'.heap.size k A c R ∧ zI k R = zI n L * zI m M ∧ R.length ≤ L.length + M.length ∧ Below w.heap.size w w' := by
  have hM2 := fun W h1 h2 => mult2 A A' c c' L M W hl hml hL.canon.lim hM.canon.lim h1 h2
  have HM2 := Lib.hid hM2
  clear hM2
  generalize hl' : L.length = l at *
  generalize hm' : M.length = l2 at *
  have HLL := Lib.hid hl'
  have HML := Lib.hid hm'
  clear hl' hm'
  go_enter Tryd.func32, Tryd.ntmps32
  go_wp2
  have hne1 : ¬ w.heap.size = w.heap.size + 1 + 1 := by omega
  have hne2 : ¬ w.heap.size + 1 + 1 = w.heap.size := by omega
  go_region_held3 (fun w' => w'.cell? ⟨w.heap.size, 0, none⟩ = some (.bool n) ∧ w'.cell? ⟨w.heap.size, 1, none⟩ = some (.slice A l c) ∧
      w'.cell? ⟨w.heap.size + 1, 0, none⟩ = some (.bool m) ∧ w'.cell? ⟨w.heap.size + 1, 1, none⟩ = some (.slice A' l2 c')) (go_keep)
    (first
      | (go_at_call 57; refine (HM2.out _ (hL.row.up (below_drew (below_a3 _ _ _ _))) (hM.row.up (below_drew (below_a3 _ _ _ _)))).mono ?_; rintro e w1 ⟨g, c1, R, rfl, hr1, hcan1, hv1, hl1, hb1, _⟩; have HB1 := Lib.hid (three (below_undrew hb1)).2.2.2.2.2.2.2.2.2; have X := three (below_undrew hb1); have hq1 := X.1; have hq2 := X.2.1; have hq3 := X.2.2.1; have hq4 := X.2.2.2.1; have hq5 := X.2.2.2.2.1; have hq6 := X.2.2.2.2.2.1; have hq7 := X.2.2.2.2.2.2.1; have hq8 := X.2.2.2.2.2.2.2.1; have hq9 := X.2.2.2.2.2.2.2.2.1; clear X hb1)
      | (go_at_call 42; refine (signed_any _ _ _ _ _).mono ?_; rintro e w2 ⟨rfl, hb2⟩; have HB2 := Lib.hid (below_then HB1.out hb2 hq9); have HR2 := Lib.hid (hr1.below hb2); have hs2 := hb2.size; clear hq1 hq2 hq3 hq4 hq5 hq6 hq7 hq8 hr1 hb2; have X := three' HB2.out; have hq1 := X.1; have hq2 := X.2.1; have hq3 := X.2.2.1; have hq4 := X.2.2.2.1; have hq5 := X.2.2.2.2.1; have hq6 := X.2.2.2.2.2.1; have hq7 := X.2.2.2.2.2.2.1; have hq8 := X.2.2.2.2.2.2.2.1; clear X))
  all_goals
    go_wp2
    have hbw : Below w.heap.size w w2 := (below_a3 w _ _ _).trans (Below.less HB2.out (by omega))
    refine bodyPost_ret (v := .agg #[.bool (!(n == m) && decide (0 < R.length)), .slice (some ⟨g, 0, none⟩) R.length c1]) (by simp [results, Tryd.results32, go_sem, hq5, hq6]) rfl
      ⟨_, _, _, R, rfl, ?_, zI_mul n m hv1 val9_nil, hl1, (hbw.setCell (by simp; omega) _).setCell (by simp; omega) _⟩
    rw [setCell_size, setCell_size]
    refine ⟨(HR2.out.more hs2).box3 HB2.out (fun _ => by simp) (fun _ => by simp) _ _, hcan1, fun hk hR => ?_⟩
    rw [hR] at hk
    simp at hk
end Go.Proofs.YtbfbijokhlkekaaDoor
