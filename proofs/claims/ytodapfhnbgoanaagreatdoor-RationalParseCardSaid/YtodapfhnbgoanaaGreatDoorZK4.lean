/- Contracts of the functions that the statements reach, part 4: what was proved of each, callees first. -/
import Derived.Deep.CutRange
import Derived.BigFrame
import Derived.BigGuard
import Derived.Laws.BitsLemmas
import Derived.Laws.Bits64b
import Derived.Lib.EndianBits
import Derived.Lib.ItoaNum
import Derived.Lib.BitFns
import Derived.Shelf.Spec.BitsCarry
import Derived.Test.YtodapfhnbgoanaaGreatDoorZK3
namespace Go.Proofs.YtodapfhnbgoanaaGreatDoor
open Go.RowKit
def divr (a b : Int) : Int := if b < 0 then -(Int.gcd a b : Int) else (Int.gcd a b : Int)
theorem red_num {a b : Int} (hb : b ≠ 0) : Int.tdiv a (divr a b) = (Rat.divInt a b).num := by
 have hd : (Int.gcd a b : Int) ∣ a := Int.gcd_dvd_left _ _
 rw [Rat.num_divInt, Int.gcd_comm b a]
 unfold divr
 split
 ·rename_i h
  rw [Int.tdiv_neg, Int.tdiv_eq_ediv_of_dvd hd, Int.sign_eq_neg_one_of_neg h, Int.neg_mul, Int.one_mul, Int.neg_ediv_of_dvd hd]
 ·rename_i h
  rw [Int.tdiv_eq_ediv_of_dvd hd, Int.sign_eq_one_of_pos (by omega), Int.one_mul]
theorem red_den {a b : Int} (hb : b ≠ 0) : Int.tdiv b (divr a b) = ((Rat.divInt a b).den : Int) := by
 have hd : (Int.gcd a b : Int) ∣ b := Int.gcd_dvd_right _ _
 rw [Rat.den_divInt, if_neg hb, Int.gcd_comm b a, Int.natCast_ediv]
 unfold divr
 split
 ·rename_i h
  rw [Int.tdiv_neg, Int.tdiv_eq_ediv_of_dvd hd, Int.ofNat_natAbs_of_nonpos (by omega), Int.neg_ediv_of_dvd hd]
 ·rename_i h
  rw [Int.tdiv_eq_ediv_of_dvd hd, Int.natAbs_of_nonneg (by omega)]
theorem add_terms (x y : Rat) : Rat.divInt (x.num * y.den + y.num * x.den) (x.den * y.den) = x + y := by
 rw [Rat.add_def', ← Int.natCast_mul, Rat.divInt_ofNat]
theorem mul_terms (x y : Rat) : Rat.divInt (x.num * y.num) (x.den * y.den) = x * y := by
 rw [Rat.mul_def', ← Int.natCast_mul, Rat.divInt_ofNat]
def cmpQ (x y : Rat) : Int := if x < y then -1 else if x = y then 0 else 1
theorem cmp_terms (x y : Rat) : cmpI (x.num * y.den) (y.num * x.den) = cmpQ x y := by
 unfold cmpI cmpQ
 simp only [Rat.lt_iff, Rat.eq_iff_mul_eq_mul]
theorem sign_terms (x : Rat) : cmpI x.num 0 = cmpQ x 0 := by
 have h := cmp_terms x 0
 simpa using h
def rndI (a b : Int) : Int := if a < 0 then -((2 * -a + b) / (2 * b)) else (2 * a + b) / (2 * b)
theorem near_eq (a b : Int) (hb : 0 < b) : Int.tdiv (a * 2 + (if a < 0 then -b else b)) (b * 2) = rndI a b := by
 unfold rndI
 split
 ·rename_i h
  rw [show a * 2 + -b = -(2 * -a + b) by omega, Int.neg_tdiv, Int.tdiv_eq_ediv_of_nonneg (by omega), Int.mul_comm b 2]
 ·rename_i h
  rw [Int.tdiv_eq_ediv_of_nonneg (by omega), Int.mul_comm b 2, Int.mul_comm a 2]
theorem ediv_mono {a b c d : Int} (hb : 0 < b) (hd : 0 < d) (h : a * d ≤ c * b) : a / b ≤ c / d := by
 rw [Int.le_ediv_iff_mul_le hd]
 have h1 : a / b * b ≤ a := Int.ediv_mul_le _ (by omega)
 have h2 : a / b * b * d ≤ a * d := Int.mul_le_mul_of_nonneg_right h1 (by omega)
 have h3 : a / b * d * b ≤ c * b := by
  have : a / b * b * d = a / b * d * b := by grind
  omega
 exact Int.le_of_mul_le_mul_right h3 hb
theorem rndI_mono {a b c d : Int} (hb : 0 < b) (hd : 0 < d) (h : a * d ≤ c * b) : rndI a b ≤ rndI c d := by
 unfold rndI
 have e1 : (2 * a + b) * (2 * d) = 4 * (a * d) + 2 * (b * d) := by grind
 have e2 : (2 * c + d) * (2 * b) = 4 * (c * b) + 2 * (b * d) := by grind
 have e3 : (2 * -c + d) * (2 * b) = -(4 * (c * b)) + 2 * (b * d) := by grind
 have e4 : (2 * -a + b) * (2 * d) = -(4 * (a * d)) + 2 * (b * d) := by grind
 split <;> split
 ·have := ediv_mono (a := 2 * -c + d) (b := 2 * d) (c := 2 * -a + b) (d := 2 * b) (by omega) (by omega) (by omega)
  omega
 ·have h1 : 0 ≤ (2 * -a + b) / (2 * b) := Int.ediv_nonneg (by omega) (by omega)
  have h2 : 0 ≤ (2 * c + d) / (2 * d) := Int.ediv_nonneg (by omega) (by omega)
  omega
 ·exfalso
  rename_i h1 h2
  have h3 : 0 ≤ a * d := Int.mul_nonneg (by omega) (by omega)
  have h4 : c * b < 0 := Int.mul_neg_of_neg_of_pos h2 hb
  omega
 ·exact ediv_mono (by omega) (by omega) (by omega)
theorem rndI_eq {a b c d : Int} (hb : 0 < b) (hd : 0 < d) (h : a * d = c * b) : rndI a b = rndI c d :=
 Int.le_antisymm (rndI_mono hb hd (by omega)) (rndI_mono hd hb (by omega))
def rndQ (x : Rat) : Int := rndI x.num x.den
theorem rndQ_divInt (a b : Int) (hb : 0 < b) : rndQ (Rat.divInt a b) = rndI a b := by
 unfold rndQ
 have h1 : ((Rat.divInt a b).den : Int) ≠ 0 := by have := (Rat.divInt a b).den_pos; omega
 have h2 : Rat.divInt (Rat.divInt a b).num ((Rat.divInt a b).den : Int) = Rat.divInt a b := Rat.num_divInt_den _
 rw [Rat.divInt_eq_divInt_iff h1 (by omega)] at h2
 exact rndI_eq (by have := (Rat.divInt a b).den_pos; omega) hb h2
open AS (Keep NoInt)
theorem Row.kept {k : IntKind} {w w' : World} {A : Option Addr} {c : Nat} {L : List Nat} (h : Row k w w.heap.size A c L) (hk : Keep w w') : Row k w' w'.heap.size A c L := by
 refine ⟨h.len, fun hp => ?_⟩
 obtain ⟨b, o, e, hb, hc⟩ := h.spot hp
 exact ⟨b, o, e, Nat.lt_of_lt_of_le hb hk.size, fun j hj => (hk.cell hb (hc 0 hp)).trans (hc j hj)⟩
theorem IntR.kept {w w' : World} {n : Bool} {A : Option Addr} {c : Nat} {L : List Nat} (h : IntR w w.heap.size n A c L) (hk : Keep w w') : IntR w' w'.heap.size n A c L := ⟨h.row.kept hk, h.canon, h.sgn⟩
theorem RefR.kept {w w' : World} {n : Bool} {A : Option Addr} {c : Nat} {L : List Nat} (h : RefR w w.heap.size n A c L) (hk : Keep w w') : RefR w' w'.heap.size n A c L := ⟨h.row.kept hk, h.lim, h.top, h.sgn⟩
theorem PInt.kept {z : Int} {n : Nat} {v : Value} {w w' : World} (h : PInt z n v w) (hk : Keep w w') : PInt z n v w' := by
 obtain ⟨k, A, c, L, h1, h2, h3⟩ := h
 exact ⟨k, A, c, L, h1, h2.kept hk, h3⟩
theorem PRef.kept {z : Int} {n : Nat} {v : Value} {w w' : World} (h : PRef z n v w) (hk : Keep w w') : PRef z n v w' := by
 obtain ⟨k, A, c, L, h1, h2, h3⟩ := h
 exact ⟨k, A, c, L, h1, h2.kept hk, h3⟩
theorem PRef.more {z : Int} {n m : Nat} {v : Value} {w : World} (h : PRef z n v w) (hm : n ≤ m) : PRef z m v w := by
 obtain ⟨k, A, c, L, h1, h2, h3, h4⟩ := h
 exact ⟨k, A, c, L, h1, h2, h3, by omega⟩
section
variable {t : TypeId} {w w' : World} {g : Nat} {vs : List Value}
theorem Keep.set {w0 : World} (hk : Keep w0 w) (h : Bx t w g vs) (i : Nat) {v : Value} (hv : Leaf v) : Keep w0 (w.setCell ⟨g, i, none⟩ v) := hk.trans (Keep.setCell h i hv)
theorem Keep.set2 {w0 : World} {a b a' b' : Value} (hk : Keep w0 w) (h : Bx t w g [a, b]) (ha : Leaf a') (hb : Leaf b') : Keep w0 ((w.setCell ⟨g, 0, none⟩ a').setCell ⟨g, 1, none⟩ b') := Keep.set (Keep.set hk h 0 ha) (Bx.set h 0 ha) 1 hb
theorem Keep.set4 {w0 : World} {a b c d a' b' c' d' : Value} (hk : Keep w0 w) (h : Bx t w g [a, b, c, d]) (ha : Leaf a') (hb : Leaf b') (hc : Leaf c') (hd : Leaf d') : Keep w0 ((((w.setCell ⟨g, 0, none⟩ a').setCell ⟨g, 1, none⟩ b').setCell ⟨g, 2, none⟩ c').setCell ⟨g, 3, none⟩ d') :=
 Keep.set (Keep.set (Keep.set (Keep.set hk h 0 ha) (Bx.set h 0 ha) 1 hb) (Bx.set (Bx.set h 0 ha) 1 hb) 2 hc) (Bx.set (Bx.set (Bx.set h 0 ha) 1 hb) 2 hc) 3 hd
theorem Keep.alloc {w0 : World} (hk : Keep w0 w) (o : Obj) : Keep w0 (w.alloc o) := hk.trans (Keep.ofBelow (below_alloc_new _))
theorem Keep.drew {w0 : World} (hk : Keep w0 w) : Keep w0 w.drew := hk.trans (Keep.ofBelow (below_drew (Below.refl _ _)))
theorem leaf2 {x y : Value} (hx : Leaf x) (hy : Leaf y) : ∀ v ∈ [x, y], Leaf v := by intro v hv; simp at hv; rcases hv with rfl | rfl <;> assumption
theorem leaf4 {x y z u : Value} (hx : Leaf x) (hy : Leaf y) (hz : Leaf z) (hu : Leaf u) : ∀ v ∈ [x, y, z, u], Leaf v := by intro v hv; simp at hv; rcases hv with rfl | rfl | rfl | rfl <;> assumption
end
theorem lf2 {k : Bool} {A : Option Addr} {l c : Nat} : ∀ v ∈ [Value.bool k, .slice A l c], Leaf v := leaf2 (Leaf.bool _) (Leaf.slice _ _ _)
theorem lf4 {k m : Bool} {A E : Option Addr} {l c p q : Nat} : ∀ v ∈ [Value.bool k, .slice A l c, .bool m, .slice E p q], Leaf v := leaf4 (Leaf.bool _) (Leaf.slice _ _ _) (Leaf.bool _) (Leaf.slice _ _ _)
theorem new1 (W : World) (t1 : TypeId) (v1 : List Value) (h1 : ∀ v ∈ v1, Leaf v) : Bx t1 (W.alloc (.cells v1.toArray t1)) W.heap.size v1 ∧ Below W.heap.size W (W.alloc (.cells v1.toArray t1)) := ⟨Bx.new t1 W v1 h1, below_alloc_new _⟩
theorem new2 (W : World) (t1 : TypeId) (v1 : List Value) (t2 : TypeId) (v2 : List Value) (h1 : ∀ v ∈ v1, Leaf v) (h2 : ∀ v ∈ v2, Leaf v) :
  Bx t1 ((W.alloc (.cells v1.toArray t1)).alloc (.cells v2.toArray t2)) W.heap.size v1 ∧ Bx t2 ((W.alloc (.cells v1.toArray t1)).alloc (.cells v2.toArray t2)) (W.heap.size + 1) v2 ∧ Below W.heap.size W ((W.alloc (.cells v1.toArray t1)).alloc (.cells v2.toArray t2)) := by
 obtain ⟨a, b⟩ := new1 W t1 v1 h1
 obtain ⟨c, d⟩ := new1 (W.alloc (.cells v1.toArray t1)) t2 v2 h2
 rw [show (W.alloc (.cells v1.toArray t1)).heap.size = W.heap.size + 1 by simp] at c
 exact ⟨a.up d, c, below_then b d b.size⟩
theorem new3 (W : World) (t1 : TypeId) (v1 : List Value) (t2 : TypeId) (v2 : List Value) (t3 : TypeId) (v3 : List Value) (h1 : ∀ v ∈ v1, Leaf v) (h2 : ∀ v ∈ v2, Leaf v) (h3 : ∀ v ∈ v3, Leaf v) :
  Bx t1 (((W.alloc (.cells v1.toArray t1)).alloc (.cells v2.toArray t2)).alloc (.cells v3.toArray t3)) W.heap.size v1 ∧ Bx t2 (((W.alloc (.cells v1.toArray t1)).alloc (.cells v2.toArray t2)).alloc (.cells v3.toArray t3)) (W.heap.size + 1) v2 ∧
  Bx t3 (((W.alloc (.cells v1.toArray t1)).alloc (.cells v2.toArray t2)).alloc (.cells v3.toArray t3)) (W.heap.size + 1 + 1) v3 ∧ Below W.heap.size W (((W.alloc (.cells v1.toArray t1)).alloc (.cells v2.toArray t2)).alloc (.cells v3.toArray t3)) := by
 obtain ⟨a, b, e⟩ := new2 W t1 v1 t2 v2 h1 h2
 obtain ⟨c, d⟩ := new1 ((W.alloc (.cells v1.toArray t1)).alloc (.cells v2.toArray t2)) t3 v3 h3
 rw [show ((W.alloc (.cells v1.toArray t1)).alloc (.cells v2.toArray t2)).heap.size = W.heap.size + 1 + 1 by simp] at c
 exact ⟨a.up d, b.up d, c, below_then e d e.size⟩
def PRat (x : Rat) (n : Nat) (v : Value) (w : World) : Prop := ∃ (p q : Int) (k : Bool) (A : Option Addr) (l c : Nat) (k' : Bool) (A' : Option Addr) (l' c' : Nat), v = .agg #[.bool k, .slice A l c, .bool k', .slice A' l' c'] ∧ PInt p n (.agg #[.bool k, .slice A l c]) w ∧ PInt q n (.agg #[.bool k', .slice A' l' c']) w ∧ ((p = x.num ∧ q = x.den) ∨ (p = 0 ∧ q = 0 ∧ x = 0))
def RRat (x : Rat) (n : Nat) (v : Value) (w : World) : Prop := ∃ (p q : Int) (k : Bool) (A : Option Addr) (l c : Nat) (k' : Bool) (A' : Option Addr) (l' c' : Nat), v = .agg #[.bool k, .slice A l c, .bool k', .slice A' l' c'] ∧ PRef p n (.agg #[.bool k, .slice A l c]) w ∧ PRef q n (.agg #[.bool k', .slice A' l' c']) w ∧ ((p = x.num ∧ q = x.den) ∨ (p = 0 ∧ q = 0 ∧ x = 0))
theorem PRat.kept {x : Rat} {n : Nat} {v : Value} {w w' : World} (h : PRat x n v w) (hk : Keep w w') : PRat x n v w' := by
 obtain ⟨p, q, k, A, l, c, k', A', l', c', rfl, h1, h2, h3⟩ := h
 exact ⟨p, q, k, A, l, c, k', A', l', c', rfl, h1.kept hk, h2.kept hk, h3⟩
theorem RRat.kept {x : Rat} {n : Nat} {v : Value} {w w' : World} (h : RRat x n v w) (hk : Keep w w') : RRat x n v w' := by
 obtain ⟨p, q, k, A, l, c, k', A', l', c', rfl, h1, h2, h3⟩ := h
 exact ⟨p, q, k, A, l, c, k', A', l', c', rfl, h1.kept hk, h2.kept hk, h3⟩
theorem PRat.more {x : Rat} {n m : Nat} {v : Value} {w : World} (h : PRat x n v w) (hm : n ≤ m) : PRat x m v w := by
 obtain ⟨p, q, k, A, l, c, k', A', l', c', rfl, h1, h2, h3⟩ := h
 exact ⟨p, q, k, A, l, c, k', A', l', c', rfl, h1.more hm, h2.more hm, h3⟩
theorem PInt.open {z : Int} {n : Nat} {v : Value} {w : World} (h : PInt z n v w) : ∃ (k : Bool) (A : Option Addr) (l c : Nat), v = .agg #[.bool k, .slice A l c] := by
 obtain ⟨k, A, c, L, h1, -⟩ := h
 exact ⟨k, A, _, c, h1⟩
theorem PRef.open {z : Int} {n : Nat} {v : Value} {w : World} (h : PRef z n v w) : ∃ (k : Bool) (A : Option Addr) (l c : Nat), v = .agg #[.bool k, .slice A l c] := by
 obtain ⟨k, A, c, L, h1, -⟩ := h
 exact ⟨k, A, _, c, h1⟩
theorem PRat.mk {x : Rat} {p q : Int} {n : Nat} {k : Bool} {A : Option Addr} {l c : Nat} {k' : Bool} {A' : Option Addr} {l' c' : Nat} {w : World} (h1 : PInt p n (.agg #[.bool k, .slice A l c]) w) (h2 : PInt q n (.agg #[.bool k', .slice A' l' c']) w) (hp : p = x.num) (hq : q = x.den) :
  PRat x n (.agg #[.bool k, .slice A l c, .bool k', .slice A' l' c']) w := ⟨p, q, k, A, l, c, k', A', l', c', rfl, h1, h2, .inl ⟨hp, hq⟩⟩
theorem PRat.parts {x : Rat} {n : Nat} {k : Bool} {A : Option Addr} {l c : Nat} {k' : Bool} {A' : Option Addr} {l' c' : Nat} {w : World} (h : PRat x n (.agg #[.bool k, .slice A l c, .bool k', .slice A' l' c']) w) :
  ∃ p q, PInt p n (.agg #[.bool k, .slice A l c]) w ∧ PInt q n (.agg #[.bool k', .slice A' l' c']) w ∧ ((p = x.num ∧ q = x.den) ∨ (p = 0 ∧ q = 0 ∧ x = 0)) := by
 obtain ⟨p, q, k2, A2, l2, c2, k3, A3, l3, c3, e, h1, h2, h3⟩ := h
 simp only [Value.agg.injEq, Array.mk.injEq, List.cons.injEq, Value.bool.injEq, Value.slice.injEq, and_true] at e
 obtain ⟨rfl, ⟨rfl, rfl, rfl⟩, rfl, rfl, rfl, rfl⟩ := e
 exact ⟨p, q, h1, h2, h3⟩
theorem PRat.open {x : Rat} {n : Nat} {v : Value} {w : World} (h : PRat x n v w) : ∃ (k : Bool) (A : Option Addr) (l c : Nat) (k' : Bool) (A' : Option Addr) (l' c' : Nat), v = .agg #[.bool k, .slice A l c, .bool k', .slice A' l' c'] := by
 obtain ⟨p, q, k2, A2, l2, c2, k3, A3, l3, c3, e, -⟩ := h
 exact ⟨_, _, _, _, _, _, _, _, e⟩
theorem RRat.mk {x : Rat} {p q : Int} {n : Nat} {k : Bool} {A : Option Addr} {l c : Nat} {k' : Bool} {A' : Option Addr} {l' c' : Nat} {w : World} (h1 : PRef p n (.agg #[.bool k, .slice A l c]) w) (h2 : PRef q n (.agg #[.bool k', .slice A' l' c']) w) (hp : p = x.num) (hq : q = x.den) :
  RRat x n (.agg #[.bool k, .slice A l c, .bool k', .slice A' l' c']) w := ⟨p, q, k, A, l, c, k', A', l', c', rfl, h1, h2, .inl ⟨hp, hq⟩⟩
theorem RRat.parts {x : Rat} {n : Nat} {k : Bool} {A : Option Addr} {l c : Nat} {k' : Bool} {A' : Option Addr} {l' c' : Nat} {w : World} (h : RRat x n (.agg #[.bool k, .slice A l c, .bool k', .slice A' l' c']) w) :
  ∃ p q, PRef p n (.agg #[.bool k, .slice A l c]) w ∧ PRef q n (.agg #[.bool k', .slice A' l' c']) w ∧ ((p = x.num ∧ q = x.den) ∨ (p = 0 ∧ q = 0 ∧ x = 0)) := by
 obtain ⟨p, q, k2, A2, l2, c2, k3, A3, l3, c3, e, h1, h2, h3⟩ := h
 simp only [Value.agg.injEq, Array.mk.injEq, List.cons.injEq, Value.bool.injEq, Value.slice.injEq, and_true] at e
 obtain ⟨rfl, ⟨rfl, rfl, rfl⟩, rfl, rfl, rfl, rfl⟩ := e
 exact ⟨p, q, h1, h2, h3⟩
theorem RRat.open {x : Rat} {n : Nat} {v : Value} {w : World} (h : RRat x n v w) : ∃ (k : Bool) (A : Option Addr) (l c : Nat) (k' : Bool) (A' : Option Addr) (l' c' : Nat), v = .agg #[.bool k, .slice A l c, .bool k', .slice A' l' c'] := by
 obtain ⟨p, q, k2, A2, l2, c2, k3, A3, l3, c3, e, -⟩ := h
 exact ⟨_, _, _, _, _, _, _, _, e⟩
def AS.Fact.int (z : Int) (n : Nat) : AS.Fact := ⟨PInt z n, fun _ _ _ hk h => h.kept hk⟩
def AS.Fact.ref (z : Int) (n : Nat) : AS.Fact := ⟨PRef z n, fun _ _ _ hk h => h.kept hk⟩
def AS.Fact.rat (x : Rat) (n : Nat) : AS.Fact := ⟨PRat x n, fun _ _ _ hk h => h.kept hk⟩
def AS.Fact.rrat (x : Rat) (n : Nat) : AS.Fact := ⟨RRat x n, fun _ _ _ hk h => h.kept hk⟩
def JNo (W : World) : Nat → List Value → World → Prop := fun _ _ w => Below W.heap.size W w
theorem JNo.st (W : World) : ∀ k l w w', Below w.heap.size w w' → JNo W k l w → JNo W k l w' := fun _ _ _ _ hb h => below_then h hb h.size
def JRes (w0 W : World) (t : TypeId) (g : Nat) : Nat → List Value → World → Prop
 | 0, _, w => Below W.heap.size W w
 | _ + 1, l, w => (Below w0.heap.size w0 w ∧ w0.heap.size ≤ w.heap.size) ∧ ∃ vs : List Value, l = [.agg vs.toArray] ∧ Bx t w g vs
theorem JRes.st (w0 W : World) (t : TypeId) (g : Nat) : ∀ k l w w', Below w.heap.size w w' → JRes w0 W t g k l w → JRes w0 W t g k l w'
 | 0, _, _, _, hb, h => below_then h hb h.size
 | _ + 1, _, _, _, hb, ⟨⟨h1, h2⟩, vs, h3, h4⟩ => ⟨⟨below_then h1 hb h2, Nat.le_trans h2 hb.size⟩, vs, h3, h4.up hb⟩
def JRes2 (w0 W : World) (t t' : TypeId) (g g' : Nat) (ob : List (TypeId × Nat × List Value)) : Nat → List Value → World → Prop
 | 0, _, w => Below W.heap.size W w
 | 1, l, w => (Below w0.heap.size w0 w ∧ w0.heap.size ≤ w.heap.size) ∧ (∀ b ∈ ob, Bx b.1 w b.2.1 b.2.2) ∧ (∃ vs : List Value, l = [.agg vs.toArray] ∧ Bx t w g vs) ∧ ∃ x y, Bx t' w g' [x, y]
 | _ + 2, l, w => (Below w0.heap.size w0 w ∧ w0.heap.size ≤ w.heap.size) ∧ (∀ b ∈ ob, Bx b.1 w b.2.1 b.2.2) ∧ ∃ vs vs' : List Value, l = [.agg vs.toArray, .agg vs'.toArray] ∧ Bx t w g vs ∧ Bx t' w g' vs'
theorem JRes2.st (w0 W : World) (t t' : TypeId) (g g' : Nat) (ob : List (TypeId × Nat × List Value)) : ∀ k l w w', Below w.heap.size w w' → JRes2 w0 W t t' g g' ob k l w → JRes2 w0 W t t' g g' ob k l w'
 | 0, _, _, _, hb, h => below_then h hb h.size
 | 1, _, _, _, hb, ⟨⟨h1, h2⟩, h0, ⟨vs, h3, h4⟩, x, y, h5⟩ => ⟨⟨below_then h1 hb h2, Nat.le_trans h2 hb.size⟩, fun b hb' => (h0 b hb').up hb, ⟨vs, h3, h4.up hb⟩, x, y, h5.up hb⟩
 | _ + 2, _, _, _, hb, ⟨⟨h1, h2⟩, h0, vs, vs', h3, h4, h5⟩ => ⟨⟨below_then h1 hb h2, Nat.le_trans h2 hb.size⟩, fun b hb' => (h0 b hb').up hb, vs, vs', h3, h4.up hb, h5.up hb⟩
def IsBox (t : TypeId) (B : Nat) (v : Value) (w : World) : Prop := ∃ g x y, v = .pointer (some ⟨g, 0, none⟩) ∧ B ≤ g ∧ Bx t w g [x, y]
def AS.Fact.isBox (t : TypeId) (B : Nat) : AS.Fact := ⟨IsBox t B, fun _ _ _ hk ⟨g, x, y, e, hB, h⟩ => by
 obtain ⟨vs', hl, h2⟩ := hk.box t g [x, y] (by simp) h
 match vs', hl, h2 with
 | [x', y'], _, h2 => exact ⟨g, x', y', e, hB, h2⟩⟩
theorem IsBox.new {t : TypeId} {B : Nat} (w : World) (hB : B ≤ w.heap.size) : IsBox t B (.pointer (some ⟨w.heap.size, 0, none⟩)) (w.alloc (.cells #[.bool false, .slice none 0 0] t)) :=
 ⟨w.heap.size, _, _, rfl, hB, Bx.new t w [.bool false, .slice none 0 0] (leaf2 (Leaf.bool _) (Leaf.slice _ _ _))⟩
def JFst (W : World) (t : TypeId) : Nat → List Value → World → Prop
 | 0, _, w => Below W.heap.size W w
 | _ + 1, l, w => Below W.heap.size W w ∧ ∃ (g : Nat) (vs : List Value), l = [.agg vs.toArray, .pointer (some ⟨g, 0, none⟩)] ∧ W.heap.size ≤ g ∧ Bx t w g vs
theorem JFst.st (W : World) (t : TypeId) : ∀ k l w w', Below w.heap.size w w' → JFst W t k l w → JFst W t k l w'
 | 0, _, _, _, hb, h => below_then h hb h.size
 | _ + 1, _, _, _, hb, ⟨h1, g, vs, h3, h4, h5⟩ => ⟨below_then h1 hb h1.size, g, vs, h3, h4, h5.up hb⟩
def QuoP (q r : Int) (n : Nat) (v : Value) (w : World) : Prop := ∃ a b, v = .tuple #[a, b, .int .i64 0] ∧ PInt q n a w ∧ PInt r n b w
def AS.Fact.quo (q r : Int) (n : Nat) : AS.Fact := ⟨QuoP q r n, fun _ _ _ hk ⟨a, b, e, h1, h2⟩ => ⟨a, b, e, h1.kept hk, h2.kept hk⟩⟩
def smSt (o d : Nat) (D M : List Nat) : Nat → List Nat × Nat
 | 0 => (M, 0)
 | k + 1 => if nth (smSt o d D M k).1 (o + k) < ((smSt o d D M k).2 + d * nth D k) % 1000000000
   then ((smSt o d D M k).1.set (o + k) (nth (smSt o d D M k).1 (o + k) + 1000000000 - ((smSt o d D M k).2 + d * nth D k) % 1000000000), ((smSt o d D M k).2 + d * nth D k) / 1000000000 + 1)
   else ((smSt o d D M k).1.set (o + k) (nth (smSt o d D M k).1 (o + k) - ((smSt o d D M k).2 + d * nth D k) % 1000000000), ((smSt o d D M k).2 + d * nth D k) / 1000000000)
theorem smSt_succ (o d : Nat) (D M : List Nat) (k : Nat) : smSt o d D M (k + 1) = if nth (smSt o d D M k).1 (o + k) < ((smSt o d D M k).2 + d * nth D k) % 1000000000
      then ((smSt o d D M k).1.set (o + k) (nth (smSt o d D M k).1 (o + k) + 1000000000 - ((smSt o d D M k).2 + d * nth D k) % 1000000000), ((smSt o d D M k).2 + d * nth D k) / 1000000000 + 1)
      else ((smSt o d D M k).1.set (o + k) (nth (smSt o d D M k).1 (o + k) - ((smSt o d D M k).2 + d * nth D k) % 1000000000), ((smSt o d D M k).2 + d * nth D k) / 1000000000) := rfl
theorem smSt_ok {o d : Nat} {D M : List Nat} (hD : Lim D) (hM : Lim M) (k : Nat) :
  Lim (smSt o d D M k).1 ∧ (smSt o d D M k).2 ≤ d + 1 ∧ (smSt o d D M k).1.length = M.length := by
 induction k with
 | zero => exact ⟨hM, by simp [smSt], rfl⟩
 | succ k ih =>
  obtain ⟨h1, h2, h3⟩ := ih
  have a := h1.nth (o + k)
  have b : d * nth D k ≤ d * 999999999 := Nat.mul_le_mul_left _ (by have := hD.nth k; omega)
  rw [smSt_succ]
  split
  ·exact ⟨h1.set _ (by omega), by show _ / _ + 1 ≤ _; omega, by simp [h3]⟩
  ·exact ⟨h1.set _ (by omega), by show _ / _ ≤ _; omega, by simp [h3]⟩
theorem smSt_val {o d : Nat} {D M : List Nat} (hD : Lim D) (hM : Lim M) (k : Nat) (hk : o + k ≤ M.length) :
  valB 1000000000 (smSt o d D M k).1 + 1000000000 ^ o * (d * valB 1000000000 (D.take k)) = valB 1000000000 M + 1000000000 ^ (o + k) * (smSt o d D M k).2 := by
 induction k with
 | zero => simp [smSt, valB]
 | succ k ih =>
  replace ih := ih (by omega)
  obtain ⟨h1, h2, hl⟩ := smSt_ok (o := o) (d := d) hD hM k
  have a := h1.nth (o + k)
  rw [smSt_succ]
  have hbt : valB 1000000000 (D.take (k + 1)) = valB 1000000000 (D.take k) + 1000000000 ^ k * nth D k := by
   rcases Nat.lt_or_ge k D.length with h | h
   ·exact valB_take_succ _ _ _ h
   ·rw [valB_take_over _ _ _ h, valB_take_over _ _ _ (by omega), nth_ge h]; simp
  rw [hbt]
  have hs := fun v => valB_set 1000000000 (smSt o d D M k).1 (o + k) v (by omega)
  generalize smSt o d D M k = q at *
  obtain ⟨Q, y⟩ := q
  dsimp only at *
  have ht := Nat.div_add_mod (y + d * nth D k) 1000000000
  have ht2 : (y + d * nth D k) % 1000000000 < 1000000000 := Nat.mod_lt _ (by omega)
  generalize (y + d * nth D k) % 1000000000 = t at *
  generalize (y + d * nth D k) / 1000000000 = c at *
  rw [← Nat.add_assoc, Nat.pow_succ]
  have e : (1000000000 : Nat) ^ (o + k) = 1000000000 ^ o * 1000000000 ^ k := Nat.pow_add _ _ _
  rw [e] at hs ih ⊢
  generalize (1000000000 : Nat) ^ o = po at *
  generalize (1000000000 : Nat) ^ k = pj at *
  generalize valB 1000000000 M = VM at *
  generalize valB 1000000000 (D.take k) = VB at *
  split
  ·rename_i hlt
   have hs' := hs (nth Q (o + k) + 1000000000 - t)
   obtain ⟨v, hv⟩ : ∃ v, nth Q (o + k) + 1000000000 - t = v := ⟨_, rfl⟩
   have hv2 : v + t = nth Q (o + k) + 1000000000 := by omega
   rw [hv] at hs' ⊢
   dsimp only
   generalize valB 1000000000 (Q.set (o + k) v) = V at *
   generalize valB 1000000000 Q = VQ at *
   generalize nth D k = bj at *
   generalize nth Q (o + k) = qj at *
   have h3 : po * pj * (v + t) = po * pj * (qj + 1000000000) := by rw [hv2]
   have h4 : po * pj * (1000000000 * c + t) = po * pj * (y + d * bj) := by rw [ht]
   clear hs hv hv2 hbt hl a ht ht2 h1 h2 hD hM hk hlt e
   grind
  ·rename_i hge
   have hs' := hs (nth Q (o + k) - t)
   obtain ⟨v, hv⟩ : ∃ v, nth Q (o + k) - t = v := ⟨_, rfl⟩
   have hv2 : v + t = nth Q (o + k) := by omega
   rw [hv] at hs' ⊢
   dsimp only
   generalize valB 1000000000 (Q.set (o + k) v) = V at *
   generalize valB 1000000000 Q = VQ at *
   generalize nth D k = bj at *
   generalize nth Q (o + k) = qj at *
   have h3 : po * pj * (v + t) = po * pj * qj := by rw [hv2]
   have h4 : po * pj * (1000000000 * c + t) = po * pj * (y + d * bj) := by rw [ht]
   clear hs hv hv2 hbt hl a ht ht2 h1 h2 hD hM hk hge e
   grind
theorem smSt_high {o d : Nat} {D M : List Nat} (k j : Nat) (hj : o + k ≤ j) : nth (smSt o d D M k).1 j = nth M j := by
 induction k with
 | zero => rfl
 | succ k ih =>
  rw [smSt_succ]
  split
  ·dsimp only; rw [nth_set_ne (by omega)]; exact ih (by omega)
  ·dsimp only; rw [nth_set_ne (by omega)]; exact ih (by omega)
theorem addSt_high {o : Nat} {B M : List Nat} (k j : Nat) (hj : o + k ≤ j) : nth (addSt o B M k).1 j = nth M j := by
 induction k with
 | zero => rfl
 | succ k ih => rw [addSt_succ]; dsimp only; rw [nth_set_ne (by omega)]; exact ih (by omega)
theorem valB_split (b : Nat) (L : List Nat) (m : Nat) : valB b L = valB b (L.take m) + b ^ (min m L.length) * valB b (L.drop m) := by
 have h := valB_append b (L.take m) (L.drop m)
 rw [List.take_append_drop, List.length_take] at h
 exact h
theorem valB_take_le (b : Nat) (L : List Nat) (m : Nat) : valB b (L.take m) ≤ valB b L := by
 have := valB_split b L m; omega
theorem valB_allzero (b : Nat) : ∀ L : List Nat, (∀ k, nth L k = 0) → valB b L = 0
 | [], _ => rfl
 | d :: L, h => by
  have h0 : d = 0 := by simpa [nth] using h 0
  have h1 := valB_allzero b L (fun k => by simpa [nth] using h (k + 1))
  simp [valB, h0, h1]
theorem nth_drop (L : List Nat) (m k : Nat) : nth (L.drop m) k = nth L (m + k) := by simp [nth, List.getElem?_drop]
theorem val_high {L : List Nat} (hL : Lim L) (m : Nat) (h : ∀ j, m ≤ j → nth L j = 0) : val9 L < 1000000000 ^ m := by
 have h1 := valB_split 1000000000 L m
 rw [valB_allzero _ (L.drop m) (fun k => by rw [nth_drop]; exact h _ (by omega)), Nat.mul_zero, Nat.add_zero] at h1
 have h2 := valB_lt (hL.take m)
 have h3 : (1000000000 : Nat) ^ (L.take m).length ≤ 1000000000 ^ m := Nat.pow_le_pow_right (by omega) (by rw [List.length_take]; omega)
 unfold val9
 omega
theorem val_small {L : List Nat} {m : Nat} (h : val9 L < 1000000000 ^ m) (j : Nat) (hj : m ≤ j) : nth L j = 0 := by
 rcases Nat.lt_or_ge j L.length with hlt | hge
 ·have h1 := valB_take_succ 1000000000 L j hlt
  have h2 := valB_take_le 1000000000 L (j + 1)
  have h3 : (1000000000 : Nat) ^ m ≤ 1000000000 ^ j := Nat.pow_le_pow_right (by omega) hj
  rcases Nat.eq_zero_or_pos (nth L j) with h0 | h0
  ·exact h0
  ·have h4 : 1000000000 ^ j * 1 ≤ 1000000000 ^ j * nth L j := Nat.mul_le_mul_left _ h0
   unfold val9 at h
   omega
 ·exact nth_ge hge
theorem val_div {L : List Nat} (hL : Lim L) (m : Nat) (hm : m ≤ L.length) : val9 L / 1000000000 ^ m = val9 (L.drop m) := by
 have h1 := valB_split 1000000000 L m
 have h2 := valB_lt (hL.take m)
 rw [List.length_take, Nat.min_eq_left hm] at h2
 rw [Nat.min_eq_left hm] at h1
 unfold val9
 rw [h1, Nat.add_mul_div_left _ _ (Nat.pow_pos (by omega)), Nat.div_eq_of_lt h2, Nat.zero_add]
theorem knuth {P D S B : Nat} (hS : 0 < S) (hP : P < B * D) (h2 : B ≤ D / S) (_hB : 0 < B) : P / D ≤ P / S / (D / S) ∧ P / S / (D / S) ≤ P / D + 1 := by
 have hD : 0 < D := by
  rcases Nat.eq_zero_or_pos D with h | h
  ·subst h; simp at h2; omega
  ·exact h
 have hq : P / D < B := by rw [Nat.div_lt_iff_lt_mul hD]; exact hP
 have hqD : P / D * D ≤ P := Nat.div_mul_le_self P D
 have hqD2 : P < (P / D + 1) * D := by have := Nat.lt_mul_div_succ P hD; rw [Nat.mul_comm]; exact this
 have hDS : D / S * S ≤ D := Nat.div_mul_le_self D S
 have hDS2 : D < (D / S + 1) * S := by have := Nat.lt_mul_div_succ D hS; rw [Nat.mul_comm]; exact this
 have hPS : P / S * S ≤ P := Nat.div_mul_le_self P S
 generalize P / D = q at *
 generalize D / S = e at *
 constructor
 ·rw [Nat.le_div_iff_mul_le (by omega), Nat.le_div_iff_mul_le hS]
  have h1 : q * (e * S) ≤ q * D := Nat.mul_le_mul_left _ hDS
  rw [Nat.mul_assoc]
  omega
 ·have : P / S / e < q + 2 := by
   rw [Nat.div_lt_iff_lt_mul (by omega)]
   rcases Nat.lt_or_ge (P / S) ((q + 2) * e) with h | h
   ·exact h
   ·exfalso
    have h3 : (q + 2) * e * S ≤ P / S * S := Nat.mul_le_mul_right _ h
    have h4 : (q + 1) * D ≤ (q + 1) * ((e + 1) * S) := Nat.mul_le_mul_left _ (by omega)
    have h5 : (q + 2) * e * S < (q + 1) * (e + 1) * S := by rw [Nat.mul_assoc (q + 1)]; omega
    have h6 : (q + 2) * e < (q + 1) * (e + 1) := Nat.lt_of_mul_lt_mul_right h5
    have h7 : (q + 2) * e = (q + 1) * e + e := by rw [Nat.add_mul, Nat.add_mul]; omega
    have h8 : (q + 1) * (e + 1) = (q + 1) * e + (q + 1) := by rw [Nat.mul_add]; omega
    omega
  omega
def top3 (R : List Nat) (j : Nat) : Nat := (nth R (j + 2) * 1000000000 + nth R (j + 1)) * 1000000000 + nth R j
def top2 (D : List Nat) (n : Nat) : Nat := nth D (n - 1) * 1000000000 + nth D (n - 2)
theorem valB_drop9 (L : List Nat) (k : Nat) : val9 (L.drop k) = nth L k + 1000000000 * val9 (L.drop (k + 1)) := by
 rcases Nat.lt_or_ge k L.length with h | h
 ·exact valB_drop _ _ _ h
 ·rw [List.drop_eq_nil_of_le h, List.drop_eq_nil_of_le (by omega), nth_ge h]; rfl
theorem top3_val {R : List Nat} (hR : Lim R) (j : Nat) (hj : j ≤ R.length) (hz : ∀ k, j + 3 ≤ k → nth R k = 0) : val9 R / 1000000000 ^ j = top3 R j := by
 have h0 : val9 (R.drop (j + 3)) = 0 := valB_allzero _ _ (fun k => by rw [nth_drop]; exact hz _ (by omega))
 have h1 := valB_drop9 R j
 have h2 := valB_drop9 R (j + 1)
 have h3 := valB_drop9 R (j + 2)
 rw [val_div hR j hj]
 unfold top3
 rw [show j + 1 + 1 = j + 2 from rfl] at h2
 rw [show j + 2 + 1 = j + 3 from rfl] at h3
 omega
theorem top2_val {D : List Nat} (hD : Lim D) (n : Nat) (hn : D.length = n) (h2 : 2 ≤ n) : val9 D / 1000000000 ^ (n - 2) = top2 D n := by
 have h0 : val9 (D.drop n) = 0 := by rw [List.drop_eq_nil_of_le (by omega)]; rfl
 have h1 := valB_drop9 D (n - 2)
 have h3 := valB_drop9 D (n - 2 + 1)
 rw [val_div hD (n - 2) (by omega)]
 unfold top2
 rw [show n - 2 + 1 + 1 = n by omega] at h3
 rw [show n - 2 + 1 = n - 1 by omega] at h1 h3
 omega
def digQ (i : Nat) (D R : List Nat) : Nat := val9 R / 1000000000 ^ i / val9 D
structure DigOk (i n d : Nat) (D R : List Nat) : Prop where
 yes : (smSt i d D R (n + 1)).2 = 0 → d = digQ i D R ∧ val9 (smSt i d D R (n + 1)).1 + 1000000000 ^ i * (digQ i D R * val9 D) = val9 R
 no : (smSt i d D R (n + 1)).2 ≠ 0 → d = digQ i D R + 1 ∧ val9 (addSt i D (smSt i d D R (n + 1)).1 (n + 1)).1 + 1000000000 ^ i * (digQ i D R * val9 D) = val9 R
theorem dig_ok {i n d : Nat} {D R : List Nat} (hD : Lim D) (hn : D.length = n) (h2 : 2 ≤ n) (hR : Lim R) (hlen : i + n + 1 ≤ R.length) (htop : 0 < nth D (n - 1))
  (hV : val9 R < val9 D * 1000000000 ^ (i + 1)) (hd : d = top3 R (i + n - 2) / top2 D n) : DigOk i n d D R := by
 have hDn : val9 D < 1000000000 ^ n := by have := valB_lt hD; rw [hn] at this; exact this
 have hE : (1000000000 : Nat) ^ (i + n + 1) = 1000000000 ^ n * 1000000000 ^ (i + 1) := by rw [← Nat.pow_add]; congr 1; omega
 have hVE : val9 R < 1000000000 ^ (i + n + 1) := by
  rw [hE]; exact Nat.lt_of_lt_of_le hV (Nat.mul_le_mul_right _ (Nat.le_of_lt hDn))
 have hz := fun j hj => val_small hVE j hj
 have e3 := top3_val hR (i + n - 2) (by omega) (fun k hk => hz k (by omega))
 have e2 := top2_val hD n hn h2
 have hT : 0 < (1000000000 : Nat) ^ i := Nat.pow_pos (by omega)
 have hS : 0 < (1000000000 : Nat) ^ (n - 2) := Nat.pow_pos (by omega)
 have hB2 : 1000000000 ≤ top2 D n := by unfold top2; omega
 have hDpos : 0 < val9 D := by
  rcases Nat.eq_zero_or_pos (val9 D) with h | h
  ·rw [h] at e2; simp at e2; omega
  ·exact h
 have hP : val9 R / 1000000000 ^ i < 1000000000 * val9 D := by
  rw [Nat.div_lt_iff_lt_mul hT]
  rw [Nat.pow_succ] at hV
  have : 1000000000 * val9 D * 1000000000 ^ i = val9 D * (1000000000 ^ i * 1000000000) := by
   rw [Nat.mul_comm 1000000000 (val9 D), Nat.mul_assoc, Nat.mul_comm 1000000000]
  omega
 have e4 : val9 R / 1000000000 ^ (i + n - 2) = val9 R / 1000000000 ^ i / 1000000000 ^ (n - 2) := by
  rw [Nat.div_div_eq_div_mul, ← Nat.pow_add]; congr 2; omega
 have hk := knuth hS hP (by rw [e2]; exact hB2) (by omega)
 rw [← e4, e3, e2, ← hd] at hk
 have hlow : 1000000000 ^ i * (val9 R / 1000000000 ^ i) ≤ val9 R := Nat.mul_div_le _ _
 have hup : val9 R < 1000000000 ^ i * (val9 R / 1000000000 ^ i + 1) := Nat.lt_mul_div_succ _ hT
 have hqD : val9 R / 1000000000 ^ i / val9 D * val9 D ≤ val9 R / 1000000000 ^ i := Nat.div_mul_le_self _ _
 have hqD2 : val9 R / 1000000000 ^ i < (val9 R / 1000000000 ^ i / val9 D + 1) * val9 D := by have := Nat.lt_mul_div_succ (val9 R / 1000000000 ^ i) hDpos; rw [Nat.mul_comm]; exact this
 have hs := smSt_val (o := i) (d := d) hD hR (n + 1) (by omega)
 rw [valB_take_over _ _ _ (by omega)] at hs
 have hsok := smSt_ok (o := i) (d := d) hD hR (n + 1)
 have hsz : val9 (smSt i d D R (n + 1)).1 < 1000000000 ^ (i + n + 1) := val_high hsok.1 _ (fun j hj => by rw [smSt_high (n + 1) j (by omega)]; exact hz j hj)
 have ha := addSt_val (o := i) hD hsok.1 (n + 1) (by rw [hsok.2.2]; omega)
 rw [valB_take_over _ _ _ (by omega)] at ha
 have haok := addSt_ok (o := i) hD hsok.1 (n + 1)
 have haz : val9 (addSt i D (smSt i d D R (n + 1)).1 (n + 1)).1 < 1000000000 ^ (i + n + 1) := val_high haok.1 _ (fun j hj => by rw [addSt_high (n + 1) j (by omega), smSt_high (n + 1) j (by omega)]; exact hz j hj)
 have hTD : 1000000000 ^ i * val9 D < 1000000000 ^ (i + n + 1) := by
  have h1 : 1000000000 ^ i * val9 D < 1000000000 ^ i * 1000000000 ^ n := Nat.mul_lt_mul_of_pos_left hDn hT
  rw [← Nat.pow_add] at h1
  have h2 : (1000000000 : Nat) ^ (i + n) ≤ 1000000000 ^ (i + n + 1) := Nat.pow_le_pow_right (by omega) (by omega)
  omega
 rw [← Nat.add_assoc] at hs ha
 have hac := haok.2.1
 suffices key : ((smSt i d D R (n + 1)).2 = 0 → d = val9 R / 1000000000 ^ i / val9 D ∧ val9 (smSt i d D R (n + 1)).1 + 1000000000 ^ i * (val9 R / 1000000000 ^ i / val9 D * val9 D) = val9 R) ∧
   ((smSt i d D R (n + 1)).2 ≠ 0 → d = val9 R / 1000000000 ^ i / val9 D + 1 ∧ val9 (addSt i D (smSt i d D R (n + 1)).1 (n + 1)).1 + 1000000000 ^ i * (val9 R / 1000000000 ^ i / val9 D * val9 D) = val9 R) from ⟨key.1, key.2⟩
 unfold val9 at *
 clear e2 e3 e4 hz hsok haok hE hVE hP hB2 htop hd
 generalize (smSt i d D R (n + 1)).2 = c at *
 generalize (addSt i D (smSt i d D R (n + 1)).1 (n + 1)).2 = c2 at *
 generalize valB 1000000000 (addSt i D (smSt i d D R (n + 1)).1 (n + 1)).1 = W2 at *
 generalize valB 1000000000 (smSt i d D R (n + 1)).1 = W at *
 generalize (1000000000 : Nat) ^ (i + n + 1) = E at *
 generalize valB 1000000000 R / 1000000000 ^ i / valB 1000000000 D = q at *
 generalize valB 1000000000 R / 1000000000 ^ i = P at *
 generalize (1000000000 : Nat) ^ i = T at *
 generalize valB 1000000000 R = V at *
 generalize valB 1000000000 D = X at *
 have hTP : T * (q * X) ≤ T * P := Nat.mul_le_mul_left _ hqD
 have hTP2 : T * (P + 1) ≤ T * ((q + 1) * X) := Nat.mul_le_mul_left _ hqD2
 have e5 : T * ((q + 1) * X) = T * (q * X) + T * X := by rw [Nat.add_mul, Nat.one_mul, Nat.mul_add]
 have hdq : d = q ∨ d = q + 1 := by omega
 refine ⟨fun hc => ?_, fun hc => ?_⟩
 ·subst hc
  rw [Nat.mul_zero, Nat.add_zero] at hs
  rcases hdq with h | h
  ·subst h; exact ⟨rfl, hs⟩
  ·subst h
   rw [e5] at hs
   omega
 ·rcases hdq with h | h
  ·subst h
   exfalso
   have : E * 1 ≤ E * c := Nat.mul_le_mul_left _ (by omega)
   omega
  ·refine ⟨h, ?_⟩
   subst h
   rw [e5] at hs
   have hc1 : c = 1 := by
    rcases Nat.lt_or_ge c 2 with h | h
    ·omega
    ·exfalso
     have : E * 2 ≤ E * c := Nat.mul_le_mul_left _ h
     omega
   subst hc1
   have hc2 : c2 = 0 ∨ c2 = 1 := by omega
   rcases hc2 with h | h
   ·subst h; omega
   ·subst h; omega
theorem dig_less {i V X N : Nat} (hX : 0 < X) (hV : V < X * 1000000000 ^ (i + 1)) (hN : N + 1000000000 ^ i * (V / 1000000000 ^ i / X * X) = V) : N < X * 1000000000 ^ i ∧ V / 1000000000 ^ i / X < 1000000000 := by
 have hT : 0 < (1000000000 : Nat) ^ i := Nat.pow_pos (by omega)
 have hup : V < 1000000000 ^ i * (V / 1000000000 ^ i + 1) := Nat.lt_mul_div_succ _ hT
 have hqD2 : V / 1000000000 ^ i < (V / 1000000000 ^ i / X + 1) * X := by have := Nat.lt_mul_div_succ (V / 1000000000 ^ i) hX; rw [Nat.mul_comm]; exact this
 constructor
 ·have h1 : 1000000000 ^ i * (V / 1000000000 ^ i + 1) ≤ 1000000000 ^ i * ((V / 1000000000 ^ i / X + 1) * X) := Nat.mul_le_mul_left _ hqD2
  generalize V / 1000000000 ^ i / X = q at *
  have e5 : 1000000000 ^ i * ((q + 1) * X) = 1000000000 ^ i * (q * X) + X * 1000000000 ^ i := by rw [Nat.add_mul, Nat.one_mul, Nat.mul_add, Nat.mul_comm X]
  omega
 ·rw [Nat.div_lt_iff_lt_mul hX, Nat.div_lt_iff_lt_mul hT]
  rw [Nat.pow_succ] at hV
  have : 1000000000 * X * 1000000000 ^ i = X * (1000000000 ^ i * 1000000000) := by rw [Nat.mul_comm 1000000000 X, Nat.mul_assoc, Nat.mul_comm 1000000000]
  omega
structure LSt (x0 y0 : Nat) (e : Bool) (x y P Q R T u v m n : Nat) : Prop where
 tu : T * u + Q * v = x0 + 1
 ru : R * u + P * v = y0
 tm : T * m + Q * n = x0
 rm : R * m + P * n = y0 + 1
 e1 : e = true → x + P = u ∧ y = v + R ∧ x = m + Q ∧ y + T = n ∧ P * T = Q * R + 1
 e2 : e = false → x = u + P ∧ y + R = v ∧ x + Q = m ∧ y = n + T ∧ P * T + 1 = Q * R
 t1 : 1 ≤ T
 id : (e = true ∧ P = 1 ∧ Q = 0 ∧ R = 0 ∧ T = 1 ∧ x = x0 ∧ y = y0) ∨ (1 ≤ Q ∧ 1 ≤ R ∧ v < u ∧ n < m)
 p9 : P ≤ 1000000000
 q9 : Q ≤ 1000000000
 r9 : R ≤ 1000000000
 t9 : T ≤ 1000000000
theorem st_start {x0 y0 : Nat} : LSt x0 y0 true x0 y0 1 0 0 1 (x0 + 1) y0 x0 (y0 + 1) :=
 ⟨by omega, by omega, by omega, by omega, fun _ => by omega, fun h => by simp at h, by omega, Or.inl ⟨rfl, rfl, rfl, rfl, rfl, rfl, rfl⟩, by omega, by omega, by omega, by omega⟩
theorem sq_small {a b : Nat} (h : a * b ≤ 1000000000000000000) (h1 : a < b) : a ≤ 1000000000 := by
 rcases Nat.lt_or_ge 1000000000 a with h2 | h2
 ·have := Nat.mul_le_mul (show 1000000001 ≤ a by omega) (show 1000000001 ≤ b by omega)
  omega
 ·exact h2
theorem st_step {x0 y0 x y P Q R T u v m n q : Nat} {e : Bool} (h : LSt x0 y0 e x y P Q R T u v m n) (hx : x0 < 1000000000000000000) (hy : y0 ≤ x0) (hv : 0 < v) (hn : 0 < n) (hq : u / v = q) (hq2 : m / n = q) :
    q * y ≤ x ∧ 1 ≤ q ∧ 1 ≤ y ∧ LSt x0 y0 (!e) y (x - q * y) R T (P + q * R) (Q + q * T) v (u - q * v) n (m - q * n) := by
  have d1 : q * v ≤ u := by rw [← hq]; exact Nat.div_mul_le_self _ _
  have d2 : q * n ≤ m := by rw [← hq2]; exact Nat.div_mul_le_self _ _
  have d3 : u - q * v < v := by have := Nat.mod_lt u hv; rw [Nat.mod_def, hq, Nat.mul_comm] at this; exact this
  have d4 : m - q * n < n := by have := Nat.mod_lt m hn; rw [Nat.mod_def, hq2, Nat.mul_comm] at this; exact this
  have hq1 : 1 ≤ q := by
    rw [← hq]
    have : v ≤ u := by
      rcases h.id with ⟨i1, i2, i3, i4, i5, i6, i7⟩ | ⟨_, _, h3, _⟩
      · have := h.e1 i1; omega
      · omega
    exact Nat.div_pos this hv
  obtain ⟨v2, hv2⟩ : ∃ v2, u - q * v = v2 := ⟨_, rfl⟩
  obtain ⟨n2, hn2⟩ : ∃ n2, m - q * n = n2 := ⟨_, rfl⟩
  have f1 : u = v2 + q * v := by omega
  have f2 : m = n2 + q * n := by omega
  rw [hv2, hn2]
  rw [hv2] at d3
  rw [hn2] at d4
  have a1 : (Q + q * T) * v + T * v2 = x0 + 1 := by rw [← h.tu, f1]; grind
  have a2 : (P + q * R) * v + R * v2 = y0 := by rw [← h.ru, f1]; grind
  have a3 : (Q + q * T) * n + T * n2 = x0 := by rw [← h.tm, f2]; grind
  have a4 : (P + q * R) * n + R * n2 = y0 + 1 := by rw [← h.rm, f2]; grind
  have t1 := h.t1
  have hT2 : 1 ≤ Q + q * T := by
    have := Nat.mul_le_mul hq1 t1
    omega
  have hR2 : 1 ≤ P + q * R := by
    rcases h.id with ⟨i1, i2, _⟩ | ⟨_, h2, _, _⟩
    · omega
    · have := Nat.mul_le_mul hq1 h2; omega
  obtain ⟨R2, hR⟩ : ∃ R2, P + q * R = R2 := ⟨_, rfl⟩
  obtain ⟨T2, hT⟩ : ∃ T2, Q + q * T = T2 := ⟨_, rfl⟩
  rw [hR] at a2 a4 hR2 ⊢
  rw [hT] at a1 a3 hT2 ⊢
  have b1 : T2 * v ≤ x0 + 1 := by omega
  have b2 : R2 * v ≤ y0 := by omega
  have b3 : T2 * n ≤ x0 := by omega
  have b4 : R2 * n ≤ y0 + 1 := by omega
  cases e with
  | true =>
    obtain ⟨c1, c2, c3, c4, c5⟩ := h.e1 rfl
    have y1 : 1 ≤ y := by omega
    have z1 : q * y + T2 + n2 = x := by rw [c3, f2, ← hT, ← c4]; grind
    have z2 : q * y + v2 = x + R2 := by rw [← hR, c2]; have : x + P = v2 + q * v := by omega
                                        grind
    have z3 : v2 = x - q * y + R2 := by omega
    refine ⟨by omega, hq1, y1, ⟨a1, a2, a3, a4, fun h => by simp at h, fun _ => ⟨by omega, by omega, by omega, by omega, ?_⟩, hT2, Or.inr ⟨t1, hR2, d3, d4⟩, h.r9, h.t9, sq_small (b := v) (by omega) (by omega), sq_small (b := v) (by omega) (by omega)⟩⟩
    rw [← hR, ← hT]; grind
  | false =>
    obtain ⟨c1, c2, c3, c4, c5⟩ := h.e2 rfl
    have y1 : 1 ≤ y := by omega
    have z1 : q * y + R2 + v2 = x := by rw [c1, f1, ← hR, ← c2]; grind
    have z2 : q * y + n2 = x + T2 := by rw [← hT, c4]; have : x + Q = n2 + q * n := by omega
                                        grind
    refine ⟨by omega, hq1, y1, ⟨a1, a2, a3, a4, fun _ => ⟨by omega, by omega, by omega, by omega, ?_⟩, fun h => by simp at h, hT2, Or.inr ⟨t1, hR2, d3, d4⟩, h.r9, h.t9, sq_small (b := n) (by omega) (by omega), sq_small (b := n) (by omega) (by omega)⟩⟩
    rw [← hR, ← hT]; grind
def sg (e : Bool) (n : Nat) : Int := if e then (n : Int) else -(n : Int)
theorem sg_box (e : Bool) {n : Nat} (h : n ≤ 1000000000) : -1000000000 ≤ sg e n ∧ sg e n ≤ 1000000000 := by
 unfold sg; split <;> omega
theorem gcd_lin {a b c d P Q R T : Nat} (h1 : T * c + Q * d = a) (h2 : R * c + P * d = b) (h3 : (c + Q * b = P * a ∧ d + R * a = T * b) ∨ (c + P * a = Q * b ∧ d + T * b = R * a)) : Nat.gcd c d = Nat.gcd a b := by
 apply Nat.dvd_antisymm
 ·have k1 := Nat.gcd_dvd_left c d
  have k2 := Nat.gcd_dvd_right c d
  refine Nat.dvd_gcd ?_ ?_
  ·rw [← h1]; exact Nat.dvd_add (Nat.dvd_mul_left_of_dvd k1 _) (Nat.dvd_mul_left_of_dvd k2 _)
  ·rw [← h2]; exact Nat.dvd_add (Nat.dvd_mul_left_of_dvd k1 _) (Nat.dvd_mul_left_of_dvd k2 _)
 ·have k1 := Nat.gcd_dvd_left a b
  have k2 := Nat.gcd_dvd_right a b
  have m1 := fun n => Nat.dvd_mul_left_of_dvd k1 n
  have m2 := fun n => Nat.dvd_mul_left_of_dvd k2 n
  rcases h3 with ⟨h4, h5⟩ | ⟨h4, h5⟩
  ·exact Nat.dvd_gcd ((Nat.dvd_add_left (m2 Q)).1 (by rw [h4]; exact m1 P)) ((Nat.dvd_add_left (m1 R)).1 (by rw [h5]; exact m2 T))
  ·exact Nat.dvd_gcd ((Nat.dvd_add_left (m1 P)).1 (by rw [h4]; exact m2 Q)) ((Nat.dvd_add_left (m2 T)).1 (by rw [h5]; exact m1 R))
structure SE (a b c d : Nat) (s0 s1 s2 s3 : Int) : Prop where
 c0 : (c : Int) = s0 * (a : Int) + s1 * (b : Int)
 d0 : (d : Int) = s2 * (a : Int) + s3 * (b : Int)
 ca : c ≤ a
 da : d ≤ a
 dc : d < c
 g : Nat.gcd c d = Nat.gcd a b
 less : c + d < a + b
theorem se_close {a b c d P Q R T : Nat} (e : Bool) (h1 : T * c + Q * d = a) (h2 : R * c + P * d = b) (he : e = true → c + Q * b = P * a ∧ d + R * a = T * b) (he2 : e = false → c + P * a = Q * b ∧ d + T * b = R * a)
  (hT : 1 ≤ T) (hQ : 1 ≤ Q) (hR : 1 ≤ R) (hdc : d < c) : SE a b c d (sg e P) (sg (!e) Q) (sg (!e) R) (sg e T) := by
 have a1 := Nat.mul_le_mul_right c hT
 have a2 := Nat.mul_le_mul_right d hQ
 have a3 := Nat.mul_le_mul_right c hR
 have hg : Nat.gcd c d = Nat.gcd a b := gcd_lin h1 h2 (by cases e; exact Or.inr (he2 rfl); exact Or.inl (he rfl))
 cases e with
 | true =>
  obtain ⟨k1, k2⟩ := he rfl
  refine ⟨?_, ?_, by omega, by omega, hdc, hg, by omega⟩
  ·have : ((c + Q * b : Nat) : Int) = ((P * a : Nat) : Int) := by rw [k1]
   simp only [Int.natCast_add, Int.natCast_mul] at this
   simp only [sg, if_true, Bool.not_true, Bool.false_eq_true, if_false]
   grind
  ·have : ((d + R * a : Nat) : Int) = ((T * b : Nat) : Int) := by rw [k2]
   simp only [Int.natCast_add, Int.natCast_mul] at this
   simp only [sg, if_true, Bool.not_true, Bool.false_eq_true, if_false]
   grind
 | false =>
  obtain ⟨k1, k2⟩ := he2 rfl
  refine ⟨?_, ?_, by omega, by omega, hdc, hg, by omega⟩
  ·have : ((c + P * a : Nat) : Int) = ((Q * b : Nat) : Int) := by rw [k1]
   simp only [Int.natCast_add, Int.natCast_mul] at this
   simp only [sg, if_true, Bool.not_false, Bool.false_eq_true, if_false]
   grind
  ·have : ((d + T * b : Nat) : Int) = ((R * a : Nat) : Int) := by rw [k2]
   simp only [Int.natCast_add, Int.natCast_mul] at this
   simp only [sg, if_true, Bool.not_false, Bool.false_eq_true, if_false]
   grind
theorem st_end {x0 y0 x y P Q R T u v m n S a b : Nat} {e : Bool} (h : LSt x0 y0 e x y P Q R T u v m n) (hS : 0 < S) (ha : a / S = x0) (hb : b / S = y0) (h1 : 1 ≤ Q) (h2 : 1 ≤ R) (h3 : v < u) (h4 : n < m) :
  ∃ c d, SE a b c d (sg e P) (sg (!e) Q) (sg (!e) R) (sg e T) := by
 obtain ⟨ra, ra', ea, ea2⟩ : ∃ ra ra', a = S * x0 + ra ∧ S = ra + ra' := by
  refine ⟨a % S, S - a % S, ?_, ?_⟩
  ·rw [← ha]; exact (Nat.div_add_mod a S).symm
  ·have := Nat.mod_lt a hS; omega
 obtain ⟨rb, rb', eb, eb2⟩ : ∃ rb rb', b = S * y0 + rb ∧ S = rb + rb' := by
  refine ⟨b % S, S - b % S, ?_, ?_⟩
  ·rw [← hb]; exact (Nat.div_add_mod b S).symm
  ·have := Nat.mod_lt b hS; omega
 have tu := h.tu
 have ru := h.ru
 have tm := h.tm
 have rm := h.rm
 have t1 := h.t1
 clear ha hb
 cases e with
 | true =>
  obtain ⟨c1, c2, c3, c4, c5⟩ := h.e1 rfl
  obtain ⟨z, hz⟩ : ∃ z, m = n + 1 + z := ⟨m - n - 1, by omega⟩
  have k1 : P * x0 = x + Q * y0 := by
   have : P * x0 + Q = x + Q * (y0 + 1) := by rw [← tm, ← rm, c3]; grind
   grind
  have k2 : T * y0 = y + R * x0 := by
   have : T * y0 + R = y + R * (x0 + 1) := by rw [← tu, ← ru, c2]; grind
   grind
  obtain ⟨c, hc⟩ : ∃ c, S * m + Q * rb' + P * ra = c := ⟨_, rfl⟩
  obtain ⟨d, hd⟩ : ∃ d, S * v + R * ra' + T * rb = d := ⟨_, rfl⟩
  have q1 : c + Q * b = P * a := by rw [← hc, ea, eb]; grind
  have q2 : d + R * a = T * b := by rw [← hd, ea, eb]; grind
  refine ⟨c, d, se_close true ?_ ?_ (fun _ => ⟨q1, q2⟩) (fun h => by simp at h) t1 h1 h2 ?_⟩
  ·grind
  ·grind
  ·have w1 : c = d + S * (1 + z) + (Q + T) * rb' + (P + R) * ra := by rw [← hc, ← hd]; grind
   have w2 := Nat.mul_le_mul hS (show 1 ≤ 1 + z by omega)
   omega
 | false =>
  obtain ⟨c1, c2, c3, c4, c5⟩ := h.e2 rfl
  obtain ⟨z, hz⟩ : ∃ z, u = v + 1 + z := ⟨u - v - 1, by omega⟩
  have k1 : Q * y0 = x + P * x0 := by
   have : Q * y0 + P = x + P * (x0 + 1) := by rw [← tu, ← ru, c1]; grind
   grind
  have k2 : R * x0 = y + T * y0 := by
   have : R * x0 + T = y + T * (y0 + 1) := by rw [← tm, ← rm, c4]; grind
   grind
  obtain ⟨c, hc⟩ : ∃ c, S * u + P * ra' + Q * rb = c := ⟨_, rfl⟩
  obtain ⟨d, hd⟩ : ∃ d, S * n + T * rb' + R * ra = d := ⟨_, rfl⟩
  have q1 : c + P * a = Q * b := by rw [← hc, ea, eb]; grind
  have q2 : d + T * b = R * a := by rw [← hd, ea, eb]; grind
  refine ⟨c, d, se_close false ?_ ?_ (fun h => by simp at h) (fun _ => ⟨q1, q2⟩) t1 h1 h2 ?_⟩
  ·grind
  ·grind
  ·have w1 : c = d + S * (1 + z) + (P + R) * ra' + (Q + T) * rb := by rw [← hc, ← hd]; grind
   have w2 := Nat.mul_le_mul hS (show 1 ≤ 1 + z by omega)
   omega
open Go.RowKit
set_option maxHeartbeats 3200000
set_option maxRecDepth 100000
structure D64 (hi lo y s Z U T T1 q1 P1 V q0 : Nat) : Prop where
 zz : y * 2 ^ s = Z * 4294967296
 z1 : 0 < Z
 z2 : Z < 4294967296
 uu : U = hi * 2 ^ s + lo / 2 ^ (64 - s)
 u1 : hi * 2 ^ s < 18446744073709551616
 u2 : lo / 2 ^ (64 - s) < 2 ^ s
 u3 : U < Z * 4294967296
 tt : T = lo * 2 ^ s % 18446744073709551616
 t1 : T1 = T / 4294967296
 qq : q1 = U / Z
 q9 : q1 < 4294967296
 pp : P1 = q1 * Z
 p1 : P1 ≤ U
 p2 : U - P1 < Z
 vv : V = (U - P1) * 4294967296 + T1
 v2 : V < Z * 4294967296
 rr : q0 = V / Z
 r9 : q0 < 4294967296
 res : (hi * 18446744073709551616 + lo) / y = q1 * 4294967296 + q0
theorem d64_ok {hi lo y s : Nat} (h2 : hi < y) (h4 : lo < 18446744073709551616) (hs1 : 32 ≤ s) (hs2 : s ≤ 63) (hy : y < 2 ^ (64 - s)) (hy0 : 0 < y) :
  ∃ Z U T T1 q1 P1 V q0, D64 hi lo y s Z U T T1 q1 P1 V q0 := by
 have e32 : (2 : Nat) ^ s = 2 ^ (s - 32) * 4294967296 := by
  have : (4294967296 : Nat) = 2 ^ 32 := by decide
  rw [this, ← Nat.pow_add]; congr 1; omega
 have e64 : (2 : Nat) ^ (64 - s) * 2 ^ s = 18446744073709551616 := by
  have : (18446744073709551616 : Nat) = 2 ^ 64 := by decide
  rw [this, ← Nat.pow_add]; congr 1; omega
 have ez : (2 : Nat) ^ (64 - s) * 2 ^ (s - 32) = 4294967296 := by
  have : (4294967296 : Nat) = 2 ^ 32 := by decide
  rw [this, ← Nat.pow_add]; congr 1; omega
 have hp : 0 < (2 : Nat) ^ s := Nat.pow_pos (by omega)
 have hp2 : 0 < (2 : Nat) ^ (s - 32) := Nat.pow_pos (by omega)
 have hp3 : 0 < (2 : Nat) ^ (64 - s) := Nat.pow_pos (by omega)
 have zz : y * 2 ^ s = y * 2 ^ (s - 32) * 4294967296 := by rw [e32, Nat.mul_assoc]
 have z1 : 0 < y * 2 ^ (s - 32) := Nat.mul_pos hy0 hp2
 have z2 : y * 2 ^ (s - 32) < 4294967296 := by rw [← ez]; exact Nat.mul_lt_mul_of_pos_right hy hp2
 have u2 : lo / 2 ^ (64 - s) < 2 ^ s := by rw [Nat.div_lt_iff_lt_mul hp3, Nat.mul_comm, e64]; exact h4
 have hhi : (hi + 1) * 2 ^ s ≤ y * 2 ^ s := Nat.mul_le_mul_right _ h2
 rw [Nat.add_mul, Nat.one_mul] at hhi
 have u3 : hi * 2 ^ s + lo / 2 ^ (64 - s) < y * 2 ^ (s - 32) * 4294967296 := by rw [← zz]; omega
 have u1 : hi * 2 ^ s < 18446744073709551616 := by omega
 have hN : (hi * 18446744073709551616 + lo) * 2 ^ s = (hi * 2 ^ s + lo / 2 ^ (64 - s)) * 18446744073709551616 + lo * 2 ^ s % 18446744073709551616 := by
  have h1 : lo * 2 ^ s / 18446744073709551616 = lo / 2 ^ (64 - s) := by rw [← e64, Nat.mul_div_mul_right _ _ hp]
  have h2 := Nat.div_add_mod (lo * 2 ^ s) 18446744073709551616
  rw [h1] at h2
  rw [Nat.add_mul, Nat.add_mul, Nat.mul_right_comm hi]
  omega
 have hres : (hi * 18446744073709551616 + lo) / y = ((hi * 2 ^ s + lo / 2 ^ (64 - s)) * 4294967296 + lo * 2 ^ s % 18446744073709551616 / 4294967296) / (y * 2 ^ (s - 32)) := by
  rw [← Nat.mul_div_mul_right (hi * 18446744073709551616 + lo) y hp, hN, zz, Nat.mul_comm (y * 2 ^ (s - 32)), ← Nat.div_div_eq_div_mul]
  congr 1
  omega
 obtain ⟨Z, hZ⟩ : ∃ Z, y * 2 ^ (s - 32) = Z := ⟨_, rfl⟩
 obtain ⟨U, hU⟩ : ∃ U, hi * 2 ^ s + lo / 2 ^ (64 - s) = U := ⟨_, rfl⟩
 obtain ⟨T, hT⟩ : ∃ T, lo * 2 ^ s % 18446744073709551616 = T := ⟨_, rfl⟩
 rw [hZ] at zz z1 z2 u3 hres
 rw [hU] at u3 hres
 rw [hT] at hres
 have p1 : U / Z * Z ≤ U := Nat.div_mul_le_self _ _
 have p2 : U - U / Z * Z < Z := by have h := Nat.mod_lt U z1; rw [Nat.mod_def, Nat.mul_comm] at h; exact h
 have q9 : U / Z < 4294967296 := by rw [Nat.div_lt_iff_lt_mul z1, Nat.mul_comm]; exact u3
 have hTl : T < 18446744073709551616 := by rw [← hT]; exact Nat.mod_lt _ (by omega)
 have v2 : (U - U / Z * Z) * 4294967296 + T / 4294967296 < Z * 4294967296 := by omega
 have r9 : ((U - U / Z * Z) * 4294967296 + T / 4294967296) / Z < 4294967296 := by rw [Nat.div_lt_iff_lt_mul z1, Nat.mul_comm 4294967296]; exact v2
 refine ⟨Z, U, T, T / 4294967296, U / Z, U / Z * Z, _, _, zz, z1, z2, hU.symm, u1, u2, u3, hT.symm, rfl, rfl, q9, rfl, p1, p2, rfl, v2, rfl, r9, ?_⟩
 rw [hres]
 have e1 : U * 4294967296 + T / 4294967296 = ((U - U / Z * Z) * 4294967296 + T / 4294967296) + U / Z * 4294967296 * Z := by
  have e2 : U / Z * 4294967296 * Z = U / Z * Z * 4294967296 := by rw [Nat.mul_right_comm]
  rw [e2]
  omega
 rw [e1, Nat.add_mul_div_right _ _ z1]
 omega
theorem lz_ok {y : Nat} (h0 : 0 < y) (h3 : y < 4294967296) : ∃ s : Nat, 64 - (Lib.bitLen (y : Int).toNat : Int) = (s : Int) ∧ 32 ≤ s ∧ s ≤ 63 ∧ y < 2 ^ (64 - s) := by
 have e : (y : Int).toNat = y := by simp
 rw [e]
 have h1 := Lib.bitLenAux_bounds 64 y (by omega) (by omega)
 have h2 := Lib.bitLen_le y 32 (by omega) (by omega)
 unfold Lib.bitLen at *
 refine ⟨64 - Lib.bitLenAux 64 y, by omega, by omega, by omega, ?_⟩
 rw [show 64 - (64 - Lib.bitLenAux 64 y) = Lib.bitLenAux 64 y by omega]
 exact h1.2.2
theorem wrap3 {A T1 P V : Int} (h : A + T1 - P = V) (h0 : 0 ≤ V) (h1 : V < 18446744073709551616) :
  IntKind.u64.wrap (IntKind.u64.wrap (IntKind.u64.wrap A + T1) - IntKind.u64.wrap P) = V := by
 simp only [IntKind.wrap_u64]
 obtain ⟨M, hM⟩ : ∃ M : Int, 18446744073709551616 = M := ⟨_, rfl⟩
 rw [hM] at h1 ⊢
 rw [Int.emod_add_emod, Int.emod_sub_emod, Int.sub_emod_emod, h]
 exact Int.emod_eq_of_lt h0 h1
structure K64 (hi lo y s Z U T T1 q1 P1 V q0 rh : Nat) (Ym : Int) : Prop where
 d : D64 hi lo y s Z U T T1 q1 P1 V q0
 h1 : 0 < hi
 h2 : hi < y
 h3 : y < 4294967296
 h4 : lo < 18446744073709551616
 ym : ((Z * 4294967296 : Nat) : Int) = Ym
 rh : U - P1 = rh
theorem div64_pos (hi lo y : Nat) (w : World) (h1 : 0 < hi) (h2 : hi < y) (h3 : y < 4294967296) (h4 : lo < 18446744073709551616) :
  Calls Tryz.prog 136 #[.int .u64 (hi : Int), .int .u64 (lo : Int), .int .u64 (y : Int)] w fun e w' => ∃ r : Int, e = .returned (.tuple #[.int .u64 (((hi * 18446744073709551616 + lo) / y : Nat) : Int), .int .u64 r]) ∧ w = w' := by
 have hy0 : ((y : Int) == 0) = false := by rw [beq_eq_false_iff_ne]; omega
 have hh0 : ((hi : Int) == 0) = false := by rw [beq_eq_false_iff_ne]; omega
 have hyl : decide ((y : Int) ≤ (hi : Int)) = false := by simp; omega
 have hlz := Tryz.bits_LeadingZeros64 (y : Int) w (by omega) (by omega)
 have HLZ := Lib.hid hlz
 clear hlz
 go_enter Tryz.func136, Tryz.ntmps136
 go_wp2_with fail
 refine HLZ.out.mono ?_
 rintro e w1 ⟨rfl, rfl⟩
 obtain ⟨s, hs, hs1, hs2, hs3⟩ := lz_ok (show 0 < y by omega) h3
 rw [hs]
 obtain ⟨Z, U, T, T1, q1, P1, V, q0, D⟩ := d64_ok h2 h4 hs1 hs2 hs3 (by omega)
 clear hs
 have HR := Lib.hid D.res
 have d1 := D.z1
 have d2 := D.z2
 have d3 := D.u3
 have d4 := D.q9
 have d5 := D.p1
 have d6 := D.p2
 have d7 := D.v2
 have d8 := D.r9
 have HD := Lib.hid D
 clear D
 have hT1 : T1 < 4294967296 := by
  rw [HD.out.t1, HD.out.tt]
  have := Nat.mod_lt (lo * 2 ^ s) (show 18446744073709551616 > 0 by omega)
  omega
 have c2 : ((2 : Int) ^ s) = ((2 ^ s : Nat) : Int) := by simp
 have c3 : ((2 : Int) ^ (64 - s)) = ((2 ^ (64 - s) : Nat) : Int) := by simp
 have E1 : IntKind.u64.wrap ((y : Int) * 2 ^ s) = ((Z * 4294967296 : Nat) : Int) := by
  rw [c2, ← Int.natCast_mul, HD.out.zz]
  exact u64_wrap_id _ (by omega) (by omega)
 have E2 : bits BinOp.or IntKind.u64 (IntKind.u64.wrap ((hi : Int) * 2 ^ s)) ((lo : Int) / 2 ^ (64 - s)) = (U : Int) := by
  have u1 := HD.out.u1
  have u2 := HD.out.u2
  have e1 : IntKind.u64.wrap ((hi : Int) * 2 ^ s) = ((hi * 2 ^ s : Nat) : Int) := by
   rw [c2, ← Int.natCast_mul]
   exact u64_wrap_id _ (by omega) (by omega)
  have e2 : (lo : Int) / 2 ^ (64 - s) = ((lo / 2 ^ (64 - s) : Nat) : Int) := by rw [c3]; simp
  rw [e1, e2, HD.out.uu]
  have hu2 : ((lo / 2 ^ (64 - s) : Nat) : Int) < 2 ^ s := by rw [c2]; exact Int.ofNat_lt.2 u2
  have h64 : ((2 : Int) ^ 64) = 18446744073709551616 := by decide
  have hs64 : (2 : Nat) ^ s ≤ 18446744073709551616 := by
   have : (2 : Nat) ^ s ≤ 2 ^ 64 := Nat.pow_le_pow_right (by omega) (by omega)
   exact this
  have hmd : ((hi * 2 ^ s : Nat) : Int) % 2 ^ s = 0 := by rw [c2, ← Int.natCast_emod]; simp
  have hA : ((hi * 2 ^ s : Nat) : Int) < 2 ^ 64 := by rw [h64]; omega
  have hB : ((lo / 2 ^ (64 - s) : Nat) : Int) < 2 ^ 64 := by rw [h64]; omega
  rw [bits_join .u64 64 (by decide) (fun n a b => u64_wrap_id n a (by rw [h64] at b; exact b)) s _ _ (Int.natCast_nonneg _) hmd hA (Int.natCast_nonneg _) hu2 hB]
  simp
 have E3 : IntKind.u64.wrap ((lo : Int) * 2 ^ s) = (T : Int) := by
  rw [c2, ← Int.natCast_mul, IntKind.wrap_u64, HD.out.tt]
  omega
 have HE1 := Lib.hid E1
 have HE2 := Lib.hid E2
 have HE3 := Lib.hid E3
 clear c2 c3 E1 E2 E3
 go_upto_region 15 with (fail)
 rw [HE1.out, HE2.out, HE3.out]
 have F1 : ((Z * 4294967296 : Nat) : Int) / 4294967296 = (Z : Int) := by omega
 have F2 : bits BinOp.and IntKind.u64 ((Z * 4294967296 : Nat) : Int) 4294967295 = 0 := by
  have h := bits_and_u64_nat (Z * 4294967296) 4294967295 (by omega) (by omega)
  have h2 : (Z * 4294967296) &&& 4294967295 = 0 := by
   have : (4294967295 : Nat) = 2 ^ 32 - 1 := by decide
   rw [this, Nat.and_two_pow_sub_one_eq_mod]
   have : (2 : Nat) ^ 32 = 4294967296 := by decide
   omega
  rw [h2] at h
  exact h
 have F3 : (T : Int) / 4294967296 = (T1 : Int) := by have := HD.out.t1; omega
 rw [F1, F2, F3]
 have dB : (U : Int) < 18446744073709551616 := by omega
 have F4 : (U : Int) / (Z : Int) = (q1 : Int) := by rw [HD.out.qq]; simp
 have F5 : (q1 : Int) * (Z : Int) = (P1 : Int) := by rw [HD.out.pp]; simp
 have F6 : (q1 : Int) * ((Z * 4294967296 : Nat) : Int) = ((P1 * 4294967296 : Nat) : Int) := by rw [HD.out.pp, ← Int.natCast_mul, Nat.mul_assoc]
 obtain ⟨Ym, hYm⟩ : ∃ Ym : Int, ((Z * 4294967296 : Nat) : Int) = Ym := ⟨_, rfl⟩
 rw [hYm] at F6 ⊢
 have HYM := Lib.hid hYm
 have HF6 := Lib.hid F6
 generalize bits BinOp.and IntKind.u64 (T : Int) 4294967295 = t0 at *
 clear F1 F2 F3 F6 hYm
 obtain ⟨rh, hrh⟩ : ∃ rh : Nat, U - P1 = rh := ⟨_, rfl⟩
 have F7 : (U : Int) - (P1 : Int) = (rh : Int) := by omega
 have d9 : rh ≤ 4294967295 := by omega
 have HRH := Lib.hid hrh
 clear hrh d3 d6 d7 d8
 have dC : ((Z : Int) == 0) = false := by rw [beq_eq_false_iff_ne]; omega
 have dD : (0 : Int) < (Z : Int) := by omega
 have dE : decide ((4294967296 : Int) ≤ (q1 : Int)) = false := by simp; omega
 have K : K64 hi lo y s Z U T T1 q1 P1 V q0 rh Ym := ⟨HD.out, h1, h2, h3, h4, HYM.out, HRH.out⟩
 clear HR HD HE1 HE2 HE3 HYM HF6 HRH h1 h2 h3 h4 hs1 hs2 hs3 hy0 hh0 hyl d5
 go_wp2
 clear F4 F5 F7 d1
 go_loop [15, 16] (fun qv rv => qv = .int .u64 (q1 : Int) ∧ rv = .int .u64 (rh : Int)) (fun _ _ => 0)
 case atStart => exact ⟨rfl, rfl⟩
 case round =>
  obtain ⟨rfl, rfl⟩ := hrel
  generalize IntKind.u64.wrap ((hi : Int) * 2 ^ s) = e1
  generalize (lo : Int) / 2 ^ (64 - s) = e2
  have hw : decide (IntKind.u64.wrap (IntKind.u64.wrap (4294967296 * (rh : Int)) + (T1 : Int)) < 0) = false := by
   rw [decide_eq_false_iff_not, IntKind.wrap_u64]; omega
  clear hT1 dB d2 d4 d9
  go_upto_region 21 with (fail)
  have HW := Lib.hid hw
  clear hw dE
  have G1 : IntKind.u64.wrap (IntKind.u64.wrap (IntKind.u64.wrap ((U : Int) * 4294967296) + (T1 : Int)) - IntKind.u64.wrap ((q1 : Int) * Ym)) = (V : Int) := by
   have e1 : (q1 : Int) * Ym = ((P1 * 4294967296 : Nat) : Int) := by rw [K.d.pp, ← K.ym, ← Int.natCast_mul, Nat.mul_assoc]
   have e2 := K.d.vv
   have e3 := K.d.v2
   have e4 := K.d.z2
   have e5 := K.d.p1
   rw [e1]
   exact wrap3 (by omega) (by omega) (by omega)
  have HG1 := Lib.hid G1
  clear G1
  go_upto_region 22 with (fail)
  rw [HG1.out]
  clear HG1
  go_upto_region 23 with (fail)
  have G2 : IntKind.u64.wrap ((V : Int) / (Z : Int)) = (q0 : Int) := by
   have e1 := K.d.rr
   have e2 := K.d.r9
   have e3 : (V : Int) / (Z : Int) = (q0 : Int) := by rw [e1]; simp
   rw [e3]
   exact u64_wrap_id _ (by omega) (by omega)
  rw [G2]
  clear G2
  obtain ⟨rl, hrl⟩ : ∃ rl : Nat, V - q0 * Z = rl := ⟨_, rfl⟩
  have G3 : IntKind.u64.wrap ((V : Int) - IntKind.u64.wrap ((q0 : Int) * (Z : Int))) = (rl : Int) := by
   have e1 := K.d.rr
   have e2 : q0 * Z ≤ V := by rw [e1]; exact Nat.div_mul_le_self _ _
   have e3 := K.d.v2
   have e4 := K.d.z2
   rw [← Int.natCast_mul, u64_wrap_id ((q0 * Z : Nat) : Int) (by omega) (by omega), u64_wrap_id _ (by omega) (by omega)]
   omega
  have hrl2 : rl < 4294967296 := by
   have e1 := K.d.rr
   have e4 := K.d.z2
   have e2 : V - V / Z * Z < Z := by have h := Nat.mod_lt V K.d.z1; rw [Nat.mod_def, Nat.mul_comm] at h; exact h
   rw [← e1] at e2
   omega
  have HG3 := Lib.hid G3
  have HRL := Lib.hid hrl2
  clear G3 hrl hrl2
  have dE : decide ((4294967296 : Int) ≤ (q0 : Int)) = false := by
   have := K.d.r9
   simp; omega
  go_wp2
  go_loop [16, 18] (fun rv qv => qv = .int .u64 (q0 : Int) ∧ rv = .int .u64 (rl : Int)) (fun _ _ => 0)
  case atStart => exact ⟨rfl, by rw [HG3.out]⟩
  case round =>
   obtain ⟨rfl, rfl⟩ := hrel
   have hw : decide (IntKind.u64.wrap (IntKind.u64.wrap (4294967296 * (rl : Int)) + t0) < 0) = false := by
    rw [decide_eq_false_iff_not, IntKind.wrap_u64]; omega
   go_upto_region 28 with (fail)
   have HW2 := Lib.hid hw
   clear hw dE
   have G4 : IntKind.u64.wrap (IntKind.u64.wrap ((q1 : Int) * 4294967296) + (q0 : Int)) = (((hi * 18446744073709551616 + lo) / y : Nat) : Int) := by
    have e1 := K.d.res
    have e2 := K.d.r9
    have e3 := K.d.q9
    rw [e1, u64_wrap_id ((q1 : Int) * 4294967296) (by omega) (by omega), u64_wrap_id _ (by omega) (by omega)]
    omega
   have HG4 := Lib.hid G4
   clear G4
   go_wp2
   have HG5 := HG4.out
   rw [HG5]
   refine bodyPost_ret (by simp [results, Tryz.results136, go_sem]; rfl) rfl ⟨⟨_, rfl⟩, rfl⟩
theorem div64_zero (lo y : Nat) (w : World) (h2 : 0 < y) (h3 : y < 4294967296) (h4 : lo < 18446744073709551616) :
  Calls Tryz.prog 136 #[.int .u64 0, .int .u64 (lo : Int), .int .u64 (y : Int)] w fun e w' => ∃ r : Int, e = .returned (.tuple #[.int .u64 ((lo / y : Nat) : Int), .int .u64 r]) ∧ ∃ n, w' = w.drewN n := by
 have hy0 : ((y : Int) == 0) = false := by rw [beq_eq_false_iff_ne]; omega
 have hyl : decide ((y : Int) ≤ 0) = false := by simp; omega
 have e1 : IntKind.u64.wrap ((lo : Int) / (y : Int)) = ((lo / y : Nat) : Int) := by
  have h := Nat.div_le_self lo y
  rw [← Int.natCast_ediv]
  generalize lo / y = q at h
  exact u64_wrap_id _ (by omega) (by omega)
 have HE := Lib.hid e1
 clear e1
 go_enter Tryz.func136, Tryz.ntmps136
 have hy1 : (y : Int) ≠ 0 := by omega
 go_upto_region 6 with (fail)
 go_region
 all_goals
  go_wp2
  have HE2 := HE.out
  rw [HE2]
  refine bodyPost_ret (by simp [results, Tryz.results136, go_sem]; rfl) rfl ⟨_, rfl, 1, rfl⟩
set_option maxRecDepth 20000 in
theorem limbAt_any (A : Option Addr) (c B i : Nat) (L : List Nat) (w : World) (hl : L.length ≤ 4000000) (hi : i ≤ 4000000) (hL : Lim L) (hR : Row .u32 w B A c L) :
  Calls Tryz.prog 129 #[.slice A L.length c, .int .i64 (i : Int)] w fun e w' => e = .returned (.int .u64 (nth L i : Int)) ∧ w = w' := by
 have b1 := hL.nth i
 rcases Nat.lt_or_ge i L.length with h | h
 ·obtain ⟨b, o, rfl, hbB, hcs⟩ := hR.spot (by omega)
  have hc := hcs i h
  have hlen := hR.len
  clear hcs hR
  generalize nth L i = x at *
  generalize L.length = l at *
  go_enter Tryz.func129, Tryz.ntmps129
  go_wp2
  go_ret
  exact ⟨rfl, rfl⟩
 ·have hz := nth_ge h
  rw [hz]
  clear hz b1
  generalize L.length = l at *
  go_enter Tryz.func129, Tryz.ntmps129
  go_wp2
  go_ret
  exact ⟨rfl, rfl⟩
set_option maxHeartbeats 800000 in
theorem wordGcd_any (a b : Nat) (w : World) (ha : a ≤ 9000000000000000000) (hb : b ≤ 9000000000000000000) :
  Calls Tryz.prog 100 #[.int .u64 (a : Int), .int .u64 (b : Int)] w fun e w' => e = .returned (.int .u64 (Nat.gcd a b : Int)) ∧ ∃ n, w' = w.drewN n := by
 go_enter Tryz.func100, Tryz.ntmps100
 go_wp2
 go_loopw [0, 1] (fun av bv wr => ∃ x y : Nat, x ≤ 9000000000000000000 ∧ y ≤ 9000000000000000000 ∧ av = .int .u64 (x : Int) ∧ bv = .int .u64 (y : Int) ∧ Hid (Nat.gcd x y = Nat.gcd a b) ∧ Hid (∃ n, wr = w.drewN n)) (fun _ bv _ => (intOf bv).toNat)
 case atStart => exact ⟨a, b, ha, hb, rfl, rfl, rfl, ⟨0, rfl⟩⟩
 case round =>
  obtain ⟨x, y, hx, hy, rfl, rfl, hg, hn⟩ := hrel
  rcases Nat.eq_zero_or_pos y with rfl | hpos
  ·have e : ((0 : Nat) : Int) = 0 := rfl
   have hgg := hg.out
   rw [Nat.gcd_zero_right] at hgg
   have HGG := Lib.hid hgg
   clear hgg hg
   go_wp2
   go_ret
   exact ⟨by rw [HGG.out]; rfl, hn.out⟩
  ·have hne : ((y : Int) == 0) = false := by rw [beq_eq_false_iff_ne]; omega
   have hne2 : (y : Int) ≠ 0 := by omega
   have hm := Nat.mod_lt x hpos
   have hgg : Nat.gcd y (x % y) = Nat.gcd a b := by rw [← hg.out, Nat.gcd_comm x y, Nat.gcd_rec y x, Nat.gcd_comm]
   have HGG := Lib.hid hgg
   clear hgg hg
   obtain ⟨r, hr⟩ : ∃ r, x % y = r := ⟨_, rfl⟩
   have hri : (x : Int) % (y : Int) = (r : Int) := by rw [← hr]; simp
   rw [hr] at hm HGG
   clear hr
   go_upto_region 2 with (fail)
   go_region
   all_goals
    go_wp2
    go_roundw
    case rel => exact ⟨y, r, hy, by omega, rfl, by rw [hri], HGG.out, by obtain ⟨n, rfl⟩ := hn.out; exact ⟨n + 1, rfl⟩⟩
    case measure => simp [intOf, hri]; omega
def ren25 : Go.Shelf.Ren := ⟨fun | 25 => 135 | n => n, fun | 22 => 74 | n => n, fun | n => n⟩
theorem lays25 : Go.Proofs.Lays7.n25 Tryz.prog ren25 := {
 mixed := by kernel_rfl
 f25 := Tryz.func135.trans (congrArg some (by kernel_rfl))
 t22 := Tryz.underlying74
 a22 := Tryz.isAgg74
 z22 := Tryz.sizeOf74
 v22 := Tryz.zeroValue74
 i22 := by kernel_rfl }
theorem add64_law (x y c : Nat) (hc : c ≤ 1) (w : World) :
  (callFunc 135 #[.int .u64 x, .int .u64 y, .int .u64 c]).run Tryz.prog w =
   .ok (.value (.tuple #[.int .u64 (((x + y + c) % 18446744073709551616 : Nat) : Int), .int .u64 (((x + y + c) / 18446744073709551616 : Nat) : Int)])) w := Go.Proofs.Any7.bits_Add64 lays25 x y c hc w
theorem div64_any (hi lo y : Nat) (w : World) (h2 : hi < y) (h3 : y < 4294967296) (h4 : lo < 18446744073709551616) :
  Calls Tryz.prog 136 #[.int .u64 (hi : Int), .int .u64 (lo : Int), .int .u64 (y : Int)] w fun e w' => ∃ r : Int, e = .returned (.tuple #[.int .u64 (((hi * 18446744073709551616 + lo) / y : Nat) : Int), .int .u64 r]) ∧ ∃ n, w' = w.drewN n := by
 rcases Nat.eq_zero_or_pos hi with rfl | h0
 ·refine (div64_zero lo y w h2 h3 h4).mono ?_
  rintro e w1 ⟨r, rfl, hn⟩
  exact ⟨r, by simp, hn⟩
 ·refine (div64_pos hi lo y w h0 h2 h3 h4).mono ?_
  rintro e w1 ⟨r, rfl, rfl⟩
  exact ⟨r, rfl, 0, rfl⟩
theorem lead_ok {a b c s : Nat} (ha : a < s) (hs : s ≤ 1000000000) (hb : b < 1000000000) (hc : c < 1000000000) :
  ∃ hi lo l2 cy : Nat, (a * 1000000000 + b) * 1000000000 / 18446744073709551616 = hi ∧ (a * 1000000000 + b) * 1000000000 % 18446744073709551616 = lo ∧ (lo + c + 0) % 18446744073709551616 = l2 ∧ (lo + c + 0) / 18446744073709551616 = cy ∧
   hi + cy < s ∧ l2 < 18446744073709551616 ∧ hi ≤ 2000000000 ∧ cy ≤ 1 ∧ (hi + cy) * 18446744073709551616 + l2 = (a * 1000000000 + b) * 1000000000 + c ∧ ((a * 1000000000 + b) * 1000000000 + c) / s ≤ 1000000000000000000 := by
 have hq : ((a * 1000000000 + b) * 1000000000 + c) / s ≤ 1000000000000000000 := by
  have : ((a * 1000000000 + b) * 1000000000 + c) < 1000000000000000001 * s := by
   have h1 : a + 1 ≤ s := ha
   have h2 : ((a * 1000000000 + b) * 1000000000 + c) < (a + 1) * 1000000000000000000 := by omega
   omega
  have := (Nat.div_lt_iff_lt_mul (show 0 < s by omega)).2 this
  omega
 have h9 : (a * 1000000000 + b) * 1000000000 + c < s * 1000000000000000000 := by omega
 have h0 : 0 + c = c := Nat.zero_add c
 obtain ⟨M, hM⟩ : ∃ M : Nat, 18446744073709551616 = M := ⟨_, rfl⟩
 have hM1 : 1000000000000000000 < M := by rw [← hM]; decide
 rw [hM]
 clear hM
 obtain ⟨X, hX⟩ : ∃ X, (a * 1000000000 + b) * 1000000000 = X := ⟨_, rfl⟩
 rw [hX] at h9 hq ⊢
 clear hX
 have hM0 : 0 < M := by omega
 have k1 := Nat.div_add_mod X M
 have k2 := Nat.mod_lt X hM0
 have k3 := Nat.div_add_mod (X % M + c + 0) M
 have k4 := Nat.mod_lt (X % M + c + 0) hM0
 have k5 : (X % M + c + 0) / M ≤ 1 := Nat.le_of_lt_succ ((Nat.div_lt_iff_lt_mul hM0).2 (by omega))
 obtain ⟨hi, hhi⟩ : ∃ hi, X / M = hi := ⟨_, rfl⟩
 obtain ⟨lo, hlo⟩ : ∃ lo, X % M = lo := ⟨_, rfl⟩
 rw [hhi, hlo] at k1
 rw [hlo] at k2 k3 k4 k5
 obtain ⟨cy, hcy⟩ : ∃ cy, (lo + c + 0) / M = cy := ⟨_, rfl⟩
 obtain ⟨l2, hl2⟩ : ∃ l2, (lo + c + 0) % M = l2 := ⟨_, rfl⟩
 rw [hcy, hl2] at k3
 rw [hl2] at k4
 rw [hcy] at k5
 have k6 : (hi + cy) * M + l2 = X + c := by rw [Nat.add_mul, Nat.mul_comm hi, Nat.mul_comm cy]; omega
 have k7 : s * 1000000000000000000 ≤ s * M := Nat.mul_le_mul_left _ (by omega)
 have k8 : hi + cy < s := Nat.lt_of_mul_lt_mul_right (a := M) (by omega)
 exact ⟨hi, lo, l2, cy, hhi, hlo, hl2, hcy, k8, k4, by omega, k5, k6, hq⟩
set_option maxRecDepth 100000 in
set_option maxHeartbeats 1600000 in
theorem leading_any (A : Option Addr) (c B n s : Nat) (L : List Nat) (w : World) (hl : L.length ≤ 4000000) (hn : n ≤ 400000) (hL : Lim L) (hR : Row .u32 w B A c L) (hs : s ≤ 1000000000) (hs2 : nth L (n + 2) < s) :
  Calls Tryz.prog 128 #[.slice A L.length c, .int .i64 ((n + 3 : Nat) : Int), .int .u64 (s : Int)] w fun e w' => e = .returned (.int .i64 ((top3 L n / s : Nat) : Int)) ∧ ∃ m, w' = w.drewN m := by
 have c1 := limbAt_any A c B (n + 2) L w hl (by omega) hL hR
 have c2 := limbAt_any A c B (n + 1) L w hl (by omega) hL hR
 have c3 := limbAt_any A c B n L w hl (by omega) hL hR
 have b1 := hL.nth (n + 2)
 have b2 := hL.nth (n + 1)
 have b3 := hL.nth n
 have htop : Hid (top3 L n / s = ((nth L (n + 2) * 1000000000 + nth L (n + 1)) * 1000000000 + nth L n) / s) := rfl
 generalize top3 L n / s = G at *
 generalize nth L (n + 2) = x2 at *
 generalize nth L (n + 1) = x1 at *
 generalize nth L n = x0 at *
 generalize L.length = l at *
 have i1 : ((n + 3 : Nat) : Int) - 1 = ((n + 2 : Nat) : Int) := by omega
 have i2 : ((n + 3 : Nat) : Int) - 2 = ((n + 1 : Nat) : Int) := by omega
 have i3 : ((n + 3 : Nat) : Int) - 3 = (n : Int) := by omega
 obtain ⟨hi, lo, l2, cy, d1, d2, d3, d4, d5, d6, d7, d8, d9, d10⟩ := lead_ok hs2 hs b2 b3
 have hm64 := Tryz.bits_Mul64 (x2 * 1000000000 + x1) 1000000000 (by omega) (by omega) w
 rw [d1, d2] at hm64
 have ha64 : ∀ W : World, (callFunc 135 #[.int .u64 (lo : Int), .int .u64 (x0 : Int), .int .u64 0]).run Tryz.prog W = .ok (.value (.tuple #[.int .u64 (((lo + x0 + 0) % 18446744073709551616 : Nat) : Int), .int .u64 (((lo + x0 + 0) / 18446744073709551616 : Nat) : Int)])) W := fun W => add64_law lo x0 0 (by omega) W
 rw [d3, d4] at ha64
 have hd64 := fun W => div64_any (hi + cy) l2 s W d5 (by omega) d6
 simp only [d9] at hd64
 rw [htop.out]
 obtain ⟨Q, hQ⟩ : ∃ Q, ((x2 * 1000000000 + x1) * 1000000000 + x0) / s = Q := ⟨_, rfl⟩
 rw [hQ] at d10 ⊢
 simp only [hQ] at hd64
 clear hQ
 have e1 : ((x2 : Int) * 1000000000 + (x1 : Int)) = ((x2 * 1000000000 + x1 : Nat) : Int) := by simp
 have e2 : (hi : Int) + (cy : Int) = ((hi + cy : Nat) : Int) := by simp
 obtain ⟨n3, hn3⟩ : ∃ k, n + 3 = k := ⟨_, rfl⟩
 obtain ⟨n2, hn2⟩ : ∃ k, n + 2 = k := ⟨_, rfl⟩
 obtain ⟨n1, hn1⟩ : ∃ k, n + 1 = k := ⟨_, rfl⟩
 rw [hn3] at i1 i2 i3 ⊢
 rw [hn2] at i1 c1
 rw [hn1] at i2 c2
 have hb3 : n3 ≤ 500000 := by omega
 have hb4 : 3 ≤ n3 := by omega
 clear hn3 hn2 hn1
 have C1 := Lib.hid c1
 have C2 := Lib.hid c2
 have C3 := Lib.hid c3
 have M64 := Lib.hid hm64
 have A64 := Lib.hid ha64
 have D64 := Lib.hid hd64
 have E1 := Lib.hid e1
 have E2 := Lib.hid e2
 clear c1 c2 c3 hm64 ha64 hd64 d1 d2 d3 d4 d6 d9 htop hR hL e1 e2 hs2
 go_enter Tryz.func128, Tryz.ntmps128
 go_wp2_with fail
 refine C1.out.mono ?_
 rintro e w1 ⟨rfl, rfl⟩
 go_wp2_with fail
 refine C2.out.mono ?_
 rintro e w1 ⟨rfl, rfl⟩
 go_wp2_with fail
 rw [E1.out]
 refine M64.out.mono ?_
 rintro e w1 ⟨rfl, rfl⟩
 go_wp2_with fail
 refine C3.out.mono ?_
 rintro e w1 ⟨rfl, rfl⟩
 go_wp2_with (simp only [A64.out])
 rw [E2.out]
 refine (D64.out _).mono ?_
 rintro e w1 ⟨r, rfl, m, rfl⟩
 go_wp2_with fail
 go_ret
 exact ⟨rfl, m, rfl⟩
def StOut (x0 y0 : Nat) (x y s0 s1 s2 s3 : Int) : Prop := ∃ e X Y P Q R T u v m n, LSt x0 y0 e X Y P Q R T u v m n ∧ x = (X : Int) ∧ y = (Y : Int) ∧ s0 = sg e P ∧ s1 = sg (!e) Q ∧ s2 = sg (!e) R ∧ s3 = sg e T
theorem stOut_start {x0 y0 : Nat} : StOut x0 y0 (x0 : Int) (y0 : Int) 1 0 0 1 := ⟨true, x0, y0, 1, 0, 0, 1, x0 + 1, y0, x0, y0 + 1, st_start, rfl, rfl, rfl, rfl, rfl, rfl⟩
theorem stOut_facts {x0 y0 : Nat} {x y s0 s1 s2 s3 : Int} (h : StOut x0 y0 x y s0 s1 s2 s3) (hx : x0 < 1000000000000000000) (hy : y0 ≤ x0) :
  ∃ u v m n : Nat, x + s0 = (u : Int) ∧ y + s2 = (v : Int) ∧ x + s1 = (m : Int) ∧ y + s3 = (n : Int) ∧ u ≤ 2000000000000000000 ∧ v ≤ 2000000000000000000 ∧ m ≤ 2000000000000000000 ∧ n ≤ 2000000000000000000 ∧
   -1000000000 ≤ s0 ∧ s0 ≤ 1000000000 ∧ -1000000000 ≤ s1 ∧ s1 ≤ 1000000000 ∧ -1000000000 ≤ s2 ∧ s2 ≤ 1000000000 ∧ -1000000000 ≤ s3 ∧ s3 ≤ 1000000000 ∧ 0 ≤ x ∧ x ≤ 1100000000000000000 ∧ 0 ≤ y ∧ y ≤ 1100000000000000000 ∧
   (0 < v → 0 < n → u / v = m / n → ∃ q : Nat, q = u / v ∧ q ≤ 2000000000000000000 ∧ -1000000000 ≤ s0 - (q : Int) * s2 ∧ s0 - (q : Int) * s2 ≤ 1000000000 ∧ -1000000000 ≤ s1 - (q : Int) * s3 ∧ s1 - (q : Int) * s3 ≤ 1000000000 ∧
    0 ≤ x - (q : Int) * y ∧ x - (q : Int) * y ≤ x ∧ y + (x - (q : Int) * y) < x + y ∧ StOut x0 y0 y (x - (q : Int) * y) s2 s3 (s0 - (q : Int) * s2) (s1 - (q : Int) * s3)) := by
 obtain ⟨e, X, Y, P, Q, R, T, u, v, m, n, h, rfl, rfl, rfl, rfl, rfl, rfl⟩ := h
 have g1 := sg_box e h.p9
 have g2 := sg_box (!e) h.q9
 have g3 := sg_box (!e) h.r9
 have g4 := sg_box e h.t9
 have t1 := h.t1
 have hu : u ≤ 1000000000000000000 := by
  have := Nat.mul_le_mul_right u t1
  have := h.tu
  omega
 have hm : m ≤ 1000000000000000000 := by
  have := Nat.mul_le_mul_right m t1
  have := h.tm
  omega
 have hvn : v ≤ 1000000000000000000 ∧ n ≤ 1000000000000000001 := by
  rcases h.id with ⟨i1, i2, i3, i4, i5, i6, i7⟩ | ⟨_, _, h3, h4⟩
  ·have := h.e1 i1; omega
  ·omega
 have p9 := h.p9
 have q9 := h.q9
 have r9 := h.r9
 have t9 := h.t9
 have es : (X : Int) + sg e P = (u : Int) ∧ (Y : Int) + sg (!e) R = (v : Int) ∧ (X : Int) + sg (!e) Q = (m : Int) ∧ (Y : Int) + sg e T = (n : Int) ∧ X ≤ 1100000000000000000 ∧ Y ≤ 1100000000000000000 := by
  cases e with
  | true => have := h.e1 rfl; simp only [sg, if_true, Bool.not_true, Bool.false_eq_true, if_false]; omega
  | false => have := h.e2 rfl; simp only [sg, if_true, Bool.not_false, Bool.false_eq_true, if_false]; omega
 refine ⟨u, v, m, n, es.1, es.2.1, es.2.2.1, es.2.2.2.1, by omega, by omega, by omega, by omega, g1.1, g1.2, g2.1, g2.2, g3.1, g3.2, g4.1, g4.2, by omega, by omega, by omega, by omega, ?_⟩
 intro hv hn hq
 obtain ⟨q, hqq⟩ : ∃ q, u / v = q := ⟨_, rfl⟩
 obtain ⟨k1, k2, k3, k4⟩ := st_step h hx hy hv hn hqq (by rw [← hq, hqq])
 have f1 : sg e P - (q : Int) * sg (!e) R = sg (!(!e)) (P + q * R) := by
  cases e <;> simp [sg] <;> grind
 have f2 : sg (!e) Q - (q : Int) * sg e T = sg (!e) (Q + q * T) := by
  cases e <;> simp [sg] <;> grind
 have f3 : (X : Int) - (q : Int) * (Y : Int) = ((X - q * Y : Nat) : Int) := by
  have : ((q * Y : Nat) : Int) = (q : Int) * (Y : Int) := by simp
  omega
 have f4 := Nat.mul_le_mul k2 k3
 have g5 := sg_box (!(!e)) k4.r9
 have g6 := sg_box (!e) k4.t9
 have hq3 : q ≤ 2000000000000000000 := by rw [← hqq]; have := Nat.div_le_self u v; omega
 refine ⟨q, hqq.symm, hq3, ?_⟩
 rw [f1, f2, f3]
 exact ⟨g5.1, g5.2, g6.1, g6.2, by omega, by omega, by omega, ⟨!e, Y, X - q * Y, R, T, P + q * R, Q + q * T, v, u - q * v, n, m - q * n, k4, rfl, rfl, rfl, by simp, rfl, rfl⟩⟩
def Box4 (w : World) (g : Nat) (s0 s1 s2 s3 : Int) : Prop := w.heap[g]? = some (.cells #[.int .i64 s0, .int .i64 s1, .int .i64 s2, .int .i64 s3] 144 (0, 0))
theorem Box4.all {w : World} {g : Nat} {s0 s1 s2 s3 : Int} (h : Box4 w g s0 s1 s2 s3) : w.cell? ⟨g, 0, none⟩ = some (.int .i64 s0) ∧ w.cell? ⟨g, 1, none⟩ = some (.int .i64 s1) ∧ w.cell? ⟨g, 2, none⟩ = some (.int .i64 s2) ∧ w.cell? ⟨g, 3, none⟩ = some (.int .i64 s3) ∧
  w.frozen? ⟨g, 0, none⟩ = false ∧ w.frozen? ⟨g, 1, none⟩ = false ∧ w.frozen? ⟨g, 2, none⟩ = false ∧ w.frozen? ⟨g, 3, none⟩ = false := by
 unfold Box4 at h
 simp [World.cell?, World.frozen?, h]
theorem Box4.store {w : World} {g : Nat} {s0 s1 s2 s3 : Int} (h : Box4 w g s0 s1 s2 s3) (t0 t1 t2 t3 : Int) :
  Box4 ((((w.setCell ⟨g, 0, none⟩ (.int .i64 t0)).setCell ⟨g, 1, none⟩ (.int .i64 t1)).setCell ⟨g, 2, none⟩ (.int .i64 t2)).setCell ⟨g, 3, none⟩ (.int .i64 t3)) g t0 t1 t2 t3 := by
 unfold Box4 at h ⊢
 simp [World.setCell, Array.getElem?_modify, h]
theorem Box4.lt {w : World} {g : Nat} {s0 s1 s2 s3 : Int} (h : Box4 w g s0 s1 s2 s3) : g < w.heap.size := by
 rcases Nat.lt_or_ge g w.heap.size with hlt | hge
 ·exact hlt
 ·unfold Box4 at h; rw [Array.getElem?_eq_none hge] at h; cases h
theorem Box4.grown {w w' : World} {g : Nat} {s0 s1 s2 s3 : Int} {row : Option Nat} (h : Box4 w g s0 s1 s2 s3) (hb : w.grownBy w' row) (hg : some g ≠ row) : Box4 w' g s0 s1 s2 s3 := (hb.block g h.lt hg).trans h
theorem Box4.new (w : World) (s0 s1 s2 s3 : Int) : Box4 (w.alloc (.cells #[.int .i64 s0, .int .i64 s1, .int .i64 s2, .int .i64 s3] 144)) w.heap.size s0 s1 s2 s3 := by
 show (w.heap.push _)[w.heap.size]? = _
 simp
set_option maxRecDepth 20000 in
set_option maxHeartbeats 3200000 in
theorem safe_any (A A' : Option Addr) (c c' l3 : Nat) (L M : List Nat) (w : World) (hl : L.length = l3 + 3) (hl3 : l3 ≤ 390000) (hml : M.length ≤ 400000)
  (hL : Lim L) (hM : Lim M) (hR : Row .u32 w w.heap.size A c L) (hR' : Row .u32 w w.heap.size A' c' M) (htop : nth M (l3 + 2) ≤ nth L (l3 + 2))
  (hx : top3 L l3 / (nth L (l3 + 2) + 1) < 1000000000000000000) (hy : top3 M l3 / (nth L (l3 + 2) + 1) ≤ top3 L l3 / (nth L (l3 + 2) + 1)) :
  Calls Tryz.prog 116 #[.slice A L.length c, .slice A' M.length c'] w fun e w' => ∃ x y s0 s1 s2 s3 : Int, e = .returned (.agg #[.int .i64 s0, .int .i64 s1, .int .i64 s2, .int .i64 s3]) ∧
   Hid (StOut (top3 L l3 / (nth L (l3 + 2) + 1)) (top3 M l3 / (nth L (l3 + 2) + 1)) x y s0 s1 s2 s3) ∧ Below w.heap.size w w' := by
 have hn1 := hL.nth (l3 + 2)
 have lead1 := fun B W h => leading_any A c B l3 (nth L (l3 + 2) + 1) L W (by omega) (by omega) hL h (by omega) (by omega)
 have lead2 := fun B W h => leading_any A' c' B l3 (nth L (l3 + 2) + 1) M W (by omega) (by omega) hM h (by omega) (by omega)
 obtain ⟨b, o, rfl, hbB, hcs⟩ := hR.spot (by omega)
 have hc0 := hcs (l3 + 2) (by omega)
 rw [← hl] at lead1 lead2
 have hcl := hR.len
 have hLL : Hid (L.length = l3 + 3) := hl
 have hi1 : (L.length : Int) - 1 = ((l3 + 2 : Nat) : Int) := by omega
 generalize top3 L l3 / (nth L (l3 + 2) + 1) = x0 at *
 generalize top3 M l3 / (nth L (l3 + 2) + 1) = y0 at *
 generalize nth L (l3 + 2) = tp at *
 generalize M.length = lm at *
 obtain ⟨l2, hl2⟩ : ∃ l2, l3 + 2 = l2 := ⟨_, rfl⟩
 rw [hl2] at hc0 hi1
 obtain ⟨ll, hll⟩ : ∃ ll, L.length = ll := ⟨_, rfl⟩
 rw [hll] at lead1 lead2 hcl hi1 ⊢
 have hr1 : l2 < ll := by omega
 have hr2 : ll ≤ 400000 := by omega
 have LEAD1 := Lib.hid lead1
 have LEAD2 := Lib.hid lead2
 have HR := Lib.hid hR
 have HR' := Lib.hid hR'
 clear lead1 lead2 hR hR' hcs hl hl2 hll htop hLL hL hM
 go_enter Tryz.func116, Tryz.ntmps116
 go_wp2_with fail
 refine (LEAD1.out _ _ (HR.out.alloc (Nat.le_refl _) _)).mono ?_
 rintro e w1 ⟨rfl, m1, rfl⟩
 go_wp2_with fail
 refine (LEAD2.out _ _ ((HR'.out.alloc (Nat.le_refl _) _).drewN _)).mono ?_
 rintro e w1 ⟨rfl, m2, rfl⟩
 go_wp2_with fail
 have b1 := (Box4.new w 0 0 0 0)
 have b2 := Box4.new ((w.alloc (.cells #[.int .i64 0, .int .i64 0, .int .i64 0, .int .i64 0] 144)).drewN (m1 + m2)) 1 0 0 1
 have hbw : Below w.heap.size w (((w.alloc (.cells #[.int .i64 0, .int .i64 0, .int .i64 0, .int .i64 0] 144)).drewN (m1 + m2)).alloc (.cells #[.int .i64 1, .int .i64 0, .int .i64 0, .int .i64 1] 144)) :=
  (below_drewN (below_alloc_new _) _).alloc (by simp) _
 have sz : ((w.alloc (.cells #[.int .i64 0, .int .i64 0, .int .i64 0, .int .i64 0] 144)).drewN (m1 + m2)).heap.size = w.heap.size + 1 := by simp
 rw [sz] at b2
 have b1' : Box4 (((w.alloc (.cells #[.int .i64 0, .int .i64 0, .int .i64 0, .int .i64 0] 144)).drewN (m1 + m2)).alloc (.cells #[.int .i64 1, .int .i64 0, .int .i64 0, .int .i64 1] 144)) w.heap.size 0 0 0 0 :=
  (Below.heap_alloc _ _ _ (by rw [sz]; omega)).trans b1
 clear b1 sz
 generalize ((w.alloc (.cells #[.int .i64 0, .int .i64 0, .int .i64 0, .int .i64 0] 144)).drewN (m1 + m2)).alloc (.cells #[.int .i64 1, .int .i64 0, .int .i64 0, .int .i64 1] 144) = w1 at *
 have hg0 := b1'.lt
 have hg1 := b2.lt
 have hst := stOut_start (x0 := x0) (y0 := y0)
 have B2 := Lib.hid b2
 have HST := Lib.hid hst
 clear b2 hst LEAD1 LEAD2 HR HR'
 go_loopw [6, 7] (fun xv yv wr => ∃ x y s0 s1 s2 s3 : Int, xv = .int .i64 x ∧ yv = .int .i64 y ∧ Hid (StOut x0 y0 x y s0 s1 s2 s3) ∧ Hid (Box4 wr (w.heap.size + 1) s0 s1 s2 s3) ∧ w1.grownBy wr (some (w.heap.size + 1))) (fun xv yv _ => (intOf xv + intOf yv).toNat)
 case atStart => exact ⟨x0, y0, 1, 0, 0, 1, rfl, rfl, HST.out, B2.out, grown_refl _ _⟩
 case round =>
  obtain ⟨x, y, s0, s1, s2, s3, rfl, rfl, hs, hb, hgr⟩ := hrel
  obtain ⟨u, v, m, n, f1, f2, f3, f4, f5, f6, f7, f8, f9, f10, f11, f12, f13, f14, f15, f16, f17, f18, f19, f20, hstep⟩ := stOut_facts hs.out hx hy
  obtain ⟨c0, c1, c2, c3, z0, z1, z2, z3⟩ := hb.out.all
  obtain ⟨d0, d1, d2, d3, y0', y1', y2', y3'⟩ := (b1'.grown hgr (by intro e; injection e; omega)).all
  have hfin : Below w.heap.size w wr := grown_below hbw hgr (by omega) (by omega)
  have HFIN := Lib.hid hfin
  have HSTEP := Lib.hid hstep
  clear hfin hstep
  have hne : w.heap.size ≠ w.heap.size + 1 := by omega
  by_cases hv : v = 0
  ·subst hv
   clear HSTEP f5 f6 f7 f8
   go_wp2
   refine bodyPost_ret (v := .agg #[.int .i64 s0, .int .i64 s1, .int .i64 s2, .int .i64 s3]) (by simp [results, Tryz.results116, go_sem, d0, d1, d2, d3]) rfl ⟨x, y, s0, s1, s2, s3, rfl, hs, ((((HFIN.out.setCell (by simp) _).setCell (by simp) _).setCell (by simp) _).setCell (by simp) _)⟩
  by_cases hn : n = 0
  ·subst hn
   have hvp : (0 : Int) < (v : Int) := by omega
   clear HSTEP f5 f6 f7 f8
   go_wp2
   refine bodyPost_ret (v := .agg #[.int .i64 s0, .int .i64 s1, .int .i64 s2, .int .i64 s3]) (by simp [results, Tryz.results116, go_sem, d0, d1, d2, d3]) rfl ⟨x, y, s0, s1, s2, s3, rfl, hs, ((((HFIN.out.setCell (by simp) _).setCell (by simp) _).setCell (by simp) _).setCell (by simp) _)⟩
  have hvp : (0 : Int) < (v : Int) := by omega
  have hnp : (0 : Int) < (n : Int) := by omega
  have hv0 : (v : Int) ≠ 0 := by omega
  have hn0 : (n : Int) ≠ 0 := by omega
  obtain ⟨q1, hq1⟩ : ∃ q, u / v = q := ⟨_, rfl⟩
  obtain ⟨q2, hq2⟩ : ∃ q, m / n = q := ⟨_, rfl⟩
  have e1 : (u : Int) / (v : Int) = (q1 : Int) := by rw [← hq1]; simp
  have e2 : (m : Int) / (n : Int) = (q2 : Int) := by rw [← hq2]; simp
  have g1 : q1 ≤ 2000000000000000000 := by rw [← hq1]; have := Nat.div_le_self u v; omega
  have g2 : q2 ≤ 2000000000000000000 := by rw [← hq2]; have := Nat.div_le_self m n; omega
  by_cases hq : q1 = q2
  ·obtain ⟨q, hqq, k1, k2, k3, k4, k5, k6, k7, k8, k9⟩ := HSTEP.out (by omega) (by omega) (by rw [hq1, hq2, hq])
   rw [hq1] at hqq
   subst hqq
   subst hq
   have K9 := Lib.hid k9
   clear HSTEP k9 hq1 hq2
   go_wp2
   go_roundw
   case rel => exact ⟨y, x - q * y, s2, s3, s0 - q * s2, s1 - q * s3, by go_num, by go_num, K9.out, hb.out.store _ _ _ _, grown_set (grown_set (grown_set (grown_set hgr _ _) _ _) _ _) _ _⟩
   case measure => simp [intOf]; omega
  ·have hqd : (((q1 : Int)) != ((q2 : Int))) = true := by simp; omega
   clear HSTEP hq1 hq2
   go_wp2
   refine bodyPost_ret (v := .agg #[.int .i64 s0, .int .i64 s1, .int .i64 s2, .int .i64 s3]) (by simp [results, Tryz.results116, go_sem, d0, d1, d2, d3]) rfl ⟨x, y, s0, s1, s2, s3, rfl, hs, ((((HFIN.out.setCell (by simp) _).setCell (by simp) _).setCell (by simp) _).setCell (by simp) _)⟩
def coSt (p q : Int) (L M : List Nat) : Nat → List Nat × Int
 | 0 => (List.replicate L.length 0, 0)
 | k + 1 => ((coSt p q L M k).1.set k ((p * (nth L k : Int) + q * (nth M k : Int) + (coSt p q L M k).2) % 1000000000).toNat, (p * (nth L k : Int) + q * (nth M k : Int) + (coSt p q L M k).2) / 1000000000)
theorem coSt_succ (p q : Int) (L M : List Nat) (k : Nat) : coSt p q L M (k + 1) = ((coSt p q L M k).1.set k ((p * (nth L k : Int) + q * (nth M k : Int) + (coSt p q L M k).2) % 1000000000).toNat, (p * (nth L k : Int) + q * (nth M k : Int) + (coSt p q L M k).2) / 1000000000) := rfl
theorem mul_box {p : Int} {x : Nat} (h1 : -1000000000 ≤ p) (h2 : p ≤ 1000000000) (hx : x < 1000000000) : -999999999000000000 ≤ p * (x : Int) ∧ p * (x : Int) ≤ 999999999000000000 := by
 have h3 : p * (x : Int) ≤ 1000000000 * (x : Int) := Int.mul_le_mul_of_nonneg_right h2 (by omega)
 have h4 : -1000000000 * (x : Int) ≤ p * (x : Int) := Int.mul_le_mul_of_nonneg_right h1 (by omega)
 omega
theorem coSt_ok {p q : Int} {L M : List Nat} (hL : Lim L) (hM : Lim M) (hp1 : -1000000000 ≤ p) (hp2 : p ≤ 1000000000) (hq1 : -1000000000 ≤ q) (hq2 : q ≤ 1000000000) (k : Nat) :
  Lim (coSt p q L M k).1 ∧ -2000000000 ≤ (coSt p q L M k).2 ∧ (coSt p q L M k).2 ≤ 2000000000 ∧ (coSt p q L M k).1.length = L.length ∧ ∀ j, k ≤ j → nth (coSt p q L M k).1 j = 0 := by
 induction k with
 | zero =>
  refine ⟨fun d hd => ?_, by simp [coSt], by simp [coSt], by simp [coSt], fun j _ => ?_⟩
  ·have := List.eq_of_mem_replicate hd; omega
  ·simp only [coSt, nth, List.getD_eq_getElem?_getD, List.getElem?_replicate]; split <;> rfl
 | succ k ih =>
  obtain ⟨h1, h2, h3, h4, h5⟩ := ih
  have a := mul_box hp1 hp2 (hL.nth k)
  have b := mul_box hq1 hq2 (hM.nth k)
  rw [coSt_succ]
  generalize p * (nth L k : Int) = x at *
  generalize q * (nth M k : Int) = y at *
  refine ⟨h1.set _ (by omega), by dsimp only; omega, by dsimp only; omega, by simp [h4], fun j hj => ?_⟩
  have := h5 j (by omega)
  simp only [nth, List.getD_eq_getElem?_getD] at this ⊢
  rw [List.getElem?_set_ne (by omega)]
  exact this
theorem coSt_val {p q : Int} {L M : List Nat} (hL : Lim L) (hM : Lim M) (hp1 : -1000000000 ≤ p) (hp2 : p ≤ 1000000000) (hq1 : -1000000000 ≤ q) (hq2 : q ≤ 1000000000) (k : Nat) (hk : k ≤ L.length) :
  (valB 1000000000 (coSt p q L M k).1 : Int) + ((1000000000 ^ k : Nat) : Int) * (coSt p q L M k).2 = p * (valB 1000000000 (L.take k) : Int) + q * (valB 1000000000 (M.take k) : Int) := by
 induction k with
 | zero => simp [coSt, valB, valB_zeros]
 | succ k ih =>
  replace ih := ih (by omega)
  obtain ⟨h1, h2, h3, hl, h5⟩ := coSt_ok (q := q) (M := M) hL hM hp1 hp2 hq1 hq2 k
  have hz := h5 k (Nat.le_refl _)
  rw [coSt_succ]
  have hbt : valB 1000000000 (M.take (k + 1)) = valB 1000000000 (M.take k) + 1000000000 ^ k * nth M k := by
   rcases Nat.lt_or_ge k M.length with h | h
   ·exact valB_take_succ _ _ _ h
   ·rw [valB_take_over _ _ _ h, valB_take_over _ _ _ (by omega), nth_ge h]; simp
  rw [hbt, valB_take_succ _ _ _ (show k < L.length by omega)]
  have hs := fun v => valB_set 1000000000 (coSt p q L M k).1 k v (by omega)
  rw [hz] at hs
  generalize coSt p q L M k = s at *
  obtain ⟨S, c⟩ := s
  dsimp only at *
  obtain ⟨T, hT⟩ : ∃ T, p * (nth L k : Int) + q * (nth M k : Int) + c = T := ⟨_, rfl⟩
  rw [hT]
  have hs' := hs (T % 1000000000).toNat
  obtain ⟨r, hr⟩ : ∃ r, (T % 1000000000).toNat = r := ⟨_, rfl⟩
  rw [hr] at hs' ⊢
  obtain ⟨d, hd⟩ : ∃ d, T / 1000000000 = d := ⟨_, rfl⟩
  rw [hd]
  have hTd : T = 1000000000 * d + (r : Int) := by omega
  have hs2 : (valB 1000000000 (S.set k r) : Int) = (valB 1000000000 S : Int) + ((1000000000 ^ k : Nat) : Int) * (r : Int) := by
   rw [← Int.natCast_mul, ← Int.natCast_add]; congr 1
  rw [hs2, Nat.pow_succ]
  simp only [Int.natCast_add, Int.natCast_mul]
  obtain ⟨pk, hpk⟩ : ∃ pk : Int, ((1000000000 ^ k : Nat) : Int) = pk := ⟨_, rfl⟩
  rw [hpk] at ih ⊢
  clear hs hs' hs2 hr hd hpk h1 h2 h3 h5 hz hbt hL hM
  rw [hTd] at hT
  clear hTd
  generalize (nth L k : Int) = x at *
  generalize (nth M k : Int) = y at *
  generalize (valB 1000000000 S : Int) = vS at *
  generalize (valB 1000000000 (L.take k) : Int) = vL at *
  generalize (valB 1000000000 (M.take k) : Int) = vM at *
  generalize (r : Int) = rr at *
  clear hp1 hp2 hq1 hq2 hl hk
  grind
theorem coSt_end {p q : Int} {L M : List Nat} (hL : Lim L) (hM : Lim M) (hp1 : -1000000000 ≤ p) (hp2 : p ≤ 1000000000) (hq1 : -1000000000 ≤ q) (hq2 : q ≤ 1000000000) (hml : M.length ≤ L.length)
  (h0 : 0 ≤ p * (val9 L : Int) + q * (val9 M : Int)) (h1 : p * (val9 L : Int) + q * (val9 M : Int) ≤ (val9 L : Int)) :
  (val9 (coSt p q L M L.length).1 : Int) = p * (val9 L : Int) + q * (val9 M : Int) := by
 have h := coSt_val hL hM hp1 hp2 hq1 hq2 L.length (Nat.le_refl _)
 obtain ⟨k1, k2, k3, k4, k5⟩ := coSt_ok (q := q) (M := M) hL hM hp1 hp2 hq1 hq2 L.length
 rw [List.take_length, List.take_of_length_le hml] at h
 have hv := valB_lt (b := 1000000000) k1
 have hvL := valB_lt (b := 1000000000) hL
 rw [k4] at hv
 show (valB 1000000000 _ : Int) = _
 generalize coSt p q L M L.length = s at *
 obtain ⟨S, c⟩ := s
 dsimp only at *
 unfold val9 at h0 h1 ⊢
 generalize p * (valB 1000000000 L : Int) + q * (valB 1000000000 M : Int) = T at *
 generalize (1000000000 : Nat) ^ L.length = N at *
 generalize valB 1000000000 S = vS at *
 generalize valB 1000000000 L = vL at *
 have hc : c = 0 := by
  rcases Int.lt_trichotomy c 0 with hc | hc | hc
  ·have := Int.mul_le_mul_of_nonneg_left (show c ≤ -1 by omega) (show (0 : Int) ≤ (N : Int) by omega)
   omega
  ·exact hc
  ·have := Int.mul_le_mul_of_nonneg_left (show 1 ≤ c by omega) (show (0 : Int) ≤ (N : Int) by omega)
   omega
 rw [hc] at h
 omega
theorem tdm_neg {T : Int} (h : T.tmod 1000000000 < 0) : T.tmod 1000000000 + 1000000000 = T % 1000000000 ∧ T.tdiv 1000000000 - 1 = T / 1000000000 := by
 have h2 := Int.mul_tdiv_add_tmod T 1000000000
 have h3 := Int.lt_tmod_of_pos T (show (0 : Int) < 1000000000 by omega)
 omega
theorem tdm_pos {T : Int} (h : ¬ T.tmod 1000000000 < 0) : T.tmod 1000000000 = T % 1000000000 ∧ T.tdiv 1000000000 = T / 1000000000 := by
 have h2 := Int.mul_tdiv_add_tmod T 1000000000
 have h3 := Int.tmod_lt_of_pos T (show (0 : Int) < 1000000000 by omega)
 omega
set_option maxRecDepth 20000 in
set_option maxHeartbeats 3200000 in
theorem combine_any (A A' : Option Addr) (c c' : Nat) (p q : Int) (L M : List Nat) (w : World) (hl : L.length ≤ 400000) (hml : M.length ≤ 400000)
  (hp1 : -1000000000 ≤ p) (hp2 : p ≤ 1000000000) (hq1 : -1000000000 ≤ q) (hq2 : q ≤ 1000000000)
  (hL : Lim L) (hM : Lim M) (hR : Row .u32 w w.heap.size A c L) (hR' : Row .u32 w w.heap.size A' c' M) :
  Calls Tryz.prog 117 #[.slice A L.length c, .slice A' M.length c', .int .i64 p, .int .i64 q] w fun e w' =>
   e = .returned (.slice (some ⟨w.heap.size, 0, none⟩) (trimN (coSt p q L M L.length).1 L.length) L.length) ∧ Blk .u32 86 w' w.heap.size (coSt p q L M L.length).1 ∧ Below w.heap.size w w' := by
 obtain ⟨i0, hi, hz0, hz1, hz2⟩ := info_parts info68
 have hlim := fun B i W h1 h2 => limbAt_any A' c' B i M W (by omega) h1 hM h2
 generalize hl' : L.length = l at *
 generalize hm' : M.length = m at *
 have HL := Lib.hid hl'
 have HM := Lib.hid hm'
 have HLIM := Lib.hid hlim
 clear hl' hm' hlim
 go_enter Tryz.func117, Tryz.ntmps117
 go_wp2_with (refine wpList_make_zeros _ rfl (.tmp 14) (.tmp 14) 23 rfl 86 .u32 i0 4 Tryz.underlying23 hi hz0 hz1 hz2 .i64 .i64 _ _ l rfl rfl rfl rfl (by omega) (by omega) ?_; intro w1 hb1 hB1 hs1)
 have hg := hb1.out.lt
 go_loopw [10, 18] (fun cv iv wr => ∃ k : Nat, k ≤ l ∧ iv = .int .i64 k ∧ cv = .int .i64 (coSt p q L M k).2 ∧ Blk .u32 86 wr w.heap.size (coSt p q L M k).1 ∧ w1.grownBy wr (some w.heap.size)) (fun _ iv _ => l - (intOf iv).toNat)
 case atStart => exact ⟨0, Nat.zero_le _, rfl, rfl, by simpa [coSt, HL.out] using hb1.out, grown_refl _ _⟩
 case round =>
  obtain ⟨k, hk, rfl, rfl, hb, hgr⟩ := hrel
  obtain ⟨h1, h2, h3, h4, h5⟩ := coSt_ok (q := q) (M := M) hL hM hp1 hp2 hq1 hq2 k
  have HS := Lib.hid (coSt_succ p q L M k)
  generalize hs : coSt p q L M k = s at *
  have HK := Lib.hid hs
  clear hs h5
  obtain ⟨S, x⟩ := s
  dsimp only at *
  rw [HL.out] at h4
  by_cases hlt : k < l
  ·have hc := hb.cell k (by omega)
   have hfr := hb.frozen k
   obtain ⟨b', o', rfl, hbg, hcell'⟩ := hR.spot (by rw [HL.out]; omega)
   have hc' := ((hcell'.below hB1 hbg).grown hgr (by omega) (by intro e; injection e; omega)) k (by rw [HL.out]; exact hlt)
   have hRb := hR'.below (grown_below hB1 hgr (Nat.le_refl _) hB1.size)
   have hcall := fun n => (HLIM.out w.heap.size k (wr.drewN n) (by omega) (hRb.drewN n)).mono (R' := fun e w'' => e = .returned (.int .u64 (nth M k : Int)) ∧ ∃ m, w'' = wr.drewN m) (fun _ _ ⟨he, hw⟩ => ⟨he, n, hw.symm⟩)
   have HCALL := Lib.hid hcall
   have m1 := mul_box hp1 hp2 (hL.nth k)
   have m2 := mul_box hq1 hq2 (hM.nth k)
   have n1 := hL.nth k
   have n2 := hM.nth k
   clear hcall hcell'
   obtain ⟨al, hal⟩ : ∃ x, nth L k = x := ⟨_, rfl⟩
   obtain ⟨bl, hbl⟩ : ∃ x, nth M k = x := ⟨_, rfl⟩
   rw [hal] at m1 n1 hc'
   rw [hbl] at m2 n2 HCALL
   rw [hal, hbl] at HS
   clear hal hbl
   obtain ⟨m11, m12⟩ := m1
   obtain ⟨m21, m22⟩ := m2
   go_upto_region 6 with (fail)
   go_quiet ((go_at_call 129; exact HCALL.out _))
   obtain ⟨T, hT⟩ : ∃ T, p * (al : Int) + q * (bl : Int) + x = T := ⟨_, rfl⟩
   rw [hT] at HS ⊢
   have t1 : -2000000000000000000 ≤ T := by omega
   have t2 : T ≤ 2000000000000000000 := by omega
   clear hT m11 m12 m21 m22
   obtain ⟨R, hR9⟩ : ∃ R : Nat, (T % 1000000000).toNat = R := ⟨_, rfl⟩
   have hR8 : T % 1000000000 = (R : Int) := by omega
   rw [hR9] at HS
   by_cases hneg : T.tmod 1000000000 < 0
   ·obtain ⟨g1, g2⟩ := tdm_neg hneg
    go_wp2
    go_roundw
    case rel =>
     have E := HS.out
     have e1 := (hb.drewN nq).setI k (v := (R : Int)) (x := R) (by omega)
     exact ⟨k + 1, by omega, by go_num, by rw [E], by rw [E]; exact e1, grown_set (grown_drewN hgr _) _ _⟩
    case measure => simp [intOf]; omega
   ·obtain ⟨g1, g2⟩ := tdm_pos hneg
    go_wp2
    go_roundw
    case rel =>
     have E := HS.out
     have e1 := (hb.drewN nq).setI k (v := (R : Int)) (x := R) (by omega)
     exact ⟨k + 1, by omega, by go_num, by rw [E], by rw [E]; exact e1, grown_set (grown_drewN hgr _) _ _⟩
    case measure => simp [intOf]; omega
  ·obtain rfl : k = l := by omega
   have hT := trim_any (some ⟨w.heap.size, 0, none⟩) k w.heap.size 0 S wr (by omega) (by omega) (fun _ => rfl) hb.cells
   rw [h4] at hT
   have hB : Below w.heap.size w wr := grown_below hB1 hgr (Nat.le_refl _) hB1.size
   have hb9 := Lib.hid hb
   have HT := Lib.hid hT
   clear h4 hT hb
   go_wp2_with fail
   refine HT.out.mono ?_
   rintro e w4 ⟨rfl, rfl⟩
   go_wp2_with fail
   go_ret
   have hk' := HK.out
   rw [hk']
   exact ⟨rfl, hb9.out, hB⟩
theorem factor_ok {v : Nat} (h0 : 0 < v) (h1 : v < 1000000000) : 0 < 1000000000 / (v + 1) ∧ 1000000000 / (v + 1) < 1000000000 ∧ 1000000000 ≤ 4 * (1000000000 / (v + 1) * v) ∧ 1000000000 / (v + 1) * (v + 1) ≤ 1000000000 := by
 have h2 := Nat.div_add_mod 1000000000 (v + 1)
 have h3 := Nat.mod_lt 1000000000 (show v + 1 > 0 by omega)
 have h4 : 0 < 1000000000 / (v + 1) := Nat.div_pos (by omega) (by omega)
 have h5 : 1000000000 / (v + 1) < 1000000000 := Nat.div_lt_self (by omega) (by omega)
 rw [Nat.mul_comm] at h2
 generalize 1000000000 / (v + 1) = f at *
 generalize 1000000000 % (v + 1) = r at *
 have h6 : f * (v + 1) = f * v + f := by rw [Nat.mul_add, Nat.mul_one]
 have h7 : 1 * v ≤ f * v := Nat.mul_le_mul_right _ h4
 have h8 : f * 1 ≤ f * v := Nat.mul_le_mul_left _ h0
 refine ⟨h4, h5, ?_, by omega⟩
 omega
theorem canon_len_ge {L : List Nat} (hL : Lim L) {n : Nat} (h : 1000000000 ^ n ≤ val9 L) : n < L.length := by
 rcases Nat.lt_or_ge n L.length with h1 | h1
 ·exact h1
 ·have h2 := valB_lt hL
  have h3 : (1000000000 : Nat) ^ L.length ≤ 1000000000 ^ n := Nat.pow_le_pow_right (by omega) h1
  unfold val9 at h
  omega
theorem canon_len_le {L : List Nat} (hL : Canon L) {n : Nat} (h : val9 L < 1000000000 ^ n) : L.length ≤ n := by
 rcases Nat.lt_or_ge n L.length with h1 | h1
 ·exfalso
  have h2 := hL.top (by omega)
  exact h2 (val_small h _ (by omega))
 ·exact h1
theorem val_top {L : List Nat} {n : Nat} (h : L.length = n) (hn : 0 < n) : val9 L = val9 (L.take (n - 1)) + 1000000000 ^ (n - 1) * nth L (n - 1) := by
 have h1 := valB_take_succ 1000000000 L (n - 1) (by omega)
 rw [show n - 1 + 1 = n by omega, List.take_of_length_le (by omega)] at h1
 exact h1
theorem divisor_ok {D0 D : List Nat} {n f : Nat} (hD0 : Lim D0) (hn : D0.length = n) (hn0 : 0 < n) (htop : 0 < nth D0 (n - 1)) (hf : f = 1000000000 / (nth D0 (n - 1) + 1)) (hD : Canon D) (hv : val9 D = val9 D0 * f) :
  D.length = n ∧ 1000000000 ≤ 4 * nth D (n - 1) := by
 obtain ⟨f1, f2, f3, f4⟩ := factor_ok htop (hD0.nth (n - 1))
 rw [← hf] at f1 f2 f3 f4
 have h1 := val_top hn hn0
 have h2 := valB_lt (hD0.take (n - 1))
 rw [List.length_take, hn, Nat.min_eq_left (by omega)] at h2
 have hT : 0 < (1000000000 : Nat) ^ (n - 1) := Nat.pow_pos (by omega)
 have hlo : 1000000000 ^ (n - 1) * (f * nth D0 (n - 1)) ≤ val9 D := by
  rw [hv, h1, Nat.add_mul]
  have e : 1000000000 ^ (n - 1) * (f * nth D0 (n - 1)) = 1000000000 ^ (n - 1) * nth D0 (n - 1) * f := by rw [Nat.mul_comm f, Nat.mul_assoc]
  omega
 have hhi : val9 D < 1000000000 ^ n := by
  have e1 : val9 D0 < 1000000000 ^ (n - 1) * (nth D0 (n - 1) + 1) := by rw [Nat.mul_add, Nat.mul_one, h1]; unfold val9; omega
  have e2 : val9 D0 * f < 1000000000 ^ (n - 1) * (nth D0 (n - 1) + 1) * f := Nat.mul_lt_mul_of_pos_right e1 f1
  have e3 : 1000000000 ^ (n - 1) * (f * (nth D0 (n - 1) + 1)) ≤ 1000000000 ^ (n - 1) * 1000000000 := Nat.mul_le_mul_left _ f4
  have e4 : 1000000000 ^ (n - 1) * (f * (nth D0 (n - 1) + 1)) = 1000000000 ^ (n - 1) * (nth D0 (n - 1) + 1) * f := by rw [Nat.mul_comm f, Nat.mul_assoc]
  have e5 : (1000000000 : Nat) ^ n = 1000000000 ^ (n - 1) * 1000000000 := by rw [← Nat.pow_succ]; congr 1; omega
  rw [hv, e5]
  omega
 have hlen1 := canon_len_le hD hhi
 have hlen2 : n - 1 < D.length := canon_len_ge hD.lim (Nat.le_trans (by
  have : 1000000000 ^ (n - 1) * 1 ≤ 1000000000 ^ (n - 1) * (f * nth D0 (n - 1)) := Nat.mul_le_mul_left _ (by omega)
  omega) hlo)
 have hlen : D.length = n := by omega
 refine ⟨hlen, ?_⟩
 have h3 := val_top hlen hn0
 have h4 := valB_lt (hD.lim.take (n - 1))
 rw [List.length_take, hlen, Nat.min_eq_left (by omega)] at h4
 have h5 : 1000000000 ^ (n - 1) * (f * nth D0 (n - 1)) < 1000000000 ^ (n - 1) * (nth D (n - 1) + 1) := by
  rw [Nat.mul_add, Nat.mul_one]; unfold val9 at *; omega
 have h6 := Nat.lt_of_mul_lt_mul_left h5
 omega
structure DivInv (X F la n j : Nat) (R Q : List Nat) : Prop where
 rl : R.length = la + 1
 ql : Q.length = la - n + 1
 lr : Lim R
 lq : Lim Q
 val : val9 R + X * val9 Q = F
 lt : val9 R < X * 1000000000 ^ j
 zero : ∀ k, k < j → nth Q k = 0
theorem div_start {L Ra D0 : List Nat} {f la n : Nat} (hL : Lim L) (hla : L.length = la) (hn : D0.length = n) (hn0 : 0 < n) (hnl : n ≤ la) (htop : 0 < nth D0 (n - 1)) (hf : 0 < f) (hRl : Ra.length ≤ la + 1) (hRa : Lim Ra) (hv : val9 Ra = val9 L * f) {X : Nat} (hX : X = val9 D0 * f) :
  DivInv X (val9 L * f) la n (la - n + 1) (splice (List.replicate (la + 1) 0) 0 Ra) (List.replicate (la - n + 1) 0) := by
 have hs : splice (List.replicate (la + 1) 0) 0 Ra = Ra ++ List.replicate (la + 1 - Ra.length) 0 := by simp [splice]
 have hvs : val9 (splice (List.replicate (la + 1) 0) 0 Ra) = val9 Ra := by
  rw [hs]; unfold val9; rw [valB_append, valB_zeros]; omega
 refine ⟨by rw [hs]; simp; omega, by simp, ?_, ?_, ?_, ?_, fun k _ => nth_zeros _ _⟩
 ·rw [hs]
  intro d hd
  rcases List.mem_append.1 hd with h | h
  ·exact hRa d h
  ·have := (List.mem_replicate.1 h).2; omega
 ·intro d hd
  have := (List.mem_replicate.1 hd).2; omega
 ·rw [hvs, hv]; unfold val9; rw [valB_zeros]; simp
 ·rw [hvs, hv, hX]
  have h1 := valB_lt hL
  rw [hla] at h1
  have h2 := val_top hn hn0
  have h3 : 1000000000 ^ (n - 1) * 1 ≤ 1000000000 ^ (n - 1) * nth D0 (n - 1) := Nat.mul_le_mul_left _ htop
  have h4 : 1000000000 ^ (n - 1) ≤ val9 D0 := by omega
  have h5 : 1000000000 ^ (n - 1) * 1000000000 ^ (la - n + 1) ≤ val9 D0 * 1000000000 ^ (la - n + 1) := Nat.mul_le_mul_right _ h4
  rw [← Nat.pow_add, show n - 1 + (la - n + 1) = la by omega] at h5
  have h6 : val9 L * f < val9 D0 * 1000000000 ^ (la - n + 1) * f := Nat.mul_lt_mul_of_pos_right (by unfold val9 at *; omega) hf
  have e : val9 D0 * f * 1000000000 ^ (la - n + 1) = val9 D0 * 1000000000 ^ (la - n + 1) * f := by rw [Nat.mul_assoc, Nat.mul_comm f, Nat.mul_assoc]
  rw [e]
  exact h6
theorem div_round {X F la n i : Nat} {R R2 Q D : List Nat} (h : DivInv X F la n (i + 1) R Q) (hi : i < la - n + 1) (hX : val9 D = X) (hX0 : 0 < X) (hr : Lim R2) (hrl : R2.length = R.length) (hv : val9 R2 + 1000000000 ^ i * (digQ i D R * val9 D) = val9 R) :
  digQ i D R < 1000000000 ∧ DivInv X F la n i R2 (Q.set i (digQ i D R)) := by
 subst hX
 obtain ⟨h1, h2⟩ := dig_less (i := i) (V := val9 R) (X := val9 D) (N := val9 R2) hX0 h.lt hv
 change digQ i D R < 1000000000 at h2
 refine ⟨h2, by rw [hrl]; exact h.rl, by rw [List.length_set]; exact h.ql, hr, h.lq.set _ h2, ?_, h1, fun k hk => ?_⟩
 ·have h3 := valB_set 1000000000 Q i (digQ i D R) (by rw [h.ql]; exact hi)
  rw [h.zero i (by omega), Nat.mul_zero, Nat.add_zero] at h3
  have h4 := h.val
  unfold val9 at *
  rw [h3]
  generalize digQ i D R = q at *
  generalize valB 1000000000 R2 = r2 at *
  generalize valB 1000000000 R = r at *
  generalize valB 1000000000 D = x at *
  generalize valB 1000000000 Q = y at *
  generalize (1000000000 : Nat) ^ i = t at *
  rw [Nat.mul_add]
  have e : x * (t * q) = t * (q * x) := by rw [Nat.mul_comm x, Nat.mul_assoc]
  omega
 ·rw [nth_set_ne (by omega)]; exact h.zero k (by omega)
theorem div_end {a b f R X Q q2 r2 : Nat} (hf : 0 < f) (hX : X = b * f) (h1 : R + X * Q = a * f) (h2 : R < X) (h3 : q2 * f + r2 = R) (h4 : r2 < f) : Q * b + q2 = a ∧ q2 < b := by
 subst hX
 have e1 : b * f * Q = (Q * b) * f := by rw [Nat.mul_comm (b * f), Nat.mul_assoc]
 rw [e1] at h1
 have h5 : Q * b ≤ a := by
  rcases Nat.lt_or_ge a (Q * b) with h | h
  ·exfalso
   have : a * f < Q * b * f := Nat.mul_lt_mul_of_pos_right h hf
   omega
  ·exact h
 obtain ⟨t, rfl⟩ : ∃ t, a = Q * b + t := ⟨a - Q * b, by omega⟩
 rw [Nat.add_mul] at h1
 have h6 : R = t * f := by omega
 have h7 : q2 = t := by
  have e2 : R / f = t := by rw [h6]; exact Nat.mul_div_cancel _ hf
  have e3 : R / f = q2 := Nat.div_eq_of_lt_le (by omega) (by rw [Nat.add_mul]; omega)
  omega
 subst h7
 refine ⟨rfl, ?_⟩
 rw [h6] at h2
 exact Nat.lt_of_mul_lt_mul_right h2
structure DlInv (b : Nat) (L M : List Nat) (j r : Nat) : Prop where
 len : M.length = L.length
 low : ∀ k, k < j → nth M k = nth L k
 val : val9 (M.drop j) * b + r = val9 (L.drop j)
 lt : r < b
 lim : Lim M
theorem dl_step {b : Nat} {L M : List Nat} {j r : Nat} (hb : b < 1000000000) (hj : j < L.length) (hL : Lim L) (h : DlInv b L M (j + 1) r) :
  (r * 1000000000 + nth L j) / b < 1000000000 ∧ DlInv b L (M.set j ((r * 1000000000 + nth L j) / b)) j ((r * 1000000000 + nth L j) % b) := by
 have hb0 : 0 < b := by have := h.lt; omega
 have h1 : (r * 1000000000 + nth L j) / b < 1000000000 := by
  rw [Nat.div_lt_iff_lt_mul hb0]
  have h2 := h.lt
  have h3 := hL.nth j
  have h4 : (r + 1) * 1000000000 ≤ b * 1000000000 := Nat.mul_le_mul_right _ h2
  omega
 refine ⟨h1, by simp [h.len], fun k hk => ?_, ?_, Nat.mod_lt _ hb0, h.lim.set _ h1⟩
 ·rw [nth_set_ne (by omega)]; exact h.low k (by omega)
 ·rw [valB_drop9 (M.set j _) j, nth_set_eq (by rw [h.len]; exact hj), drop_set_low (by omega), valB_drop9 L j, ← h.val]
  have h5 := Nat.div_add_mod (r * 1000000000 + nth L j) b
  generalize (r * 1000000000 + nth L j) / b = x at *
  generalize (r * 1000000000 + nth L j) % b = y at *
  generalize val9 (M.drop (j + 1)) = v at *
  generalize nth L j = l at *
  clear h1 h hb hj hL hb0
  grind
theorem dl_start {b : Nat} {L : List Nat} (hL : Lim L) (hb : 0 < b) : DlInv b L L L.length 0 :=
 ⟨rfl, fun _ _ => rfl, by rw [List.drop_eq_nil_of_le (Nat.le_refl _)]; simp [valB], hb, hL⟩
theorem dl_end {b : Nat} {L M : List Nat} {r : Nat} (h : DlInv b L M 0 r) : val9 M * b + r = val9 L := by simpa using h.val
set_option maxRecDepth 20000 in
set_option maxHeartbeats 1600000 in
theorem divLimb_any (A : Option Addr) (c b : Nat) (L : List Nat) (w : World) (hl : L.length ≤ 1000000) (hL : Lim L) (hb0 : 0 < b) (hb : b < 1000000000) (hR : Row .u32 w w.heap.size A c L) :
  Calls Tryz.prog 97 #[.slice A L.length c, .int .u32 b] w fun e w' => ∃ A1 c1 Q A2 c2 R, e = .returned (.tuple #[.slice A1 (List.length Q) c1, .slice A2 (List.length R) c2]) ∧
   Row .u32 w' w'.heap.size A1 c1 Q ∧ Row .u32 w' w'.heap.size A2 c2 R ∧ Canon Q ∧ Canon R ∧ val9 Q * b + val9 R = val9 L ∧ val9 R < b ∧ List.length Q ≤ L.length ∧ List.length R ≤ 1 ∧ Below w.heap.size w w' := by
 have hCp := fun W h => copied_any A c L W (by omega) h
 have hst := dl_start (b := b) hL hb0
 generalize hl' : L.length = l at *
 have HL := Lib.hid hl'
 have HCp := Lib.hid hCp
 have HST := Lib.hid hst
 clear hl' hCp hst
 go_enter Tryz.func97, Tryz.ntmps97
 go_wp2_with fail
 refine (HCp.out _ hR).mono ?_
 rintro e w1 ⟨rfl, hb1, hB1⟩
 have hg := hb1.lt
 go_wp2_with fail
 go_loopw [6, 7] (fun rv iv wr => ∃ j M r, j ≤ l ∧ iv = .int .i64 ((j : Int) - 1) ∧ rv = .int .u64 (r : Nat) ∧ Blk .u32 86 wr w.heap.size M ∧ Hid (DlInv b L M j r) ∧ w1.grownBy wr (some w.heap.size)) (fun _ iv _ => (intOf iv + 1).toNat)
 case atStart => exact ⟨l, L, 0, Nat.le_refl _, rfl, rfl, hb1, HST.out, grown_refl _ _⟩
 case round =>
  obtain ⟨j, M, r, hj, rfl, rfl, hbk, hin, hgr⟩ := hrel
  rcases Nat.eq_zero_or_pos j with rfl | hpos
  ·have hv := dl_end hin.out
   have hlen := hin.out.len
   have hlim := hin.out.lim
   have hrb : r < b := hin.out.lt
   clear hin
   rw [HL.out] at hlen
   have hT := trim_any (some ⟨w.heap.size, 0, none⟩) l w.heap.size 0 M wr (by omega) (by omega) (fun _ => rfl) hbk.cells
   rw [hlen] at hT
   have HT := Lib.hid hT
   have HV := Lib.hid hv
   have HLEN := Lib.hid hlen
   clear hT hv hlen
   go_wp2_with fail
   refine HT.out.mono ?_
   rintro e w4 ⟨rfl, rfl⟩
   go_wp2_with fail
   have hb2 : Blk .u32 86 (wr.alloc (.cells #[.int .u32 r] 86)) wr.heap.size [r] := by
    show _ = _
    rw [heap_alloc_new]; rfl
   have hT2 := trim_any (some ⟨wr.heap.size, 0, none⟩) 1 wr.heap.size 0 [r] _ (by simp) (by simp) (fun _ => rfl) hb2.cells
   have HT2 := Lib.hid hT2
   have hbm := hbk.alloc (.cells #[.int .u32 r] 86)
   have HB2 := Lib.hid hb2
   have HBM := Lib.hid hbm
   clear hT2 hb2 hbm hbk
   refine HT2.out.mono ?_
   rintro e w5 ⟨rfl, rfl⟩
   go_wp2_with fail
   go_ret2
   have hw5 : (wr.alloc (.cells #[.int .u32 r] 86)).heap.size = wr.heap.size + 1 := by simp
   obtain ⟨Q, q1, q2, q3, q4⟩ := trim_pack (B := wr.heap.size + 1) (c := l) HBM.out hlim (by have := HBM.out.lt; rw [hw5] at this; exact this) (by rw [HLEN.out]; exact Nat.le_refl _)
   obtain ⟨R, r1, r2, r3, r4⟩ := trim_pack (B := wr.heap.size + 1) (c := 1) HB2.out (fun d hd => by rw [List.mem_singleton] at hd; omega) (Nat.lt_succ_self _) (by simp)
   rw [HLEN.out] at q1
   rw [hw5]
   have hv1 : val9 [r] = r := by simp [valB]
   have t1 := trimN_le M l
   have t2 := trimN_le [r] 1
   refine ⟨_, _, Q, _, _, R, by rw [q1, r1]; rfl, q2, r2, q3, r3, by rw [q4, r4, hv1]; exact HV.out, by rw [r4, hv1]; exact hrb, by omega, by rw [r1]; exact t2, ?_⟩
   exact (grown_below hB1 hgr (Nat.le_refl _) hB1.size).alloc (by have := hgr.size; have := hB1.size; omega) _
  ·obtain ⟨m, rfl⟩ : ∃ m, j = m + 1 := ⟨j - 1, by omega⟩
   have hm1 : ((m + 1 : Nat) : Int) - 1 = m := by omega
   have hs := dl_step hb (by rw [HL.out]; omega) hL hin.out
   have hlo := hin.out.low m (by omega)
   have hc := hbk.cell m (by rw [hin.out.len, HL.out]; omega)
   rw [hlo] at hc
   have hfr := hbk.frozen m
   have hr : r < b := hin.out.lt
   have hx := hL.nth m
   generalize nth L m = x at *
   have hq1 : (((r : Int) * 1000000000 + x) / b) ≤ 999999999 := by
    have := hs.1
    have e : (((r * 1000000000 + x) / b : Nat) : Int) = ((r : Int) * 1000000000 + x) / b := by simp
    omega
   have hq0 : 0 ≤ (((r : Int) * 1000000000 + x) / b) := Int.ediv_nonneg (by omega) (by omega)
   have HS := Lib.hid hs
   clear hs hlo hm1
   go_wp2
   go_roundw
   case rel =>
    have e1 := hbk.setI m (v := ((r : Int) * 1000000000 + x) / b) (x := (r * 1000000000 + x) / b) (by simp)
    exact ⟨m, _, _, by omega, rfl, by simp, e1, HS.out.2, grown_set hgr _ _⟩
   case measure => simp [intOf]
structure EsInv (H p f s d r : Nat) : Prop where
 eq : d * f + r = H
 up : H * 1000000000 + p < (d + 1) * (f * 1000000000 + s)
 r5 : r < 5000000000
theorem es_start {H p f s : Nat} (hf : 0 < f) (hf2 : f < 1000000000) (hp : p < 1000000000) : EsInv H p f s (H / f) (H % f) := by
 have h1 := Nat.div_add_mod H f
 have h2 := Nat.mod_lt H hf
 refine ⟨by rw [Nat.mul_comm]; exact h1, ?_, by omega⟩
 have h3 : H + 1 ≤ (H / f + 1) * f := by rw [Nat.add_mul, Nat.mul_comm]; omega
 have h4 : (H + 1) * 1000000000 ≤ (H / f + 1) * f * 1000000000 := Nat.mul_le_mul_right _ h3
 rw [Nat.mul_add, ← Nat.mul_assoc]
 omega
theorem es_d {H p f s d r : Nat} (h : EsInv H p f s d r) (hH : H < 1000000000000000000) (hf : 1000000000 ≤ 4 * f) : d ≤ 4000000000 := by
 have h1 := h.eq
 rcases Nat.lt_or_ge 4000000000 d with h2 | h2
 ·exfalso
  have h3 : 4000000001 * f ≤ d * f := Nat.mul_le_mul_right _ h2
  omega
 ·exact h2
theorem es_lin {x r H p y : Nat} (h : x + r = H) (hc : r * 1000000000 + p < y) : H * 1000000000 + p < x * 1000000000 + y := by
 subst h
 rw [Nat.add_mul, Nat.add_assoc]
 exact Nat.add_lt_add_left hc _
theorem es_step {H p f s d r : Nat} (h : EsInv H p f s d r) (hc : r * 1000000000 + p < d * s) (hd : d ≤ 4000000000) (hs : s < 1000000000) (hf : f < 1000000000) : 0 < d ∧ EsInv H p f s (d - 1) (r + f) := by
 have h0 : 0 < d := by
  rcases Nat.eq_zero_or_pos d with h0 | h0
  ·subst h0; omega
  ·exact h0
 obtain ⟨e, rfl⟩ : ∃ e, d = e + 1 := ⟨d - 1, by omega⟩
 refine ⟨h0, ?_, ?_, ?_⟩
 ·have := h.eq
  rw [Nat.add_mul] at this
  simp; omega
 ·have := h.eq
  rw [Nat.add_sub_cancel]
  have e1 : (e + 1) * (f * 1000000000 + s) = ((e + 1) * f) * 1000000000 + (e + 1) * s := by rw [Nat.mul_add, Nat.mul_assoc]
  obtain ⟨x, hx⟩ : ∃ x, (e + 1) * f = x := ⟨_, rfl⟩
  obtain ⟨y, hy⟩ : ∃ y, (e + 1) * s = y := ⟨_, rfl⟩
  rw [e1, hx, hy]
  rw [hx] at this
  rw [hy] at hc
  exact es_lin this hc
 ·have h1 := Nat.mul_le_mul_right s hd
  obtain ⟨y, hy⟩ : ∃ y, (e + 1) * s = y := ⟨_, rfl⟩
  rw [hy] at h1 hc
  clear hy
  omega
theorem es_end {H p f s d r : Nat} (h : EsInv H p f s d r) (hc : d * s ≤ r * 1000000000 + p) : (H * 1000000000 + p) / (f * 1000000000 + s) = d := by
 refine Nat.div_eq_of_lt_le ?_ h.up
 have h1 := h.eq
 have e1 : d * (f * 1000000000 + s) = (d * f) * 1000000000 + d * s := by rw [Nat.mul_add, Nat.mul_assoc]
 obtain ⟨x, hx⟩ : ∃ x, d * f = x := ⟨_, rfl⟩
 rw [e1, hx]
 rw [hx] at h1
 clear e1 hx
 omega
set_option maxRecDepth 20000 in
set_option maxHeartbeats 3200000 in
theorem estimate_any (g i m c : Nat) (A' : Option Addr) (c' : Nat) (M D : List Nat) (w : World) (hm : i + m + 3 ≤ M.length) (hml : M.length ≤ 2000000) (hD : D.length = m + 2) (_hc3 : m + 3 ≤ c)
    (hM : Lim M) (hDl : Lim D) (h4 : 1000000000 ≤ 4 * nth D (m + 1)) (hblk : Blk .u32 86 w g M) (hR : Row .u32 w w.heap.size A' c' D) :
    Calls Tryz.prog 114 #[.slice (some ⟨g, i, none⟩) (m + 3 : Nat) c, .slice A' (m + 2 : Nat) c'] w fun e w' => e = .returned (.int .u64 ((top3 M (i + m) / top2 D (m + 2) : Nat) : Int)) ∧ ∃ nq, w' = w.drewN nq := by
  obtain ⟨b, o, rfl, hbB, hcs⟩ := hR.spot (by omega)
  have k1 := hblk.cell (i + (m + 2)) (by omega)
  have k2 := hblk.cell (i + (m + 1)) (by omega)
  have k3 := hblk.cell (i + m) (by omega)
  have k4 := hcs (m + 1) (by omega)
  have k5 := hcs m (by omega)
  have x1 := hM.nth (i + (m + 2))
  have x2 := hM.nth (i + (m + 1))
  have x3 := hM.nth (i + m)
  have x4 := hDl.nth (m + 1)
  have x5 := hDl.nth m
  have hgoal : Hid (top3 M (i + m) / top2 D (m + 2) = ((nth M (i + (m + 2)) * 1000000000 + nth M (i + (m + 1))) * 1000000000 + nth M (i + m)) / (nth D (m + 1) * 1000000000 + nth D m)) := rfl
  have hc' := hR.len
  rw [hD] at hc'
  generalize top3 M (i + m) / top2 D (m + 2) = G at *
  generalize nth M (i + (m + 2)) = p2 at *
  generalize nth M (i + (m + 1)) = p1 at *
  generalize nth M (i + m) = p0 at *
  generalize nth D (m + 1) = f at *
  generalize nth D m = s at *
  have b1 : (0 : Int) ≤ (m : Int) + 2 := by omega
  have b2 : (m : Int) + 2 < (m : Int) + 3 := by omega
  have b3 : (m : Int) + 2 - 1 = (m : Int) + 1 := by omega
  have b4 : (m : Int) + 2 - 2 = (m : Int) := by omega
  clear hcs hR
  go_enter Tryz.func114, Tryz.ntmps114
  go_wp2
  go_quiet (fail)
  go_wp2
  have hH : ((p2 : Int) * 1000000000 + p1) = ((p2 * 1000000000 + p1 : Nat) : Int) := by simp
  rw [hH]
  clear hH
  have hH2 : p2 * 1000000000 + p1 < 1000000000000000000 := by omega
  obtain ⟨H, hHe⟩ : ∃ H : Nat, p2 * 1000000000 + p1 = H := ⟨_, rfl⟩
  have HG := Lib.hid hgoal.out
  clear hgoal
  rw [hHe]
  rw [hHe] at hH2
  have HHE := Lib.hid hHe
  clear hHe
  have hst := es_start (H := H) (p := p0) (f := f) (s := s) (by omega) x4 x3
  have hf0 : (f : Int) ≠ 0 := by omega
  have hb1 : (0 : Int) ≤ (H : Int) / (f : Int) := Int.ediv_nonneg (by omega) (by omega)
  have hb2 : (H : Int) / (f : Int) ≤ 4000000000 := by
    have := es_d hst hH2 h4
    have e : ((H / f : Nat) : Int) = (H : Int) / (f : Int) := by simp
    omega
  have HST := Lib.hid hst
  clear hst
  go_quiet (fail)
  go_wp2
  go_quiet (fail)
  go_wp2
  go_loop [9, 10] (fun dv rv => ∃ d r : Nat, dv = .int .u64 (d : Int) ∧ rv = .int .u64 (r : Int) ∧ Hid (EsInv H p0 f s d r)) (fun dv _ => (intOf dv).toNat)
  case atStart => exact ⟨H / f, H % f, by simp, by simp, HST.out⟩
  case round =>
    obtain ⟨d, r, rfl, rfl, hin⟩ := hrel
    have hd4 := es_d hin.out hH2 h4
    have hr5 := hin.out.r5
    have hds : (d : Int) * (s : Int) ≤ 4000000000000000000 := by
      have h1 := Nat.mul_le_mul hd4 (Nat.le_of_lt x5)
      have e : ((d * s : Nat) : Int) = (d : Int) * (s : Int) := by simp
      omega
    have hds0 := mul_nonnegI d s
    by_cases hc : (r : Int) * 1000000000 + p0 < (d : Int) * s
    · have hs := es_step hin.out (by have e : ((d * s : Nat) : Int) = (d : Int) * (s : Int) := by simp
                                     omega) hd4 x5 x4
      have hd0 := hs.1
      have HS := Lib.hid hs.2
      clear hs hin
      go_wp2
      go_round
      case rel => exact ⟨d - 1, by omega, r + f, by simp, HS.out⟩
      case measure => simp [intOf]; omega
    · have he := es_end hin.out (by have e : ((d * s : Nat) : Int) = (d : Int) * (s : Int) := by simp
                                    omega)
      have HE := Lib.hid he
      clear he hin
      go_wp2
      go_ret
      exact ⟨ret_int (by rw [HG, HHE.out, HE.out]), ⟨_, rfl⟩⟩
set_option maxRecDepth 20000 in
set_option maxHeartbeats 3200000 in
theorem subMul_any (g o n c d : Nat) (A' : Option Addr) (c' : Nat) (M D : List Nat) (w : World) (hn : o + n ≤ M.length) (hm : M.length ≤ 3000000) (hl : D.length ≤ 1000000) (hd : d ≤ 4000000000)
  (hM : Lim M) (hD : Lim D) (hblk : Blk .u32 86 w g M) (hR : Row .u32 w g A' c' D) :
  Calls Tryz.prog 115 #[.slice (some ⟨g, o, none⟩) n c, .slice A' D.length c', .int .u64 (d : Int)] w fun e w' => e = .returned (.bool (decide ((smSt o d D M n).2 = 0))) ∧ Blk .u32 86 w' g (smSt o d D M n).1 ∧ w.grownBy w' (some g) := by
 generalize hl' : D.length = l at *
 have HL := Lib.hid hl'
 clear hl'
 go_enter Tryz.func115, Tryz.ntmps115
 go_wp2
 go_loopw [7, 12] (fun cv iv wr => ∃ k : Nat, k ≤ n ∧ iv = .int .i64 k ∧ cv = .int .u64 ((smSt o d D M k).2 : Int) ∧ Blk .u32 86 wr g (smSt o d D M k).1 ∧ w.grownBy wr (some g)) (fun _ iv _ => n - (intOf iv).toNat)
 case atStart => exact ⟨0, Nat.zero_le _, rfl, rfl, hblk, grown_refl _ _⟩
 case round =>
  obtain ⟨k, hk, rfl, rfl, hb, hgr⟩ := hrel
  obtain ⟨h1, h2, h3⟩ := smSt_ok (o := o) (d := d) hD hM k
  have HS := Lib.hid (smSt_succ o d D M k)
  generalize hs : smSt o d D M k = s at *
  have HK := Lib.hid hs
  clear hs
  obtain ⟨S, x⟩ := s
  dsimp only at *
  by_cases hlt : k < n
  ·have hc := hb.cell (o + k) (by omega)
   have hfr := hb.frozen (o + k)
   have b1 := h1.nth (o + k)
   have b2 := hD.nth k
   by_cases hkl : k < l
   ·obtain ⟨b', o', rfl, hbg, hcell'⟩ := hR.spot (by rw [HL.out]; omega)
    have hc' := (hcell'.grown hgr (by have := hblk.lt; omega) (by intro e; injection e; omega)) k (by rw [HL.out]; exact hkl)
    have b3 := mul_nonnegI d (nth D k)
    have b4 : (d : Int) * (nth D k : Int) ≤ 4000000000000000000 := by
     have h1 := Nat.mul_le_mul hd (Nat.le_of_lt b2)
     have e : ((d * nth D k : Nat) : Int) = (d : Int) * (nth D k : Int) := by simp
     omega
    have hcast : (((x + d * nth D k : Nat) : Int)) = (x : Int) + (d : Int) * (nth D k : Int) := by simp
    have HCAST := Lib.hid hcast
    clear hcell' hcast
    by_cases hbo : (nth S (o + k) : Int) < ((x : Int) + (d : Int) * (nth D k : Int)) % 1000000000
    ·go_wp2
     go_roundw
     case rel =>
      have E := HS.out
      have hbn : nth S (o + k) < (x + d * nth D k) % 1000000000 := by rw [← HCAST.out] at hbo; omega
      rw [if_pos hbn] at E
      have e1 := (hb.setI (o + k) (v := (nth S (o + k) : Int) + 1000000000) (x := nth S (o + k) + 1000000000) (by omega)).setI (o + k) (v := (nth S (o + k) : Int) + 1000000000 - ((x : Int) + (d : Int) * (nth D k : Int)) % 1000000000) (x := nth S (o + k) + 1000000000 - (x + d * nth D k) % 1000000000) (by rw [← HCAST.out]; omega)
      rw [List.set_set] at e1
      exact ⟨k + 1, by omega, by go_num, by rw [E]; simp, by rw [E]; exact e1, grown_set (grown_set hgr _ _) _ _⟩
     case measure => simp [intOf]; omega
    ·go_wp2
     go_roundw
     case rel =>
      have E := HS.out
      have hbn : ¬ nth S (o + k) < (x + d * nth D k) % 1000000000 := by rw [← HCAST.out] at hbo; omega
      rw [if_neg hbn] at E
      have e1 := hb.setI (o + k) (v := (nth S (o + k) : Int) - ((x : Int) + (d : Int) * (nth D k : Int)) % 1000000000) (x := nth S (o + k) - (x + d * nth D k) % 1000000000) (by rw [← HCAST.out]; omega)
      exact ⟨k + 1, by omega, by go_num, by rw [E]; simp, by rw [E]; exact e1, grown_set hgr _ _⟩
     case measure => simp [intOf]; omega
   ·have hz : nth D k = 0 := nth_ge (by rw [HL.out]; omega)
    have HZ := Lib.hid hz
    clear hz
    by_cases hbo : (nth S (o + k) : Int) < (x : Int) % 1000000000
    ·go_wp2
     go_roundw
     case rel =>
      have E := HS.out
      simp only [HZ.out, Nat.mul_zero, Nat.add_zero] at E
      rw [if_pos (by omega)] at E
      have e1 := (hb.setI (o + k) (v := (nth S (o + k) : Int) + 1000000000) (x := nth S (o + k) + 1000000000) (by omega)).setI (o + k) (v := (nth S (o + k) : Int) + 1000000000 - (x : Int) % 1000000000) (x := nth S (o + k) + 1000000000 - x % 1000000000) (by omega)
      rw [List.set_set] at e1
      exact ⟨k + 1, by omega, by go_num, by rw [E]; simp, by rw [E]; exact e1, grown_set (grown_set hgr _ _) _ _⟩
     case measure => simp [intOf]; omega
    ·go_wp2
     go_roundw
     case rel =>
      have E := HS.out
      simp only [HZ.out, Nat.mul_zero, Nat.add_zero] at E
      rw [if_neg (by omega)] at E
      have e1 := hb.setI (o + k) (v := (nth S (o + k) : Int) - (x : Int) % 1000000000) (x := nth S (o + k) - x % 1000000000) (by omega)
      exact ⟨k + 1, by omega, by go_num, by rw [E]; simp, by rw [E]; exact e1, grown_set hgr _ _⟩
     case measure => simp [intOf]; omega
  ·obtain rfl : k = n := by omega
   go_wp2
   go_ret
   exact ⟨by rw [HK.out]; by_cases hx : x = 0 <;> simp [hx], by rw [HK.out]; exact hb, hgr⟩
theorem wpList_copy_row2 {P : Program} {w : World} {ops : Array Oper} {rest : List Oper} {o : Oper} {a : Act} {Q : Exit → Act → World → Prop} (hgd : o.guard = none) (d s : Operand) (dT sT : TypeId)
  (ho : o.op = .call { callee := .builtin .copy, args := #[d, s], argTypes := #[dT, sT] }) (elem : TypeId) (hu : P.underlying dT = some (.slice elem)) (hsz : (P.info? elem).map (·.size) = some 1)
  (k : IntKind) (t : TypeId) (g dLen dCap sCap : Nat) (A : Option Addr) (M L : List Nat) (hd : a.eval d = .slice (some ⟨g, 0, none⟩) dLen dCap) (hs : a.eval s = .slice A L.length sCap)
  (hg : Blk k t w g M) {B : Nat} (hR : Row k w B A sCap L) (hfit : L.length ≤ dLen) (hM : dLen ≤ M.length)
  (h : ∀ w', Hid (Blk k t w' g (splice M 0 L)) → Below g w w' → wpList P ops Q rest (a.put o.dst (goInt L.length)) w') :
  wpList P ops Q (o :: rest) a w := by
 refine wpList_copy_splice hgd d s dT sT ho elem hu hsz (some ⟨g, 0, none⟩) A dLen dCap L.length sCap hd hs g 0 (M.map fun (d : Nat) => Value.int k (d : Int)) t hg (L.map fun (d : Nat) => Value.int k (d : Int)) ?_ ?_ ?_ ?_ g w (Below.refl _ _) (Nat.le_refl _) ?_
 ·simp only [List.length_map]; exact (Nat.min_eq_left hfit).symm
 ·intro hp
  refine ⟨rfl, ?_⟩
  obtain ⟨b, o, e, _, hc⟩ := hR.spot (by simpa using hp)
  refine ⟨_, e, fun j v hj => ?_⟩
  have hjl : j < L.length := by
   rcases Nat.lt_or_ge j L.length with h1 | h1
   ·exact h1
   ·rw [List.getElem?_eq_none (by simpa using h1)] at hj; cases hj
  have h2 := hc j hjl
  have h3 : v = .int k (nth L j) := by
   rw [List.getElem?_map, List.getElem?_eq_getElem hjl] at hj
   simp at hj
   rw [← hj, nth_lt hjl]
  rw [h3, ← h2]
  unfold Addr.add
  split
  ·rename_i h0; subst h0; simp
  ·rfl
 ·simpa using Nat.le_trans hfit hM
 ·intro v hv
  obtain ⟨d, _, rfl⟩ := List.mem_map.1 hv
  rfl
 ·intro w' h1 h2
  have h3 := h1.out
  rw [splice_map] at h3
  have h4 := h w' h3 h2
  simpa using h4
theorem blk_one (w : World) (f : Nat) : Blk .u32 86 (w.alloc (.cells #[.int .u32 f] 86)) w.heap.size [f] := by
 show _ = _
 rw [heap_alloc_new]; rfl
set_option maxRecDepth 20000 in
set_option maxHeartbeats 6400000 in
theorem divLong_any (A A' : Option Addr) (c c' m : Nat) (L M : List Nat) (w : World) (hl : L.length ≤ 400000) (hm : M.length = m + 2) (hml : m + 2 ≤ L.length) (hL : Lim L) (hM : Canon M)
  (hR : Row .u32 w w.heap.size A c L) (hR' : Row .u32 w w.heap.size A' c' M) :
  Calls Tryz.prog 98 #[.slice A L.length c, .slice A' M.length c'] w fun e w' => ∃ A1 c1 Q A2 c2 R, e = .returned (.tuple #[.slice A1 (List.length Q) c1, .slice A2 (List.length R) c2]) ∧
   Row .u32 w' w'.heap.size A1 c1 Q ∧ Row .u32 w' w'.heap.size A2 c2 R ∧ Canon Q ∧ Canon R ∧ val9 Q * val9 M + val9 R = val9 L ∧ val9 R < val9 M ∧ List.length Q ≤ L.length ∧ List.length R ≤ L.length + 1 ∧ Below w.heap.size w w' := by
 obtain ⟨i0, hi, hz0, hz1, hz2⟩ := info_parts info68
 obtain ⟨b, o, rfl, hbB, hcs⟩ := hR'.spot (by omega)
 have htop : 0 < nth M (m + 2 - 1) := Nat.pos_of_ne_zero (by have := hM.top (by omega); rw [hm] at this; exact this)
 have hv9 := hM.lim.nth (m + 2 - 1)
 have hcv := hcs (m + 1) (by omega)
 obtain ⟨f, hf⟩ : ∃ f, f = 1000000000 / (nth M (m + 2 - 1) + 1) := ⟨_, rfl⟩
 obtain ⟨f1, f2, f3, f4⟩ := factor_ok htop hv9
 rw [← hf] at f1 f2 f3 f4
 have hfe : (1000000000 : Int) / ((nth M (m + 1) : Int) + 1) = (f : Int) := by rw [hf]; simp
 have hmu1 := fun (W : World) (B : Option Addr) (d : Nat) h1 h2 => mult2 (some ⟨b, o, none⟩) B c' d M [f] W (by omega) (by simp) hM.lim (fun d hd => by rw [List.mem_singleton] at hd; omega) h1 h2
 have hmu2 := fun (W : World) (B : Option Addr) (d : Nat) h1 h2 => mult2 A B c d L [f] W (by omega) (by simp) hL (fun d hd => by rw [List.mem_singleton] at hd; omega) h1 h2
 have hx9 : nth M (m + 1) < 1000000000 := hv9
 have HMU1 := Lib.hid hmu1
 have HMU2 := Lib.hid hmu2
 have HTOP := Lib.hid htop
 have HF := Lib.hid hf
 have HF3 := Lib.hid f3
 have HF4 := Lib.hid f4
 clear hmu1 hmu2 htop hf f3 f4 hcs hv9
 generalize hl' : L.length = l at *
 have HL := Lib.hid hl'
 have HM := Lib.hid hm
 clear hl'
 rw [hm]
 clear hm
 have hlc := hR'.len
 rw [HM.out] at hlc
 go_enter Tryz.func98, Tryz.ntmps98
 go_wp2_with fail
 have hbF := blk_one w f
 have hbw0 := below_alloc_new (w := w) (.cells #[.int .u32 f] 86)
 have hsF : (w.alloc (.cells #[.int .u32 f] 86)).heap.size = w.heap.size + 1 := by simp
 have HRA := Lib.hid (hR.up hbw0)
 have HRB := Lib.hid (hR'.up hbw0)
 generalize w.alloc (.cells #[.int .u32 f] 86) = w0 at *
 clear hfe hcv hR hR'
 have HF0 := Lib.hid (Row.ofBlk (B := w0.heap.size) (c := 1) hbF hbF.lt (by simp))
 have h1 := HMU1.out _ _ _ HRB.out HF0.out
 rw [HM.out] at h1
 refine h1.mono ?_
 rintro e w1 ⟨gD, cD, D, rfl, hrD, hcD, hvD, hlD, hb1, hgD⟩
 have hv1 : val9 [f] = f := by simp [valB]
 rw [hv1] at hvD
 obtain ⟨hDl, hDt⟩ := divisor_ok hM.lim HM.out (by omega) HTOP.out HF.out hcD hvD
 have HVD := Lib.hid hvD
 have HDL := Lib.hid hDl
 have HDT := Lib.hid hDt
 have hb1F := hbF.below hb1 hbF.lt
 have HB1 := Lib.hid (hbw0.trans (Below.less hb1 hbw0.size))
 have HRA1 := Lib.hid (HRA.out.up hb1)
 have HRF1 := Lib.hid (HF0.out.up hb1)
 rw [hDl]
 have hs1 := hb1.size
 clear h1 hvD hDl hDt hbF hb1 hlD HRA HF0 HRB
 go_wp2_with (first
  | (refine wpList_make_zeros _ rfl (.tmp 26) (.tmp 26) 23 rfl 86 .u32 i0 4 Tryz.underlying23 hi hz0 hz1 hz2 .i64 .i64 _ _ (l + 1) rfl rfl (by omega) (by omega) (by omega) (by omega) ?_; intro w2 hb2 hB2 hs2)
  | fail)
 have hsw2 := hB2.size
 have h2 := HMU2.out _ _ _ (HRA1.out.up hB2) (HRF1.out.up hB2)
 refine h2.mono ?_
 rintro e w3 ⟨gA, cA, Ra, rfl, hrA, hcA, hvA, hlA, hb3, hgA⟩
 have hv1 : val9 [f] = f := by simp [valB]
 rw [hv1] at hvA
 have HB3 := Lib.hid (HB1.out.trans (Below.less (hB2.trans (Below.less hb3 hsw2)) HB1.out.size))
 have HRD := Lib.hid ((hrD.below hB2).below (Below.less hb3 hsw2))
 have HVA := Lib.hid hvA
 have hF3 := Lib.hid ((hb1F.below hB2 hb1F.lt).below hb3 (by have := hb1F.lt; omega))
 have hb2g := hb2.out.lt
 have hbR := hb2.out.below hb3 hb2g
 have HBR := Lib.hid hbR
 have hs3 := hb3.size
 have HRAn := Lib.hid hrA
 have hg1 : w.heap.size < w1.heap.size := hb1F.lt
 generalize hgR : w1.heap.size = gR at *
 have HGR := Lib.hid hgR
 clear hgR h2 hvA hb1F hb2 hbR hb3 hrD hrA hB2 HRA1 HRF1
 have hlA' : List.length Ra ≤ l + 1 := by simpa using hlA
 go_wp2_with (first
  | (refine wpList_copy_row2 rfl (.tmp 28) (.tmp 31) 23 23 rfl 86 Tryz.underlying23 size68 .u32 86 gR (l + 1) (l + 1) cA (some ⟨gA, 0, none⟩) (List.replicate (l + 1) 0) Ra rfl rfl HBR.out HRAn.out hlA' (by simp) ?_; intro w4 hb4 hB4)
  | (refine wpList_make_zeros _ rfl (.tmp 38) (.tmp 38) 23 rfl 86 .u32 i0 4 Tryz.underlying23 hi hz0 hz1 hz2 .i64 .i64 _ _ (l - (m + 2) + 1) rfl rfl (by omega) (by omega) (by omega) (by omega) ?_; intro w5 hb5 hB5 hs5)
  | fail)
 have hst := div_start (L := L) (Ra := Ra) (D0 := M) (f := f) (la := l) (n := m + 2) hL HL.out HM.out (by omega) hml HTOP.out f1 hlA' hcA.lim HVA.out HVD.out
 have hRl := hst.rl
 have kR := hb4.out.below hB5 hb4.out.lt
 have kQ := hb5.out
 have hgRQ := hb4.out.lt
 have kD := (HRD.out.below hB4).below (Below.less hB5 (Nat.le_of_lt hgRQ))
 have kF := (hF3.out.below hB4 hg1).below (Below.less hB5 (Nat.le_of_lt hgRQ)) hg1
 have hB45 := hB4.trans (Below.less hB5 (Nat.le_of_lt hgRQ))
 have HB5 := Lib.hid (HB3.out.trans (Below.less hB45 (Nat.le_of_lt hg1)))
 have HB35 := Lib.hid hB45
 have HST := Lib.hid hst
 have KD := Lib.hid kD
 have KF := Lib.hid kF
 have hs5' := hB5.size
 generalize w4.heap.size = gQ at *
 generalize hq0 : l - (m + 2) = q0 at *
 have hq0' : q0 + (m + 2) = l := by omega
 have HQ0 := Lib.hid hq0
 clear hq0 hst hB45 kD kF hb4 hb5 hB4 hB5 hs5 HBR HRAn HRD hF3 HB3 HB1 hlA hlA' hRl
 have hX0 : 0 < val9 D := by
  have h1 := val_top HDL.out (by omega)
  have h2 := HDT.out
  have h3 : 0 < nth D (m + 2 - 1) := by omega
  have h4 : 1000000000 ^ (m + 2 - 1) * 1 ≤ 1000000000 ^ (m + 2 - 1) * nth D (m + 2 - 1) := Nat.mul_le_mul_left _ h3
  have h5 : 0 < (1000000000 : Nat) ^ (m + 2 - 1) := Nat.pow_pos (by omega)
  omega
 go_loopw [9] (fun iv wr => ∃ j R Q, j ≤ q0 + 1 ∧ iv = .int .i64 ((j : Int) - 1) ∧ Blk .u32 86 wr gR R ∧ Blk .u32 86 wr gQ Q ∧ Hid (DivInv (val9 D) (val9 L * f) l (m + 2) j R Q) ∧ Below gR w5 wr) (fun iv _ => (intOf iv + 1).toNat)
 case atStart => exact ⟨q0 + 1, _, _, Nat.le_refl _, by simp, kR, kQ, HST.out, Below.refl _ _⟩
 case round =>
  obtain ⟨j, R, Q, hj, rfl, hbR, hbQ, hin, hbw⟩ := hrel
  rcases Nat.eq_zero_or_pos j with rfl | hpos
  ·go_upto_region 15 with (fail)
   have hcF : wr.cell? ⟨w.heap.size, 0, none⟩ = some (.int .u32 f) := by
    have := (KF.out.below hbw hg1).cell 0 (by simp)
    simpa [nth] using this
   have hfin := hin.out
   have htR := fun (V : World) (hV : Blk .u32 86 V gR R) => trim_any (some ⟨gR, 0, none⟩) (l + 1) gR 0 R V (by rw [hfin.rl]; omega) (by rw [hfin.rl]; exact Nat.le_refl _) (fun _ => rfl) hV.cells
   rw [hfin.rl] at htR
   obtain ⟨RT, q1, q2, q3, q4⟩ := trim_pack (B := wr.heap.size) (c := l + 1) hbR hfin.lr hbR.lt (by rw [hfin.rl]; exact Nat.le_refl _)
   rw [hfin.rl] at q1
   rw [← q1] at htR
   have htl := trimN_le R (l + 1)
   have hdv := fun (V : World) hV => divLimb_any (some ⟨gR, 0, none⟩) (l + 1) f RT V (by omega) q3.lim f1 f2 hV
   have HTR := Lib.hid htR
   have HDV := Lib.hid hdv
   have HQ2 := Lib.hid q2
   have HQ4 := Lib.hid q4
   have HBR2 := Lib.hid hbR
   have HQ1L := Lib.hid q1
   have HFIN := Lib.hid hfin
   have HQ3 := Lib.hid q3
   clear q1 q2 q4 hbR hfin htR hdv q3 hin
   have HC := Lib.hid (below_drew (Below.refl wr.heap.size wr))
   have hltF : w.heap.size < wr.heap.size := by have := hbw.size; omega
   go_region_held3 (fun w' => w'.cell? ⟨w.heap.size, 0, none⟩ = some (.int .u32 f)) (go_keep)
    (first
     | (go_at_call 61; (with_reducible refine (HTR.out _ (HBR2.out.drew)).mono ?_); rintro e w9 ⟨rfl, rfl⟩)
     | (go_at_call 97; (with_reducible refine (HDV.out _ (HQ2.out.drew)).mono ?_); rintro e w9 ⟨A1, c1, Q1, A2, c2, R1, rfl, k1, k2, k3, k4, k5, k6, k7, k8, k9⟩; have hcF9 := (k9.cell (p := ⟨w.heap.size, 0, none⟩) (by exact hltF)).trans hcF))
   all_goals
    have kk : Below wr.heap.size wr w9 := below_undrew k9
    have hbQ9 := hbQ.below kk hbQ.lt
    have hql := HFIN.out.ql
    rw [HQ0.out] at hql
    have htQ := trim_any (some ⟨gQ, 0, none⟩) (q0 + 1) gQ 0 Q w9 (by omega) (by omega) (fun _ => rfl) hbQ9.cells
    rw [hql] at htQ
    have HTQ := Lib.hid htQ
    have HBQ9 := Lib.hid hbQ9
    have HQL := Lib.hid hql
    clear htQ hbQ9 hql
    go_wp2_with fail
    refine HTQ.out.mono ?_
    rintro e w10 ⟨rfl, rfl⟩
    go_wp2_with fail
    go_ret2
    obtain ⟨QT, r1, r2, r3, r4⟩ := trim_pack (B := w9.heap.size) (c := q0 + 1) HBQ9.out HFIN.out.lq HBQ9.out.lt (by rw [HQL.out]; exact Nat.le_refl _)
    rw [HQL.out] at r1
    have hend := div_end (a := val9 L) (b := val9 M) (f := f) (R := val9 R) (X := val9 D) (Q := val9 Q) (q2 := val9 Q1) (r2 := val9 R1) f1 HVD.out HFIN.out.val (by have := HFIN.out.lt; simpa using this) (by rw [k5, HQ4.out]) k6
    have t1 := trimN_le Q (q0 + 1)
    have t2 := HQ1L.out
    exact ⟨_, _, QT, _, _, Q1, by rw [r1]; rfl, r2, k1, r3, k3, by rw [r4]; exact hend.1, hend.2, by omega, by omega, HB5.out.trans (Below.less (hbw.trans (Below.less kk (by have := hbw.size; show gR ≤ wr.heap.size; omega))) (by omega))⟩
  ·obtain ⟨i, rfl⟩ : ∃ i, j = i + 1 := ⟨j - 1, by omega⟩
   have hi1 : ((i + 1 : Nat) : Int) - 1 = i := by omega
   have n1 : (0 : Int) ≤ (i : Int) := by omega
   have n2 : (i : Int) ≤ (i : Int) + ((m : Int) + 2) + 1 := by omega
   have n3 : (i : Int) + ((m : Int) + 2) + 1 ≤ (l : Int) + 1 := by omega
   have n4 : ¬ l + 1 = i := by omega
   have n5 : ¬ l + 1 - i = 0 := by omega
   rw [hi1]
   clear hi1
   go_wp2_with fail
   rw [show i + (m + 2) + 1 - i = m + 3 by omega]
   have hcap : m + 3 ≤ l + 1 - i := by omega
   generalize l + 1 - i = cap at *
   have hlr := hin.out.lr
   have hrl := hin.out.rl
   have hlt := hin.out.lt
   have rD : Row .u32 wr gR (some ⟨gD, 0, none⟩) cD D := KD.out.below hbw
   have hes := estimate_any gR i m cap (some ⟨gD, 0, none⟩) cD R D wr (by omega) (by omega) HDL.out hcap hlr hcD.lim (by have := HDT.out; exact this) hbR (rD.more (by have := hbw.size; omega))
   refine hes.mono ?_
   rintro e w6 ⟨rfl, nq, rfl⟩
   have hdig := fun d hd => dig_ok (i := i) (n := m + 2) (d := d) hcD.lim HDL.out (by omega) hlr (by omega) (by have := HDT.out; omega) hlt hd
   rw [show i + (m + 2) - 2 = i + m by omega] at hdig
   have hdg := hdig _ rfl
   generalize top3 R (i + m) / top2 D (m + 2) = d at *
   have HDG := Lib.hid hdg
   clear hdig hdg hes hlt
   have hbRn := hbR.drewN nq
   have hbQn := hbQ.drewN nq
   have hbwn := below_drewN hbw nq
   have rDn := rD.drewN nq
   generalize wr.drewN nq = wn at *
   clear hbR hbQ hbw rD
   by_cases hcar : (smSt i d D R (m + 2 + 1)).2 = 0
   ·obtain ⟨hdq, hnv⟩ := HDG.out.yes hcar
    obtain ⟨hq9, hnx⟩ := div_round hin.out (by omega) rfl hX0 (smSt_ok (o := i) (d := d) hcD.lim hlr (m + 2 + 1)).1 (smSt_ok (o := i) (d := d) hcD.lim hlr (m + 2 + 1)).2.2 hnv
    rw [← hdq] at hq9 hnx
    have hsm := subMul_any gR i (m + 2 + 1) cap d (some ⟨gD, 0, none⟩) cD R D wn (by omega) (by omega) (by rw [HDL.out]; omega) (by omega) hlr hcD.lim hbRn rDn
    rw [HDL.out, show (decide ((smSt i d D R (m + 2 + 1)).2 = 0)) = true by simpa using hcar] at hsm
    have HSM := Lib.hid hsm
    have HNX := Lib.hid hnx
    clear hsm hnx hdq hnv hcar
    go_wp2_with fail
    refine HSM.out.mono ?_
    rintro e w7 ⟨rfl, hb7, hg7⟩
    have hQ7 := hbQn.grown hg7 (by intro e; injection e; omega)
    have hbw7 := grown_below hbwn hg7 (Nat.le_refl _) (by have := hbwn.size; omega)
    have hfr := hQ7.frozen i
    have hci := hQ7.cell i (by rw [hin.out.ql]; omega)
    clear hbRn hbQn hbwn hg7
    go_wp2_with fail
    go_roundw
    case rel => exact ⟨i, _, _, by omega, rfl, hb7.far (by show gR ≠ gQ; omega) _, hQ7.set_ i d, HNX.out, hbw7.setCell (by show gR ≤ gQ; omega) _⟩
    case measure => simp [intOf]
   ·obtain ⟨hdq, hnv⟩ := HDG.out.no hcar
    have hok1 := smSt_ok (o := i) (d := d) hcD.lim hlr (m + 2 + 1)
    have hok2 := addSt_ok (o := i) hcD.lim hok1.1 (m + 2 + 1)
    obtain ⟨hq9, hnx⟩ := div_round hin.out (by omega) rfl hX0 hok2.1 (hok2.2.2.trans hok1.2.2) hnv
    have hd1 : 1 ≤ d := by omega
    have hsm := subMul_any gR i (m + 2 + 1) cap d (some ⟨gD, 0, none⟩) cD R D wn (by omega) (by omega) (by rw [HDL.out]; omega) (by omega) hlr hcD.lim hbRn rDn
    rw [HDL.out, show (decide ((smSt i d D R (m + 2 + 1)).2 = 0)) = false by simpa using hcar] at hsm
    have HSM := Lib.hid hsm
    have HNX := Lib.hid hnx
    have hd9 : d ≤ 1000000000 := by omega
    have HDQ := Lib.hid hdq
    clear hsm hnx hdq hnv hcar
    go_wp2_with fail
    refine HSM.out.mono ?_
    rintro e w7 ⟨rfl, hb7, hg7⟩
    have hQ7 := hbQn.grown hg7 (by intro e; injection e; omega)
    have hbw7 := grown_below hbwn hg7 (Nat.le_refl _) (by have := hbwn.size; omega)
    have rD7 : Row .u32 w7 gR (some ⟨gD, 0, none⟩) cD D := KD.out.below hbw7
    clear hbRn hbQn hbwn hg7
    go_wp2_with fail
    have had := addTo_any gR i (m + 2 + 1) cap (some ⟨gD, 0, none⟩) cD (smSt i d D R (m + 2 + 1)).1 D w7 (by rw [hok1.2.2]; omega) (by rw [hok1.2.2]; omega) (by rw [HDL.out]; omega) hok1.1 hcD.lim hb7 rD7
    rw [HDL.out] at had
    refine had.mono ?_
    rintro e w8 ⟨rfl, hb8, hg8⟩
    have hQ8 := hQ7.grown hg8 (by intro e; injection e; omega)
    have hbw8 := grown_below hbw7 hg8 (Nat.le_refl _) (by have := hbw7.size; omega)
    have hfr := hQ8.frozen i
    have hci := hQ8.cell i (by rw [hin.out.ql]; omega)
    clear hb7 hQ7 hbw7 hg8 had hok1 hok2
    go_wp2_with fail
    go_roundw
    case rel =>
     have e1 := hQ8.setI i (v := (d : Int) - 1) (x := digQ i D R) (by have := HDQ.out; omega)
     exact ⟨i, _, _, by omega, rfl, hb8.far (by show gR ≠ gQ; omega) _, e1, HNX.out, hbw8.setCell (by show gR ≤ gQ; omega) _⟩
    case measure => simp [intOf]
end Go.Proofs.YtodapfhnbgoanaaGreatDoor
