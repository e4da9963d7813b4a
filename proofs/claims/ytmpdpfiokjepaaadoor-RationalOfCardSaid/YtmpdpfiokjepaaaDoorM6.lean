/- Contracts of the functions that the statement reaches, part 6: what was proved of each, callees first. -/
import Derived.Test.YtmpdpfiokjepaaaDoorM5
/- 'reduced' of rational numbers. -/
namespace Go.Proofs.YtmpdpfiokjepaaaDoor
open Go.RowKit
open AS (Keep NoInt)

theorem quo_fact {x y : Int} {n m : Nat} {a b : Value} {w : World} (h1 : PInt x n a w) (h2 : PInt y m b w) (hn : n ≤ 380000) (hm : m ≤ 380000) (hy : y ≠ 0) :
    Calls Tryd.prog 45 #[a, b] w fun e w' => ∃ (k : Bool) (A : Option Addr) (l c : Nat) (k' : Bool) (A' : Option Addr) (l' c' : Nat), e = .returned (.tuple #[.agg #[.bool k, .slice A l c], .agg #[.bool k', .slice A' l' c'], .int .i64 0]) ∧
      PInt (Int.tdiv x y) (n + 1) (.agg #[.bool k, .slice A l c]) w' ∧ PInt (Int.tmod x y) (n + 1) (.agg #[.bool k', .slice A' l' c']) w' ∧ Below w.heap.size w w' := by
  obtain ⟨k, A, c, L, rfl, i1, rfl, l1⟩ := h1
  obtain ⟨k2, A2, c2, L2, rfl, i2, rfl, l2⟩ := h2
  have hpos : 0 < List.length L2 := by
    rcases Nat.eq_zero_or_pos (List.length L2) with h | h
    · exfalso; apply hy; unfold zI; rw [val9_nil h]; simp
    · exact h
  refine (quoRem_pos k k2 A A2 c c2 L L2 w (by omega) (by omega) hpos i1 i2).mono ?_
  rintro e w' ⟨k5, A5, c5, Q, k6, A6, c6, R, rfl, hi5, hi6, hz5, hz6, hl5, hl6, hb⟩
  exact ⟨_, _, _, _, _, _, _, _, rfl, ⟨k5, A5, c5, Q, rfl, hi5, hz5, by omega⟩, ⟨k6, A6, c6, R, rfl, hi6, hz6, by omega⟩, hb⟩

set_option maxRecDepth 20000 in
set_option maxHeartbeats 3200000 in
theorem red_fact {p q : Int} {n : Nat} {k : Bool} {A : Option Addr} {l c : Nat} {k' : Bool} {A' : Option Addr} {l' c' : Nat} {w : World} (h1 : PInt p n (.agg #[.bool k, .slice A l c]) w) (h2 : PInt q n (.agg #[.bool k', .slice A' l' c']) w) (hn : n ≤ 100000) (hq : q ≠ 0) :
    Calls Tryd.prog 34 #[.agg #[.bool k, .slice A l c, .bool k', .slice A' l' c']] w fun e w' => ∃ v, e = .returned v ∧ PRat (Rat.divInt p q) (n + 1) v w' ∧ Below w.heap.size w w' := by
  have H1 := Lib.hid h1
  have H2 := Lib.hid h2
  clear h1 h2
  go_enter Tryd.func34, Tryd.ntmps34
  go_upto_region 1 with (fail)
  change Code.wp Tryd.prog _ _ _ ((w.alloc (.cells #[.bool k, .slice A l c, .bool k', .slice A' l' c'] 27)).alloc (.cells #[.bool false, .slice none 0 0, .bool false, .slice none 0 0] 27))
  have nb1 := (Bx.alloc (Bx.new 27 w [.bool k, .slice A l c, .bool k', .slice A' l' c'] (leaf4 (Leaf.bool k) (Leaf.slice A l c) (Leaf.bool k') (Leaf.slice A' l' c'))) (.cells #[.bool false, .slice none 0 0, .bool false, .slice none 0 0] 27))
  have nb2 := (Bx.new 27 (w.alloc (.cells #[.bool k, .slice A l c, .bool k', .slice A' l' c'] 27)) [.bool false, .slice none 0 0, .bool false, .slice none 0 0] (leaf4 (Leaf.bool false) (Leaf.slice none 0 0) (Leaf.bool false) (Leaf.slice none 0 0)))
  rw [show (w.alloc (.cells #[.bool k, .slice A l c, .bool k', .slice A' l' c'] 27)).heap.size = w.heap.size + 1 by simp] at nb2
  have nkeep := (Keep.alloc (Keep.alloc (Keep.refl w) (.cells #[.bool k, .slice A l c, .bool k', .slice A' l' c'] 27)) (.cells #[.bool false, .slice none 0 0, .bool false, .slice none 0 0] 27))
  have nbel : Below w.heap.size w ((w.alloc (.cells #[.bool k, .slice A l c, .bool k', .slice A' l' c'] 27)).alloc (.cells #[.bool false, .slice none 0 0, .bool false, .slice none 0 0] 27)) := (Below.alloc (Below.alloc (Below.refl w.heap.size w) (by first | omega | (simp; done) | (simp; omega) | (simp [World.setCell]; done) | (simp [World.setCell]; omega)) (.cells #[.bool k, .slice A l c, .bool k', .slice A' l' c'] 27)) (by first | omega | (simp; done) | (simp; omega) | (simp [World.setCell]; done) | (simp [World.setCell]; omega)) (.cells #[.bool false, .slice none 0 0, .bool false, .slice none 0 0] 27))
  generalize (w.alloc (.cells #[.bool k, .slice A l c, .bool k', .slice A' l' c'] 27)).alloc (.cells #[.bool false, .slice none 0 0, .bool false, .slice none 0 0] 27) = W1 at *
  have b1 := Lib.hid nb1
  have b2 := Lib.hid nb2
  clear nb1 nb2
  have f_ := Lib.hid (H1.out.kept nkeep)
  clear H1
  have H1 := f_
  clear f_
  have f_ := Lib.hid (H2.out.kept nkeep)
  clear H2
  have H2 := f_
  clear f_
  clear nkeep
  have HB2 := Lib.hid nbel
  clear nbel
  have x1_0 : W1.cell? ⟨w.heap.size, 0, none⟩ = some (.bool k) := (b1.out).cell 0
  have x1_1 : W1.cell? ⟨w.heap.size, 1, none⟩ = some (.slice A l c) := (b1.out).cell 1
  have x1_2 : W1.cell? ⟨w.heap.size, 2, none⟩ = some (.bool k') := (b1.out).cell 2
  have x1_3 : W1.cell? ⟨w.heap.size, 3, none⟩ = some (.slice A' l' c') := (b1.out).cell 3
  have x2_0 : W1.cell? ⟨w.heap.size + 1, 0, none⟩ = some (.bool false) := (b2.out).cell 0
  have x2_1 : W1.cell? ⟨w.heap.size + 1, 1, none⟩ = some (.slice none 0 0) := (b2.out).cell 1
  have x2_2 : W1.cell? ⟨w.heap.size + 1, 2, none⟩ = some (.bool false) := (b2.out).cell 2
  have x2_3 : W1.cell? ⟨w.heap.size + 1, 3, none⟩ = some (.slice none 0 0) := (b2.out).cell 3
  have szb : w.heap.size ≤ W1.heap.size := HB2.out.size
  have s1 : w.heap.size < W1.heap.size := (b1.out).lt
  have s2 : w.heap.size + 1 < W1.heap.size := (b2.out).lt
  go_wp2_with fail
  refine (gcd_fact H1.out H2.out (by omega) (by omega)).mono ?_
  rintro e W3 ⟨v1, rfl, hv1, hb⟩
  have nb := Lib.hid ((b1.out).up hb)
  clear b1
  have b1 := nb
  clear nb
  have nb := Lib.hid ((b2.out).up hb)
  clear b2
  have b2 := nb
  clear nb
  have f_ := Lib.hid (H1.out.kept (Keep.ofBelow hb))
  clear H1
  have H1 := f_
  clear f_
  have f_ := Lib.hid (H2.out.kept (Keep.ofBelow hb))
  clear H2
  have H2 := f_
  clear f_
  have nbel := below_then HB2.out hb HB2.out.size
  have HB4 := Lib.hid nbel
  clear nbel
  clear HB2
  clear hb
  clear x1_0 x1_1 x1_2 x1_3 x2_0 x2_1 x2_2 x2_3 szb s1 s2
  have x1_0 : W3.cell? ⟨w.heap.size, 0, none⟩ = some (.bool k) := (b1.out).cell 0
  have x1_1 : W3.cell? ⟨w.heap.size, 1, none⟩ = some (.slice A l c) := (b1.out).cell 1
  have x1_2 : W3.cell? ⟨w.heap.size, 2, none⟩ = some (.bool k') := (b1.out).cell 2
  have x1_3 : W3.cell? ⟨w.heap.size, 3, none⟩ = some (.slice A' l' c') := (b1.out).cell 3
  have x2_0 : W3.cell? ⟨w.heap.size + 1, 0, none⟩ = some (.bool false) := (b2.out).cell 0
  have x2_1 : W3.cell? ⟨w.heap.size + 1, 1, none⟩ = some (.slice none 0 0) := (b2.out).cell 1
  have x2_2 : W3.cell? ⟨w.heap.size + 1, 2, none⟩ = some (.bool false) := (b2.out).cell 2
  have x2_3 : W3.cell? ⟨w.heap.size + 1, 3, none⟩ = some (.slice none 0 0) := (b2.out).cell 3
  have szb : w.heap.size ≤ W3.heap.size := HB4.out.size
  have s1 : w.heap.size < W3.heap.size := (b1.out).lt
  have s2 : w.heap.size + 1 < W3.heap.size := (b2.out).lt
  obtain ⟨k1, A1, l1, c1, rfl⟩ := hv1.open
  have HV1 := Lib.hid hv1
  clear hv1
  go_upto_region 2 with (fail)
  have q5 : w.heap.size < W3.heap.size := (b1.out).lt
  have q6 : w.heap.size + 1 < W3.heap.size := (b2.out).lt
  change Code.wp Tryd.prog _ _ _ (W3.alloc (.cells #[.bool k1, .slice A1 l1 c1] 25))
  have nb1 : Bx 27 (W3.alloc (.cells #[.bool k1, .slice A1 l1 c1] 25)) w.heap.size [.bool k, .slice A l c, .bool k', .slice A' l' c'] := (Bx.alloc b1.out (.cells #[.bool k1, .slice A1 l1 c1] 25))
  have nb2 : Bx 27 (W3.alloc (.cells #[.bool k1, .slice A1 l1 c1] 25)) (w.heap.size + 1) [.bool false, .slice none 0 0, .bool false, .slice none 0 0] := (Bx.alloc b2.out (.cells #[.bool k1, .slice A1 l1 c1] 25))
  have nb3 := (Bx.new 25 W3 [.bool k1, .slice A1 l1 c1] (leaf2 (Leaf.bool k1) (Leaf.slice A1 l1 c1)))
  have nkeep := (Keep.alloc (Keep.refl W3) (.cells #[.bool k1, .slice A1 l1 c1] 25))
  have nbel : Below w.heap.size w (W3.alloc (.cells #[.bool k1, .slice A1 l1 c1] 25)) := (Below.alloc HB4.out (by first | omega | (simp; done) | (simp; omega) | (simp [World.setCell]; done) | (simp [World.setCell]; omega)) (.cells #[.bool k1, .slice A1 l1 c1] 25))
  generalize W3.alloc (.cells #[.bool k1, .slice A1 l1 c1] 25) = W7 at *
  clear x1_0 x1_1 x1_2 x1_3 x2_0 x2_1 x2_2 x2_3 szb s1 s2
  clear b1 b2
  have b1 := Lib.hid nb1
  have b2 := Lib.hid nb2
  have b3 := Lib.hid nb3
  clear nb1 nb2 nb3
  have f_ := Lib.hid (H1.out.kept nkeep)
  clear H1
  have H1 := f_
  clear f_
  have f_ := Lib.hid (H2.out.kept nkeep)
  clear H2
  have H2 := f_
  clear f_
  have f_ := Lib.hid (HV1.out.kept nkeep)
  clear HV1
  have HV1 := f_
  clear f_
  clear nkeep
  have HB8 := Lib.hid nbel
  clear nbel
  clear HB4
  have x1_0 : W7.cell? ⟨w.heap.size, 0, none⟩ = some (.bool k) := (b1.out).cell 0
  have x1_1 : W7.cell? ⟨w.heap.size, 1, none⟩ = some (.slice A l c) := (b1.out).cell 1
  have x1_2 : W7.cell? ⟨w.heap.size, 2, none⟩ = some (.bool k') := (b1.out).cell 2
  have x1_3 : W7.cell? ⟨w.heap.size, 3, none⟩ = some (.slice A' l' c') := (b1.out).cell 3
  have x2_0 : W7.cell? ⟨w.heap.size + 1, 0, none⟩ = some (.bool false) := (b2.out).cell 0
  have x2_1 : W7.cell? ⟨w.heap.size + 1, 1, none⟩ = some (.slice none 0 0) := (b2.out).cell 1
  have x2_2 : W7.cell? ⟨w.heap.size + 1, 2, none⟩ = some (.bool false) := (b2.out).cell 2
  have x2_3 : W7.cell? ⟨w.heap.size + 1, 3, none⟩ = some (.slice none 0 0) := (b2.out).cell 3
  have x3_0 : W7.cell? ⟨W3.heap.size, 0, none⟩ = some (.bool k1) := (b3.out).cell 0
  have x3_1 : W7.cell? ⟨W3.heap.size, 1, none⟩ = some (.slice A1 l1 c1) := (b3.out).cell 1
  have szb : w.heap.size ≤ W7.heap.size := HB8.out.size
  have s1 : w.heap.size < W7.heap.size := (b1.out).lt
  have s2 : w.heap.size + 1 < W7.heap.size := (b2.out).lt
  have s3 : W3.heap.size < W7.heap.size := (b3.out).lt
  rcases Int.lt_trichotomy q 0 with hlt | hlt | hlt
  · have hc : cmpI q 0 = -1 := by unfold cmpI; rw [if_pos hlt]
    have hne : -(Int.gcd p q : Int) ≠ 0 := by have := Int.gcd_ne_zero_right (a := p) hq; omega
    go_wp2_with fail
    refine (sign_is H2.out hc).mono ?_
    rintro e W9 ⟨rfl, hb⟩
    have nb := Lib.hid ((b1.out).up hb)
    clear b1
    have b1 := nb
    clear nb
    have nb := Lib.hid ((b2.out).up hb)
    clear b2
    have b2 := nb
    clear nb
    have nb := Lib.hid ((b3.out).up hb)
    clear b3
    have b3 := nb
    clear nb
    have f_ := Lib.hid (H1.out.kept (Keep.ofBelow hb))
    clear H1
    have H1 := f_
    clear f_
    have f_ := Lib.hid (H2.out.kept (Keep.ofBelow hb))
    clear H2
    have H2 := f_
    clear f_
    have f_ := Lib.hid (HV1.out.kept (Keep.ofBelow hb))
    clear HV1
    have HV1 := f_
    clear f_
    have nbel := below_then HB8.out hb HB8.out.size
    have HB10 := Lib.hid nbel
    clear nbel
    clear HB8
    clear hb
    clear x1_0 x1_1 x1_2 x1_3 x2_0 x2_1 x2_2 x2_3 x3_0 x3_1 szb s1 s2 s3
    have x1_0 : W9.cell? ⟨w.heap.size, 0, none⟩ = some (.bool k) := (b1.out).cell 0
    have x1_1 : W9.cell? ⟨w.heap.size, 1, none⟩ = some (.slice A l c) := (b1.out).cell 1
    have x1_2 : W9.cell? ⟨w.heap.size, 2, none⟩ = some (.bool k') := (b1.out).cell 2
    have x1_3 : W9.cell? ⟨w.heap.size, 3, none⟩ = some (.slice A' l' c') := (b1.out).cell 3
    have x2_0 : W9.cell? ⟨w.heap.size + 1, 0, none⟩ = some (.bool false) := (b2.out).cell 0
    have x2_1 : W9.cell? ⟨w.heap.size + 1, 1, none⟩ = some (.slice none 0 0) := (b2.out).cell 1
    have x2_2 : W9.cell? ⟨w.heap.size + 1, 2, none⟩ = some (.bool false) := (b2.out).cell 2
    have x2_3 : W9.cell? ⟨w.heap.size + 1, 3, none⟩ = some (.slice none 0 0) := (b2.out).cell 3
    have x3_0 : W9.cell? ⟨W3.heap.size, 0, none⟩ = some (.bool k1) := (b3.out).cell 0
    have x3_1 : W9.cell? ⟨W3.heap.size, 1, none⟩ = some (.slice A1 l1 c1) := (b3.out).cell 1
    have z3_0 : W9.frozen? ⟨W3.heap.size, 0, none⟩ = false := (b3.out).frozen 0
    have z3_1 : W9.frozen? ⟨W3.heap.size, 1, none⟩ = false := (b3.out).frozen 1
    have szb : w.heap.size ≤ W9.heap.size := HB10.out.size
    have s1 : w.heap.size < W9.heap.size := (b1.out).lt
    have s2 : w.heap.size + 1 < W9.heap.size := (b2.out).lt
    have s3 : W3.heap.size < W9.heap.size := (b3.out).lt
    go_wp2_with fail
    refine (neg_fact HV1.out (by omega)).mono ?_
    rintro e W11 ⟨v2, rfl, hv2, hb⟩
    have nb := Lib.hid ((b1.out).up hb)
    clear b1
    have b1 := nb
    clear nb
    have nb := Lib.hid ((b2.out).up hb)
    clear b2
    have b2 := nb
    clear nb
    have nb := Lib.hid ((b3.out).up hb)
    clear b3
    have b3 := nb
    clear nb
    have f_ := Lib.hid (H1.out.kept (Keep.ofBelow hb))
    clear H1
    have H1 := f_
    clear f_
    have f_ := Lib.hid (H2.out.kept (Keep.ofBelow hb))
    clear H2
    have H2 := f_
    clear f_
    have f_ := Lib.hid (HV1.out.kept (Keep.ofBelow hb))
    clear HV1
    have HV1 := f_
    clear f_
    have nbel := below_then HB10.out hb HB10.out.size
    have HB12 := Lib.hid nbel
    clear nbel
    clear HB10
    clear hb
    clear x1_0 x1_1 x1_2 x1_3 x2_0 x2_1 x2_2 x2_3 x3_0 x3_1 z3_0 z3_1 szb s1 s2 s3
    have x1_0 : W11.cell? ⟨w.heap.size, 0, none⟩ = some (.bool k) := (b1.out).cell 0
    have x1_1 : W11.cell? ⟨w.heap.size, 1, none⟩ = some (.slice A l c) := (b1.out).cell 1
    have x1_2 : W11.cell? ⟨w.heap.size, 2, none⟩ = some (.bool k') := (b1.out).cell 2
    have x1_3 : W11.cell? ⟨w.heap.size, 3, none⟩ = some (.slice A' l' c') := (b1.out).cell 3
    have x2_0 : W11.cell? ⟨w.heap.size + 1, 0, none⟩ = some (.bool false) := (b2.out).cell 0
    have x2_1 : W11.cell? ⟨w.heap.size + 1, 1, none⟩ = some (.slice none 0 0) := (b2.out).cell 1
    have x2_2 : W11.cell? ⟨w.heap.size + 1, 2, none⟩ = some (.bool false) := (b2.out).cell 2
    have x2_3 : W11.cell? ⟨w.heap.size + 1, 3, none⟩ = some (.slice none 0 0) := (b2.out).cell 3
    have x3_0 : W11.cell? ⟨W3.heap.size, 0, none⟩ = some (.bool k1) := (b3.out).cell 0
    have x3_1 : W11.cell? ⟨W3.heap.size, 1, none⟩ = some (.slice A1 l1 c1) := (b3.out).cell 1
    have z3_0 : W11.frozen? ⟨W3.heap.size, 0, none⟩ = false := (b3.out).frozen 0
    have z3_1 : W11.frozen? ⟨W3.heap.size, 1, none⟩ = false := (b3.out).frozen 1
    have szb : w.heap.size ≤ W11.heap.size := HB12.out.size
    have s1 : w.heap.size < W11.heap.size := (b1.out).lt
    have s2 : w.heap.size + 1 < W11.heap.size := (b2.out).lt
    have s3 : W3.heap.size < W11.heap.size := (b3.out).lt
    obtain ⟨k2, A2, l2, c2, rfl⟩ := hv2.open
    have HV2 := Lib.hid hv2
    clear hv2
    go_upto_region 4 with (fail)
    change Code.wp Tryd.prog _ _ _ ((W11.setCell ⟨W3.heap.size, 0, none⟩ (.bool k2)).setCell ⟨W3.heap.size, 1, none⟩ (.slice A2 l2 c2))
    have nb1 : Bx 27 ((W11.setCell ⟨W3.heap.size, 0, none⟩ (.bool k2)).setCell ⟨W3.heap.size, 1, none⟩ (.slice A2 l2 c2)) w.heap.size [.bool k, .slice A l c, .bool k', .slice A' l' c'] := (Bx.far (g' := W3.heap.size) (Bx.far (g' := W3.heap.size) b1.out (by omega) 0 (.bool k2)) (by omega) 1 (.slice A2 l2 c2))
    have nb2 : Bx 27 ((W11.setCell ⟨W3.heap.size, 0, none⟩ (.bool k2)).setCell ⟨W3.heap.size, 1, none⟩ (.slice A2 l2 c2)) (w.heap.size + 1) [.bool false, .slice none 0 0, .bool false, .slice none 0 0] := (Bx.far (g' := W3.heap.size) (Bx.far (g' := W3.heap.size) b2.out (by omega) 0 (.bool k2)) (by omega) 1 (.slice A2 l2 c2))
    have nb3 : Bx 25 ((W11.setCell ⟨W3.heap.size, 0, none⟩ (.bool k2)).setCell ⟨W3.heap.size, 1, none⟩ (.slice A2 l2 c2)) W3.heap.size [.bool k2, .slice A2 l2 c2] := (Bx.set (Bx.set b3.out 0 (Leaf.bool k2)) 1 (Leaf.slice A2 l2 c2))
    have nkeep := (Keep.set (Keep.set (Keep.refl W11) b3.out 0 (Leaf.bool k2)) (Bx.set b3.out 0 (Leaf.bool k2)) 1 (Leaf.slice A2 l2 c2))
    have nbel : Below w.heap.size w ((W11.setCell ⟨W3.heap.size, 0, none⟩ (.bool k2)).setCell ⟨W3.heap.size, 1, none⟩ (.slice A2 l2 c2)) := (Below.setCell (p := ⟨W3.heap.size, 1, none⟩) (Below.setCell (p := ⟨W3.heap.size, 0, none⟩) HB12.out (by first | omega | (simp; done) | (simp; omega)) (.bool k2)) (by first | omega | (simp; done) | (simp; omega)) (.slice A2 l2 c2))
    generalize (W11.setCell ⟨W3.heap.size, 0, none⟩ (.bool k2)).setCell ⟨W3.heap.size, 1, none⟩ (.slice A2 l2 c2) = W13 at *
    clear x1_0 x1_1 x1_2 x1_3 x2_0 x2_1 x2_2 x2_3 x3_0 x3_1 z3_0 z3_1 szb s1 s2 s3
    clear b1 b2 b3
    have b1 := Lib.hid nb1
    have b2 := Lib.hid nb2
    have b3 := Lib.hid nb3
    clear nb1 nb2 nb3
    have f_ := Lib.hid (H1.out.kept nkeep)
    clear H1
    have H1 := f_
    clear f_
    have f_ := Lib.hid (H2.out.kept nkeep)
    clear H2
    have H2 := f_
    clear f_
    have f_ := Lib.hid (HV1.out.kept nkeep)
    clear HV1
    have HV1 := f_
    clear f_
    have f_ := Lib.hid (HV2.out.kept nkeep)
    clear HV2
    have HV2 := f_
    clear f_
    clear nkeep
    have HB14 := Lib.hid nbel
    clear nbel
    clear HB12
    have x1_0 : W13.cell? ⟨w.heap.size, 0, none⟩ = some (.bool k) := (b1.out).cell 0
    have x1_1 : W13.cell? ⟨w.heap.size, 1, none⟩ = some (.slice A l c) := (b1.out).cell 1
    have x1_2 : W13.cell? ⟨w.heap.size, 2, none⟩ = some (.bool k') := (b1.out).cell 2
    have x1_3 : W13.cell? ⟨w.heap.size, 3, none⟩ = some (.slice A' l' c') := (b1.out).cell 3
    have x2_0 : W13.cell? ⟨w.heap.size + 1, 0, none⟩ = some (.bool false) := (b2.out).cell 0
    have x2_1 : W13.cell? ⟨w.heap.size + 1, 1, none⟩ = some (.slice none 0 0) := (b2.out).cell 1
    have x2_2 : W13.cell? ⟨w.heap.size + 1, 2, none⟩ = some (.bool false) := (b2.out).cell 2
    have x2_3 : W13.cell? ⟨w.heap.size + 1, 3, none⟩ = some (.slice none 0 0) := (b2.out).cell 3
    have x3_0 : W13.cell? ⟨W3.heap.size, 0, none⟩ = some (.bool k2) := (b3.out).cell 0
    have x3_1 : W13.cell? ⟨W3.heap.size, 1, none⟩ = some (.slice A2 l2 c2) := (b3.out).cell 1
    have z3_0 : W13.frozen? ⟨W3.heap.size, 0, none⟩ = false := (b3.out).frozen 0
    have z3_1 : W13.frozen? ⟨W3.heap.size, 1, none⟩ = false := (b3.out).frozen 1
    have szb : w.heap.size ≤ W13.heap.size := HB14.out.size
    have s1 : w.heap.size < W13.heap.size := (b1.out).lt
    have s2 : w.heap.size + 1 < W13.heap.size := (b2.out).lt
    have s3 : W3.heap.size < W13.heap.size := (b3.out).lt
    go_wp2_with fail
    refine (quo_fact H1.out HV2.out (by omega) (by omega) hne).mono ?_
    rintro e W15 ⟨k3, A3, l3, c3, k4, A4, l4, c4, rfl, hv3, hv4, hb⟩
    have nb := Lib.hid ((b1.out).up hb)
    clear b1
    have b1 := nb
    clear nb
    have nb := Lib.hid ((b2.out).up hb)
    clear b2
    have b2 := nb
    clear nb
    have nb := Lib.hid ((b3.out).up hb)
    clear b3
    have b3 := nb
    clear nb
    have f_ := Lib.hid (H1.out.kept (Keep.ofBelow hb))
    clear H1
    have H1 := f_
    clear f_
    have f_ := Lib.hid (H2.out.kept (Keep.ofBelow hb))
    clear H2
    have H2 := f_
    clear f_
    have f_ := Lib.hid (HV1.out.kept (Keep.ofBelow hb))
    clear HV1
    have HV1 := f_
    clear f_
    have f_ := Lib.hid (HV2.out.kept (Keep.ofBelow hb))
    clear HV2
    have HV2 := f_
    clear f_
    have nbel := below_then HB14.out hb HB14.out.size
    have HB16 := Lib.hid nbel
    clear nbel
    clear HB14
    clear hb
    clear x1_0 x1_1 x1_2 x1_3 x2_0 x2_1 x2_2 x2_3 x3_0 x3_1 z3_0 z3_1 szb s1 s2 s3
    have x1_0 : W15.cell? ⟨w.heap.size, 0, none⟩ = some (.bool k) := (b1.out).cell 0
    have x1_1 : W15.cell? ⟨w.heap.size, 1, none⟩ = some (.slice A l c) := (b1.out).cell 1
    have x1_2 : W15.cell? ⟨w.heap.size, 2, none⟩ = some (.bool k') := (b1.out).cell 2
    have x1_3 : W15.cell? ⟨w.heap.size, 3, none⟩ = some (.slice A' l' c') := (b1.out).cell 3
    have x2_0 : W15.cell? ⟨w.heap.size + 1, 0, none⟩ = some (.bool false) := (b2.out).cell 0
    have x2_1 : W15.cell? ⟨w.heap.size + 1, 1, none⟩ = some (.slice none 0 0) := (b2.out).cell 1
    have x2_2 : W15.cell? ⟨w.heap.size + 1, 2, none⟩ = some (.bool false) := (b2.out).cell 2
    have x2_3 : W15.cell? ⟨w.heap.size + 1, 3, none⟩ = some (.slice none 0 0) := (b2.out).cell 3
    have x3_0 : W15.cell? ⟨W3.heap.size, 0, none⟩ = some (.bool k2) := (b3.out).cell 0
    have x3_1 : W15.cell? ⟨W3.heap.size, 1, none⟩ = some (.slice A2 l2 c2) := (b3.out).cell 1
    have z3_0 : W15.frozen? ⟨W3.heap.size, 0, none⟩ = false := (b3.out).frozen 0
    have z3_1 : W15.frozen? ⟨W3.heap.size, 1, none⟩ = false := (b3.out).frozen 1
    have szb : w.heap.size ≤ W15.heap.size := HB16.out.size
    have s1 : w.heap.size < W15.heap.size := (b1.out).lt
    have s2 : w.heap.size + 1 < W15.heap.size := (b2.out).lt
    have s3 : W3.heap.size < W15.heap.size := (b3.out).lt
    have HV3 := Lib.hid hv3
    clear hv3 hv4
    go_upto_region 5 with (fail)
    have q17 : w.heap.size < W15.heap.size := (b1.out).lt
    have q18 : w.heap.size + 1 < W15.heap.size := (b2.out).lt
    have q19 : W3.heap.size < W15.heap.size := (b3.out).lt
    change Code.wp Tryd.prog _ _ _ ((W15.alloc (.cells #[.bool k3, .slice A3 l3 c3] 25)).alloc (.cells #[.bool k4, .slice A4 l4 c4] 25))
    have nb1 : Bx 27 ((W15.alloc (.cells #[.bool k3, .slice A3 l3 c3] 25)).alloc (.cells #[.bool k4, .slice A4 l4 c4] 25)) w.heap.size [.bool k, .slice A l c, .bool k', .slice A' l' c'] := (Bx.alloc (Bx.alloc b1.out (.cells #[.bool k3, .slice A3 l3 c3] 25)) (.cells #[.bool k4, .slice A4 l4 c4] 25))
    have nb2 : Bx 27 ((W15.alloc (.cells #[.bool k3, .slice A3 l3 c3] 25)).alloc (.cells #[.bool k4, .slice A4 l4 c4] 25)) (w.heap.size + 1) [.bool false, .slice none 0 0, .bool false, .slice none 0 0] := (Bx.alloc (Bx.alloc b2.out (.cells #[.bool k3, .slice A3 l3 c3] 25)) (.cells #[.bool k4, .slice A4 l4 c4] 25))
    have nb3 : Bx 25 ((W15.alloc (.cells #[.bool k3, .slice A3 l3 c3] 25)).alloc (.cells #[.bool k4, .slice A4 l4 c4] 25)) W3.heap.size [.bool k2, .slice A2 l2 c2] := (Bx.alloc (Bx.alloc b3.out (.cells #[.bool k3, .slice A3 l3 c3] 25)) (.cells #[.bool k4, .slice A4 l4 c4] 25))
    have nb4 := (Bx.alloc (Bx.new 25 W15 [.bool k3, .slice A3 l3 c3] (leaf2 (Leaf.bool k3) (Leaf.slice A3 l3 c3))) (.cells #[.bool k4, .slice A4 l4 c4] 25))
    have nb5 := (Bx.new 25 (W15.alloc (.cells #[.bool k3, .slice A3 l3 c3] 25)) [.bool k4, .slice A4 l4 c4] (leaf2 (Leaf.bool k4) (Leaf.slice A4 l4 c4)))
    rw [show (W15.alloc (.cells #[.bool k3, .slice A3 l3 c3] 25)).heap.size = W15.heap.size + 1 by simp] at nb5
    have nkeep := (Keep.alloc (Keep.alloc (Keep.refl W15) (.cells #[.bool k3, .slice A3 l3 c3] 25)) (.cells #[.bool k4, .slice A4 l4 c4] 25))
    have nbel : Below w.heap.size w ((W15.alloc (.cells #[.bool k3, .slice A3 l3 c3] 25)).alloc (.cells #[.bool k4, .slice A4 l4 c4] 25)) := (Below.alloc (Below.alloc HB16.out (by first | omega | (simp; done) | (simp; omega) | (simp [World.setCell]; done) | (simp [World.setCell]; omega)) (.cells #[.bool k3, .slice A3 l3 c3] 25)) (by first | omega | (simp; done) | (simp; omega) | (simp [World.setCell]; done) | (simp [World.setCell]; omega)) (.cells #[.bool k4, .slice A4 l4 c4] 25))
    generalize (W15.alloc (.cells #[.bool k3, .slice A3 l3 c3] 25)).alloc (.cells #[.bool k4, .slice A4 l4 c4] 25) = W20 at *
    clear x1_0 x1_1 x1_2 x1_3 x2_0 x2_1 x2_2 x2_3 x3_0 x3_1 z3_0 z3_1 szb s1 s2 s3
    clear b1 b2 b3
    have b1 := Lib.hid nb1
    have b2 := Lib.hid nb2
    have b3 := Lib.hid nb3
    have b4 := Lib.hid nb4
    have b5 := Lib.hid nb5
    clear nb1 nb2 nb3 nb4 nb5
    have f_ := Lib.hid (H1.out.kept nkeep)
    clear H1
    have H1 := f_
    clear f_
    have f_ := Lib.hid (H2.out.kept nkeep)
    clear H2
    have H2 := f_
    clear f_
    have f_ := Lib.hid (HV1.out.kept nkeep)
    clear HV1
    have HV1 := f_
    clear f_
    have f_ := Lib.hid (HV2.out.kept nkeep)
    clear HV2
    have HV2 := f_
    clear f_
    have f_ := Lib.hid (HV3.out.kept nkeep)
    clear HV3
    have HV3 := f_
    clear f_
    clear nkeep
    have HB21 := Lib.hid nbel
    clear nbel
    clear HB16
    have x1_0 : W20.cell? ⟨w.heap.size, 0, none⟩ = some (.bool k) := (b1.out).cell 0
    have x1_1 : W20.cell? ⟨w.heap.size, 1, none⟩ = some (.slice A l c) := (b1.out).cell 1
    have x1_2 : W20.cell? ⟨w.heap.size, 2, none⟩ = some (.bool k') := (b1.out).cell 2
    have x1_3 : W20.cell? ⟨w.heap.size, 3, none⟩ = some (.slice A' l' c') := (b1.out).cell 3
    have x2_0 : W20.cell? ⟨w.heap.size + 1, 0, none⟩ = some (.bool false) := (b2.out).cell 0
    have x2_1 : W20.cell? ⟨w.heap.size + 1, 1, none⟩ = some (.slice none 0 0) := (b2.out).cell 1
    have x2_2 : W20.cell? ⟨w.heap.size + 1, 2, none⟩ = some (.bool false) := (b2.out).cell 2
    have x2_3 : W20.cell? ⟨w.heap.size + 1, 3, none⟩ = some (.slice none 0 0) := (b2.out).cell 3
    have x3_0 : W20.cell? ⟨W3.heap.size, 0, none⟩ = some (.bool k2) := (b3.out).cell 0
    have x3_1 : W20.cell? ⟨W3.heap.size, 1, none⟩ = some (.slice A2 l2 c2) := (b3.out).cell 1
    have z3_0 : W20.frozen? ⟨W3.heap.size, 0, none⟩ = false := (b3.out).frozen 0
    have z3_1 : W20.frozen? ⟨W3.heap.size, 1, none⟩ = false := (b3.out).frozen 1
    have x4_0 : W20.cell? ⟨W15.heap.size, 0, none⟩ = some (.bool k3) := (b4.out).cell 0
    have x4_1 : W20.cell? ⟨W15.heap.size, 1, none⟩ = some (.slice A3 l3 c3) := (b4.out).cell 1
    have x5_0 : W20.cell? ⟨W15.heap.size + 1, 0, none⟩ = some (.bool k4) := (b5.out).cell 0
    have x5_1 : W20.cell? ⟨W15.heap.size + 1, 1, none⟩ = some (.slice A4 l4 c4) := (b5.out).cell 1
    have szb : w.heap.size ≤ W20.heap.size := HB21.out.size
    have s1 : w.heap.size < W20.heap.size := (b1.out).lt
    have s2 : w.heap.size + 1 < W20.heap.size := (b2.out).lt
    have s3 : W3.heap.size < W20.heap.size := (b3.out).lt
    have s4 : W15.heap.size < W20.heap.size := (b4.out).lt
    have s5 : W15.heap.size + 1 < W20.heap.size := (b5.out).lt
    go_wp2_with fail
    refine (quo_fact H2.out HV2.out (by omega) (by omega) hne).mono ?_
    rintro e W22 ⟨k5, A5, l5, c5, k6, A6, l6, c6, rfl, hv5, hv6, hb⟩
    have nb := Lib.hid ((b1.out).up hb)
    clear b1
    have b1 := nb
    clear nb
    have nb := Lib.hid ((b2.out).up hb)
    clear b2
    have b2 := nb
    clear nb
    have nb := Lib.hid ((b3.out).up hb)
    clear b3
    have b3 := nb
    clear nb
    have nb := Lib.hid ((b4.out).up hb)
    clear b4
    have b4 := nb
    clear nb
    have nb := Lib.hid ((b5.out).up hb)
    clear b5
    have b5 := nb
    clear nb
    have f_ := Lib.hid (H1.out.kept (Keep.ofBelow hb))
    clear H1
    have H1 := f_
    clear f_
    have f_ := Lib.hid (H2.out.kept (Keep.ofBelow hb))
    clear H2
    have H2 := f_
    clear f_
    have f_ := Lib.hid (HV1.out.kept (Keep.ofBelow hb))
    clear HV1
    have HV1 := f_
    clear f_
    have f_ := Lib.hid (HV2.out.kept (Keep.ofBelow hb))
    clear HV2
    have HV2 := f_
    clear f_
    have f_ := Lib.hid (HV3.out.kept (Keep.ofBelow hb))
    clear HV3
    have HV3 := f_
    clear f_
    have nbel := below_then HB21.out hb HB21.out.size
    have HB23 := Lib.hid nbel
    clear nbel
    clear HB21
    clear hb
    clear x1_0 x1_1 x1_2 x1_3 x2_0 x2_1 x2_2 x2_3 x3_0 x3_1 z3_0 z3_1 x4_0 x4_1 x5_0 x5_1 szb s1 s2 s3 s4 s5
    have x1_0 : W22.cell? ⟨w.heap.size, 0, none⟩ = some (.bool k) := (b1.out).cell 0
    have x1_1 : W22.cell? ⟨w.heap.size, 1, none⟩ = some (.slice A l c) := (b1.out).cell 1
    have x1_2 : W22.cell? ⟨w.heap.size, 2, none⟩ = some (.bool k') := (b1.out).cell 2
    have x1_3 : W22.cell? ⟨w.heap.size, 3, none⟩ = some (.slice A' l' c') := (b1.out).cell 3
    have x2_0 : W22.cell? ⟨w.heap.size + 1, 0, none⟩ = some (.bool false) := (b2.out).cell 0
    have x2_1 : W22.cell? ⟨w.heap.size + 1, 1, none⟩ = some (.slice none 0 0) := (b2.out).cell 1
    have x2_2 : W22.cell? ⟨w.heap.size + 1, 2, none⟩ = some (.bool false) := (b2.out).cell 2
    have x2_3 : W22.cell? ⟨w.heap.size + 1, 3, none⟩ = some (.slice none 0 0) := (b2.out).cell 3
    have x3_0 : W22.cell? ⟨W3.heap.size, 0, none⟩ = some (.bool k2) := (b3.out).cell 0
    have x3_1 : W22.cell? ⟨W3.heap.size, 1, none⟩ = some (.slice A2 l2 c2) := (b3.out).cell 1
    have z3_0 : W22.frozen? ⟨W3.heap.size, 0, none⟩ = false := (b3.out).frozen 0
    have z3_1 : W22.frozen? ⟨W3.heap.size, 1, none⟩ = false := (b3.out).frozen 1
    have x4_0 : W22.cell? ⟨W15.heap.size, 0, none⟩ = some (.bool k3) := (b4.out).cell 0
    have x4_1 : W22.cell? ⟨W15.heap.size, 1, none⟩ = some (.slice A3 l3 c3) := (b4.out).cell 1
    have x5_0 : W22.cell? ⟨W15.heap.size + 1, 0, none⟩ = some (.bool k4) := (b5.out).cell 0
    have x5_1 : W22.cell? ⟨W15.heap.size + 1, 1, none⟩ = some (.slice A4 l4 c4) := (b5.out).cell 1
    have szb : w.heap.size ≤ W22.heap.size := HB23.out.size
    have s1 : w.heap.size < W22.heap.size := (b1.out).lt
    have s2 : w.heap.size + 1 < W22.heap.size := (b2.out).lt
    have s3 : W3.heap.size < W22.heap.size := (b3.out).lt
    have s4 : W15.heap.size < W22.heap.size := (b4.out).lt
    have s5 : W15.heap.size + 1 < W22.heap.size := (b5.out).lt
    have HV5 := Lib.hid hv5
    clear hv5 hv6
    go_upto_region 6 with (fail)
    have q24 : w.heap.size < W22.heap.size := (b1.out).lt
    have q25 : w.heap.size + 1 < W22.heap.size := (b2.out).lt
    have q26 : W3.heap.size < W22.heap.size := (b3.out).lt
    have q27 : W15.heap.size < W22.heap.size := (b4.out).lt
    have q28 : W15.heap.size + 1 < W22.heap.size := (b5.out).lt
    change Code.wp Tryd.prog _ _ _ ((W22.alloc (.cells #[.bool k5, .slice A5 l5 c5] 25)).alloc (.cells #[.bool k6, .slice A6 l6 c6] 25))
    have nb1 : Bx 27 ((W22.alloc (.cells #[.bool k5, .slice A5 l5 c5] 25)).alloc (.cells #[.bool k6, .slice A6 l6 c6] 25)) w.heap.size [.bool k, .slice A l c, .bool k', .slice A' l' c'] := (Bx.alloc (Bx.alloc b1.out (.cells #[.bool k5, .slice A5 l5 c5] 25)) (.cells #[.bool k6, .slice A6 l6 c6] 25))
    have nb2 : Bx 27 ((W22.alloc (.cells #[.bool k5, .slice A5 l5 c5] 25)).alloc (.cells #[.bool k6, .slice A6 l6 c6] 25)) (w.heap.size + 1) [.bool false, .slice none 0 0, .bool false, .slice none 0 0] := (Bx.alloc (Bx.alloc b2.out (.cells #[.bool k5, .slice A5 l5 c5] 25)) (.cells #[.bool k6, .slice A6 l6 c6] 25))
    have nb3 : Bx 25 ((W22.alloc (.cells #[.bool k5, .slice A5 l5 c5] 25)).alloc (.cells #[.bool k6, .slice A6 l6 c6] 25)) W3.heap.size [.bool k2, .slice A2 l2 c2] := (Bx.alloc (Bx.alloc b3.out (.cells #[.bool k5, .slice A5 l5 c5] 25)) (.cells #[.bool k6, .slice A6 l6 c6] 25))
    have nb4 : Bx 25 ((W22.alloc (.cells #[.bool k5, .slice A5 l5 c5] 25)).alloc (.cells #[.bool k6, .slice A6 l6 c6] 25)) W15.heap.size [.bool k3, .slice A3 l3 c3] := (Bx.alloc (Bx.alloc b4.out (.cells #[.bool k5, .slice A5 l5 c5] 25)) (.cells #[.bool k6, .slice A6 l6 c6] 25))
    have nb5 : Bx 25 ((W22.alloc (.cells #[.bool k5, .slice A5 l5 c5] 25)).alloc (.cells #[.bool k6, .slice A6 l6 c6] 25)) (W15.heap.size + 1) [.bool k4, .slice A4 l4 c4] := (Bx.alloc (Bx.alloc b5.out (.cells #[.bool k5, .slice A5 l5 c5] 25)) (.cells #[.bool k6, .slice A6 l6 c6] 25))
    have nb7 := (Bx.alloc (Bx.new 25 W22 [.bool k5, .slice A5 l5 c5] (leaf2 (Leaf.bool k5) (Leaf.slice A5 l5 c5))) (.cells #[.bool k6, .slice A6 l6 c6] 25))
    have nb8 := (Bx.new 25 (W22.alloc (.cells #[.bool k5, .slice A5 l5 c5] 25)) [.bool k6, .slice A6 l6 c6] (leaf2 (Leaf.bool k6) (Leaf.slice A6 l6 c6)))
    rw [show (W22.alloc (.cells #[.bool k5, .slice A5 l5 c5] 25)).heap.size = W22.heap.size + 1 by simp] at nb8
    have nkeep := (Keep.alloc (Keep.alloc (Keep.refl W22) (.cells #[.bool k5, .slice A5 l5 c5] 25)) (.cells #[.bool k6, .slice A6 l6 c6] 25))
    have nbel : Below w.heap.size w ((W22.alloc (.cells #[.bool k5, .slice A5 l5 c5] 25)).alloc (.cells #[.bool k6, .slice A6 l6 c6] 25)) := (Below.alloc (Below.alloc HB23.out (by first | omega | (simp; done) | (simp; omega) | (simp [World.setCell]; done) | (simp [World.setCell]; omega)) (.cells #[.bool k5, .slice A5 l5 c5] 25)) (by first | omega | (simp; done) | (simp; omega) | (simp [World.setCell]; done) | (simp [World.setCell]; omega)) (.cells #[.bool k6, .slice A6 l6 c6] 25))
    generalize (W22.alloc (.cells #[.bool k5, .slice A5 l5 c5] 25)).alloc (.cells #[.bool k6, .slice A6 l6 c6] 25) = W29 at *
    clear x1_0 x1_1 x1_2 x1_3 x2_0 x2_1 x2_2 x2_3 x3_0 x3_1 z3_0 z3_1 x4_0 x4_1 x5_0 x5_1 szb s1 s2 s3 s4 s5
    clear b1 b2 b3 b4 b5
    have b1 := Lib.hid nb1
    have b2 := Lib.hid nb2
    have b3 := Lib.hid nb3
    have b4 := Lib.hid nb4
    have b5 := Lib.hid nb5
    have b7 := Lib.hid nb7
    have b8 := Lib.hid nb8
    clear nb1 nb2 nb3 nb4 nb5 nb7 nb8
    have f_ := Lib.hid (H1.out.kept nkeep)
    clear H1
    have H1 := f_
    clear f_
    have f_ := Lib.hid (H2.out.kept nkeep)
    clear H2
    have H2 := f_
    clear f_
    have f_ := Lib.hid (HV1.out.kept nkeep)
    clear HV1
    have HV1 := f_
    clear f_
    have f_ := Lib.hid (HV2.out.kept nkeep)
    clear HV2
    have HV2 := f_
    clear f_
    have f_ := Lib.hid (HV3.out.kept nkeep)
    clear HV3
    have HV3 := f_
    clear f_
    have f_ := Lib.hid (HV5.out.kept nkeep)
    clear HV5
    have HV5 := f_
    clear f_
    clear nkeep
    have HB30 := Lib.hid nbel
    clear nbel
    clear HB23
    have x1_0 : W29.cell? ⟨w.heap.size, 0, none⟩ = some (.bool k) := (b1.out).cell 0
    have x1_1 : W29.cell? ⟨w.heap.size, 1, none⟩ = some (.slice A l c) := (b1.out).cell 1
    have x1_2 : W29.cell? ⟨w.heap.size, 2, none⟩ = some (.bool k') := (b1.out).cell 2
    have x1_3 : W29.cell? ⟨w.heap.size, 3, none⟩ = some (.slice A' l' c') := (b1.out).cell 3
    have x2_0 : W29.cell? ⟨w.heap.size + 1, 0, none⟩ = some (.bool false) := (b2.out).cell 0
    have x2_1 : W29.cell? ⟨w.heap.size + 1, 1, none⟩ = some (.slice none 0 0) := (b2.out).cell 1
    have x2_2 : W29.cell? ⟨w.heap.size + 1, 2, none⟩ = some (.bool false) := (b2.out).cell 2
    have x2_3 : W29.cell? ⟨w.heap.size + 1, 3, none⟩ = some (.slice none 0 0) := (b2.out).cell 3
    have x3_0 : W29.cell? ⟨W3.heap.size, 0, none⟩ = some (.bool k2) := (b3.out).cell 0
    have x3_1 : W29.cell? ⟨W3.heap.size, 1, none⟩ = some (.slice A2 l2 c2) := (b3.out).cell 1
    have z3_0 : W29.frozen? ⟨W3.heap.size, 0, none⟩ = false := (b3.out).frozen 0
    have z3_1 : W29.frozen? ⟨W3.heap.size, 1, none⟩ = false := (b3.out).frozen 1
    have x4_0 : W29.cell? ⟨W15.heap.size, 0, none⟩ = some (.bool k3) := (b4.out).cell 0
    have x4_1 : W29.cell? ⟨W15.heap.size, 1, none⟩ = some (.slice A3 l3 c3) := (b4.out).cell 1
    have x5_0 : W29.cell? ⟨W15.heap.size + 1, 0, none⟩ = some (.bool k4) := (b5.out).cell 0
    have x5_1 : W29.cell? ⟨W15.heap.size + 1, 1, none⟩ = some (.slice A4 l4 c4) := (b5.out).cell 1
    have x7_0 : W29.cell? ⟨W22.heap.size, 0, none⟩ = some (.bool k5) := (b7.out).cell 0
    have x7_1 : W29.cell? ⟨W22.heap.size, 1, none⟩ = some (.slice A5 l5 c5) := (b7.out).cell 1
    have x8_0 : W29.cell? ⟨W22.heap.size + 1, 0, none⟩ = some (.bool k6) := (b8.out).cell 0
    have x8_1 : W29.cell? ⟨W22.heap.size + 1, 1, none⟩ = some (.slice A6 l6 c6) := (b8.out).cell 1
    have szb : w.heap.size ≤ W29.heap.size := HB30.out.size
    have s1 : w.heap.size < W29.heap.size := (b1.out).lt
    have s2 : w.heap.size + 1 < W29.heap.size := (b2.out).lt
    have s3 : W3.heap.size < W29.heap.size := (b3.out).lt
    have s4 : W15.heap.size < W29.heap.size := (b4.out).lt
    have s5 : W15.heap.size + 1 < W29.heap.size := (b5.out).lt
    have s7 : W22.heap.size < W29.heap.size := (b7.out).lt
    have s8 : W22.heap.size + 1 < W29.heap.size := (b8.out).lt
    clear x1_0 x1_1 x1_2 x1_3 x2_0 x2_1 x2_2 x2_3 x3_0 x3_1 z3_0 z3_1 x4_0 x4_1 x5_0 x5_1 x7_0 x7_1 x8_0 x8_1 szb s1 s2 s3 s4 s5 s7 s8
    have x1_0 : W29.cell? ⟨w.heap.size, 0, none⟩ = some (.bool k) := (b1.out).cell 0
    have x1_1 : W29.cell? ⟨w.heap.size, 1, none⟩ = some (.slice A l c) := (b1.out).cell 1
    have x1_2 : W29.cell? ⟨w.heap.size, 2, none⟩ = some (.bool k') := (b1.out).cell 2
    have x1_3 : W29.cell? ⟨w.heap.size, 3, none⟩ = some (.slice A' l' c') := (b1.out).cell 3
    have x2_0 : W29.cell? ⟨w.heap.size + 1, 0, none⟩ = some (.bool false) := (b2.out).cell 0
    have x2_1 : W29.cell? ⟨w.heap.size + 1, 1, none⟩ = some (.slice none 0 0) := (b2.out).cell 1
    have x2_2 : W29.cell? ⟨w.heap.size + 1, 2, none⟩ = some (.bool false) := (b2.out).cell 2
    have x2_3 : W29.cell? ⟨w.heap.size + 1, 3, none⟩ = some (.slice none 0 0) := (b2.out).cell 3
    have z2_0 : W29.frozen? ⟨w.heap.size + 1, 0, none⟩ = false := (b2.out).frozen 0
    have z2_1 : W29.frozen? ⟨w.heap.size + 1, 1, none⟩ = false := (b2.out).frozen 1
    have z2_2 : W29.frozen? ⟨w.heap.size + 1, 2, none⟩ = false := (b2.out).frozen 2
    have z2_3 : W29.frozen? ⟨w.heap.size + 1, 3, none⟩ = false := (b2.out).frozen 3
    have x3_0 : W29.cell? ⟨W3.heap.size, 0, none⟩ = some (.bool k2) := (b3.out).cell 0
    have x3_1 : W29.cell? ⟨W3.heap.size, 1, none⟩ = some (.slice A2 l2 c2) := (b3.out).cell 1
    have z3_0 : W29.frozen? ⟨W3.heap.size, 0, none⟩ = false := (b3.out).frozen 0
    have z3_1 : W29.frozen? ⟨W3.heap.size, 1, none⟩ = false := (b3.out).frozen 1
    have x4_0 : W29.cell? ⟨W15.heap.size, 0, none⟩ = some (.bool k3) := (b4.out).cell 0
    have x4_1 : W29.cell? ⟨W15.heap.size, 1, none⟩ = some (.slice A3 l3 c3) := (b4.out).cell 1
    have x5_0 : W29.cell? ⟨W15.heap.size + 1, 0, none⟩ = some (.bool k4) := (b5.out).cell 0
    have x5_1 : W29.cell? ⟨W15.heap.size + 1, 1, none⟩ = some (.slice A4 l4 c4) := (b5.out).cell 1
    have x7_0 : W29.cell? ⟨W22.heap.size, 0, none⟩ = some (.bool k5) := (b7.out).cell 0
    have x7_1 : W29.cell? ⟨W22.heap.size, 1, none⟩ = some (.slice A5 l5 c5) := (b7.out).cell 1
    have x8_0 : W29.cell? ⟨W22.heap.size + 1, 0, none⟩ = some (.bool k6) := (b8.out).cell 0
    have x8_1 : W29.cell? ⟨W22.heap.size + 1, 1, none⟩ = some (.slice A6 l6 c6) := (b8.out).cell 1
    have szb : w.heap.size ≤ W29.heap.size := HB30.out.size
    have s1 : w.heap.size < W29.heap.size := (b1.out).lt
    have s2 : w.heap.size + 1 < W29.heap.size := (b2.out).lt
    have s3 : W3.heap.size < W29.heap.size := (b3.out).lt
    have s4 : W15.heap.size < W29.heap.size := (b4.out).lt
    have s5 : W15.heap.size + 1 < W29.heap.size := (b5.out).lt
    have s7 : W22.heap.size < W29.heap.size := (b7.out).lt
    have s8 : W22.heap.size + 1 < W29.heap.size := (b8.out).lt
    go_wp2_with fail
    have hkeep := (Keep.set (Keep.set (Keep.set (Keep.set (Keep.refl W29) b2.out 0 (Leaf.bool k3)) (Bx.set b2.out 0 (Leaf.bool k3)) 1 (Leaf.slice A3 l3 c3)) (Bx.set (Bx.set b2.out 0 (Leaf.bool k3)) 1 (Leaf.slice A3 l3 c3)) 2 (Leaf.bool k5)) (Bx.set (Bx.set (Bx.set b2.out 0 (Leaf.bool k3)) 1 (Leaf.slice A3 l3 c3)) 2 (Leaf.bool k5)) 3 (Leaf.slice A5 l5 c5))
    have hbel := (Below.setCell (p := ⟨w.heap.size + 1, 3, none⟩) (Below.setCell (p := ⟨w.heap.size + 1, 2, none⟩) (Below.setCell (p := ⟨w.heap.size + 1, 1, none⟩) (Below.setCell (p := ⟨w.heap.size + 1, 0, none⟩) HB30.out (by first | omega | (simp; done) | (simp; omega)) (.bool k3)) (by first | omega | (simp; done) | (simp; omega)) (.slice A3 l3 c3)) (by first | omega | (simp; done) | (simp; omega)) (.bool k5)) (by first | omega | (simp; done) | (simp; omega)) (.slice A5 l5 c5))
    refine bodyPost_ret (v := .agg #[.bool k3, .slice A3 l3 c3, .bool k5, .slice A5 l5 c5]) (by simp [results, Tryd.results34, go_sem, x2_0, x2_1, x2_2, x2_3]) rfl ⟨_, rfl, PRat.mk (HV3.out.kept hkeep) (HV5.out.kept hkeep) (by rw [← red_num hq]; unfold divr; rw [if_pos (by omega)]) (by rw [← red_den hq]; unfold divr; rw [if_pos (by omega)]), hbel⟩
  · exact absurd hlt hq
  · have hc : cmpI q 0 = 1 := by unfold cmpI; rw [if_neg (by omega), if_neg (by omega)]
    have hne : (Int.gcd p q : Int) ≠ 0 := by have := Int.gcd_ne_zero_right (a := p) hq; omega
    go_wp2_with fail
    refine (sign_is H2.out hc).mono ?_
    rintro e W9 ⟨rfl, hb⟩
    have nb := Lib.hid ((b1.out).up hb)
    clear b1
    have b1 := nb
    clear nb
    have nb := Lib.hid ((b2.out).up hb)
    clear b2
    have b2 := nb
    clear nb
    have nb := Lib.hid ((b3.out).up hb)
    clear b3
    have b3 := nb
    clear nb
    have f_ := Lib.hid (H1.out.kept (Keep.ofBelow hb))
    clear H1
    have H1 := f_
    clear f_
    have f_ := Lib.hid (H2.out.kept (Keep.ofBelow hb))
    clear H2
    have H2 := f_
    clear f_
    have f_ := Lib.hid (HV1.out.kept (Keep.ofBelow hb))
    clear HV1
    have HV1 := f_
    clear f_
    have nbel := below_then HB8.out hb HB8.out.size
    have HB10 := Lib.hid nbel
    clear nbel
    clear HB8
    clear hb
    clear x1_0 x1_1 x1_2 x1_3 x2_0 x2_1 x2_2 x2_3 x3_0 x3_1 szb s1 s2 s3
    have x1_0 : W9.cell? ⟨w.heap.size, 0, none⟩ = some (.bool k) := (b1.out).cell 0
    have x1_1 : W9.cell? ⟨w.heap.size, 1, none⟩ = some (.slice A l c) := (b1.out).cell 1
    have x1_2 : W9.cell? ⟨w.heap.size, 2, none⟩ = some (.bool k') := (b1.out).cell 2
    have x1_3 : W9.cell? ⟨w.heap.size, 3, none⟩ = some (.slice A' l' c') := (b1.out).cell 3
    have x2_0 : W9.cell? ⟨w.heap.size + 1, 0, none⟩ = some (.bool false) := (b2.out).cell 0
    have x2_1 : W9.cell? ⟨w.heap.size + 1, 1, none⟩ = some (.slice none 0 0) := (b2.out).cell 1
    have x2_2 : W9.cell? ⟨w.heap.size + 1, 2, none⟩ = some (.bool false) := (b2.out).cell 2
    have x2_3 : W9.cell? ⟨w.heap.size + 1, 3, none⟩ = some (.slice none 0 0) := (b2.out).cell 3
    have x3_0 : W9.cell? ⟨W3.heap.size, 0, none⟩ = some (.bool k1) := (b3.out).cell 0
    have x3_1 : W9.cell? ⟨W3.heap.size, 1, none⟩ = some (.slice A1 l1 c1) := (b3.out).cell 1
    have z3_0 : W9.frozen? ⟨W3.heap.size, 0, none⟩ = false := (b3.out).frozen 0
    have z3_1 : W9.frozen? ⟨W3.heap.size, 1, none⟩ = false := (b3.out).frozen 1
    have szb : w.heap.size ≤ W9.heap.size := HB10.out.size
    have s1 : w.heap.size < W9.heap.size := (b1.out).lt
    have s2 : w.heap.size + 1 < W9.heap.size := (b2.out).lt
    have s3 : W3.heap.size < W9.heap.size := (b3.out).lt
    go_wp2_with fail
    refine (quo_fact H1.out HV1.out (by omega) (by omega) hne).mono ?_
    rintro e W11 ⟨k3, A3, l3, c3, k4, A4, l4, c4, rfl, hv3, hv4, hb⟩
    have nb := Lib.hid ((b1.out).up hb)
    clear b1
    have b1 := nb
    clear nb
    have nb := Lib.hid ((b2.out).up hb)
    clear b2
    have b2 := nb
    clear nb
    have nb := Lib.hid ((b3.out).up hb)
    clear b3
    have b3 := nb
    clear nb
    have f_ := Lib.hid (H1.out.kept (Keep.ofBelow hb))
    clear H1
    have H1 := f_
    clear f_
    have f_ := Lib.hid (H2.out.kept (Keep.ofBelow hb))
    clear H2
    have H2 := f_
    clear f_
    have f_ := Lib.hid (HV1.out.kept (Keep.ofBelow hb))
    clear HV1
    have HV1 := f_
    clear f_
    have nbel := below_then HB10.out hb HB10.out.size
    have HB12 := Lib.hid nbel
    clear nbel
    clear HB10
    clear hb
    clear x1_0 x1_1 x1_2 x1_3 x2_0 x2_1 x2_2 x2_3 x3_0 x3_1 z3_0 z3_1 szb s1 s2 s3
    have x1_0 : W11.cell? ⟨w.heap.size, 0, none⟩ = some (.bool k) := (b1.out).cell 0
    have x1_1 : W11.cell? ⟨w.heap.size, 1, none⟩ = some (.slice A l c) := (b1.out).cell 1
    have x1_2 : W11.cell? ⟨w.heap.size, 2, none⟩ = some (.bool k') := (b1.out).cell 2
    have x1_3 : W11.cell? ⟨w.heap.size, 3, none⟩ = some (.slice A' l' c') := (b1.out).cell 3
    have x2_0 : W11.cell? ⟨w.heap.size + 1, 0, none⟩ = some (.bool false) := (b2.out).cell 0
    have x2_1 : W11.cell? ⟨w.heap.size + 1, 1, none⟩ = some (.slice none 0 0) := (b2.out).cell 1
    have x2_2 : W11.cell? ⟨w.heap.size + 1, 2, none⟩ = some (.bool false) := (b2.out).cell 2
    have x2_3 : W11.cell? ⟨w.heap.size + 1, 3, none⟩ = some (.slice none 0 0) := (b2.out).cell 3
    have x3_0 : W11.cell? ⟨W3.heap.size, 0, none⟩ = some (.bool k1) := (b3.out).cell 0
    have x3_1 : W11.cell? ⟨W3.heap.size, 1, none⟩ = some (.slice A1 l1 c1) := (b3.out).cell 1
    have z3_0 : W11.frozen? ⟨W3.heap.size, 0, none⟩ = false := (b3.out).frozen 0
    have z3_1 : W11.frozen? ⟨W3.heap.size, 1, none⟩ = false := (b3.out).frozen 1
    have szb : w.heap.size ≤ W11.heap.size := HB12.out.size
    have s1 : w.heap.size < W11.heap.size := (b1.out).lt
    have s2 : w.heap.size + 1 < W11.heap.size := (b2.out).lt
    have s3 : W3.heap.size < W11.heap.size := (b3.out).lt
    have HV3 := Lib.hid hv3
    clear hv3 hv4
    go_upto_region 5 with (fail)
    have q13 : w.heap.size < W11.heap.size := (b1.out).lt
    have q14 : w.heap.size + 1 < W11.heap.size := (b2.out).lt
    have q15 : W3.heap.size < W11.heap.size := (b3.out).lt
    change Code.wp Tryd.prog _ _ _ ((W11.alloc (.cells #[.bool k3, .slice A3 l3 c3] 25)).alloc (.cells #[.bool k4, .slice A4 l4 c4] 25))
    have nb1 : Bx 27 ((W11.alloc (.cells #[.bool k3, .slice A3 l3 c3] 25)).alloc (.cells #[.bool k4, .slice A4 l4 c4] 25)) w.heap.size [.bool k, .slice A l c, .bool k', .slice A' l' c'] := (Bx.alloc (Bx.alloc b1.out (.cells #[.bool k3, .slice A3 l3 c3] 25)) (.cells #[.bool k4, .slice A4 l4 c4] 25))
    have nb2 : Bx 27 ((W11.alloc (.cells #[.bool k3, .slice A3 l3 c3] 25)).alloc (.cells #[.bool k4, .slice A4 l4 c4] 25)) (w.heap.size + 1) [.bool false, .slice none 0 0, .bool false, .slice none 0 0] := (Bx.alloc (Bx.alloc b2.out (.cells #[.bool k3, .slice A3 l3 c3] 25)) (.cells #[.bool k4, .slice A4 l4 c4] 25))
    have nb3 : Bx 25 ((W11.alloc (.cells #[.bool k3, .slice A3 l3 c3] 25)).alloc (.cells #[.bool k4, .slice A4 l4 c4] 25)) W3.heap.size [.bool k1, .slice A1 l1 c1] := (Bx.alloc (Bx.alloc b3.out (.cells #[.bool k3, .slice A3 l3 c3] 25)) (.cells #[.bool k4, .slice A4 l4 c4] 25))
    have nb4 := (Bx.alloc (Bx.new 25 W11 [.bool k3, .slice A3 l3 c3] (leaf2 (Leaf.bool k3) (Leaf.slice A3 l3 c3))) (.cells #[.bool k4, .slice A4 l4 c4] 25))
    have nb5 := (Bx.new 25 (W11.alloc (.cells #[.bool k3, .slice A3 l3 c3] 25)) [.bool k4, .slice A4 l4 c4] (leaf2 (Leaf.bool k4) (Leaf.slice A4 l4 c4)))
    rw [show (W11.alloc (.cells #[.bool k3, .slice A3 l3 c3] 25)).heap.size = W11.heap.size + 1 by simp] at nb5
    have nkeep := (Keep.alloc (Keep.alloc (Keep.refl W11) (.cells #[.bool k3, .slice A3 l3 c3] 25)) (.cells #[.bool k4, .slice A4 l4 c4] 25))
    have nbel : Below w.heap.size w ((W11.alloc (.cells #[.bool k3, .slice A3 l3 c3] 25)).alloc (.cells #[.bool k4, .slice A4 l4 c4] 25)) := (Below.alloc (Below.alloc HB12.out (by first | omega | (simp; done) | (simp; omega) | (simp [World.setCell]; done) | (simp [World.setCell]; omega)) (.cells #[.bool k3, .slice A3 l3 c3] 25)) (by first | omega | (simp; done) | (simp; omega) | (simp [World.setCell]; done) | (simp [World.setCell]; omega)) (.cells #[.bool k4, .slice A4 l4 c4] 25))
    generalize (W11.alloc (.cells #[.bool k3, .slice A3 l3 c3] 25)).alloc (.cells #[.bool k4, .slice A4 l4 c4] 25) = W16 at *
    clear x1_0 x1_1 x1_2 x1_3 x2_0 x2_1 x2_2 x2_3 x3_0 x3_1 z3_0 z3_1 szb s1 s2 s3
    clear b1 b2 b3
    have b1 := Lib.hid nb1
    have b2 := Lib.hid nb2
    have b3 := Lib.hid nb3
    have b4 := Lib.hid nb4
    have b5 := Lib.hid nb5
    clear nb1 nb2 nb3 nb4 nb5
    have f_ := Lib.hid (H1.out.kept nkeep)
    clear H1
    have H1 := f_
    clear f_
    have f_ := Lib.hid (H2.out.kept nkeep)
    clear H2
    have H2 := f_
    clear f_
    have f_ := Lib.hid (HV1.out.kept nkeep)
    clear HV1
    have HV1 := f_
    clear f_
    have f_ := Lib.hid (HV3.out.kept nkeep)
    clear HV3
    have HV3 := f_
    clear f_
    clear nkeep
    have HB17 := Lib.hid nbel
    clear nbel
    clear HB12
    have x1_0 : W16.cell? ⟨w.heap.size, 0, none⟩ = some (.bool k) := (b1.out).cell 0
    have x1_1 : W16.cell? ⟨w.heap.size, 1, none⟩ = some (.slice A l c) := (b1.out).cell 1
    have x1_2 : W16.cell? ⟨w.heap.size, 2, none⟩ = some (.bool k') := (b1.out).cell 2
    have x1_3 : W16.cell? ⟨w.heap.size, 3, none⟩ = some (.slice A' l' c') := (b1.out).cell 3
    have x2_0 : W16.cell? ⟨w.heap.size + 1, 0, none⟩ = some (.bool false) := (b2.out).cell 0
    have x2_1 : W16.cell? ⟨w.heap.size + 1, 1, none⟩ = some (.slice none 0 0) := (b2.out).cell 1
    have x2_2 : W16.cell? ⟨w.heap.size + 1, 2, none⟩ = some (.bool false) := (b2.out).cell 2
    have x2_3 : W16.cell? ⟨w.heap.size + 1, 3, none⟩ = some (.slice none 0 0) := (b2.out).cell 3
    have x3_0 : W16.cell? ⟨W3.heap.size, 0, none⟩ = some (.bool k1) := (b3.out).cell 0
    have x3_1 : W16.cell? ⟨W3.heap.size, 1, none⟩ = some (.slice A1 l1 c1) := (b3.out).cell 1
    have z3_0 : W16.frozen? ⟨W3.heap.size, 0, none⟩ = false := (b3.out).frozen 0
    have z3_1 : W16.frozen? ⟨W3.heap.size, 1, none⟩ = false := (b3.out).frozen 1
    have x4_0 : W16.cell? ⟨W11.heap.size, 0, none⟩ = some (.bool k3) := (b4.out).cell 0
    have x4_1 : W16.cell? ⟨W11.heap.size, 1, none⟩ = some (.slice A3 l3 c3) := (b4.out).cell 1
    have x5_0 : W16.cell? ⟨W11.heap.size + 1, 0, none⟩ = some (.bool k4) := (b5.out).cell 0
    have x5_1 : W16.cell? ⟨W11.heap.size + 1, 1, none⟩ = some (.slice A4 l4 c4) := (b5.out).cell 1
    have szb : w.heap.size ≤ W16.heap.size := HB17.out.size
    have s1 : w.heap.size < W16.heap.size := (b1.out).lt
    have s2 : w.heap.size + 1 < W16.heap.size := (b2.out).lt
    have s3 : W3.heap.size < W16.heap.size := (b3.out).lt
    have s4 : W11.heap.size < W16.heap.size := (b4.out).lt
    have s5 : W11.heap.size + 1 < W16.heap.size := (b5.out).lt
    go_wp2_with fail
    refine (quo_fact H2.out HV1.out (by omega) (by omega) hne).mono ?_
    rintro e W18 ⟨k5, A5, l5, c5, k6, A6, l6, c6, rfl, hv5, hv6, hb⟩
    have nb := Lib.hid ((b1.out).up hb)
    clear b1
    have b1 := nb
    clear nb
    have nb := Lib.hid ((b2.out).up hb)
    clear b2
    have b2 := nb
    clear nb
    have nb := Lib.hid ((b3.out).up hb)
    clear b3
    have b3 := nb
    clear nb
    have nb := Lib.hid ((b4.out).up hb)
    clear b4
    have b4 := nb
    clear nb
    have nb := Lib.hid ((b5.out).up hb)
    clear b5
    have b5 := nb
    clear nb
    have f_ := Lib.hid (H1.out.kept (Keep.ofBelow hb))
    clear H1
    have H1 := f_
    clear f_
    have f_ := Lib.hid (H2.out.kept (Keep.ofBelow hb))
    clear H2
    have H2 := f_
    clear f_
    have f_ := Lib.hid (HV1.out.kept (Keep.ofBelow hb))
    clear HV1
    have HV1 := f_
    clear f_
    have f_ := Lib.hid (HV3.out.kept (Keep.ofBelow hb))
    clear HV3
    have HV3 := f_
    clear f_
    have nbel := below_then HB17.out hb HB17.out.size
    have HB19 := Lib.hid nbel
    clear nbel
    clear HB17
    clear hb
    clear x1_0 x1_1 x1_2 x1_3 x2_0 x2_1 x2_2 x2_3 x3_0 x3_1 z3_0 z3_1 x4_0 x4_1 x5_0 x5_1 szb s1 s2 s3 s4 s5
    have x1_0 : W18.cell? ⟨w.heap.size, 0, none⟩ = some (.bool k) := (b1.out).cell 0
    have x1_1 : W18.cell? ⟨w.heap.size, 1, none⟩ = some (.slice A l c) := (b1.out).cell 1
    have x1_2 : W18.cell? ⟨w.heap.size, 2, none⟩ = some (.bool k') := (b1.out).cell 2
    have x1_3 : W18.cell? ⟨w.heap.size, 3, none⟩ = some (.slice A' l' c') := (b1.out).cell 3
    have x2_0 : W18.cell? ⟨w.heap.size + 1, 0, none⟩ = some (.bool false) := (b2.out).cell 0
    have x2_1 : W18.cell? ⟨w.heap.size + 1, 1, none⟩ = some (.slice none 0 0) := (b2.out).cell 1
    have x2_2 : W18.cell? ⟨w.heap.size + 1, 2, none⟩ = some (.bool false) := (b2.out).cell 2
    have x2_3 : W18.cell? ⟨w.heap.size + 1, 3, none⟩ = some (.slice none 0 0) := (b2.out).cell 3
    have x3_0 : W18.cell? ⟨W3.heap.size, 0, none⟩ = some (.bool k1) := (b3.out).cell 0
    have x3_1 : W18.cell? ⟨W3.heap.size, 1, none⟩ = some (.slice A1 l1 c1) := (b3.out).cell 1
    have z3_0 : W18.frozen? ⟨W3.heap.size, 0, none⟩ = false := (b3.out).frozen 0
    have z3_1 : W18.frozen? ⟨W3.heap.size, 1, none⟩ = false := (b3.out).frozen 1
    have x4_0 : W18.cell? ⟨W11.heap.size, 0, none⟩ = some (.bool k3) := (b4.out).cell 0
    have x4_1 : W18.cell? ⟨W11.heap.size, 1, none⟩ = some (.slice A3 l3 c3) := (b4.out).cell 1
    have x5_0 : W18.cell? ⟨W11.heap.size + 1, 0, none⟩ = some (.bool k4) := (b5.out).cell 0
    have x5_1 : W18.cell? ⟨W11.heap.size + 1, 1, none⟩ = some (.slice A4 l4 c4) := (b5.out).cell 1
    have szb : w.heap.size ≤ W18.heap.size := HB19.out.size
    have s1 : w.heap.size < W18.heap.size := (b1.out).lt
    have s2 : w.heap.size + 1 < W18.heap.size := (b2.out).lt
    have s3 : W3.heap.size < W18.heap.size := (b3.out).lt
    have s4 : W11.heap.size < W18.heap.size := (b4.out).lt
    have s5 : W11.heap.size + 1 < W18.heap.size := (b5.out).lt
    have HV5 := Lib.hid hv5
    clear hv5 hv6
    go_upto_region 6 with (fail)
    have q20 : w.heap.size < W18.heap.size := (b1.out).lt
    have q21 : w.heap.size + 1 < W18.heap.size := (b2.out).lt
    have q22 : W3.heap.size < W18.heap.size := (b3.out).lt
    have q23 : W11.heap.size < W18.heap.size := (b4.out).lt
    have q24 : W11.heap.size + 1 < W18.heap.size := (b5.out).lt
    change Code.wp Tryd.prog _ _ _ ((W18.alloc (.cells #[.bool k5, .slice A5 l5 c5] 25)).alloc (.cells #[.bool k6, .slice A6 l6 c6] 25))
    have nb1 : Bx 27 ((W18.alloc (.cells #[.bool k5, .slice A5 l5 c5] 25)).alloc (.cells #[.bool k6, .slice A6 l6 c6] 25)) w.heap.size [.bool k, .slice A l c, .bool k', .slice A' l' c'] := (Bx.alloc (Bx.alloc b1.out (.cells #[.bool k5, .slice A5 l5 c5] 25)) (.cells #[.bool k6, .slice A6 l6 c6] 25))
    have nb2 : Bx 27 ((W18.alloc (.cells #[.bool k5, .slice A5 l5 c5] 25)).alloc (.cells #[.bool k6, .slice A6 l6 c6] 25)) (w.heap.size + 1) [.bool false, .slice none 0 0, .bool false, .slice none 0 0] := (Bx.alloc (Bx.alloc b2.out (.cells #[.bool k5, .slice A5 l5 c5] 25)) (.cells #[.bool k6, .slice A6 l6 c6] 25))
    have nb3 : Bx 25 ((W18.alloc (.cells #[.bool k5, .slice A5 l5 c5] 25)).alloc (.cells #[.bool k6, .slice A6 l6 c6] 25)) W3.heap.size [.bool k1, .slice A1 l1 c1] := (Bx.alloc (Bx.alloc b3.out (.cells #[.bool k5, .slice A5 l5 c5] 25)) (.cells #[.bool k6, .slice A6 l6 c6] 25))
    have nb4 : Bx 25 ((W18.alloc (.cells #[.bool k5, .slice A5 l5 c5] 25)).alloc (.cells #[.bool k6, .slice A6 l6 c6] 25)) W11.heap.size [.bool k3, .slice A3 l3 c3] := (Bx.alloc (Bx.alloc b4.out (.cells #[.bool k5, .slice A5 l5 c5] 25)) (.cells #[.bool k6, .slice A6 l6 c6] 25))
    have nb5 : Bx 25 ((W18.alloc (.cells #[.bool k5, .slice A5 l5 c5] 25)).alloc (.cells #[.bool k6, .slice A6 l6 c6] 25)) (W11.heap.size + 1) [.bool k4, .slice A4 l4 c4] := (Bx.alloc (Bx.alloc b5.out (.cells #[.bool k5, .slice A5 l5 c5] 25)) (.cells #[.bool k6, .slice A6 l6 c6] 25))
    have nb7 := (Bx.alloc (Bx.new 25 W18 [.bool k5, .slice A5 l5 c5] (leaf2 (Leaf.bool k5) (Leaf.slice A5 l5 c5))) (.cells #[.bool k6, .slice A6 l6 c6] 25))
    have nb8 := (Bx.new 25 (W18.alloc (.cells #[.bool k5, .slice A5 l5 c5] 25)) [.bool k6, .slice A6 l6 c6] (leaf2 (Leaf.bool k6) (Leaf.slice A6 l6 c6)))
    rw [show (W18.alloc (.cells #[.bool k5, .slice A5 l5 c5] 25)).heap.size = W18.heap.size + 1 by simp] at nb8
    have nkeep := (Keep.alloc (Keep.alloc (Keep.refl W18) (.cells #[.bool k5, .slice A5 l5 c5] 25)) (.cells #[.bool k6, .slice A6 l6 c6] 25))
    have nbel : Below w.heap.size w ((W18.alloc (.cells #[.bool k5, .slice A5 l5 c5] 25)).alloc (.cells #[.bool k6, .slice A6 l6 c6] 25)) := (Below.alloc (Below.alloc HB19.out (by first | omega | (simp; done) | (simp; omega) | (simp [World.setCell]; done) | (simp [World.setCell]; omega)) (.cells #[.bool k5, .slice A5 l5 c5] 25)) (by first | omega | (simp; done) | (simp; omega) | (simp [World.setCell]; done) | (simp [World.setCell]; omega)) (.cells #[.bool k6, .slice A6 l6 c6] 25))
    generalize (W18.alloc (.cells #[.bool k5, .slice A5 l5 c5] 25)).alloc (.cells #[.bool k6, .slice A6 l6 c6] 25) = W25 at *
    clear x1_0 x1_1 x1_2 x1_3 x2_0 x2_1 x2_2 x2_3 x3_0 x3_1 z3_0 z3_1 x4_0 x4_1 x5_0 x5_1 szb s1 s2 s3 s4 s5
    clear b1 b2 b3 b4 b5
    have b1 := Lib.hid nb1
    have b2 := Lib.hid nb2
    have b3 := Lib.hid nb3
    have b4 := Lib.hid nb4
    have b5 := Lib.hid nb5
    have b7 := Lib.hid nb7
    have b8 := Lib.hid nb8
    clear nb1 nb2 nb3 nb4 nb5 nb7 nb8
    have f_ := Lib.hid (H1.out.kept nkeep)
    clear H1
    have H1 := f_
    clear f_
    have f_ := Lib.hid (H2.out.kept nkeep)
    clear H2
    have H2 := f_
    clear f_
    have f_ := Lib.hid (HV1.out.kept nkeep)
    clear HV1
    have HV1 := f_
    clear f_
    have f_ := Lib.hid (HV3.out.kept nkeep)
    clear HV3
    have HV3 := f_
    clear f_
    have f_ := Lib.hid (HV5.out.kept nkeep)
    clear HV5
    have HV5 := f_
    clear f_
    clear nkeep
    have HB26 := Lib.hid nbel
    clear nbel
    clear HB19
    have x1_0 : W25.cell? ⟨w.heap.size, 0, none⟩ = some (.bool k) := (b1.out).cell 0
    have x1_1 : W25.cell? ⟨w.heap.size, 1, none⟩ = some (.slice A l c) := (b1.out).cell 1
    have x1_2 : W25.cell? ⟨w.heap.size, 2, none⟩ = some (.bool k') := (b1.out).cell 2
    have x1_3 : W25.cell? ⟨w.heap.size, 3, none⟩ = some (.slice A' l' c') := (b1.out).cell 3
    have x2_0 : W25.cell? ⟨w.heap.size + 1, 0, none⟩ = some (.bool false) := (b2.out).cell 0
    have x2_1 : W25.cell? ⟨w.heap.size + 1, 1, none⟩ = some (.slice none 0 0) := (b2.out).cell 1
    have x2_2 : W25.cell? ⟨w.heap.size + 1, 2, none⟩ = some (.bool false) := (b2.out).cell 2
    have x2_3 : W25.cell? ⟨w.heap.size + 1, 3, none⟩ = some (.slice none 0 0) := (b2.out).cell 3
    have x3_0 : W25.cell? ⟨W3.heap.size, 0, none⟩ = some (.bool k1) := (b3.out).cell 0
    have x3_1 : W25.cell? ⟨W3.heap.size, 1, none⟩ = some (.slice A1 l1 c1) := (b3.out).cell 1
    have z3_0 : W25.frozen? ⟨W3.heap.size, 0, none⟩ = false := (b3.out).frozen 0
    have z3_1 : W25.frozen? ⟨W3.heap.size, 1, none⟩ = false := (b3.out).frozen 1
    have x4_0 : W25.cell? ⟨W11.heap.size, 0, none⟩ = some (.bool k3) := (b4.out).cell 0
    have x4_1 : W25.cell? ⟨W11.heap.size, 1, none⟩ = some (.slice A3 l3 c3) := (b4.out).cell 1
    have x5_0 : W25.cell? ⟨W11.heap.size + 1, 0, none⟩ = some (.bool k4) := (b5.out).cell 0
    have x5_1 : W25.cell? ⟨W11.heap.size + 1, 1, none⟩ = some (.slice A4 l4 c4) := (b5.out).cell 1
    have x7_0 : W25.cell? ⟨W18.heap.size, 0, none⟩ = some (.bool k5) := (b7.out).cell 0
    have x7_1 : W25.cell? ⟨W18.heap.size, 1, none⟩ = some (.slice A5 l5 c5) := (b7.out).cell 1
    have x8_0 : W25.cell? ⟨W18.heap.size + 1, 0, none⟩ = some (.bool k6) := (b8.out).cell 0
    have x8_1 : W25.cell? ⟨W18.heap.size + 1, 1, none⟩ = some (.slice A6 l6 c6) := (b8.out).cell 1
    have szb : w.heap.size ≤ W25.heap.size := HB26.out.size
    have s1 : w.heap.size < W25.heap.size := (b1.out).lt
    have s2 : w.heap.size + 1 < W25.heap.size := (b2.out).lt
    have s3 : W3.heap.size < W25.heap.size := (b3.out).lt
    have s4 : W11.heap.size < W25.heap.size := (b4.out).lt
    have s5 : W11.heap.size + 1 < W25.heap.size := (b5.out).lt
    have s7 : W18.heap.size < W25.heap.size := (b7.out).lt
    have s8 : W18.heap.size + 1 < W25.heap.size := (b8.out).lt
    clear x1_0 x1_1 x1_2 x1_3 x2_0 x2_1 x2_2 x2_3 x3_0 x3_1 z3_0 z3_1 x4_0 x4_1 x5_0 x5_1 x7_0 x7_1 x8_0 x8_1 szb s1 s2 s3 s4 s5 s7 s8
    have x1_0 : W25.cell? ⟨w.heap.size, 0, none⟩ = some (.bool k) := (b1.out).cell 0
    have x1_1 : W25.cell? ⟨w.heap.size, 1, none⟩ = some (.slice A l c) := (b1.out).cell 1
    have x1_2 : W25.cell? ⟨w.heap.size, 2, none⟩ = some (.bool k') := (b1.out).cell 2
    have x1_3 : W25.cell? ⟨w.heap.size, 3, none⟩ = some (.slice A' l' c') := (b1.out).cell 3
    have x2_0 : W25.cell? ⟨w.heap.size + 1, 0, none⟩ = some (.bool false) := (b2.out).cell 0
    have x2_1 : W25.cell? ⟨w.heap.size + 1, 1, none⟩ = some (.slice none 0 0) := (b2.out).cell 1
    have x2_2 : W25.cell? ⟨w.heap.size + 1, 2, none⟩ = some (.bool false) := (b2.out).cell 2
    have x2_3 : W25.cell? ⟨w.heap.size + 1, 3, none⟩ = some (.slice none 0 0) := (b2.out).cell 3
    have z2_0 : W25.frozen? ⟨w.heap.size + 1, 0, none⟩ = false := (b2.out).frozen 0
    have z2_1 : W25.frozen? ⟨w.heap.size + 1, 1, none⟩ = false := (b2.out).frozen 1
    have z2_2 : W25.frozen? ⟨w.heap.size + 1, 2, none⟩ = false := (b2.out).frozen 2
    have z2_3 : W25.frozen? ⟨w.heap.size + 1, 3, none⟩ = false := (b2.out).frozen 3
    have x3_0 : W25.cell? ⟨W3.heap.size, 0, none⟩ = some (.bool k1) := (b3.out).cell 0
    have x3_1 : W25.cell? ⟨W3.heap.size, 1, none⟩ = some (.slice A1 l1 c1) := (b3.out).cell 1
    have z3_0 : W25.frozen? ⟨W3.heap.size, 0, none⟩ = false := (b3.out).frozen 0
    have z3_1 : W25.frozen? ⟨W3.heap.size, 1, none⟩ = false := (b3.out).frozen 1
    have x4_0 : W25.cell? ⟨W11.heap.size, 0, none⟩ = some (.bool k3) := (b4.out).cell 0
    have x4_1 : W25.cell? ⟨W11.heap.size, 1, none⟩ = some (.slice A3 l3 c3) := (b4.out).cell 1
    have x5_0 : W25.cell? ⟨W11.heap.size + 1, 0, none⟩ = some (.bool k4) := (b5.out).cell 0
    have x5_1 : W25.cell? ⟨W11.heap.size + 1, 1, none⟩ = some (.slice A4 l4 c4) := (b5.out).cell 1
    have x7_0 : W25.cell? ⟨W18.heap.size, 0, none⟩ = some (.bool k5) := (b7.out).cell 0
    have x7_1 : W25.cell? ⟨W18.heap.size, 1, none⟩ = some (.slice A5 l5 c5) := (b7.out).cell 1
    have x8_0 : W25.cell? ⟨W18.heap.size + 1, 0, none⟩ = some (.bool k6) := (b8.out).cell 0
    have x8_1 : W25.cell? ⟨W18.heap.size + 1, 1, none⟩ = some (.slice A6 l6 c6) := (b8.out).cell 1
    have szb : w.heap.size ≤ W25.heap.size := HB26.out.size
    have s1 : w.heap.size < W25.heap.size := (b1.out).lt
    have s2 : w.heap.size + 1 < W25.heap.size := (b2.out).lt
    have s3 : W3.heap.size < W25.heap.size := (b3.out).lt
    have s4 : W11.heap.size < W25.heap.size := (b4.out).lt
    have s5 : W11.heap.size + 1 < W25.heap.size := (b5.out).lt
    have s7 : W18.heap.size < W25.heap.size := (b7.out).lt
    have s8 : W18.heap.size + 1 < W25.heap.size := (b8.out).lt
    go_wp2_with fail
    have hkeep := (Keep.set (Keep.set (Keep.set (Keep.set (Keep.refl W25) b2.out 0 (Leaf.bool k3)) (Bx.set b2.out 0 (Leaf.bool k3)) 1 (Leaf.slice A3 l3 c3)) (Bx.set (Bx.set b2.out 0 (Leaf.bool k3)) 1 (Leaf.slice A3 l3 c3)) 2 (Leaf.bool k5)) (Bx.set (Bx.set (Bx.set b2.out 0 (Leaf.bool k3)) 1 (Leaf.slice A3 l3 c3)) 2 (Leaf.bool k5)) 3 (Leaf.slice A5 l5 c5))
    have hbel := (Below.setCell (p := ⟨w.heap.size + 1, 3, none⟩) (Below.setCell (p := ⟨w.heap.size + 1, 2, none⟩) (Below.setCell (p := ⟨w.heap.size + 1, 1, none⟩) (Below.setCell (p := ⟨w.heap.size + 1, 0, none⟩) HB26.out (by first | omega | (simp; done) | (simp; omega)) (.bool k3)) (by first | omega | (simp; done) | (simp; omega)) (.slice A3 l3 c3)) (by first | omega | (simp; done) | (simp; omega)) (.bool k5)) (by first | omega | (simp; done) | (simp; omega)) (.slice A5 l5 c5))
    refine bodyPost_ret (v := .agg #[.bool k3, .slice A3 l3 c3, .bool k5, .slice A5 l5 c5]) (by simp [results, Tryd.results34, go_sem, x2_0, x2_1, x2_2, x2_3]) rfl ⟨_, rfl, PRat.mk (HV3.out.kept hkeep) (HV5.out.kept hkeep) (by rw [← red_num hq]; unfold divr; rw [if_neg (by omega)]) (by rw [← red_den hq]; unfold divr; rw [if_neg (by omega)]), hbel⟩
end Go.Proofs.YtmpdpfiokjepaaaDoor

/- IntegerQuotients: for every two texts the statement about QuoRem and the reference returns true. -/
namespace Go.Proofs.YtmpdpfiokjepaaaDoor
open Go.RowKit

def remZ (x y : Int) : Int := if y = 0 then 0 else Int.tmod x y
def errZ (y : Int) : Int := if y = 0 then 10 else 0
def QrPost (x y : Int) (l : Nat) (w : World) (e : Ending) (w' : World) : Prop := ∃ k1 A1 c1 Q k2 A2 c2 R, e = .returned (.tuple #[.agg #[.bool k1, .slice A1 (List.length Q) c1], .agg #[.bool k2, .slice A2 (List.length R) c2], .int .i64 (errZ y)]) ∧
  IntR w' w'.heap.size k1 A1 c1 Q ∧ IntR w' w'.heap.size k2 A2 c2 R ∧ zI k1 Q = Int.tdiv x y ∧ zI k2 R = remZ x y ∧ List.length Q ≤ l ∧ List.length R ≤ l + 1 ∧ Below w.heap.size w w'
def RqAll (x y : Int) (l : Nat) (w : World) (e : Ending) (w' : World) : Prop := ∃ k1 A1 c1 Q k2 A2 c2 R, e = .returned (.tuple #[.agg #[.bool k1, .slice A1 (List.length Q) c1], .agg #[.bool k2, .slice A2 (List.length R) c2], .int .i64 (errZ y)]) ∧
  RefR w' w'.heap.size k1 A1 c1 Q ∧ RefR w' w'.heap.size k2 A2 c2 R ∧ zR k1 Q = Int.tdiv x y ∧ zR k2 R = remZ x y ∧ List.length Q ≤ l ∧ List.length R ≤ 3 * l + 9 ∧ Below w.heap.size w w'
theorem quoRem_all (n m : Bool) (A A' : Option Addr) (c c' : Nat) (L M : List Nat) (w : World) (hl : L.length ≤ 100000) (hml : M.length ≤ 100000) (hL : IntR w w.heap.size n A c L) (hM : IntR w w.heap.size m A' c' M) :
    Calls Tryd.prog 45 #[.agg #[.bool n, .slice A L.length c], .agg #[.bool m, .slice A' M.length c']] w (QrPost (zI n L) (zI m M) L.length w) := by
  rcases Nat.eq_zero_or_pos M.length with h0 | h0
  · have : M = [] := List.eq_nil_of_length_eq_zero h0
    subst this
    have hm : m = false := by
      cases m
      · rfl
      · exact absurd rfl (hM.sgn rfl)
    subst hm
    have hz : zI false [] = 0 := rfl
    refine (quoRem_zero n false A A' c c' L w).mono fun e w' ⟨he, hb⟩ => ?_
    refine ⟨false, none, 0, [], false, none, 0, [], ?_, IntR.zero _ _ _ _, IntR.zero _ _ _ _, ?_, ?_, Nat.zero_le _, Nat.zero_le _, hb⟩
    · rw [he, hz]; rfl
    · rw [hz, Int.tdiv_zero]
    · rw [hz]; rfl
  · have hy : zI m M ≠ 0 := by
      have := canon_pos hM.canon h0
      unfold zI
      cases m <;> simp only [Bool.false_eq_true, if_false, if_true] <;> omega
    refine (quoRem_pos n m A A' c c' L M w (by omega) (by omega) h0 hL hM).mono fun e w' ⟨k1, A1, c1, Q, k2, A2, c2, R, he, h1, h2, h3, h4, h5, h6, h7⟩ => ?_
    refine ⟨k1, A1, c1, Q, k2, A2, c2, R, ?_, h1, h2, h3, ?_, h5, h6, h7⟩
    · rw [he, errZ, if_neg hy]
    · rw [h4, remZ, if_neg hy]
theorem rquoRem_all (n m : Bool) (A A' : Option Addr) (c c' : Nat) (L M : List Nat) (w : World) (hl : L.length ≤ 100000) (hml : M.length ≤ 100000) (hL : RefR w w.heap.size n A c L) (hM : RefR w w.heap.size m A' c' M) :
    Calls Tryd.prog 39 #[.agg #[.bool n, .slice A L.length c], .agg #[.bool m, .slice A' M.length c']] w (RqAll (zR n L) (zR m M) L.length w) := by
  rcases Nat.eq_zero_or_pos M.length with h0 | h0
  · have : M = [] := List.eq_nil_of_length_eq_zero h0
    subst this
    have hm : m = false := by
      cases m
      · rfl
      · exact absurd rfl (hM.sgn rfl)
    subst hm
    have hz : zR false [] = 0 := rfl
    refine (rquoRem_zero n A A' c c' L w).mono fun e w' ⟨he, hb⟩ => ?_
    refine ⟨false, none, 0, [], false, none, 0, [], ?_, RefR.zero _ _ _ _, RefR.zero _ _ _ _, ?_, ?_, Nat.zero_le _, Nat.zero_le _, hb⟩
    · rw [he, hz]; rfl
    · rw [hz, Int.tdiv_zero]
    · rw [hz]; rfl
  · have hy : zR m M ≠ 0 := by
      have h1 := val4_lt_of_top rfl h0 hM.top
      have h2 : 0 < (10000 : Nat) ^ (M.length - 1) := Nat.pow_pos (by omega)
      unfold zR
      cases m <;> simp only [Bool.false_eq_true, if_false, if_true] <;> omega
    refine (rquoRem_pos n m A A' c c' L M w hl hml h0 hL hM).mono fun e w' ⟨k1, A1, c1, Q, k2, A2, c2, R, he, h1, h2, h3, h4, h5, h6, h7⟩ => ?_
    refine ⟨k1, A1, c1, Q, k2, A2, c2, R, ?_, h1, h2, h3, ?_, h5, h6, h7⟩
    · rw [he, errZ, if_neg hy]
    · rw [h4, remZ, if_neg hy]

end Go.Proofs.YtmpdpfiokjepaaaDoor

/- IntegerSums: for every two texts the statement about Add, Sub, Neg and Cmp returns true. -/
namespace Go.Proofs.YtmpdpfiokjepaaaDoor
open Go.RowKit

end Go.Proofs.YtmpdpfiokjepaaaDoor

/- Facts on the calls of both packages integer, in the form that the walks of rational numbers ask for. -/
namespace Go.Proofs.YtmpdpfiokjepaaaDoor
open Go.RowKit
open AS (Keep NoInt)

/-- The decimal text of an integer. -/
def decZ (z : Int) : List UInt8 := decI (decide (z < 0)) z.natAbs
theorem decZ_I {w : World} {B : Nat} {n : Bool} {A : Option Addr} {c : Nat} {L : List Nat} (h : IntR w B n A c L) : decI n (val9 L) = decZ (zI n L) := by
  have h1 : n = true → 0 < val9 L := fun h0 => Nat.pos_of_ne_zero (canon_pos h.canon (List.length_pos_iff.2 (h.sgn h0)))
  unfold decZ
  rw [zI_natAbs]
  congr 1
  unfold zI
  cases n
  · symm; simp
  · have := h1 rfl
    symm; simp; omega
theorem decZ_R {w : World} {B : Nat} {n : Bool} {A : Option Addr} {c : Nat} {L : List Nat} (h : RefR w B n A c L) : decI n (val4 L) = decZ (zR n L) := by
  have h1 : n = true → 0 < val4 L := fun h0 => Nat.pos_of_ne_zero (ref_pos h (List.length_pos_iff.2 (h.sgn h0)))
  unfold decZ
  have h2 : (zR n L).natAbs = val4 L := by unfold zR; split <;> simp
  rw [h2]
  congr 1
  unfold zR
  cases n
  · symm; simp
  · have := h1 rfl
    symm; simp; omega
theorem text_fact {z : Int} {n : Nat} {a : Value} {w : World} (h1 : PInt z n a w) (hn : n ≤ 100000) (ht : Tab w.heap.size w) :
    Calls Tryd.prog 10 #[a] w fun e w' => e = .returned (.string ⟨(decZ z).toArray⟩) ∧ Below w.heap.size w w' := by
  obtain ⟨k, A, c, L, rfl, i1, rfl, l1⟩ := h1
  have h := text_any k A c L w (by omega) i1.canon i1.sgn i1.row ht
  rw [show decI k (valB 1000000000 L) = decZ (zI k L) from decZ_I i1] at h
  exact h
theorem rtext_fact {z : Int} {n : Nat} {a : Value} {w : World} (h1 : PRef z n a w) (hn : n ≤ 1000000) :
    Calls Tryd.prog 11 #[a] w fun e w' => e = .returned (.string ⟨(decZ z).toArray⟩) ∧ Below w.heap.size w w' := by
  obtain ⟨k, A, c, L, rfl, i1, rfl, l1⟩ := h1
  have h := rtext_any k A c L w (by omega) i1
  rw [show decI k (valB 10000 L) = decZ (zR k L) from decZ_R i1] at h
  exact h
theorem of_fact {n : Int} {w : World} (h1 : -9223372036854775808 ≤ n) (h2 : n ≤ 9223372036854775807) :
    Calls Tryd.prog 18 #[.int .i64 n] w fun e w' => ∃ v, e = .returned v ∧ PInt n 3 v w' ∧ Below w.heap.size w w' := by
  refine (of_any n w h1 h2).mono ?_
  rintro e w' ⟨k, A, c, rfl, hi, hz, hb⟩
  exact ⟨_, rfl, ⟨k, A, c, _, rfl, hi, hz, limbsN_len _ (by omega)⟩, hb⟩
theorem rsign_fact {x : Int} {n : Nat} {a : Value} {w : World} (h1 : PRef x n a w) :
    Calls Tryd.prog 23 #[a] w fun e w' => e = .returned (.int .i64 (cmpI x 0)) ∧ Below w.heap.size w w' := by
  obtain ⟨k, A, c, L, rfl, i1, rfl, l1⟩ := h1
  have h : sgnI k L = cmpI (zR k L) 0 := by
    have h2 := fun h0 => ref_pos i1 h0
    unfold sgnI zR cmpI
    cases k
    · rcases Nat.eq_zero_or_pos L.length with h0 | h0
      · have : L = [] := List.eq_nil_of_length_eq_zero h0
        subst this; simp [val4, valB]
      · have h3 : valB 10000 L ≠ 0 := h2 h0
        have h4 : ¬ ((val4 L : Int) < 0) := by omega
        have h5 : ¬ ((val4 L : Int) = 0) := by show ¬ ((valB 10000 L : Int) = 0); omega
        simp only [Bool.false_eq_true, if_false]
        rw [if_neg (by omega), if_neg h4, if_neg h5]
    · have h3 : valB 10000 L ≠ 0 := h2 (List.length_pos_iff.2 (i1.sgn rfl))
      have h4 : -(val4 L : Int) < 0 := by show -(valB 10000 L : Int) < 0; omega
      simp only [if_true]
      rw [if_pos h4]
  rw [← h]
  exact rsign_any k A c L w i1.sgn
theorem rsign_is {x c : Int} {n : Nat} {a : Value} {w : World} (h1 : PRef x n a w) (hc : cmpI x 0 = c) :
    Calls Tryd.prog 23 #[a] w fun e w' => e = .returned (.int .i64 c) ∧ Below w.heap.size w w' := hc ▸ rsign_fact h1
theorem rneg_fact {x : Int} {n : Nat} {a : Value} {w : World} (h1 : PRef x n a w) (hn : n ≤ 500000) :
    Calls Tryd.prog 37 #[a] w fun e w' => ∃ v, e = .returned v ∧ PRef (-x) n v w' ∧ Below w.heap.size w w' := by
  obtain ⟨k, A, c, L, rfl, i1, rfl, l1⟩ := h1
  refine (rneg_any k A c L w (by omega) i1).mono ?_
  rintro e w' ⟨q, B, d, rfl, hi, hz, hb⟩
  exact ⟨_, rfl, ⟨q, B, d, L, rfl, hi, hz, by omega⟩, hb⟩
theorem rquo_fact {x y : Int} {n m : Nat} {a b : Value} {w : World} (h1 : PRef x n a w) (h2 : PRef y m b w) (hn : n ≤ 100000) (hm : m ≤ 100000) (hy : y ≠ 0) :
    Calls Tryd.prog 39 #[a, b] w fun e w' => ∃ (k : Bool) (A : Option Addr) (l c : Nat) (k' : Bool) (A' : Option Addr) (l' c' : Nat), e = .returned (.tuple #[.agg #[.bool k, .slice A l c], .agg #[.bool k', .slice A' l' c'], .int .i64 0]) ∧
      PRef (Int.tdiv x y) n (.agg #[.bool k, .slice A l c]) w' ∧ Below w.heap.size w w' := by
  obtain ⟨k, A, c, L, rfl, i1, rfl, l1⟩ := h1
  obtain ⟨k2, A2, c2, L2, rfl, i2, rfl, l2⟩ := h2
  have hpos : 0 < List.length L2 := by
    rcases Nat.eq_zero_or_pos (List.length L2) with h | h
    · exfalso; apply hy; unfold zR; rw [List.eq_nil_of_length_eq_zero h]; simp [val4, valB]
    · exact h
  refine (rquoRem_pos k k2 A A2 c c2 L L2 w (by omega) (by omega) hpos i1 i2).mono ?_
  rintro e w' ⟨k5, A5, c5, Q, k6, A6, c6, R, rfl, hi5, hi6, hz5, hz6, hl5, hl6, hb⟩
  exact ⟨_, _, _, _, _, _, _, _, rfl, ⟨k5, A5, c5, Q, rfl, hi5, hz5, by omega⟩, hb⟩
/-- How long a text is. -/
theorem decLen : ∀ (n u : Nat), u < 10 ^ (n + 1) → (Lib.decDigits u).length ≤ n + 1 := by
  intro n
  induction n with
  | zero =>
    intro u h
    rw [Lib.decDigits, dif_pos (by simpa using h)]
    simp
  | succ n ih =>
    intro u h
    rw [Lib.decDigits]
    split
    · simp
    · have h2 := ih (u / 10) (by rw [Nat.pow_succ] at h; omega)
      rw [List.length_append]
      simp only [List.length_cons, List.length_nil]
      omega
theorem decZ_len {z : Int} {n : Nat} {a : Value} {w : World} (h : PInt z n a w) : (decZ z).length ≤ 9 * n + 2 := by
  obtain ⟨k, A, c, L, rfl, i1, rfl, l1⟩ := h
  rw [← decZ_I i1]
  have h1 := valB_lt (b := 1000000000) i1.canon.lim
  have h2 : (Lib.decDigits (val9 L)).length ≤ 9 * L.length + 1 := by
    refine decLen _ _ (Nat.lt_of_lt_of_le h1 ?_)
    rw [show (1000000000 : Nat) = 10 ^ 9 from rfl, ← Nat.pow_mul]
    exact Nat.pow_le_pow_right (by decide) (by omega)
  unfold decI
  rw [List.length_append]
  split <;> simp <;> omega
theorem decZ_lenR {z : Int} {n : Nat} {a : Value} {w : World} (h : PRef z n a w) : (decZ z).length ≤ 4 * n + 2 := by
  obtain ⟨k, A, c, L, rfl, i1, rfl, l1⟩ := h
  rw [← decZ_R i1]
  have h1 := valB_lt (b := 10000) i1.lim
  have h2 : (Lib.decDigits (val4 L)).length ≤ 4 * L.length + 1 := by
    refine decLen _ _ (Nat.lt_of_lt_of_le h1 ?_)
    rw [show (10000 : Nat) = 10 ^ 4 from rfl, ← Nat.pow_mul]
    exact Nat.pow_le_pow_right (by decide) (by omega)
  unfold decI
  rw [List.length_append]
  split <;> simp <;> omega
/-- The zero value is the integer 0. -/
theorem PInt.zero (n : Nat) (w : World) : PInt 0 n (.agg #[.bool false, .slice none 0 0]) w := ⟨false, none, 0, [], rfl, IntR.zero _ _ _ _, rfl, Nat.zero_le _⟩
theorem PRef.zero (n : Nat) (w : World) : PRef 0 n (.agg #[.bool false, .slice none 0 0]) w := ⟨false, none, 0, [], rfl, RefR.zero _ _ _ _, rfl, Nat.zero_le _⟩
theorem PRat.zero (n : Nat) (w : World) : PRat 0 n (.agg #[.bool false, .slice none 0 0, .bool false, .slice none 0 0]) w := ⟨0, 0, _, _, _, _, _, _, _, _, rfl, PInt.zero n w, PInt.zero n w, .inr ⟨rfl, rfl, rfl⟩⟩
theorem RRat.zero (n : Nat) (w : World) : RRat 0 n (.agg #[.bool false, .slice none 0 0, .bool false, .slice none 0 0]) w := ⟨0, 0, _, _, _, _, _, _, _, _, rfl, PRef.zero n w, PRef.zero n w, .inr ⟨rfl, rfl, rfl⟩⟩
/-- The value is a pair of integers of the program, of the reference. -/
def Pair (p q : Int) (n : Nat) (v : Value) (w : World) : Prop := ∃ (k : Bool) (A : Option Addr) (l c : Nat) (k' : Bool) (A' : Option Addr) (l' c' : Nat), v = .agg #[.bool k, .slice A l c, .bool k', .slice A' l' c'] ∧ PInt p n (.agg #[.bool k, .slice A l c]) w ∧ PInt q n (.agg #[.bool k', .slice A' l' c']) w
def RPair (p q : Int) (n : Nat) (v : Value) (w : World) : Prop := ∃ (k : Bool) (A : Option Addr) (l c : Nat) (k' : Bool) (A' : Option Addr) (l' c' : Nat), v = .agg #[.bool k, .slice A l c, .bool k', .slice A' l' c'] ∧ PRef p n (.agg #[.bool k, .slice A l c]) w ∧ PRef q n (.agg #[.bool k', .slice A' l' c']) w
def AS.Fact.pair (p q : Int) (n : Nat) : AS.Fact := ⟨Pair p q n, fun _ _ _ hk ⟨k, A, l, c, k', A', l', c', e, h1, h2⟩ => ⟨k, A, l, c, k', A', l', c', e, h1.kept hk, h2.kept hk⟩⟩
def AS.Fact.rpair (p q : Int) (n : Nat) : AS.Fact := ⟨RPair p q n, fun _ _ _ hk ⟨k, A, l, c, k', A', l', c', e, h1, h2⟩ => ⟨k, A, l, c, k', A', l', c', e, h1.kept hk, h2.kept hk⟩⟩
theorem red_pair {p q : Int} {n : Nat} {a : Value} {w : World} (h : Pair p q n a w) (hn : n ≤ 100000) (hq : q ≠ 0) :
    Calls Tryd.prog 34 #[a] w fun e w' => ∃ v, e = .returned v ∧ PRat (Rat.divInt p q) (n + 1) v w' ∧ Below w.heap.size w w' := by
  obtain ⟨k, A, l, c, k', A', l', c', rfl, h1, h2⟩ := h
  exact red_fact h1 h2 hn hq
theorem den_ne (x : Rat) : (x.den : Int) ≠ 0 := by have := x.den_pos; omega
theorem mul_ne {a b : Int} (ha : a ≠ 0) (hb : b ≠ 0) : a * b ≠ 0 := fun h => by rcases Int.mul_eq_zero.1 h with h | h <;> contradiction
end Go.Proofs.YtmpdpfiokjepaaaDoor

/- New of rational numbers. -/
namespace Go.Proofs.YtmpdpfiokjepaaaDoor
open Go.RowKit
open AS (Keep NoInt)

set_option maxRecDepth 20000 in
set_option maxHeartbeats 3200000 in
theorem new_fact {p q : Int} {n : Nat} {k : Bool} {A : Option Addr} {l c : Nat} {k' : Bool} {A' : Option Addr} {l' c' : Nat} {w : World} (h1 : PInt p n (.agg #[.bool k, .slice A l c]) w) (h2 : PInt q n (.agg #[.bool k', .slice A' l' c']) w) (hn : n ≤ 100000) (hq : q ≠ 0) :
    Calls Tryd.prog 17 #[.agg #[.bool k, .slice A l c], .agg #[.bool k', .slice A' l' c']] w fun e w' => ∃ v, e = .returned (.tuple #[v, .int .i64 0]) ∧ PRat (Rat.divInt p q) (n + 1) v w' ∧ Below w.heap.size w w' := by
  have H1 := Lib.hid h1
  have H2 := Lib.hid h2
  clear h1 h2
  go_enter Tryd.func17, Tryd.ntmps17
  go_upto_region 1 with (fail)
  change Code.wp Tryd.prog _ _ _ (((w.alloc (.cells #[.bool k, .slice A l c] 25)).alloc (.cells #[.bool k', .slice A' l' c'] 25)).alloc (.cells #[.bool false, .slice none 0 0, .bool false, .slice none 0 0] 27))
  have nb2 := (Bx.alloc (Bx.alloc (Bx.new 25 w [.bool k, .slice A l c] (leaf2 (Leaf.bool k) (Leaf.slice A l c))) (.cells #[.bool k', .slice A' l' c'] 25)) (.cells #[.bool false, .slice none 0 0, .bool false, .slice none 0 0] 27))
  have nb3 := (Bx.alloc (Bx.new 25 (w.alloc (.cells #[.bool k, .slice A l c] 25)) [.bool k', .slice A' l' c'] (leaf2 (Leaf.bool k') (Leaf.slice A' l' c'))) (.cells #[.bool false, .slice none 0 0, .bool false, .slice none 0 0] 27))
  rw [show (w.alloc (.cells #[.bool k, .slice A l c] 25)).heap.size = w.heap.size + 1 by simp] at nb3
  have nb4 := (Bx.new 27 ((w.alloc (.cells #[.bool k, .slice A l c] 25)).alloc (.cells #[.bool k', .slice A' l' c'] 25)) [.bool false, .slice none 0 0, .bool false, .slice none 0 0] (leaf4 (Leaf.bool false) (Leaf.slice none 0 0) (Leaf.bool false) (Leaf.slice none 0 0)))
  rw [show ((w.alloc (.cells #[.bool k, .slice A l c] 25)).alloc (.cells #[.bool k', .slice A' l' c'] 25)).heap.size = w.heap.size + 1 + 1 by simp] at nb4
  have nkeep := (Keep.alloc (Keep.alloc (Keep.alloc (Keep.refl w) (.cells #[.bool k, .slice A l c] 25)) (.cells #[.bool k', .slice A' l' c'] 25)) (.cells #[.bool false, .slice none 0 0, .bool false, .slice none 0 0] 27))
  have nbel : Below w.heap.size w (((w.alloc (.cells #[.bool k, .slice A l c] 25)).alloc (.cells #[.bool k', .slice A' l' c'] 25)).alloc (.cells #[.bool false, .slice none 0 0, .bool false, .slice none 0 0] 27)) := (Below.alloc (Below.alloc (Below.alloc (Below.refl w.heap.size w) (by first | omega | (simp; done) | (simp; omega) | (simp [World.setCell]; done) | (simp [World.setCell]; omega)) (.cells #[.bool k, .slice A l c] 25)) (by first | omega | (simp; done) | (simp; omega) | (simp [World.setCell]; done) | (simp [World.setCell]; omega)) (.cells #[.bool k', .slice A' l' c'] 25)) (by first | omega | (simp; done) | (simp; omega) | (simp [World.setCell]; done) | (simp [World.setCell]; omega)) (.cells #[.bool false, .slice none 0 0, .bool false, .slice none 0 0] 27))
  generalize ((w.alloc (.cells #[.bool k, .slice A l c] 25)).alloc (.cells #[.bool k', .slice A' l' c'] 25)).alloc (.cells #[.bool false, .slice none 0 0, .bool false, .slice none 0 0] 27) = W1 at *
  have b2 := Lib.hid nb2
  have b3 := Lib.hid nb3
  have b4 := Lib.hid nb4
  clear nb2 nb3 nb4
  have f_ := Lib.hid (H1.out.kept nkeep)
  clear H1
  have H1 := f_
  clear f_
  have f_ := Lib.hid (H2.out.kept nkeep)
  clear H2
  have H2 := f_
  clear f_
  clear nkeep
  have HB2 := Lib.hid nbel
  clear nbel
  have x2_0 : W1.cell? ⟨w.heap.size, 0, none⟩ = some (.bool k) := (b2.out).cell 0
  have x2_1 : W1.cell? ⟨w.heap.size, 1, none⟩ = some (.slice A l c) := (b2.out).cell 1
  have x3_0 : W1.cell? ⟨w.heap.size + 1, 0, none⟩ = some (.bool k') := (b3.out).cell 0
  have x3_1 : W1.cell? ⟨w.heap.size + 1, 1, none⟩ = some (.slice A' l' c') := (b3.out).cell 1
  have x4_0 : W1.cell? ⟨w.heap.size + 1 + 1, 0, none⟩ = some (.bool false) := (b4.out).cell 0
  have x4_1 : W1.cell? ⟨w.heap.size + 1 + 1, 1, none⟩ = some (.slice none 0 0) := (b4.out).cell 1
  have x4_2 : W1.cell? ⟨w.heap.size + 1 + 1, 2, none⟩ = some (.bool false) := (b4.out).cell 2
  have x4_3 : W1.cell? ⟨w.heap.size + 1 + 1, 3, none⟩ = some (.slice none 0 0) := (b4.out).cell 3
  have szb : w.heap.size ≤ W1.heap.size := HB2.out.size
  have s2 : w.heap.size < W1.heap.size := (b2.out).lt
  have s3 : w.heap.size + 1 < W1.heap.size := (b3.out).lt
  have s4 : w.heap.size + 1 + 1 < W1.heap.size := (b4.out).lt
  clear x2_0 x2_1 x3_0 x3_1 x4_0 x4_1 x4_2 x4_3 szb s2 s3 s4
  have x2_0 : W1.cell? ⟨w.heap.size, 0, none⟩ = some (.bool k) := (b2.out).cell 0
  have x2_1 : W1.cell? ⟨w.heap.size, 1, none⟩ = some (.slice A l c) := (b2.out).cell 1
  have x3_0 : W1.cell? ⟨w.heap.size + 1, 0, none⟩ = some (.bool k') := (b3.out).cell 0
  have x3_1 : W1.cell? ⟨w.heap.size + 1, 1, none⟩ = some (.slice A' l' c') := (b3.out).cell 1
  have x4_0 : W1.cell? ⟨w.heap.size + 1 + 1, 0, none⟩ = some (.bool false) := (b4.out).cell 0
  have x4_1 : W1.cell? ⟨w.heap.size + 1 + 1, 1, none⟩ = some (.slice none 0 0) := (b4.out).cell 1
  have x4_2 : W1.cell? ⟨w.heap.size + 1 + 1, 2, none⟩ = some (.bool false) := (b4.out).cell 2
  have x4_3 : W1.cell? ⟨w.heap.size + 1 + 1, 3, none⟩ = some (.slice none 0 0) := (b4.out).cell 3
  have z4_0 : W1.frozen? ⟨w.heap.size + 1 + 1, 0, none⟩ = false := (b4.out).frozen 0
  have z4_1 : W1.frozen? ⟨w.heap.size + 1 + 1, 1, none⟩ = false := (b4.out).frozen 1
  have z4_2 : W1.frozen? ⟨w.heap.size + 1 + 1, 2, none⟩ = false := (b4.out).frozen 2
  have z4_3 : W1.frozen? ⟨w.heap.size + 1 + 1, 3, none⟩ = false := (b4.out).frozen 3
  have szb : w.heap.size ≤ W1.heap.size := HB2.out.size
  have s2 : w.heap.size < W1.heap.size := (b2.out).lt
  have s3 : w.heap.size + 1 < W1.heap.size := (b3.out).lt
  have s4 : w.heap.size + 1 + 1 < W1.heap.size := (b4.out).lt
  rcases Int.lt_trichotomy q 0 with hlt | hlt | hlt
  · have hc : cmpI q 0 = -1 := by unfold cmpI; rw [if_pos hlt]
    go_wp2_with fail
    refine (sign_is H2.out hc).mono ?_
    rintro e W3 ⟨rfl, hb⟩
    have nb := Lib.hid ((b2.out).up hb)
    clear b2
    have b2 := nb
    clear nb
    have nb := Lib.hid ((b3.out).up hb)
    clear b3
    have b3 := nb
    clear nb
    have nb := Lib.hid ((b4.out).up hb)
    clear b4
    have b4 := nb
    clear nb
    have f_ := Lib.hid (H1.out.kept (Keep.ofBelow hb))
    clear H1
    have H1 := f_
    clear f_
    have f_ := Lib.hid (H2.out.kept (Keep.ofBelow hb))
    clear H2
    have H2 := f_
    clear f_
    have nbel := below_then HB2.out hb HB2.out.size
    have HB4 := Lib.hid nbel
    clear nbel
    clear HB2
    clear hb
    clear x2_0 x2_1 x3_0 x3_1 x4_0 x4_1 x4_2 x4_3 z4_0 z4_1 z4_2 z4_3 szb s2 s3 s4
    have x2_0 : W3.cell? ⟨w.heap.size, 0, none⟩ = some (.bool k) := (b2.out).cell 0
    have x2_1 : W3.cell? ⟨w.heap.size, 1, none⟩ = some (.slice A l c) := (b2.out).cell 1
    have x3_0 : W3.cell? ⟨w.heap.size + 1, 0, none⟩ = some (.bool k') := (b3.out).cell 0
    have x3_1 : W3.cell? ⟨w.heap.size + 1, 1, none⟩ = some (.slice A' l' c') := (b3.out).cell 1
    have x4_0 : W3.cell? ⟨w.heap.size + 1 + 1, 0, none⟩ = some (.bool false) := (b4.out).cell 0
    have x4_1 : W3.cell? ⟨w.heap.size + 1 + 1, 1, none⟩ = some (.slice none 0 0) := (b4.out).cell 1
    have x4_2 : W3.cell? ⟨w.heap.size + 1 + 1, 2, none⟩ = some (.bool false) := (b4.out).cell 2
    have x4_3 : W3.cell? ⟨w.heap.size + 1 + 1, 3, none⟩ = some (.slice none 0 0) := (b4.out).cell 3
    have z4_0 : W3.frozen? ⟨w.heap.size + 1 + 1, 0, none⟩ = false := (b4.out).frozen 0
    have z4_1 : W3.frozen? ⟨w.heap.size + 1 + 1, 1, none⟩ = false := (b4.out).frozen 1
    have z4_2 : W3.frozen? ⟨w.heap.size + 1 + 1, 2, none⟩ = false := (b4.out).frozen 2
    have z4_3 : W3.frozen? ⟨w.heap.size + 1 + 1, 3, none⟩ = false := (b4.out).frozen 3
    have szb : w.heap.size ≤ W3.heap.size := HB4.out.size
    have s2 : w.heap.size < W3.heap.size := (b2.out).lt
    have s3 : w.heap.size + 1 < W3.heap.size := (b3.out).lt
    have s4 : w.heap.size + 1 + 1 < W3.heap.size := (b4.out).lt
    go_wp2_with fail
    refine (red_fact H1.out H2.out hn hq).mono ?_
    rintro e W5 ⟨v, rfl, hv, hb⟩
    have nb := Lib.hid ((b2.out).up hb)
    clear b2
    have b2 := nb
    clear nb
    have nb := Lib.hid ((b3.out).up hb)
    clear b3
    have b3 := nb
    clear nb
    have nb := Lib.hid ((b4.out).up hb)
    clear b4
    have b4 := nb
    clear nb
    have f_ := Lib.hid (H1.out.kept (Keep.ofBelow hb))
    clear H1
    have H1 := f_
    clear f_
    have f_ := Lib.hid (H2.out.kept (Keep.ofBelow hb))
    clear H2
    have H2 := f_
    clear f_
    have nbel := below_then HB4.out hb HB4.out.size
    have HB6 := Lib.hid nbel
    clear nbel
    clear HB4
    clear hb
    clear x2_0 x2_1 x3_0 x3_1 x4_0 x4_1 x4_2 x4_3 z4_0 z4_1 z4_2 z4_3 szb s2 s3 s4
    have x2_0 : W5.cell? ⟨w.heap.size, 0, none⟩ = some (.bool k) := (b2.out).cell 0
    have x2_1 : W5.cell? ⟨w.heap.size, 1, none⟩ = some (.slice A l c) := (b2.out).cell 1
    have x3_0 : W5.cell? ⟨w.heap.size + 1, 0, none⟩ = some (.bool k') := (b3.out).cell 0
    have x3_1 : W5.cell? ⟨w.heap.size + 1, 1, none⟩ = some (.slice A' l' c') := (b3.out).cell 1
    have x4_0 : W5.cell? ⟨w.heap.size + 1 + 1, 0, none⟩ = some (.bool false) := (b4.out).cell 0
    have x4_1 : W5.cell? ⟨w.heap.size + 1 + 1, 1, none⟩ = some (.slice none 0 0) := (b4.out).cell 1
    have x4_2 : W5.cell? ⟨w.heap.size + 1 + 1, 2, none⟩ = some (.bool false) := (b4.out).cell 2
    have x4_3 : W5.cell? ⟨w.heap.size + 1 + 1, 3, none⟩ = some (.slice none 0 0) := (b4.out).cell 3
    have z4_0 : W5.frozen? ⟨w.heap.size + 1 + 1, 0, none⟩ = false := (b4.out).frozen 0
    have z4_1 : W5.frozen? ⟨w.heap.size + 1 + 1, 1, none⟩ = false := (b4.out).frozen 1
    have z4_2 : W5.frozen? ⟨w.heap.size + 1 + 1, 2, none⟩ = false := (b4.out).frozen 2
    have z4_3 : W5.frozen? ⟨w.heap.size + 1 + 1, 3, none⟩ = false := (b4.out).frozen 3
    have szb : w.heap.size ≤ W5.heap.size := HB6.out.size
    have s2 : w.heap.size < W5.heap.size := (b2.out).lt
    have s3 : w.heap.size + 1 < W5.heap.size := (b3.out).lt
    have s4 : w.heap.size + 1 + 1 < W5.heap.size := (b4.out).lt
    obtain ⟨k1, A1, l1, c1, k2, A2, l2, c2, rfl⟩ := hv.open
    have HV := Lib.hid hv
    clear hv
    go_wp2_with fail
    have hkeep := (Keep.set (Keep.set (Keep.set (Keep.set (Keep.refl W5) b4.out 0 (Leaf.bool k1)) (Bx.set b4.out 0 (Leaf.bool k1)) 1 (Leaf.slice A1 l1 c1)) (Bx.set (Bx.set b4.out 0 (Leaf.bool k1)) 1 (Leaf.slice A1 l1 c1)) 2 (Leaf.bool k2)) (Bx.set (Bx.set (Bx.set b4.out 0 (Leaf.bool k1)) 1 (Leaf.slice A1 l1 c1)) 2 (Leaf.bool k2)) 3 (Leaf.slice A2 l2 c2))
    have hbel := (Below.setCell (p := ⟨w.heap.size + 1 + 1, 3, none⟩) (Below.setCell (p := ⟨w.heap.size + 1 + 1, 2, none⟩) (Below.setCell (p := ⟨w.heap.size + 1 + 1, 1, none⟩) (Below.setCell (p := ⟨w.heap.size + 1 + 1, 0, none⟩) HB6.out (by first | omega | (simp; done) | (simp; omega)) (.bool k1)) (by first | omega | (simp; done) | (simp; omega)) (.slice A1 l1 c1)) (by first | omega | (simp; done) | (simp; omega)) (.bool k2)) (by first | omega | (simp; done) | (simp; omega)) (.slice A2 l2 c2))
    refine bodyPost_ret (v := .tuple #[.agg #[.bool k1, .slice A1 l1 c1, .bool k2, .slice A2 l2 c2], .int .i64 0]) (by simp [results, Tryd.results17, go_sem, x4_0, x4_1, x4_2, x4_3]) rfl ⟨_, rfl, HV.out.kept hkeep, hbel⟩
  · exact absurd hlt hq
  · have hc : cmpI q 0 = 1 := by unfold cmpI; rw [if_neg (by omega), if_neg (by omega)]
    go_wp2_with fail
    refine (sign_is H2.out hc).mono ?_
    rintro e W3 ⟨rfl, hb⟩
    have nb := Lib.hid ((b2.out).up hb)
    clear b2
    have b2 := nb
    clear nb
    have nb := Lib.hid ((b3.out).up hb)
    clear b3
    have b3 := nb
    clear nb
    have nb := Lib.hid ((b4.out).up hb)
    clear b4
    have b4 := nb
    clear nb
    have f_ := Lib.hid (H1.out.kept (Keep.ofBelow hb))
    clear H1
    have H1 := f_
    clear f_
    have f_ := Lib.hid (H2.out.kept (Keep.ofBelow hb))
    clear H2
    have H2 := f_
    clear f_
    have nbel := below_then HB2.out hb HB2.out.size
    have HB4 := Lib.hid nbel
    clear nbel
    clear HB2
    clear hb
    clear x2_0 x2_1 x3_0 x3_1 x4_0 x4_1 x4_2 x4_3 z4_0 z4_1 z4_2 z4_3 szb s2 s3 s4
    have x2_0 : W3.cell? ⟨w.heap.size, 0, none⟩ = some (.bool k) := (b2.out).cell 0
    have x2_1 : W3.cell? ⟨w.heap.size, 1, none⟩ = some (.slice A l c) := (b2.out).cell 1
    have x3_0 : W3.cell? ⟨w.heap.size + 1, 0, none⟩ = some (.bool k') := (b3.out).cell 0
    have x3_1 : W3.cell? ⟨w.heap.size + 1, 1, none⟩ = some (.slice A' l' c') := (b3.out).cell 1
    have x4_0 : W3.cell? ⟨w.heap.size + 1 + 1, 0, none⟩ = some (.bool false) := (b4.out).cell 0
    have x4_1 : W3.cell? ⟨w.heap.size + 1 + 1, 1, none⟩ = some (.slice none 0 0) := (b4.out).cell 1
    have x4_2 : W3.cell? ⟨w.heap.size + 1 + 1, 2, none⟩ = some (.bool false) := (b4.out).cell 2
    have x4_3 : W3.cell? ⟨w.heap.size + 1 + 1, 3, none⟩ = some (.slice none 0 0) := (b4.out).cell 3
    have z4_0 : W3.frozen? ⟨w.heap.size + 1 + 1, 0, none⟩ = false := (b4.out).frozen 0
    have z4_1 : W3.frozen? ⟨w.heap.size + 1 + 1, 1, none⟩ = false := (b4.out).frozen 1
    have z4_2 : W3.frozen? ⟨w.heap.size + 1 + 1, 2, none⟩ = false := (b4.out).frozen 2
    have z4_3 : W3.frozen? ⟨w.heap.size + 1 + 1, 3, none⟩ = false := (b4.out).frozen 3
    have szb : w.heap.size ≤ W3.heap.size := HB4.out.size
    have s2 : w.heap.size < W3.heap.size := (b2.out).lt
    have s3 : w.heap.size + 1 < W3.heap.size := (b3.out).lt
    have s4 : w.heap.size + 1 + 1 < W3.heap.size := (b4.out).lt
    go_wp2_with fail
    refine (red_fact H1.out H2.out hn hq).mono ?_
    rintro e W5 ⟨v, rfl, hv, hb⟩
    have nb := Lib.hid ((b2.out).up hb)
    clear b2
    have b2 := nb
    clear nb
    have nb := Lib.hid ((b3.out).up hb)
    clear b3
    have b3 := nb
    clear nb
    have nb := Lib.hid ((b4.out).up hb)
    clear b4
    have b4 := nb
    clear nb
    have f_ := Lib.hid (H1.out.kept (Keep.ofBelow hb))
    clear H1
    have H1 := f_
    clear f_
    have f_ := Lib.hid (H2.out.kept (Keep.ofBelow hb))
    clear H2
    have H2 := f_
    clear f_
    have nbel := below_then HB4.out hb HB4.out.size
    have HB6 := Lib.hid nbel
    clear nbel
    clear HB4
    clear hb
    clear x2_0 x2_1 x3_0 x3_1 x4_0 x4_1 x4_2 x4_3 z4_0 z4_1 z4_2 z4_3 szb s2 s3 s4
    have x2_0 : W5.cell? ⟨w.heap.size, 0, none⟩ = some (.bool k) := (b2.out).cell 0
    have x2_1 : W5.cell? ⟨w.heap.size, 1, none⟩ = some (.slice A l c) := (b2.out).cell 1
    have x3_0 : W5.cell? ⟨w.heap.size + 1, 0, none⟩ = some (.bool k') := (b3.out).cell 0
    have x3_1 : W5.cell? ⟨w.heap.size + 1, 1, none⟩ = some (.slice A' l' c') := (b3.out).cell 1
    have x4_0 : W5.cell? ⟨w.heap.size + 1 + 1, 0, none⟩ = some (.bool false) := (b4.out).cell 0
    have x4_1 : W5.cell? ⟨w.heap.size + 1 + 1, 1, none⟩ = some (.slice none 0 0) := (b4.out).cell 1
    have x4_2 : W5.cell? ⟨w.heap.size + 1 + 1, 2, none⟩ = some (.bool false) := (b4.out).cell 2
    have x4_3 : W5.cell? ⟨w.heap.size + 1 + 1, 3, none⟩ = some (.slice none 0 0) := (b4.out).cell 3
    have z4_0 : W5.frozen? ⟨w.heap.size + 1 + 1, 0, none⟩ = false := (b4.out).frozen 0
    have z4_1 : W5.frozen? ⟨w.heap.size + 1 + 1, 1, none⟩ = false := (b4.out).frozen 1
    have z4_2 : W5.frozen? ⟨w.heap.size + 1 + 1, 2, none⟩ = false := (b4.out).frozen 2
    have z4_3 : W5.frozen? ⟨w.heap.size + 1 + 1, 3, none⟩ = false := (b4.out).frozen 3
    have szb : w.heap.size ≤ W5.heap.size := HB6.out.size
    have s2 : w.heap.size < W5.heap.size := (b2.out).lt
    have s3 : w.heap.size + 1 < W5.heap.size := (b3.out).lt
    have s4 : w.heap.size + 1 + 1 < W5.heap.size := (b4.out).lt
    obtain ⟨k1, A1, l1, c1, k2, A2, l2, c2, rfl⟩ := hv.open
    have HV := Lib.hid hv
    clear hv
    go_wp2_with fail
    have hkeep := (Keep.set (Keep.set (Keep.set (Keep.set (Keep.refl W5) b4.out 0 (Leaf.bool k1)) (Bx.set b4.out 0 (Leaf.bool k1)) 1 (Leaf.slice A1 l1 c1)) (Bx.set (Bx.set b4.out 0 (Leaf.bool k1)) 1 (Leaf.slice A1 l1 c1)) 2 (Leaf.bool k2)) (Bx.set (Bx.set (Bx.set b4.out 0 (Leaf.bool k1)) 1 (Leaf.slice A1 l1 c1)) 2 (Leaf.bool k2)) 3 (Leaf.slice A2 l2 c2))
    have hbel := (Below.setCell (p := ⟨w.heap.size + 1 + 1, 3, none⟩) (Below.setCell (p := ⟨w.heap.size + 1 + 1, 2, none⟩) (Below.setCell (p := ⟨w.heap.size + 1 + 1, 1, none⟩) (Below.setCell (p := ⟨w.heap.size + 1 + 1, 0, none⟩) HB6.out (by first | omega | (simp; done) | (simp; omega)) (.bool k1)) (by first | omega | (simp; done) | (simp; omega)) (.slice A1 l1 c1)) (by first | omega | (simp; done) | (simp; omega)) (.bool k2)) (by first | omega | (simp; done) | (simp; omega)) (.slice A2 l2 c2))
    refine bodyPost_ret (v := .tuple #[.agg #[.bool k1, .slice A1 l1 c1, .bool k2, .slice A2 l2 c2], .int .i64 0]) (by simp [results, Tryd.results17, go_sem, x4_0, x4_1, x4_2, x4_3]) rfl ⟨_, rfl, HV.out.kept hkeep, hbel⟩
set_option maxRecDepth 20000 in
set_option maxHeartbeats 3200000 in
theorem new_zero {p : Int} {n m : Nat} {k : Bool} {A : Option Addr} {l c : Nat} {k' : Bool} {A' : Option Addr} {l' c' : Nat} {w : World} (h1 : PInt p n (.agg #[.bool k, .slice A l c]) w) (h2 : PInt 0 m (.agg #[.bool k', .slice A' l' c']) w) :
    Calls Tryd.prog 17 #[.agg #[.bool k, .slice A l c], .agg #[.bool k', .slice A' l' c']] w fun e w' => e = .returned (.tuple #[.agg #[.bool false, .slice none 0 0, .bool false, .slice none 0 0], .int .i64 10]) ∧ Below w.heap.size w w' := by
  have H1 := Lib.hid h1
  have H2 := Lib.hid h2
  clear h1 h2
  go_enter Tryd.func17, Tryd.ntmps17
  go_upto_region 1 with (fail)
  change Code.wp Tryd.prog _ _ _ (((w.alloc (.cells #[.bool k, .slice A l c] 25)).alloc (.cells #[.bool k', .slice A' l' c'] 25)).alloc (.cells #[.bool false, .slice none 0 0, .bool false, .slice none 0 0] 27))
  have nb2 := (Bx.alloc (Bx.alloc (Bx.new 25 w [.bool k, .slice A l c] (leaf2 (Leaf.bool k) (Leaf.slice A l c))) (.cells #[.bool k', .slice A' l' c'] 25)) (.cells #[.bool false, .slice none 0 0, .bool false, .slice none 0 0] 27))
  have nb3 := (Bx.alloc (Bx.new 25 (w.alloc (.cells #[.bool k, .slice A l c] 25)) [.bool k', .slice A' l' c'] (leaf2 (Leaf.bool k') (Leaf.slice A' l' c'))) (.cells #[.bool false, .slice none 0 0, .bool false, .slice none 0 0] 27))
  rw [show (w.alloc (.cells #[.bool k, .slice A l c] 25)).heap.size = w.heap.size + 1 by simp] at nb3
  have nb4 := (Bx.new 27 ((w.alloc (.cells #[.bool k, .slice A l c] 25)).alloc (.cells #[.bool k', .slice A' l' c'] 25)) [.bool false, .slice none 0 0, .bool false, .slice none 0 0] (leaf4 (Leaf.bool false) (Leaf.slice none 0 0) (Leaf.bool false) (Leaf.slice none 0 0)))
  rw [show ((w.alloc (.cells #[.bool k, .slice A l c] 25)).alloc (.cells #[.bool k', .slice A' l' c'] 25)).heap.size = w.heap.size + 1 + 1 by simp] at nb4
  have nkeep := (Keep.alloc (Keep.alloc (Keep.alloc (Keep.refl w) (.cells #[.bool k, .slice A l c] 25)) (.cells #[.bool k', .slice A' l' c'] 25)) (.cells #[.bool false, .slice none 0 0, .bool false, .slice none 0 0] 27))
  have nbel : Below w.heap.size w (((w.alloc (.cells #[.bool k, .slice A l c] 25)).alloc (.cells #[.bool k', .slice A' l' c'] 25)).alloc (.cells #[.bool false, .slice none 0 0, .bool false, .slice none 0 0] 27)) := (Below.alloc (Below.alloc (Below.alloc (Below.refl w.heap.size w) (by first | omega | (simp; done) | (simp; omega) | (simp [World.setCell]; done) | (simp [World.setCell]; omega)) (.cells #[.bool k, .slice A l c] 25)) (by first | omega | (simp; done) | (simp; omega) | (simp [World.setCell]; done) | (simp [World.setCell]; omega)) (.cells #[.bool k', .slice A' l' c'] 25)) (by first | omega | (simp; done) | (simp; omega) | (simp [World.setCell]; done) | (simp [World.setCell]; omega)) (.cells #[.bool false, .slice none 0 0, .bool false, .slice none 0 0] 27))
  generalize ((w.alloc (.cells #[.bool k, .slice A l c] 25)).alloc (.cells #[.bool k', .slice A' l' c'] 25)).alloc (.cells #[.bool false, .slice none 0 0, .bool false, .slice none 0 0] 27) = W1 at *
  have b2 := Lib.hid nb2
  have b3 := Lib.hid nb3
  have b4 := Lib.hid nb4
  clear nb2 nb3 nb4
  have f_ := Lib.hid (H1.out.kept nkeep)
  clear H1
  have H1 := f_
  clear f_
  have f_ := Lib.hid (H2.out.kept nkeep)
  clear H2
  have H2 := f_
  clear f_
  clear nkeep
  have HB2 := Lib.hid nbel
  clear nbel
  have x2_0 : W1.cell? ⟨w.heap.size, 0, none⟩ = some (.bool k) := (b2.out).cell 0
  have x2_1 : W1.cell? ⟨w.heap.size, 1, none⟩ = some (.slice A l c) := (b2.out).cell 1
  have x3_0 : W1.cell? ⟨w.heap.size + 1, 0, none⟩ = some (.bool k') := (b3.out).cell 0
  have x3_1 : W1.cell? ⟨w.heap.size + 1, 1, none⟩ = some (.slice A' l' c') := (b3.out).cell 1
  have x4_0 : W1.cell? ⟨w.heap.size + 1 + 1, 0, none⟩ = some (.bool false) := (b4.out).cell 0
  have x4_1 : W1.cell? ⟨w.heap.size + 1 + 1, 1, none⟩ = some (.slice none 0 0) := (b4.out).cell 1
  have x4_2 : W1.cell? ⟨w.heap.size + 1 + 1, 2, none⟩ = some (.bool false) := (b4.out).cell 2
  have x4_3 : W1.cell? ⟨w.heap.size + 1 + 1, 3, none⟩ = some (.slice none 0 0) := (b4.out).cell 3
  have szb : w.heap.size ≤ W1.heap.size := HB2.out.size
  have s2 : w.heap.size < W1.heap.size := (b2.out).lt
  have s3 : w.heap.size + 1 < W1.heap.size := (b3.out).lt
  have s4 : w.heap.size + 1 + 1 < W1.heap.size := (b4.out).lt
  clear x2_0 x2_1 x3_0 x3_1 x4_0 x4_1 x4_2 x4_3 szb s2 s3 s4
  have x2_0 : W1.cell? ⟨w.heap.size, 0, none⟩ = some (.bool k) := (b2.out).cell 0
  have x2_1 : W1.cell? ⟨w.heap.size, 1, none⟩ = some (.slice A l c) := (b2.out).cell 1
  have x3_0 : W1.cell? ⟨w.heap.size + 1, 0, none⟩ = some (.bool k') := (b3.out).cell 0
  have x3_1 : W1.cell? ⟨w.heap.size + 1, 1, none⟩ = some (.slice A' l' c') := (b3.out).cell 1
  have x4_0 : W1.cell? ⟨w.heap.size + 1 + 1, 0, none⟩ = some (.bool false) := (b4.out).cell 0
  have x4_1 : W1.cell? ⟨w.heap.size + 1 + 1, 1, none⟩ = some (.slice none 0 0) := (b4.out).cell 1
  have x4_2 : W1.cell? ⟨w.heap.size + 1 + 1, 2, none⟩ = some (.bool false) := (b4.out).cell 2
  have x4_3 : W1.cell? ⟨w.heap.size + 1 + 1, 3, none⟩ = some (.slice none 0 0) := (b4.out).cell 3
  have z4_0 : W1.frozen? ⟨w.heap.size + 1 + 1, 0, none⟩ = false := (b4.out).frozen 0
  have z4_1 : W1.frozen? ⟨w.heap.size + 1 + 1, 1, none⟩ = false := (b4.out).frozen 1
  have z4_2 : W1.frozen? ⟨w.heap.size + 1 + 1, 2, none⟩ = false := (b4.out).frozen 2
  have z4_3 : W1.frozen? ⟨w.heap.size + 1 + 1, 3, none⟩ = false := (b4.out).frozen 3
  have szb : w.heap.size ≤ W1.heap.size := HB2.out.size
  have s2 : w.heap.size < W1.heap.size := (b2.out).lt
  have s3 : w.heap.size + 1 < W1.heap.size := (b3.out).lt
  have s4 : w.heap.size + 1 + 1 < W1.heap.size := (b4.out).lt
  go_wp2_with fail
  refine (sign_is H2.out (c := 0) (by decide)).mono ?_
  rintro e W3 ⟨rfl, hb⟩
  have nb := Lib.hid ((b2.out).up hb)
  clear b2
  have b2 := nb
  clear nb
  have nb := Lib.hid ((b3.out).up hb)
  clear b3
  have b3 := nb
  clear nb
  have nb := Lib.hid ((b4.out).up hb)
  clear b4
  have b4 := nb
  clear nb
  have f_ := Lib.hid (H1.out.kept (Keep.ofBelow hb))
  clear H1
  have H1 := f_
  clear f_
  have f_ := Lib.hid (H2.out.kept (Keep.ofBelow hb))
  clear H2
  have H2 := f_
  clear f_
  have nbel := below_then HB2.out hb HB2.out.size
  have HB4 := Lib.hid nbel
  clear nbel
  clear HB2
  clear hb
  clear x2_0 x2_1 x3_0 x3_1 x4_0 x4_1 x4_2 x4_3 z4_0 z4_1 z4_2 z4_3 szb s2 s3 s4
  have x2_0 : W3.cell? ⟨w.heap.size, 0, none⟩ = some (.bool k) := (b2.out).cell 0
  have x2_1 : W3.cell? ⟨w.heap.size, 1, none⟩ = some (.slice A l c) := (b2.out).cell 1
  have x3_0 : W3.cell? ⟨w.heap.size + 1, 0, none⟩ = some (.bool k') := (b3.out).cell 0
  have x3_1 : W3.cell? ⟨w.heap.size + 1, 1, none⟩ = some (.slice A' l' c') := (b3.out).cell 1
  have x4_0 : W3.cell? ⟨w.heap.size + 1 + 1, 0, none⟩ = some (.bool false) := (b4.out).cell 0
  have x4_1 : W3.cell? ⟨w.heap.size + 1 + 1, 1, none⟩ = some (.slice none 0 0) := (b4.out).cell 1
  have x4_2 : W3.cell? ⟨w.heap.size + 1 + 1, 2, none⟩ = some (.bool false) := (b4.out).cell 2
  have x4_3 : W3.cell? ⟨w.heap.size + 1 + 1, 3, none⟩ = some (.slice none 0 0) := (b4.out).cell 3
  have z4_0 : W3.frozen? ⟨w.heap.size + 1 + 1, 0, none⟩ = false := (b4.out).frozen 0
  have z4_1 : W3.frozen? ⟨w.heap.size + 1 + 1, 1, none⟩ = false := (b4.out).frozen 1
  have z4_2 : W3.frozen? ⟨w.heap.size + 1 + 1, 2, none⟩ = false := (b4.out).frozen 2
  have z4_3 : W3.frozen? ⟨w.heap.size + 1 + 1, 3, none⟩ = false := (b4.out).frozen 3
  have szb : w.heap.size ≤ W3.heap.size := HB4.out.size
  have s2 : w.heap.size < W3.heap.size := (b2.out).lt
  have s3 : w.heap.size + 1 < W3.heap.size := (b3.out).lt
  have s4 : w.heap.size + 1 + 1 < W3.heap.size := (b4.out).lt
  go_wp2_with fail
  have hkeep := (Keep.set (Keep.set (Keep.set (Keep.set (Keep.refl W3) b4.out 0 (Leaf.bool false)) (Bx.set b4.out 0 (Leaf.bool false)) 1 (Leaf.slice none 0 0)) (Bx.set (Bx.set b4.out 0 (Leaf.bool false)) 1 (Leaf.slice none 0 0)) 2 (Leaf.bool false)) (Bx.set (Bx.set (Bx.set b4.out 0 (Leaf.bool false)) 1 (Leaf.slice none 0 0)) 2 (Leaf.bool false)) 3 (Leaf.slice none 0 0))
  have hbel := (Below.setCell (p := ⟨w.heap.size + 1 + 1, 3, none⟩) (Below.setCell (p := ⟨w.heap.size + 1 + 1, 2, none⟩) (Below.setCell (p := ⟨w.heap.size + 1 + 1, 1, none⟩) (Below.setCell (p := ⟨w.heap.size + 1 + 1, 0, none⟩) HB4.out (by first | omega | (simp; done) | (simp; omega)) (.bool false)) (by first | omega | (simp; done) | (simp; omega)) (.slice none 0 0)) (by first | omega | (simp; done) | (simp; omega)) (.bool false)) (by first | omega | (simp; done) | (simp; omega)) (.slice none 0 0))
  refine bodyPost_ret (v := .tuple #[.agg #[.bool false, .slice none 0 0, .bool false, .slice none 0 0], .int .i64 10]) (by simp [results, Tryd.results17, go_sem, x4_0, x4_1, x4_2, x4_3]) rfl ⟨rfl, hbel⟩
end Go.Proofs.YtmpdpfiokjepaaaDoor

/- Of of rational numbers. -/
namespace Go.Proofs.YtmpdpfiokjepaaaDoor
open Go.RowKit
open AS (Keep NoInt)

set_option maxRecDepth 20000 in
set_option maxHeartbeats 3200000 in
theorem ofq_fact {a b : Int} {w : World} (ha : -9223372036854775808 ≤ a) (ha' : a ≤ 9223372036854775807) (hb1 : -9223372036854775808 ≤ b) (hb' : b ≤ 9223372036854775807) (hq : b ≠ 0) :
    Calls Tryd.prog 5 #[.int .i64 a, .int .i64 b] w fun e w' => ∃ v, e = .returned (.tuple #[v, .int .i64 0]) ∧ PRat (Rat.divInt a b) 4 v w' ∧ Below w.heap.size w w' := by
  have HA : Hid (-9223372036854775808 ≤ a ∧ a ≤ 9223372036854775807) := ⟨ha, ha'⟩
  clear ha ha'
  have HB : Hid (-9223372036854775808 ≤ b ∧ b ≤ 9223372036854775807) := ⟨hb1, hb'⟩
  clear hb1 hb'
  go_enter Tryd.func5, Tryd.ntmps5
  go_upto_region 1 with (fail)
  change Code.wp Tryd.prog _ _ _ (w.alloc (.cells #[.bool false, .slice none 0 0, .bool false, .slice none 0 0] 27))
  have nb4 := (Bx.new 27 w [.bool false, .slice none 0 0, .bool false, .slice none 0 0] (leaf4 (Leaf.bool false) (Leaf.slice none 0 0) (Leaf.bool false) (Leaf.slice none 0 0)))
  have nkeep := (Keep.alloc (Keep.refl w) (.cells #[.bool false, .slice none 0 0, .bool false, .slice none 0 0] 27))
  have nbel : Below w.heap.size w (w.alloc (.cells #[.bool false, .slice none 0 0, .bool false, .slice none 0 0] 27)) := (Below.alloc (Below.refl w.heap.size w) (by first | omega | (simp; done) | (simp; omega) | (simp [World.setCell]; done) | (simp [World.setCell]; omega)) (.cells #[.bool false, .slice none 0 0, .bool false, .slice none 0 0] 27))
  generalize w.alloc (.cells #[.bool false, .slice none 0 0, .bool false, .slice none 0 0] 27) = W1 at *
  have b4 := Lib.hid nb4
  clear nb4
  clear nkeep
  have HB2 := Lib.hid nbel
  clear nbel
  have x4_0 : W1.cell? ⟨w.heap.size, 0, none⟩ = some (.bool false) := (b4.out).cell 0
  have x4_1 : W1.cell? ⟨w.heap.size, 1, none⟩ = some (.slice none 0 0) := (b4.out).cell 1
  have x4_2 : W1.cell? ⟨w.heap.size, 2, none⟩ = some (.bool false) := (b4.out).cell 2
  have x4_3 : W1.cell? ⟨w.heap.size, 3, none⟩ = some (.slice none 0 0) := (b4.out).cell 3
  have szb : w.heap.size ≤ W1.heap.size := HB2.out.size
  have s4 : w.heap.size < W1.heap.size := (b4.out).lt
  clear x4_0 x4_1 x4_2 x4_3 szb s4
  have x4_0 : W1.cell? ⟨w.heap.size, 0, none⟩ = some (.bool false) := (b4.out).cell 0
  have x4_1 : W1.cell? ⟨w.heap.size, 1, none⟩ = some (.slice none 0 0) := (b4.out).cell 1
  have x4_2 : W1.cell? ⟨w.heap.size, 2, none⟩ = some (.bool false) := (b4.out).cell 2
  have x4_3 : W1.cell? ⟨w.heap.size, 3, none⟩ = some (.slice none 0 0) := (b4.out).cell 3
  have z4_0 : W1.frozen? ⟨w.heap.size, 0, none⟩ = false := (b4.out).frozen 0
  have z4_1 : W1.frozen? ⟨w.heap.size, 1, none⟩ = false := (b4.out).frozen 1
  have z4_2 : W1.frozen? ⟨w.heap.size, 2, none⟩ = false := (b4.out).frozen 2
  have z4_3 : W1.frozen? ⟨w.heap.size, 3, none⟩ = false := (b4.out).frozen 3
  have szb : w.heap.size ≤ W1.heap.size := HB2.out.size
  have s4 : w.heap.size < W1.heap.size := (b4.out).lt
  go_wp2_with fail
  refine (of_fact HA.out.1 HA.out.2).mono ?_
  rintro e W3 ⟨v, rfl, hv, hb⟩
  have nb := Lib.hid ((b4.out).up hb)
  clear b4
  have b4 := nb
  clear nb
  have nbel := below_then HB2.out hb HB2.out.size
  have HB4 := Lib.hid nbel
  clear nbel
  clear HB2
  clear hb
  clear x4_0 x4_1 x4_2 x4_3 z4_0 z4_1 z4_2 z4_3 szb s4
  have x4_0 : W3.cell? ⟨w.heap.size, 0, none⟩ = some (.bool false) := (b4.out).cell 0
  have x4_1 : W3.cell? ⟨w.heap.size, 1, none⟩ = some (.slice none 0 0) := (b4.out).cell 1
  have x4_2 : W3.cell? ⟨w.heap.size, 2, none⟩ = some (.bool false) := (b4.out).cell 2
  have x4_3 : W3.cell? ⟨w.heap.size, 3, none⟩ = some (.slice none 0 0) := (b4.out).cell 3
  have z4_0 : W3.frozen? ⟨w.heap.size, 0, none⟩ = false := (b4.out).frozen 0
  have z4_1 : W3.frozen? ⟨w.heap.size, 1, none⟩ = false := (b4.out).frozen 1
  have z4_2 : W3.frozen? ⟨w.heap.size, 2, none⟩ = false := (b4.out).frozen 2
  have z4_3 : W3.frozen? ⟨w.heap.size, 3, none⟩ = false := (b4.out).frozen 3
  have szb : w.heap.size ≤ W3.heap.size := HB4.out.size
  have s4 : w.heap.size < W3.heap.size := (b4.out).lt
  obtain ⟨k1, A1, l1, c1, rfl⟩ := hv.open
  have HV := Lib.hid hv
  clear hv
  go_wp2_with fail
  refine (of_fact HB.out.1 HB.out.2).mono ?_
  rintro e W5 ⟨v, rfl, hv, hb⟩
  have nb := Lib.hid ((b4.out).up hb)
  clear b4
  have b4 := nb
  clear nb
  have f_ := Lib.hid (HV.out.kept (Keep.ofBelow hb))
  clear HV
  have HV := f_
  clear f_
  have nbel := below_then HB4.out hb HB4.out.size
  have HB6 := Lib.hid nbel
  clear nbel
  clear HB4
  clear hb
  clear x4_0 x4_1 x4_2 x4_3 z4_0 z4_1 z4_2 z4_3 szb s4
  have x4_0 : W5.cell? ⟨w.heap.size, 0, none⟩ = some (.bool false) := (b4.out).cell 0
  have x4_1 : W5.cell? ⟨w.heap.size, 1, none⟩ = some (.slice none 0 0) := (b4.out).cell 1
  have x4_2 : W5.cell? ⟨w.heap.size, 2, none⟩ = some (.bool false) := (b4.out).cell 2
  have x4_3 : W5.cell? ⟨w.heap.size, 3, none⟩ = some (.slice none 0 0) := (b4.out).cell 3
  have z4_0 : W5.frozen? ⟨w.heap.size, 0, none⟩ = false := (b4.out).frozen 0
  have z4_1 : W5.frozen? ⟨w.heap.size, 1, none⟩ = false := (b4.out).frozen 1
  have z4_2 : W5.frozen? ⟨w.heap.size, 2, none⟩ = false := (b4.out).frozen 2
  have z4_3 : W5.frozen? ⟨w.heap.size, 3, none⟩ = false := (b4.out).frozen 3
  have szb : w.heap.size ≤ W5.heap.size := HB6.out.size
  have s4 : w.heap.size < W5.heap.size := (b4.out).lt
  obtain ⟨k2, A2, l2, c2, rfl⟩ := hv.open
  have HU := Lib.hid hv
  clear hv
  go_wp2_with fail
  refine (new_fact HV.out HU.out (by omega) hq).mono ?_
  rintro e W7 ⟨v, rfl, hv, hb⟩
  have nb := Lib.hid ((b4.out).up hb)
  clear b4
  have b4 := nb
  clear nb
  have f_ := Lib.hid (HV.out.kept (Keep.ofBelow hb))
  clear HV
  have HV := f_
  clear f_
  have f_ := Lib.hid (HU.out.kept (Keep.ofBelow hb))
  clear HU
  have HU := f_
  clear f_
  have nbel := below_then HB6.out hb HB6.out.size
  have HB8 := Lib.hid nbel
  clear nbel
  clear HB6
  clear hb
  clear x4_0 x4_1 x4_2 x4_3 z4_0 z4_1 z4_2 z4_3 szb s4
  have x4_0 : W7.cell? ⟨w.heap.size, 0, none⟩ = some (.bool false) := (b4.out).cell 0
  have x4_1 : W7.cell? ⟨w.heap.size, 1, none⟩ = some (.slice none 0 0) := (b4.out).cell 1
  have x4_2 : W7.cell? ⟨w.heap.size, 2, none⟩ = some (.bool false) := (b4.out).cell 2
  have x4_3 : W7.cell? ⟨w.heap.size, 3, none⟩ = some (.slice none 0 0) := (b4.out).cell 3
  have z4_0 : W7.frozen? ⟨w.heap.size, 0, none⟩ = false := (b4.out).frozen 0
  have z4_1 : W7.frozen? ⟨w.heap.size, 1, none⟩ = false := (b4.out).frozen 1
  have z4_2 : W7.frozen? ⟨w.heap.size, 2, none⟩ = false := (b4.out).frozen 2
  have z4_3 : W7.frozen? ⟨w.heap.size, 3, none⟩ = false := (b4.out).frozen 3
  have szb : w.heap.size ≤ W7.heap.size := HB8.out.size
  have s4 : w.heap.size < W7.heap.size := (b4.out).lt
  obtain ⟨k3, A3, l3, c3, k4, A4, l4, c4, rfl⟩ := hv.open
  have HR := Lib.hid hv
  clear hv
  go_wp2_with fail
  have hkeep := (Keep.set (Keep.set (Keep.set (Keep.set (Keep.refl W7) b4.out 0 (Leaf.bool k3)) (Bx.set b4.out 0 (Leaf.bool k3)) 1 (Leaf.slice A3 l3 c3)) (Bx.set (Bx.set b4.out 0 (Leaf.bool k3)) 1 (Leaf.slice A3 l3 c3)) 2 (Leaf.bool k4)) (Bx.set (Bx.set (Bx.set b4.out 0 (Leaf.bool k3)) 1 (Leaf.slice A3 l3 c3)) 2 (Leaf.bool k4)) 3 (Leaf.slice A4 l4 c4))
  have hbel := (Below.setCell (p := ⟨w.heap.size, 3, none⟩) (Below.setCell (p := ⟨w.heap.size, 2, none⟩) (Below.setCell (p := ⟨w.heap.size, 1, none⟩) (Below.setCell (p := ⟨w.heap.size, 0, none⟩) HB8.out (by first | omega | (simp; done) | (simp; omega)) (.bool k3)) (by first | omega | (simp; done) | (simp; omega)) (.slice A3 l3 c3)) (by first | omega | (simp; done) | (simp; omega)) (.bool k4)) (by first | omega | (simp; done) | (simp; omega)) (.slice A4 l4 c4))
  refine bodyPost_ret (v := .tuple #[.agg #[.bool k3, .slice A3 l3 c3, .bool k4, .slice A4 l4 c4], .int .i64 0]) (by simp [results, Tryd.results5, go_sem, x4_0, x4_1, x4_2, x4_3]) rfl ⟨_, rfl, HR.out.kept hkeep, hbel⟩
set_option maxRecDepth 20000 in
set_option maxHeartbeats 3200000 in
theorem ofq_zero {a : Int} {w : World} (ha : -9223372036854775808 ≤ a) (ha' : a ≤ 9223372036854775807) :
    Calls Tryd.prog 5 #[.int .i64 a, .int .i64 0] w fun e w' => e = .returned (.tuple #[.agg #[.bool false, .slice none 0 0, .bool false, .slice none 0 0], .int .i64 10]) ∧ Below w.heap.size w w' := by
  have HA : Hid (-9223372036854775808 ≤ a ∧ a ≤ 9223372036854775807) := ⟨ha, ha'⟩
  clear ha ha'
  go_enter Tryd.func5, Tryd.ntmps5
  go_upto_region 1 with (fail)
  change Code.wp Tryd.prog _ _ _ (w.alloc (.cells #[.bool false, .slice none 0 0, .bool false, .slice none 0 0] 27))
  have nb4 := (Bx.new 27 w [.bool false, .slice none 0 0, .bool false, .slice none 0 0] (leaf4 (Leaf.bool false) (Leaf.slice none 0 0) (Leaf.bool false) (Leaf.slice none 0 0)))
  have nkeep := (Keep.alloc (Keep.refl w) (.cells #[.bool false, .slice none 0 0, .bool false, .slice none 0 0] 27))
  have nbel : Below w.heap.size w (w.alloc (.cells #[.bool false, .slice none 0 0, .bool false, .slice none 0 0] 27)) := (Below.alloc (Below.refl w.heap.size w) (by first | omega | (simp; done) | (simp; omega) | (simp [World.setCell]; done) | (simp [World.setCell]; omega)) (.cells #[.bool false, .slice none 0 0, .bool false, .slice none 0 0] 27))
  generalize w.alloc (.cells #[.bool false, .slice none 0 0, .bool false, .slice none 0 0] 27) = W1 at *
  have b4 := Lib.hid nb4
  clear nb4
  clear nkeep
  have HB2 := Lib.hid nbel
  clear nbel
  have x4_0 : W1.cell? ⟨w.heap.size, 0, none⟩ = some (.bool false) := (b4.out).cell 0
  have x4_1 : W1.cell? ⟨w.heap.size, 1, none⟩ = some (.slice none 0 0) := (b4.out).cell 1
  have x4_2 : W1.cell? ⟨w.heap.size, 2, none⟩ = some (.bool false) := (b4.out).cell 2
  have x4_3 : W1.cell? ⟨w.heap.size, 3, none⟩ = some (.slice none 0 0) := (b4.out).cell 3
  have szb : w.heap.size ≤ W1.heap.size := HB2.out.size
  have s4 : w.heap.size < W1.heap.size := (b4.out).lt
  clear x4_0 x4_1 x4_2 x4_3 szb s4
  have x4_0 : W1.cell? ⟨w.heap.size, 0, none⟩ = some (.bool false) := (b4.out).cell 0
  have x4_1 : W1.cell? ⟨w.heap.size, 1, none⟩ = some (.slice none 0 0) := (b4.out).cell 1
  have x4_2 : W1.cell? ⟨w.heap.size, 2, none⟩ = some (.bool false) := (b4.out).cell 2
  have x4_3 : W1.cell? ⟨w.heap.size, 3, none⟩ = some (.slice none 0 0) := (b4.out).cell 3
  have z4_0 : W1.frozen? ⟨w.heap.size, 0, none⟩ = false := (b4.out).frozen 0
  have z4_1 : W1.frozen? ⟨w.heap.size, 1, none⟩ = false := (b4.out).frozen 1
  have z4_2 : W1.frozen? ⟨w.heap.size, 2, none⟩ = false := (b4.out).frozen 2
  have z4_3 : W1.frozen? ⟨w.heap.size, 3, none⟩ = false := (b4.out).frozen 3
  have szb : w.heap.size ≤ W1.heap.size := HB2.out.size
  have s4 : w.heap.size < W1.heap.size := (b4.out).lt
  go_wp2_with fail
  refine (of_fact HA.out.1 HA.out.2).mono ?_
  rintro e W3 ⟨v, rfl, hv, hb⟩
  have nb := Lib.hid ((b4.out).up hb)
  clear b4
  have b4 := nb
  clear nb
  have nbel := below_then HB2.out hb HB2.out.size
  have HB4 := Lib.hid nbel
  clear nbel
  clear HB2
  clear hb
  clear x4_0 x4_1 x4_2 x4_3 z4_0 z4_1 z4_2 z4_3 szb s4
  have x4_0 : W3.cell? ⟨w.heap.size, 0, none⟩ = some (.bool false) := (b4.out).cell 0
  have x4_1 : W3.cell? ⟨w.heap.size, 1, none⟩ = some (.slice none 0 0) := (b4.out).cell 1
  have x4_2 : W3.cell? ⟨w.heap.size, 2, none⟩ = some (.bool false) := (b4.out).cell 2
  have x4_3 : W3.cell? ⟨w.heap.size, 3, none⟩ = some (.slice none 0 0) := (b4.out).cell 3
  have z4_0 : W3.frozen? ⟨w.heap.size, 0, none⟩ = false := (b4.out).frozen 0
  have z4_1 : W3.frozen? ⟨w.heap.size, 1, none⟩ = false := (b4.out).frozen 1
  have z4_2 : W3.frozen? ⟨w.heap.size, 2, none⟩ = false := (b4.out).frozen 2
  have z4_3 : W3.frozen? ⟨w.heap.size, 3, none⟩ = false := (b4.out).frozen 3
  have szb : w.heap.size ≤ W3.heap.size := HB4.out.size
  have s4 : w.heap.size < W3.heap.size := (b4.out).lt
  obtain ⟨k1, A1, l1, c1, rfl⟩ := hv.open
  have HV := Lib.hid hv
  clear hv
  go_wp2_with fail
  refine (of_fact (n := 0) (by decide) (by decide)).mono ?_
  rintro e W5 ⟨v, rfl, hv, hb⟩
  have nb := Lib.hid ((b4.out).up hb)
  clear b4
  have b4 := nb
  clear nb
  have f_ := Lib.hid (HV.out.kept (Keep.ofBelow hb))
  clear HV
  have HV := f_
  clear f_
  have nbel := below_then HB4.out hb HB4.out.size
  have HB6 := Lib.hid nbel
  clear nbel
  clear HB4
  clear hb
  clear x4_0 x4_1 x4_2 x4_3 z4_0 z4_1 z4_2 z4_3 szb s4
  have x4_0 : W5.cell? ⟨w.heap.size, 0, none⟩ = some (.bool false) := (b4.out).cell 0
  have x4_1 : W5.cell? ⟨w.heap.size, 1, none⟩ = some (.slice none 0 0) := (b4.out).cell 1
  have x4_2 : W5.cell? ⟨w.heap.size, 2, none⟩ = some (.bool false) := (b4.out).cell 2
  have x4_3 : W5.cell? ⟨w.heap.size, 3, none⟩ = some (.slice none 0 0) := (b4.out).cell 3
  have z4_0 : W5.frozen? ⟨w.heap.size, 0, none⟩ = false := (b4.out).frozen 0
  have z4_1 : W5.frozen? ⟨w.heap.size, 1, none⟩ = false := (b4.out).frozen 1
  have z4_2 : W5.frozen? ⟨w.heap.size, 2, none⟩ = false := (b4.out).frozen 2
  have z4_3 : W5.frozen? ⟨w.heap.size, 3, none⟩ = false := (b4.out).frozen 3
  have szb : w.heap.size ≤ W5.heap.size := HB6.out.size
  have s4 : w.heap.size < W5.heap.size := (b4.out).lt
  obtain ⟨k2, A2, l2, c2, rfl⟩ := hv.open
  have HU := Lib.hid hv
  clear hv
  go_wp2_with fail
  refine (new_zero HV.out HU.out).mono ?_
  rintro e W7 ⟨rfl, hb⟩
  have nb := Lib.hid ((b4.out).up hb)
  clear b4
  have b4 := nb
  clear nb
  have f_ := Lib.hid (HV.out.kept (Keep.ofBelow hb))
  clear HV
  have HV := f_
  clear f_
  have f_ := Lib.hid (HU.out.kept (Keep.ofBelow hb))
  clear HU
  have HU := f_
  clear f_
  have nbel := below_then HB6.out hb HB6.out.size
  have HB8 := Lib.hid nbel
  clear nbel
  clear HB6
  clear hb
  clear x4_0 x4_1 x4_2 x4_3 z4_0 z4_1 z4_2 z4_3 szb s4
  have x4_0 : W7.cell? ⟨w.heap.size, 0, none⟩ = some (.bool false) := (b4.out).cell 0
  have x4_1 : W7.cell? ⟨w.heap.size, 1, none⟩ = some (.slice none 0 0) := (b4.out).cell 1
  have x4_2 : W7.cell? ⟨w.heap.size, 2, none⟩ = some (.bool false) := (b4.out).cell 2
  have x4_3 : W7.cell? ⟨w.heap.size, 3, none⟩ = some (.slice none 0 0) := (b4.out).cell 3
  have z4_0 : W7.frozen? ⟨w.heap.size, 0, none⟩ = false := (b4.out).frozen 0
  have z4_1 : W7.frozen? ⟨w.heap.size, 1, none⟩ = false := (b4.out).frozen 1
  have z4_2 : W7.frozen? ⟨w.heap.size, 2, none⟩ = false := (b4.out).frozen 2
  have z4_3 : W7.frozen? ⟨w.heap.size, 3, none⟩ = false := (b4.out).frozen 3
  have szb : w.heap.size ≤ W7.heap.size := HB8.out.size
  have s4 : w.heap.size < W7.heap.size := (b4.out).lt
  go_wp2_with fail
  have hkeep := (Keep.set (Keep.set (Keep.set (Keep.set (Keep.refl W7) b4.out 0 (Leaf.bool false)) (Bx.set b4.out 0 (Leaf.bool false)) 1 (Leaf.slice none 0 0)) (Bx.set (Bx.set b4.out 0 (Leaf.bool false)) 1 (Leaf.slice none 0 0)) 2 (Leaf.bool false)) (Bx.set (Bx.set (Bx.set b4.out 0 (Leaf.bool false)) 1 (Leaf.slice none 0 0)) 2 (Leaf.bool false)) 3 (Leaf.slice none 0 0))
  have hbel := (Below.setCell (p := ⟨w.heap.size, 3, none⟩) (Below.setCell (p := ⟨w.heap.size, 2, none⟩) (Below.setCell (p := ⟨w.heap.size, 1, none⟩) (Below.setCell (p := ⟨w.heap.size, 0, none⟩) HB8.out (by first | omega | (simp; done) | (simp; omega)) (.bool false)) (by first | omega | (simp; done) | (simp; omega)) (.slice none 0 0)) (by first | omega | (simp; done) | (simp; omega)) (.bool false)) (by first | omega | (simp; done) | (simp; omega)) (.slice none 0 0))
  refine bodyPost_ret (v := .tuple #[.agg #[.bool false, .slice none 0 0, .bool false, .slice none 0 0], .int .i64 10]) (by simp [results, Tryd.results5, go_sem, x4_0, x4_1, x4_2, x4_3]) rfl ⟨rfl, hbel⟩
end Go.Proofs.YtmpdpfiokjepaaaDoor

/- terms. -/
namespace Go.Proofs.YtmpdpfiokjepaaaDoor
open Go.RowKit
open AS (Keep NoInt)

set_option maxRecDepth 20000 in
set_option maxHeartbeats 3200000 in
theorem terms_fact {x : Rat} {n : Nat} {v : Value} {w : World} (h : PRat x n v w) (hn : 3 ≤ n) :
    Calls Tryd.prog 21 #[v] w fun e w' => ∃ (k : Bool) (A : Option Addr) (l c : Nat) (k' : Bool) (A' : Option Addr) (l' c' : Nat), e = .returned (.tuple #[.agg #[.bool k, .slice A l c], .agg #[.bool k', .slice A' l' c']]) ∧ PInt x.num n (.agg #[.bool k, .slice A l c]) w' ∧ PInt x.den n (.agg #[.bool k', .slice A' l' c']) w' ∧ Below w.heap.size w w' := by
  obtain ⟨k, A, l, c, k', A', l', c', rfl⟩ := h.open
  obtain ⟨p, q, h1, h2, h3⟩ := h.parts
  have H1 := Lib.hid h1
  have H2 := Lib.hid h2
  clear h h1 h2
  go_enter Tryd.func21, Tryd.ntmps21
  go_upto_region 1 with (fail)
  change Code.wp Tryd.prog _ _ _ (((w.alloc (.cells #[.bool k, .slice A l c, .bool k', .slice A' l' c'] 27)).alloc (.cells #[.bool false, .slice none 0 0] 25)).alloc (.cells #[.bool false, .slice none 0 0] 25))
  have nb1 := (Bx.alloc (Bx.alloc (Bx.new 27 w [.bool k, .slice A l c, .bool k', .slice A' l' c'] (leaf4 (Leaf.bool k) (Leaf.slice A l c) (Leaf.bool k') (Leaf.slice A' l' c'))) (.cells #[.bool false, .slice none 0 0] 25)) (.cells #[.bool false, .slice none 0 0] 25))
  have nb2 := (Bx.alloc (Bx.new 25 (w.alloc (.cells #[.bool k, .slice A l c, .bool k', .slice A' l' c'] 27)) [.bool false, .slice none 0 0] (leaf2 (Leaf.bool false) (Leaf.slice none 0 0))) (.cells #[.bool false, .slice none 0 0] 25))
  rw [show (w.alloc (.cells #[.bool k, .slice A l c, .bool k', .slice A' l' c'] 27)).heap.size = w.heap.size + 1 by simp] at nb2
  have nb3 := (Bx.new 25 ((w.alloc (.cells #[.bool k, .slice A l c, .bool k', .slice A' l' c'] 27)).alloc (.cells #[.bool false, .slice none 0 0] 25)) [.bool false, .slice none 0 0] (leaf2 (Leaf.bool false) (Leaf.slice none 0 0)))
  rw [show ((w.alloc (.cells #[.bool k, .slice A l c, .bool k', .slice A' l' c'] 27)).alloc (.cells #[.bool false, .slice none 0 0] 25)).heap.size = w.heap.size + 1 + 1 by simp] at nb3
  have nkeep := (Keep.alloc (Keep.alloc (Keep.alloc (Keep.refl w) (.cells #[.bool k, .slice A l c, .bool k', .slice A' l' c'] 27)) (.cells #[.bool false, .slice none 0 0] 25)) (.cells #[.bool false, .slice none 0 0] 25))
  have nbel : Below w.heap.size w (((w.alloc (.cells #[.bool k, .slice A l c, .bool k', .slice A' l' c'] 27)).alloc (.cells #[.bool false, .slice none 0 0] 25)).alloc (.cells #[.bool false, .slice none 0 0] 25)) := (Below.alloc (Below.alloc (Below.alloc (Below.refl w.heap.size w) (by first | omega | (simp; done) | (simp; omega) | (simp [World.setCell]; done) | (simp [World.setCell]; omega)) (.cells #[.bool k, .slice A l c, .bool k', .slice A' l' c'] 27)) (by first | omega | (simp; done) | (simp; omega) | (simp [World.setCell]; done) | (simp [World.setCell]; omega)) (.cells #[.bool false, .slice none 0 0] 25)) (by first | omega | (simp; done) | (simp; omega) | (simp [World.setCell]; done) | (simp [World.setCell]; omega)) (.cells #[.bool false, .slice none 0 0] 25))
  generalize ((w.alloc (.cells #[.bool k, .slice A l c, .bool k', .slice A' l' c'] 27)).alloc (.cells #[.bool false, .slice none 0 0] 25)).alloc (.cells #[.bool false, .slice none 0 0] 25) = W1 at *
  have b1 := Lib.hid nb1
  have b2 := Lib.hid nb2
  have b3 := Lib.hid nb3
  clear nb1 nb2 nb3
  have f_ := Lib.hid (H1.out.kept nkeep)
  clear H1
  have H1 := f_
  clear f_
  have f_ := Lib.hid (H2.out.kept nkeep)
  clear H2
  have H2 := f_
  clear f_
  clear nkeep
  have HB2 := Lib.hid nbel
  clear nbel
  have x1_0 : W1.cell? ⟨w.heap.size, 0, none⟩ = some (.bool k) := (b1.out).cell 0
  have x1_1 : W1.cell? ⟨w.heap.size, 1, none⟩ = some (.slice A l c) := (b1.out).cell 1
  have x1_2 : W1.cell? ⟨w.heap.size, 2, none⟩ = some (.bool k') := (b1.out).cell 2
  have x1_3 : W1.cell? ⟨w.heap.size, 3, none⟩ = some (.slice A' l' c') := (b1.out).cell 3
  have x2_0 : W1.cell? ⟨w.heap.size + 1, 0, none⟩ = some (.bool false) := (b2.out).cell 0
  have x2_1 : W1.cell? ⟨w.heap.size + 1, 1, none⟩ = some (.slice none 0 0) := (b2.out).cell 1
  have x3_0 : W1.cell? ⟨w.heap.size + 1 + 1, 0, none⟩ = some (.bool false) := (b3.out).cell 0
  have x3_1 : W1.cell? ⟨w.heap.size + 1 + 1, 1, none⟩ = some (.slice none 0 0) := (b3.out).cell 1
  have szb : w.heap.size ≤ W1.heap.size := HB2.out.size
  have s1 : w.heap.size < W1.heap.size := (b1.out).lt
  have s2 : w.heap.size + 1 < W1.heap.size := (b2.out).lt
  have s3 : w.heap.size + 1 + 1 < W1.heap.size := (b3.out).lt
  clear x1_0 x1_1 x1_2 x1_3 x2_0 x2_1 x3_0 x3_1 szb s1 s2 s3
  have x1_0 : W1.cell? ⟨w.heap.size, 0, none⟩ = some (.bool k) := (b1.out).cell 0
  have x1_1 : W1.cell? ⟨w.heap.size, 1, none⟩ = some (.slice A l c) := (b1.out).cell 1
  have x1_2 : W1.cell? ⟨w.heap.size, 2, none⟩ = some (.bool k') := (b1.out).cell 2
  have x1_3 : W1.cell? ⟨w.heap.size, 3, none⟩ = some (.slice A' l' c') := (b1.out).cell 3
  have x2_0 : W1.cell? ⟨w.heap.size + 1, 0, none⟩ = some (.bool false) := (b2.out).cell 0
  have x2_1 : W1.cell? ⟨w.heap.size + 1, 1, none⟩ = some (.slice none 0 0) := (b2.out).cell 1
  have z2_0 : W1.frozen? ⟨w.heap.size + 1, 0, none⟩ = false := (b2.out).frozen 0
  have z2_1 : W1.frozen? ⟨w.heap.size + 1, 1, none⟩ = false := (b2.out).frozen 1
  have x3_0 : W1.cell? ⟨w.heap.size + 1 + 1, 0, none⟩ = some (.bool false) := (b3.out).cell 0
  have x3_1 : W1.cell? ⟨w.heap.size + 1 + 1, 1, none⟩ = some (.slice none 0 0) := (b3.out).cell 1
  have z3_0 : W1.frozen? ⟨w.heap.size + 1 + 1, 0, none⟩ = false := (b3.out).frozen 0
  have z3_1 : W1.frozen? ⟨w.heap.size + 1 + 1, 1, none⟩ = false := (b3.out).frozen 1
  have szb : w.heap.size ≤ W1.heap.size := HB2.out.size
  have s1 : w.heap.size < W1.heap.size := (b1.out).lt
  have s2 : w.heap.size + 1 < W1.heap.size := (b2.out).lt
  have s3 : w.heap.size + 1 + 1 < W1.heap.size := (b3.out).lt
  rcases h3 with ⟨rfl, rfl⟩ | ⟨rfl, rfl, rfl⟩
  · have hc : cmpI (x.den : Int) 0 = 1 := by unfold cmpI; have := x.den_pos; rw [if_neg (by omega), if_neg (by omega)]
    go_wp2_with fail
    refine (sign_is H2.out hc).mono ?_
    rintro e W3 ⟨rfl, hb⟩
    have nb := Lib.hid ((b1.out).up hb)
    clear b1
    have b1 := nb
    clear nb
    have nb := Lib.hid ((b2.out).up hb)
    clear b2
    have b2 := nb
    clear nb
    have nb := Lib.hid ((b3.out).up hb)
    clear b3
    have b3 := nb
    clear nb
    have f_ := Lib.hid (H1.out.kept (Keep.ofBelow hb))
    clear H1
    have H1 := f_
    clear f_
    have f_ := Lib.hid (H2.out.kept (Keep.ofBelow hb))
    clear H2
    have H2 := f_
    clear f_
    have nbel := below_then HB2.out hb HB2.out.size
    have HB4 := Lib.hid nbel
    clear nbel
    clear HB2
    clear hb
    clear x1_0 x1_1 x1_2 x1_3 x2_0 x2_1 z2_0 z2_1 x3_0 x3_1 z3_0 z3_1 szb s1 s2 s3
    have x1_0 : W3.cell? ⟨w.heap.size, 0, none⟩ = some (.bool k) := (b1.out).cell 0
    have x1_1 : W3.cell? ⟨w.heap.size, 1, none⟩ = some (.slice A l c) := (b1.out).cell 1
    have x1_2 : W3.cell? ⟨w.heap.size, 2, none⟩ = some (.bool k') := (b1.out).cell 2
    have x1_3 : W3.cell? ⟨w.heap.size, 3, none⟩ = some (.slice A' l' c') := (b1.out).cell 3
    have x2_0 : W3.cell? ⟨w.heap.size + 1, 0, none⟩ = some (.bool false) := (b2.out).cell 0
    have x2_1 : W3.cell? ⟨w.heap.size + 1, 1, none⟩ = some (.slice none 0 0) := (b2.out).cell 1
    have z2_0 : W3.frozen? ⟨w.heap.size + 1, 0, none⟩ = false := (b2.out).frozen 0
    have z2_1 : W3.frozen? ⟨w.heap.size + 1, 1, none⟩ = false := (b2.out).frozen 1
    have x3_0 : W3.cell? ⟨w.heap.size + 1 + 1, 0, none⟩ = some (.bool false) := (b3.out).cell 0
    have x3_1 : W3.cell? ⟨w.heap.size + 1 + 1, 1, none⟩ = some (.slice none 0 0) := (b3.out).cell 1
    have z3_0 : W3.frozen? ⟨w.heap.size + 1 + 1, 0, none⟩ = false := (b3.out).frozen 0
    have z3_1 : W3.frozen? ⟨w.heap.size + 1 + 1, 1, none⟩ = false := (b3.out).frozen 1
    have szb : w.heap.size ≤ W3.heap.size := HB4.out.size
    have s1 : w.heap.size < W3.heap.size := (b1.out).lt
    have s2 : w.heap.size + 1 < W3.heap.size := (b2.out).lt
    have s3 : w.heap.size + 1 + 1 < W3.heap.size := (b3.out).lt
    go_wp2
    go_region
    go_wp2
    have hkeep := (Keep.drew (Keep.set (Keep.set (Keep.set (Keep.set (Keep.refl W3) b2.out 0 (Leaf.bool k)) (Bx.set b2.out 0 (Leaf.bool k)) 1 (Leaf.slice A l c)) (Bx.far (g' := w.heap.size + 1) (Bx.far (g' := w.heap.size + 1) b3.out (by omega) 0 (.bool k)) (by omega) 1 (.slice A l c)) 0 (Leaf.bool k')) (Bx.set (Bx.far (g' := w.heap.size + 1) (Bx.far (g' := w.heap.size + 1) b3.out (by omega) 0 (.bool k)) (by omega) 1 (.slice A l c)) 0 (Leaf.bool k')) 1 (Leaf.slice A' l' c')))
    have hbel := (below_drew (Below.setCell (p := ⟨w.heap.size + 1 + 1, 1, none⟩) (Below.setCell (p := ⟨w.heap.size + 1 + 1, 0, none⟩) (Below.setCell (p := ⟨w.heap.size + 1, 1, none⟩) (Below.setCell (p := ⟨w.heap.size + 1, 0, none⟩) HB4.out (by first | omega | (simp; done) | (simp; omega)) (.bool k)) (by first | omega | (simp; done) | (simp; omega)) (.slice A l c)) (by first | omega | (simp; done) | (simp; omega)) (.bool k')) (by first | omega | (simp; done) | (simp; omega)) (.slice A' l' c')))
    refine bodyPost_ret (v := .tuple #[.agg #[.bool k, .slice A l c], .agg #[.bool k', .slice A' l' c']]) (by simp [results, Tryd.results21, go_sem, x2_0, x2_1, x3_0, x3_1]) rfl ⟨_, _, _, _, _, _, _, _, rfl, H1.out.kept hkeep, H2.out.kept hkeep, hbel⟩
  · go_wp2_with fail
    refine (sign_is H2.out (c := 0) (by decide)).mono ?_
    rintro e W3 ⟨rfl, hb⟩
    have nb := Lib.hid ((b1.out).up hb)
    clear b1
    have b1 := nb
    clear nb
    have nb := Lib.hid ((b2.out).up hb)
    clear b2
    have b2 := nb
    clear nb
    have nb := Lib.hid ((b3.out).up hb)
    clear b3
    have b3 := nb
    clear nb
    have f_ := Lib.hid (H1.out.kept (Keep.ofBelow hb))
    clear H1
    have H1 := f_
    clear f_
    have f_ := Lib.hid (H2.out.kept (Keep.ofBelow hb))
    clear H2
    have H2 := f_
    clear f_
    have nbel := below_then HB2.out hb HB2.out.size
    have HB4 := Lib.hid nbel
    clear nbel
    clear HB2
    clear hb
    clear x1_0 x1_1 x1_2 x1_3 x2_0 x2_1 z2_0 z2_1 x3_0 x3_1 z3_0 z3_1 szb s1 s2 s3
    have x1_0 : W3.cell? ⟨w.heap.size, 0, none⟩ = some (.bool k) := (b1.out).cell 0
    have x1_1 : W3.cell? ⟨w.heap.size, 1, none⟩ = some (.slice A l c) := (b1.out).cell 1
    have x1_2 : W3.cell? ⟨w.heap.size, 2, none⟩ = some (.bool k') := (b1.out).cell 2
    have x1_3 : W3.cell? ⟨w.heap.size, 3, none⟩ = some (.slice A' l' c') := (b1.out).cell 3
    have x2_0 : W3.cell? ⟨w.heap.size + 1, 0, none⟩ = some (.bool false) := (b2.out).cell 0
    have x2_1 : W3.cell? ⟨w.heap.size + 1, 1, none⟩ = some (.slice none 0 0) := (b2.out).cell 1
    have z2_0 : W3.frozen? ⟨w.heap.size + 1, 0, none⟩ = false := (b2.out).frozen 0
    have z2_1 : W3.frozen? ⟨w.heap.size + 1, 1, none⟩ = false := (b2.out).frozen 1
    have x3_0 : W3.cell? ⟨w.heap.size + 1 + 1, 0, none⟩ = some (.bool false) := (b3.out).cell 0
    have x3_1 : W3.cell? ⟨w.heap.size + 1 + 1, 1, none⟩ = some (.slice none 0 0) := (b3.out).cell 1
    have z3_0 : W3.frozen? ⟨w.heap.size + 1 + 1, 0, none⟩ = false := (b3.out).frozen 0
    have z3_1 : W3.frozen? ⟨w.heap.size + 1 + 1, 1, none⟩ = false := (b3.out).frozen 1
    have szb : w.heap.size ≤ W3.heap.size := HB4.out.size
    have s1 : w.heap.size < W3.heap.size := (b1.out).lt
    have s2 : w.heap.size + 1 < W3.heap.size := (b2.out).lt
    have s3 : w.heap.size + 1 + 1 < W3.heap.size := (b3.out).lt
    go_wp2_with fail
    refine (of_fact (n := 1) (by decide) (by decide)).mono ?_
    rintro e W5 ⟨v, rfl, hv, hb⟩
    have nb := Lib.hid ((b1.out).up hb)
    clear b1
    have b1 := nb
    clear nb
    have nb := Lib.hid ((b2.out).up hb)
    clear b2
    have b2 := nb
    clear nb
    have nb := Lib.hid ((b3.out).up hb)
    clear b3
    have b3 := nb
    clear nb
    have f_ := Lib.hid (H1.out.kept (Keep.ofBelow hb))
    clear H1
    have H1 := f_
    clear f_
    have f_ := Lib.hid (H2.out.kept (Keep.ofBelow hb))
    clear H2
    have H2 := f_
    clear f_
    have nbel := below_then HB4.out hb HB4.out.size
    have HB6 := Lib.hid nbel
    clear nbel
    clear HB4
    clear hb
    clear x1_0 x1_1 x1_2 x1_3 x2_0 x2_1 z2_0 z2_1 x3_0 x3_1 z3_0 z3_1 szb s1 s2 s3
    have x1_0 : W5.cell? ⟨w.heap.size, 0, none⟩ = some (.bool k) := (b1.out).cell 0
    have x1_1 : W5.cell? ⟨w.heap.size, 1, none⟩ = some (.slice A l c) := (b1.out).cell 1
    have x1_2 : W5.cell? ⟨w.heap.size, 2, none⟩ = some (.bool k') := (b1.out).cell 2
    have x1_3 : W5.cell? ⟨w.heap.size, 3, none⟩ = some (.slice A' l' c') := (b1.out).cell 3
    have x2_0 : W5.cell? ⟨w.heap.size + 1, 0, none⟩ = some (.bool false) := (b2.out).cell 0
    have x2_1 : W5.cell? ⟨w.heap.size + 1, 1, none⟩ = some (.slice none 0 0) := (b2.out).cell 1
    have z2_0 : W5.frozen? ⟨w.heap.size + 1, 0, none⟩ = false := (b2.out).frozen 0
    have z2_1 : W5.frozen? ⟨w.heap.size + 1, 1, none⟩ = false := (b2.out).frozen 1
    have x3_0 : W5.cell? ⟨w.heap.size + 1 + 1, 0, none⟩ = some (.bool false) := (b3.out).cell 0
    have x3_1 : W5.cell? ⟨w.heap.size + 1 + 1, 1, none⟩ = some (.slice none 0 0) := (b3.out).cell 1
    have z3_0 : W5.frozen? ⟨w.heap.size + 1 + 1, 0, none⟩ = false := (b3.out).frozen 0
    have z3_1 : W5.frozen? ⟨w.heap.size + 1 + 1, 1, none⟩ = false := (b3.out).frozen 1
    have szb : w.heap.size ≤ W5.heap.size := HB6.out.size
    have s1 : w.heap.size < W5.heap.size := (b1.out).lt
    have s2 : w.heap.size + 1 < W5.heap.size := (b2.out).lt
    have s3 : w.heap.size + 1 + 1 < W5.heap.size := (b3.out).lt
    obtain ⟨k1, A1, l1, c1, rfl⟩ := hv.open
    have HV := Lib.hid hv
    clear hv
    go_wp2_with fail
    have hkeep := (Keep.set (Keep.set (Keep.set (Keep.set (Keep.refl W5) b2.out 0 (Leaf.bool false)) (Bx.set b2.out 0 (Leaf.bool false)) 1 (Leaf.slice none 0 0)) (Bx.far (g' := w.heap.size + 1) (Bx.far (g' := w.heap.size + 1) b3.out (by omega) 0 (.bool false)) (by omega) 1 (.slice none 0 0)) 0 (Leaf.bool k1)) (Bx.set (Bx.far (g' := w.heap.size + 1) (Bx.far (g' := w.heap.size + 1) b3.out (by omega) 0 (.bool false)) (by omega) 1 (.slice none 0 0)) 0 (Leaf.bool k1)) 1 (Leaf.slice A1 l1 c1))
    have hbel := (Below.setCell (p := ⟨w.heap.size + 1 + 1, 1, none⟩) (Below.setCell (p := ⟨w.heap.size + 1 + 1, 0, none⟩) (Below.setCell (p := ⟨w.heap.size + 1, 1, none⟩) (Below.setCell (p := ⟨w.heap.size + 1, 0, none⟩) HB6.out (by first | omega | (simp; done) | (simp; omega)) (.bool false)) (by first | omega | (simp; done) | (simp; omega)) (.slice none 0 0)) (by first | omega | (simp; done) | (simp; omega)) (.bool k1)) (by first | omega | (simp; done) | (simp; omega)) (.slice A1 l1 c1))
    refine bodyPost_ret (v := .tuple #[.agg #[.bool false, .slice none 0 0], .agg #[.bool k1, .slice A1 l1 c1]]) (by simp [results, Tryd.results21, go_sem, x2_0, x2_1, x3_0, x3_1]) rfl ⟨_, _, _, _, _, _, _, _, rfl, PInt.zero _ _, (HV.out.kept hkeep).more hn, hbel⟩
end Go.Proofs.YtmpdpfiokjepaaaDoor

/- copied. -/
namespace Go.Proofs.YtmpdpfiokjepaaaDoor
open Go.RowKit
open AS (Keep NoInt)

set_option maxRecDepth 20000 in
set_option maxHeartbeats 3200000 in
theorem copied_fact {z : Int} {n : Nat} {a : Value} {w : World} (h1 : PInt z n a w) (hn : n ≤ 400000) :
    Calls Tryd.prog 22 #[a] w fun e w' => ∃ v, e = .returned v ∧ PInt z (n + 1) v w' ∧ Below w.heap.size w w' := by
  obtain ⟨k, A, l, c, rfl⟩ := h1.open
  have H1 := Lib.hid h1
  clear h1
  go_enter Tryd.func22, Tryd.ntmps22
  go_upto_region 1 with (fail)
  change Code.wp Tryd.prog _ _ _ ((w.alloc (.cells #[.bool k, .slice A l c] 25)).alloc (.cells #[.bool false, .slice none 0 0] 25))
  have nb1 := (Bx.alloc (Bx.new 25 w [.bool k, .slice A l c] (leaf2 (Leaf.bool k) (Leaf.slice A l c))) (.cells #[.bool false, .slice none 0 0] 25))
  have nb2 := (Bx.new 25 (w.alloc (.cells #[.bool k, .slice A l c] 25)) [.bool false, .slice none 0 0] (leaf2 (Leaf.bool false) (Leaf.slice none 0 0)))
  rw [show (w.alloc (.cells #[.bool k, .slice A l c] 25)).heap.size = w.heap.size + 1 by simp] at nb2
  have nkeep := (Keep.alloc (Keep.alloc (Keep.refl w) (.cells #[.bool k, .slice A l c] 25)) (.cells #[.bool false, .slice none 0 0] 25))
  have nbel : Below w.heap.size w ((w.alloc (.cells #[.bool k, .slice A l c] 25)).alloc (.cells #[.bool false, .slice none 0 0] 25)) := (Below.alloc (Below.alloc (Below.refl w.heap.size w) (by first | omega | (simp; done) | (simp; omega) | (simp [World.setCell]; done) | (simp [World.setCell]; omega)) (.cells #[.bool k, .slice A l c] 25)) (by first | omega | (simp; done) | (simp; omega) | (simp [World.setCell]; done) | (simp [World.setCell]; omega)) (.cells #[.bool false, .slice none 0 0] 25))
  generalize (w.alloc (.cells #[.bool k, .slice A l c] 25)).alloc (.cells #[.bool false, .slice none 0 0] 25) = W1 at *
  have b1 := Lib.hid nb1
  have b2 := Lib.hid nb2
  clear nb1 nb2
  have f_ := Lib.hid (H1.out.kept nkeep)
  clear H1
  have H1 := f_
  clear f_
  clear nkeep
  have HB2 := Lib.hid nbel
  clear nbel
  have x1_0 : W1.cell? ⟨w.heap.size, 0, none⟩ = some (.bool k) := (b1.out).cell 0
  have x1_1 : W1.cell? ⟨w.heap.size, 1, none⟩ = some (.slice A l c) := (b1.out).cell 1
  have x2_0 : W1.cell? ⟨w.heap.size + 1, 0, none⟩ = some (.bool false) := (b2.out).cell 0
  have x2_1 : W1.cell? ⟨w.heap.size + 1, 1, none⟩ = some (.slice none 0 0) := (b2.out).cell 1
  have szb : w.heap.size ≤ W1.heap.size := HB2.out.size
  have s1 : w.heap.size < W1.heap.size := (b1.out).lt
  have s2 : w.heap.size + 1 < W1.heap.size := (b2.out).lt
  clear x1_0 x1_1 x2_0 x2_1 szb s1 s2
  have x1_0 : W1.cell? ⟨w.heap.size, 0, none⟩ = some (.bool k) := (b1.out).cell 0
  have x1_1 : W1.cell? ⟨w.heap.size, 1, none⟩ = some (.slice A l c) := (b1.out).cell 1
  have x2_0 : W1.cell? ⟨w.heap.size + 1, 0, none⟩ = some (.bool false) := (b2.out).cell 0
  have x2_1 : W1.cell? ⟨w.heap.size + 1, 1, none⟩ = some (.slice none 0 0) := (b2.out).cell 1
  have z2_0 : W1.frozen? ⟨w.heap.size + 1, 0, none⟩ = false := (b2.out).frozen 0
  have z2_1 : W1.frozen? ⟨w.heap.size + 1, 1, none⟩ = false := (b2.out).frozen 1
  have szb : w.heap.size ≤ W1.heap.size := HB2.out.size
  have s1 : w.heap.size < W1.heap.size := (b1.out).lt
  have s2 : w.heap.size + 1 < W1.heap.size := (b2.out).lt
  go_wp2_with fail
  refine (add_fact H1.out (PInt.zero 0 _) (by omega) (by omega)).mono ?_
  rintro e W3 ⟨v, rfl, hv, hb⟩
  have nb := Lib.hid ((b1.out).up hb)
  clear b1
  have b1 := nb
  clear nb
  have nb := Lib.hid ((b2.out).up hb)
  clear b2
  have b2 := nb
  clear nb
  have f_ := Lib.hid (H1.out.kept (Keep.ofBelow hb))
  clear H1
  have H1 := f_
  clear f_
  have nbel := below_then HB2.out hb HB2.out.size
  have HB4 := Lib.hid nbel
  clear nbel
  clear HB2
  clear hb
  clear x1_0 x1_1 x2_0 x2_1 z2_0 z2_1 szb s1 s2
  have x1_0 : W3.cell? ⟨w.heap.size, 0, none⟩ = some (.bool k) := (b1.out).cell 0
  have x1_1 : W3.cell? ⟨w.heap.size, 1, none⟩ = some (.slice A l c) := (b1.out).cell 1
  have x2_0 : W3.cell? ⟨w.heap.size + 1, 0, none⟩ = some (.bool false) := (b2.out).cell 0
  have x2_1 : W3.cell? ⟨w.heap.size + 1, 1, none⟩ = some (.slice none 0 0) := (b2.out).cell 1
  have z2_0 : W3.frozen? ⟨w.heap.size + 1, 0, none⟩ = false := (b2.out).frozen 0
  have z2_1 : W3.frozen? ⟨w.heap.size + 1, 1, none⟩ = false := (b2.out).frozen 1
  have szb : w.heap.size ≤ W3.heap.size := HB4.out.size
  have s1 : w.heap.size < W3.heap.size := (b1.out).lt
  have s2 : w.heap.size + 1 < W3.heap.size := (b2.out).lt
  obtain ⟨k1, A1, l1, c1, rfl⟩ := hv.open
  have HV := Lib.hid hv
  clear hv
  go_wp2_with fail
  have hkeep := (Keep.set (Keep.set (Keep.refl W3) b2.out 0 (Leaf.bool k1)) (Bx.set b2.out 0 (Leaf.bool k1)) 1 (Leaf.slice A1 l1 c1))
  have hbel := (Below.setCell (p := ⟨w.heap.size + 1, 1, none⟩) (Below.setCell (p := ⟨w.heap.size + 1, 0, none⟩) HB4.out (by first | omega | (simp; done) | (simp; omega)) (.bool k1)) (by first | omega | (simp; done) | (simp; omega)) (.slice A1 l1 c1))
  refine bodyPost_ret (v := .agg #[.bool k1, .slice A1 l1 c1]) (by simp [results, Tryd.results22, go_sem, x2_0, x2_1]) rfl ⟨_, rfl, by have h := HV.out.kept hkeep; simpa using h, hbel⟩
end Go.Proofs.YtmpdpfiokjepaaaDoor
