/- Contracts of the functions that the statement reaches, part 7: what was proved of each, callees first. -/
import Derived.Test.YtmpdpfiokjepaaaDoorM6
/- Add of rational numbers. -/
namespace Go.Proofs.YtmpdpfiokjepaaaDoor
open Go.RowKit
open AS (Keep NoInt)

def ratAddFL (x y : Rat) (n : Nat) : List (Nat × AS.Fact) := [(19, AS.Fact.int (x.num) n), (20, AS.Fact.int ((y.den : Int)) n), (21, AS.Fact.int ((x.num) * ((y.den : Int))) (n + n)), (22, AS.Fact.int (y.num) n), (23, AS.Fact.int ((x.den : Int)) n), (24, AS.Fact.int ((y.num) * ((x.den : Int))) (n + n)), (25, AS.Fact.int (((x.num) * ((y.den : Int))) + ((y.num) * ((x.den : Int)))) (((n + n) + (n + n)) + 1)), (26, AS.Fact.int ((x.den : Int)) n), (27, AS.Fact.int ((y.den : Int)) n), (28, AS.Fact.int (((x.den : Int)) * ((y.den : Int))) (n + n)), (29, AS.Fact.pair (x.num * (y.den : Int) + y.num * (x.den : Int)) ((x.den : Int) * (y.den : Int)) (4 * n + 1)), (30, AS.Fact.rat (x + y) (4 * n + 2))]
set_option maxRecDepth 20000 in
set_option maxHeartbeats 3200000 in
theorem ratAdd_fact {x y : Rat} {n : Nat} {v v2 : Value} {w : World} (h : PRat x n v w) (h2 : PRat y n v2 w) (hn3 : 3 ≤ n) (hn : n ≤ 10000) :
    Calls Tryd.prog 16 #[v, v2] w fun e w' => ∃ v, e = .returned v ∧ PRat (x + y) (4 * n + 2) v w' ∧ Below w.heap.size w w' := by
  obtain ⟨k, A, l, c, k', A', l', c', rfl⟩ := h.open
  obtain ⟨r, E, m, d, r', E', m', d', rfl⟩ := h2.open
  have H1 := Lib.hid h
  have H2 := Lib.hid h2
  clear h h2
  go_enter Tryd.func16, Tryd.ntmps16
  go_upto_region 1 with (fail)
  change Code.wp Tryd.prog _ _ _ (((w.alloc (.cells #[.bool k, .slice A l c, .bool k', .slice A' l' c'] 27)).alloc (.cells #[.bool r, .slice E m d, .bool r', .slice E' m' d'] 27)).alloc (.cells #[.bool false, .slice none 0 0, .bool false, .slice none 0 0] 27))
  have nb2 := (Bx.alloc (Bx.alloc (Bx.new 27 w [.bool k, .slice A l c, .bool k', .slice A' l' c'] (leaf4 (Leaf.bool k) (Leaf.slice A l c) (Leaf.bool k') (Leaf.slice A' l' c'))) (.cells #[.bool r, .slice E m d, .bool r', .slice E' m' d'] 27)) (.cells #[.bool false, .slice none 0 0, .bool false, .slice none 0 0] 27))
  have nb3 := (Bx.alloc (Bx.new 27 (w.alloc (.cells #[.bool k, .slice A l c, .bool k', .slice A' l' c'] 27)) [.bool r, .slice E m d, .bool r', .slice E' m' d'] (leaf4 (Leaf.bool r) (Leaf.slice E m d) (Leaf.bool r') (Leaf.slice E' m' d'))) (.cells #[.bool false, .slice none 0 0, .bool false, .slice none 0 0] 27))
  rw [show (w.alloc (.cells #[.bool k, .slice A l c, .bool k', .slice A' l' c'] 27)).heap.size = w.heap.size + 1 by simp] at nb3
  have nb4 := (Bx.new 27 ((w.alloc (.cells #[.bool k, .slice A l c, .bool k', .slice A' l' c'] 27)).alloc (.cells #[.bool r, .slice E m d, .bool r', .slice E' m' d'] 27)) [.bool false, .slice none 0 0, .bool false, .slice none 0 0] (leaf4 (Leaf.bool false) (Leaf.slice none 0 0) (Leaf.bool false) (Leaf.slice none 0 0)))
  rw [show ((w.alloc (.cells #[.bool k, .slice A l c, .bool k', .slice A' l' c'] 27)).alloc (.cells #[.bool r, .slice E m d, .bool r', .slice E' m' d'] 27)).heap.size = w.heap.size + 1 + 1 by simp] at nb4
  have nkeep := (Keep.alloc (Keep.alloc (Keep.alloc (Keep.refl w) (.cells #[.bool k, .slice A l c, .bool k', .slice A' l' c'] 27)) (.cells #[.bool r, .slice E m d, .bool r', .slice E' m' d'] 27)) (.cells #[.bool false, .slice none 0 0, .bool false, .slice none 0 0] 27))
  have nbel : Below w.heap.size w (((w.alloc (.cells #[.bool k, .slice A l c, .bool k', .slice A' l' c'] 27)).alloc (.cells #[.bool r, .slice E m d, .bool r', .slice E' m' d'] 27)).alloc (.cells #[.bool false, .slice none 0 0, .bool false, .slice none 0 0] 27)) := (Below.alloc (Below.alloc (Below.alloc (Below.refl w.heap.size w) (by first | omega | (simp; done) | (simp; omega) | (simp [World.setCell]; done) | (simp [World.setCell]; omega)) (.cells #[.bool k, .slice A l c, .bool k', .slice A' l' c'] 27)) (by first | omega | (simp; done) | (simp; omega) | (simp [World.setCell]; done) | (simp [World.setCell]; omega)) (.cells #[.bool r, .slice E m d, .bool r', .slice E' m' d'] 27)) (by first | omega | (simp; done) | (simp; omega) | (simp [World.setCell]; done) | (simp [World.setCell]; omega)) (.cells #[.bool false, .slice none 0 0, .bool false, .slice none 0 0] 27))
  generalize ((w.alloc (.cells #[.bool k, .slice A l c, .bool k', .slice A' l' c'] 27)).alloc (.cells #[.bool r, .slice E m d, .bool r', .slice E' m' d'] 27)).alloc (.cells #[.bool false, .slice none 0 0, .bool false, .slice none 0 0] 27) = W1 at *
  have b2 := Lib.hid nb2
  have b3 := Lib.hid nb3
  have b4 := Lib.hid nb4
  clear nb2 nb3 nb4
  have f_ := Lib.hid (H1.out.kept nkeep)
  clear H1
  have H1 := f_
  clear f_
  have f_ := Lib.hid (H2.out.kept nkeep)
  clear H2
  have H2 := f_
  clear f_
  clear nkeep
  have HB2 := Lib.hid nbel
  clear nbel
  have x2_0 : W1.cell? ⟨w.heap.size, 0, none⟩ = some (.bool k) := (b2.out).cell 0
  have x2_1 : W1.cell? ⟨w.heap.size, 1, none⟩ = some (.slice A l c) := (b2.out).cell 1
  have x2_2 : W1.cell? ⟨w.heap.size, 2, none⟩ = some (.bool k') := (b2.out).cell 2
  have x2_3 : W1.cell? ⟨w.heap.size, 3, none⟩ = some (.slice A' l' c') := (b2.out).cell 3
  have x3_0 : W1.cell? ⟨w.heap.size + 1, 0, none⟩ = some (.bool r) := (b3.out).cell 0
  have x3_1 : W1.cell? ⟨w.heap.size + 1, 1, none⟩ = some (.slice E m d) := (b3.out).cell 1
  have x3_2 : W1.cell? ⟨w.heap.size + 1, 2, none⟩ = some (.bool r') := (b3.out).cell 2
  have x3_3 : W1.cell? ⟨w.heap.size + 1, 3, none⟩ = some (.slice E' m' d') := (b3.out).cell 3
  have x4_0 : W1.cell? ⟨w.heap.size + 1 + 1, 0, none⟩ = some (.bool false) := (b4.out).cell 0
  have x4_1 : W1.cell? ⟨w.heap.size + 1 + 1, 1, none⟩ = some (.slice none 0 0) := (b4.out).cell 1
  have x4_2 : W1.cell? ⟨w.heap.size + 1 + 1, 2, none⟩ = some (.bool false) := (b4.out).cell 2
  have x4_3 : W1.cell? ⟨w.heap.size + 1 + 1, 3, none⟩ = some (.slice none 0 0) := (b4.out).cell 3
  have szb : w.heap.size ≤ W1.heap.size := HB2.out.size
  have s2 : w.heap.size < W1.heap.size := (b2.out).lt
  have s3 : w.heap.size + 1 < W1.heap.size := (b3.out).lt
  have s4 : w.heap.size + 1 + 1 < W1.heap.size := (b4.out).lt
  go_wp2_with fail
  refine (terms_fact H1.out hn3).mono ?_
  rintro e W3 ⟨k1, A1, l1, c1, j1, B1, o1, e1, rfl, ha_, hc_, hb⟩
  have nb := Lib.hid ((b2.out).up hb)
  clear b2
  have b2 := nb
  clear nb
  have nb := Lib.hid ((b3.out).up hb)
  clear b3
  have b3 := nb
  clear nb
  have nb := Lib.hid ((b4.out).up hb)
  clear b4
  have b4 := nb
  clear nb
  have f_ := Lib.hid (H1.out.kept (Keep.ofBelow hb))
  clear H1
  have H1 := f_
  clear f_
  have f_ := Lib.hid (H2.out.kept (Keep.ofBelow hb))
  clear H2
  have H2 := f_
  clear f_
  have nbel := below_then HB2.out hb HB2.out.size
  have HB4 := Lib.hid nbel
  clear nbel
  clear HB2
  clear hb
  clear x2_0 x2_1 x2_2 x2_3 x3_0 x3_1 x3_2 x3_3 x4_0 x4_1 x4_2 x4_3 szb s2 s3 s4
  have x2_0 : W3.cell? ⟨w.heap.size, 0, none⟩ = some (.bool k) := (b2.out).cell 0
  have x2_1 : W3.cell? ⟨w.heap.size, 1, none⟩ = some (.slice A l c) := (b2.out).cell 1
  have x2_2 : W3.cell? ⟨w.heap.size, 2, none⟩ = some (.bool k') := (b2.out).cell 2
  have x2_3 : W3.cell? ⟨w.heap.size, 3, none⟩ = some (.slice A' l' c') := (b2.out).cell 3
  have x3_0 : W3.cell? ⟨w.heap.size + 1, 0, none⟩ = some (.bool r) := (b3.out).cell 0
  have x3_1 : W3.cell? ⟨w.heap.size + 1, 1, none⟩ = some (.slice E m d) := (b3.out).cell 1
  have x3_2 : W3.cell? ⟨w.heap.size + 1, 2, none⟩ = some (.bool r') := (b3.out).cell 2
  have x3_3 : W3.cell? ⟨w.heap.size + 1, 3, none⟩ = some (.slice E' m' d') := (b3.out).cell 3
  have x4_0 : W3.cell? ⟨w.heap.size + 1 + 1, 0, none⟩ = some (.bool false) := (b4.out).cell 0
  have x4_1 : W3.cell? ⟨w.heap.size + 1 + 1, 1, none⟩ = some (.slice none 0 0) := (b4.out).cell 1
  have x4_2 : W3.cell? ⟨w.heap.size + 1 + 1, 2, none⟩ = some (.bool false) := (b4.out).cell 2
  have x4_3 : W3.cell? ⟨w.heap.size + 1 + 1, 3, none⟩ = some (.slice none 0 0) := (b4.out).cell 3
  have szb : w.heap.size ≤ W3.heap.size := HB4.out.size
  have s2 : w.heap.size < W3.heap.size := (b2.out).lt
  have s3 : w.heap.size + 1 < W3.heap.size := (b3.out).lt
  have s4 : w.heap.size + 1 + 1 < W3.heap.size := (b4.out).lt
  have HA := Lib.hid ha_
  have HB := Lib.hid hc_
  clear ha_ hc_
  go_upto_region 2 with (fail)
  have q5 : w.heap.size < W3.heap.size := (b2.out).lt
  have q6 : w.heap.size + 1 < W3.heap.size := (b3.out).lt
  have q7 : w.heap.size + 1 + 1 < W3.heap.size := (b4.out).lt
  change Code.wp Tryd.prog _ _ _ ((W3.alloc (.cells #[.bool k1, .slice A1 l1 c1] 25)).alloc (.cells #[.bool j1, .slice B1 o1 e1] 25))
  have nb2 : Bx 27 ((W3.alloc (.cells #[.bool k1, .slice A1 l1 c1] 25)).alloc (.cells #[.bool j1, .slice B1 o1 e1] 25)) w.heap.size [.bool k, .slice A l c, .bool k', .slice A' l' c'] := (Bx.alloc (Bx.alloc b2.out (.cells #[.bool k1, .slice A1 l1 c1] 25)) (.cells #[.bool j1, .slice B1 o1 e1] 25))
  have nb3 : Bx 27 ((W3.alloc (.cells #[.bool k1, .slice A1 l1 c1] 25)).alloc (.cells #[.bool j1, .slice B1 o1 e1] 25)) (w.heap.size + 1) [.bool r, .slice E m d, .bool r', .slice E' m' d'] := (Bx.alloc (Bx.alloc b3.out (.cells #[.bool k1, .slice A1 l1 c1] 25)) (.cells #[.bool j1, .slice B1 o1 e1] 25))
  have nb4 : Bx 27 ((W3.alloc (.cells #[.bool k1, .slice A1 l1 c1] 25)).alloc (.cells #[.bool j1, .slice B1 o1 e1] 25)) (w.heap.size + 1 + 1) [.bool false, .slice none 0 0, .bool false, .slice none 0 0] := (Bx.alloc (Bx.alloc b4.out (.cells #[.bool k1, .slice A1 l1 c1] 25)) (.cells #[.bool j1, .slice B1 o1 e1] 25))
  have nb5 := (Bx.alloc (Bx.new 25 W3 [.bool k1, .slice A1 l1 c1] (leaf2 (Leaf.bool k1) (Leaf.slice A1 l1 c1))) (.cells #[.bool j1, .slice B1 o1 e1] 25))
  have nb6 := (Bx.new 25 (W3.alloc (.cells #[.bool k1, .slice A1 l1 c1] 25)) [.bool j1, .slice B1 o1 e1] (leaf2 (Leaf.bool j1) (Leaf.slice B1 o1 e1)))
  rw [show (W3.alloc (.cells #[.bool k1, .slice A1 l1 c1] 25)).heap.size = W3.heap.size + 1 by simp] at nb6
  have nkeep := (Keep.alloc (Keep.alloc (Keep.refl W3) (.cells #[.bool k1, .slice A1 l1 c1] 25)) (.cells #[.bool j1, .slice B1 o1 e1] 25))
  have nbel : Below w.heap.size w ((W3.alloc (.cells #[.bool k1, .slice A1 l1 c1] 25)).alloc (.cells #[.bool j1, .slice B1 o1 e1] 25)) := (Below.alloc (Below.alloc HB4.out (by first | omega | (simp; done) | (simp; omega) | (simp [World.setCell]; done) | (simp [World.setCell]; omega)) (.cells #[.bool k1, .slice A1 l1 c1] 25)) (by first | omega | (simp; done) | (simp; omega) | (simp [World.setCell]; done) | (simp [World.setCell]; omega)) (.cells #[.bool j1, .slice B1 o1 e1] 25))
  generalize (W3.alloc (.cells #[.bool k1, .slice A1 l1 c1] 25)).alloc (.cells #[.bool j1, .slice B1 o1 e1] 25) = W8 at *
  clear x2_0 x2_1 x2_2 x2_3 x3_0 x3_1 x3_2 x3_3 x4_0 x4_1 x4_2 x4_3 szb s2 s3 s4
  clear b2 b3 b4
  have b2 := Lib.hid nb2
  have b3 := Lib.hid nb3
  have b4 := Lib.hid nb4
  have b5 := Lib.hid nb5
  have b6 := Lib.hid nb6
  clear nb2 nb3 nb4 nb5 nb6
  have f_ := Lib.hid (H1.out.kept nkeep)
  clear H1
  have H1 := f_
  clear f_
  have f_ := Lib.hid (H2.out.kept nkeep)
  clear H2
  have H2 := f_
  clear f_
  have f_ := Lib.hid (HA.out.kept nkeep)
  clear HA
  have HA := f_
  clear f_
  have f_ := Lib.hid (HB.out.kept nkeep)
  clear HB
  have HB := f_
  clear f_
  clear nkeep
  have HB9 := Lib.hid nbel
  clear nbel
  clear HB4
  have x2_0 : W8.cell? ⟨w.heap.size, 0, none⟩ = some (.bool k) := (b2.out).cell 0
  have x2_1 : W8.cell? ⟨w.heap.size, 1, none⟩ = some (.slice A l c) := (b2.out).cell 1
  have x2_2 : W8.cell? ⟨w.heap.size, 2, none⟩ = some (.bool k') := (b2.out).cell 2
  have x2_3 : W8.cell? ⟨w.heap.size, 3, none⟩ = some (.slice A' l' c') := (b2.out).cell 3
  have x3_0 : W8.cell? ⟨w.heap.size + 1, 0, none⟩ = some (.bool r) := (b3.out).cell 0
  have x3_1 : W8.cell? ⟨w.heap.size + 1, 1, none⟩ = some (.slice E m d) := (b3.out).cell 1
  have x3_2 : W8.cell? ⟨w.heap.size + 1, 2, none⟩ = some (.bool r') := (b3.out).cell 2
  have x3_3 : W8.cell? ⟨w.heap.size + 1, 3, none⟩ = some (.slice E' m' d') := (b3.out).cell 3
  have x4_0 : W8.cell? ⟨w.heap.size + 1 + 1, 0, none⟩ = some (.bool false) := (b4.out).cell 0
  have x4_1 : W8.cell? ⟨w.heap.size + 1 + 1, 1, none⟩ = some (.slice none 0 0) := (b4.out).cell 1
  have x4_2 : W8.cell? ⟨w.heap.size + 1 + 1, 2, none⟩ = some (.bool false) := (b4.out).cell 2
  have x4_3 : W8.cell? ⟨w.heap.size + 1 + 1, 3, none⟩ = some (.slice none 0 0) := (b4.out).cell 3
  have x5_0 : W8.cell? ⟨W3.heap.size, 0, none⟩ = some (.bool k1) := (b5.out).cell 0
  have x5_1 : W8.cell? ⟨W3.heap.size, 1, none⟩ = some (.slice A1 l1 c1) := (b5.out).cell 1
  have x6_0 : W8.cell? ⟨W3.heap.size + 1, 0, none⟩ = some (.bool j1) := (b6.out).cell 0
  have x6_1 : W8.cell? ⟨W3.heap.size + 1, 1, none⟩ = some (.slice B1 o1 e1) := (b6.out).cell 1
  have szb : w.heap.size ≤ W8.heap.size := HB9.out.size
  have s2 : w.heap.size < W8.heap.size := (b2.out).lt
  have s3 : w.heap.size + 1 < W8.heap.size := (b3.out).lt
  have s4 : w.heap.size + 1 + 1 < W8.heap.size := (b4.out).lt
  have s5 : W3.heap.size < W8.heap.size := (b5.out).lt
  have s6 : W3.heap.size + 1 < W8.heap.size := (b6.out).lt
  go_wp2_with fail
  refine (terms_fact H2.out hn3).mono ?_
  rintro e W10 ⟨k2, A2, l2, c2, j2, B2, o2, e2, rfl, ha_, hc_, hb⟩
  have nb := Lib.hid ((b2.out).up hb)
  clear b2
  have b2 := nb
  clear nb
  have nb := Lib.hid ((b3.out).up hb)
  clear b3
  have b3 := nb
  clear nb
  have nb := Lib.hid ((b4.out).up hb)
  clear b4
  have b4 := nb
  clear nb
  have nb := Lib.hid ((b5.out).up hb)
  clear b5
  have b5 := nb
  clear nb
  have nb := Lib.hid ((b6.out).up hb)
  clear b6
  have b6 := nb
  clear nb
  have f_ := Lib.hid (H1.out.kept (Keep.ofBelow hb))
  clear H1
  have H1 := f_
  clear f_
  have f_ := Lib.hid (H2.out.kept (Keep.ofBelow hb))
  clear H2
  have H2 := f_
  clear f_
  have f_ := Lib.hid (HA.out.kept (Keep.ofBelow hb))
  clear HA
  have HA := f_
  clear f_
  have f_ := Lib.hid (HB.out.kept (Keep.ofBelow hb))
  clear HB
  have HB := f_
  clear f_
  have nbel := below_then HB9.out hb HB9.out.size
  have HB11 := Lib.hid nbel
  clear nbel
  clear HB9
  clear hb
  clear x2_0 x2_1 x2_2 x2_3 x3_0 x3_1 x3_2 x3_3 x4_0 x4_1 x4_2 x4_3 x5_0 x5_1 x6_0 x6_1 szb s2 s3 s4 s5 s6
  have x2_0 : W10.cell? ⟨w.heap.size, 0, none⟩ = some (.bool k) := (b2.out).cell 0
  have x2_1 : W10.cell? ⟨w.heap.size, 1, none⟩ = some (.slice A l c) := (b2.out).cell 1
  have x2_2 : W10.cell? ⟨w.heap.size, 2, none⟩ = some (.bool k') := (b2.out).cell 2
  have x2_3 : W10.cell? ⟨w.heap.size, 3, none⟩ = some (.slice A' l' c') := (b2.out).cell 3
  have x3_0 : W10.cell? ⟨w.heap.size + 1, 0, none⟩ = some (.bool r) := (b3.out).cell 0
  have x3_1 : W10.cell? ⟨w.heap.size + 1, 1, none⟩ = some (.slice E m d) := (b3.out).cell 1
  have x3_2 : W10.cell? ⟨w.heap.size + 1, 2, none⟩ = some (.bool r') := (b3.out).cell 2
  have x3_3 : W10.cell? ⟨w.heap.size + 1, 3, none⟩ = some (.slice E' m' d') := (b3.out).cell 3
  have x4_0 : W10.cell? ⟨w.heap.size + 1 + 1, 0, none⟩ = some (.bool false) := (b4.out).cell 0
  have x4_1 : W10.cell? ⟨w.heap.size + 1 + 1, 1, none⟩ = some (.slice none 0 0) := (b4.out).cell 1
  have x4_2 : W10.cell? ⟨w.heap.size + 1 + 1, 2, none⟩ = some (.bool false) := (b4.out).cell 2
  have x4_3 : W10.cell? ⟨w.heap.size + 1 + 1, 3, none⟩ = some (.slice none 0 0) := (b4.out).cell 3
  have x5_0 : W10.cell? ⟨W3.heap.size, 0, none⟩ = some (.bool k1) := (b5.out).cell 0
  have x5_1 : W10.cell? ⟨W3.heap.size, 1, none⟩ = some (.slice A1 l1 c1) := (b5.out).cell 1
  have x6_0 : W10.cell? ⟨W3.heap.size + 1, 0, none⟩ = some (.bool j1) := (b6.out).cell 0
  have x6_1 : W10.cell? ⟨W3.heap.size + 1, 1, none⟩ = some (.slice B1 o1 e1) := (b6.out).cell 1
  have szb : w.heap.size ≤ W10.heap.size := HB11.out.size
  have s2 : w.heap.size < W10.heap.size := (b2.out).lt
  have s3 : w.heap.size + 1 < W10.heap.size := (b3.out).lt
  have s4 : w.heap.size + 1 + 1 < W10.heap.size := (b4.out).lt
  have s5 : W3.heap.size < W10.heap.size := (b5.out).lt
  have s6 : W3.heap.size + 1 < W10.heap.size := (b6.out).lt
  have HC := Lib.hid ha_
  have HD := Lib.hid hc_
  clear ha_ hc_
  go_upto_region 3 with (fail)
  have q12 : w.heap.size < W10.heap.size := (b2.out).lt
  have q13 : w.heap.size + 1 < W10.heap.size := (b3.out).lt
  have q14 : w.heap.size + 1 + 1 < W10.heap.size := (b4.out).lt
  have q15 : W3.heap.size < W10.heap.size := (b5.out).lt
  have q16 : W3.heap.size + 1 < W10.heap.size := (b6.out).lt
  change Code.wp Tryd.prog _ _ _ ((W10.alloc (.cells #[.bool k2, .slice A2 l2 c2] 25)).alloc (.cells #[.bool j2, .slice B2 o2 e2] 25))
  have nb2 : Bx 27 ((W10.alloc (.cells #[.bool k2, .slice A2 l2 c2] 25)).alloc (.cells #[.bool j2, .slice B2 o2 e2] 25)) w.heap.size [.bool k, .slice A l c, .bool k', .slice A' l' c'] := (Bx.alloc (Bx.alloc b2.out (.cells #[.bool k2, .slice A2 l2 c2] 25)) (.cells #[.bool j2, .slice B2 o2 e2] 25))
  have nb3 : Bx 27 ((W10.alloc (.cells #[.bool k2, .slice A2 l2 c2] 25)).alloc (.cells #[.bool j2, .slice B2 o2 e2] 25)) (w.heap.size + 1) [.bool r, .slice E m d, .bool r', .slice E' m' d'] := (Bx.alloc (Bx.alloc b3.out (.cells #[.bool k2, .slice A2 l2 c2] 25)) (.cells #[.bool j2, .slice B2 o2 e2] 25))
  have nb4 : Bx 27 ((W10.alloc (.cells #[.bool k2, .slice A2 l2 c2] 25)).alloc (.cells #[.bool j2, .slice B2 o2 e2] 25)) (w.heap.size + 1 + 1) [.bool false, .slice none 0 0, .bool false, .slice none 0 0] := (Bx.alloc (Bx.alloc b4.out (.cells #[.bool k2, .slice A2 l2 c2] 25)) (.cells #[.bool j2, .slice B2 o2 e2] 25))
  have nb5 : Bx 25 ((W10.alloc (.cells #[.bool k2, .slice A2 l2 c2] 25)).alloc (.cells #[.bool j2, .slice B2 o2 e2] 25)) W3.heap.size [.bool k1, .slice A1 l1 c1] := (Bx.alloc (Bx.alloc b5.out (.cells #[.bool k2, .slice A2 l2 c2] 25)) (.cells #[.bool j2, .slice B2 o2 e2] 25))
  have nb6 : Bx 25 ((W10.alloc (.cells #[.bool k2, .slice A2 l2 c2] 25)).alloc (.cells #[.bool j2, .slice B2 o2 e2] 25)) (W3.heap.size + 1) [.bool j1, .slice B1 o1 e1] := (Bx.alloc (Bx.alloc b6.out (.cells #[.bool k2, .slice A2 l2 c2] 25)) (.cells #[.bool j2, .slice B2 o2 e2] 25))
  have nb7 := (Bx.alloc (Bx.new 25 W10 [.bool k2, .slice A2 l2 c2] (leaf2 (Leaf.bool k2) (Leaf.slice A2 l2 c2))) (.cells #[.bool j2, .slice B2 o2 e2] 25))
  have nb8 := (Bx.new 25 (W10.alloc (.cells #[.bool k2, .slice A2 l2 c2] 25)) [.bool j2, .slice B2 o2 e2] (leaf2 (Leaf.bool j2) (Leaf.slice B2 o2 e2)))
  rw [show (W10.alloc (.cells #[.bool k2, .slice A2 l2 c2] 25)).heap.size = W10.heap.size + 1 by simp] at nb8
  have nkeep := (Keep.alloc (Keep.alloc (Keep.refl W10) (.cells #[.bool k2, .slice A2 l2 c2] 25)) (.cells #[.bool j2, .slice B2 o2 e2] 25))
  have nbel : Below w.heap.size w ((W10.alloc (.cells #[.bool k2, .slice A2 l2 c2] 25)).alloc (.cells #[.bool j2, .slice B2 o2 e2] 25)) := (Below.alloc (Below.alloc HB11.out (by first | omega | (simp; done) | (simp; omega) | (simp [World.setCell]; done) | (simp [World.setCell]; omega)) (.cells #[.bool k2, .slice A2 l2 c2] 25)) (by first | omega | (simp; done) | (simp; omega) | (simp [World.setCell]; done) | (simp [World.setCell]; omega)) (.cells #[.bool j2, .slice B2 o2 e2] 25))
  generalize (W10.alloc (.cells #[.bool k2, .slice A2 l2 c2] 25)).alloc (.cells #[.bool j2, .slice B2 o2 e2] 25) = W17 at *
  clear x2_0 x2_1 x2_2 x2_3 x3_0 x3_1 x3_2 x3_3 x4_0 x4_1 x4_2 x4_3 x5_0 x5_1 x6_0 x6_1 szb s2 s3 s4 s5 s6
  clear b2 b3 b4 b5 b6
  have b2 := Lib.hid nb2
  have b3 := Lib.hid nb3
  have b4 := Lib.hid nb4
  have b5 := Lib.hid nb5
  have b6 := Lib.hid nb6
  have b7 := Lib.hid nb7
  have b8 := Lib.hid nb8
  clear nb2 nb3 nb4 nb5 nb6 nb7 nb8
  have f_ := Lib.hid (H1.out.kept nkeep)
  clear H1
  have H1 := f_
  clear f_
  have f_ := Lib.hid (H2.out.kept nkeep)
  clear H2
  have H2 := f_
  clear f_
  have f_ := Lib.hid (HA.out.kept nkeep)
  clear HA
  have HA := f_
  clear f_
  have f_ := Lib.hid (HB.out.kept nkeep)
  clear HB
  have HB := f_
  clear f_
  have f_ := Lib.hid (HC.out.kept nkeep)
  clear HC
  have HC := f_
  clear f_
  have f_ := Lib.hid (HD.out.kept nkeep)
  clear HD
  have HD := f_
  clear f_
  clear nkeep
  have HB18 := Lib.hid nbel
  clear nbel
  clear HB11
  have x2_0 : W17.cell? ⟨w.heap.size, 0, none⟩ = some (.bool k) := (b2.out).cell 0
  have x2_1 : W17.cell? ⟨w.heap.size, 1, none⟩ = some (.slice A l c) := (b2.out).cell 1
  have x2_2 : W17.cell? ⟨w.heap.size, 2, none⟩ = some (.bool k') := (b2.out).cell 2
  have x2_3 : W17.cell? ⟨w.heap.size, 3, none⟩ = some (.slice A' l' c') := (b2.out).cell 3
  have x3_0 : W17.cell? ⟨w.heap.size + 1, 0, none⟩ = some (.bool r) := (b3.out).cell 0
  have x3_1 : W17.cell? ⟨w.heap.size + 1, 1, none⟩ = some (.slice E m d) := (b3.out).cell 1
  have x3_2 : W17.cell? ⟨w.heap.size + 1, 2, none⟩ = some (.bool r') := (b3.out).cell 2
  have x3_3 : W17.cell? ⟨w.heap.size + 1, 3, none⟩ = some (.slice E' m' d') := (b3.out).cell 3
  have x4_0 : W17.cell? ⟨w.heap.size + 1 + 1, 0, none⟩ = some (.bool false) := (b4.out).cell 0
  have x4_1 : W17.cell? ⟨w.heap.size + 1 + 1, 1, none⟩ = some (.slice none 0 0) := (b4.out).cell 1
  have x4_2 : W17.cell? ⟨w.heap.size + 1 + 1, 2, none⟩ = some (.bool false) := (b4.out).cell 2
  have x4_3 : W17.cell? ⟨w.heap.size + 1 + 1, 3, none⟩ = some (.slice none 0 0) := (b4.out).cell 3
  have x5_0 : W17.cell? ⟨W3.heap.size, 0, none⟩ = some (.bool k1) := (b5.out).cell 0
  have x5_1 : W17.cell? ⟨W3.heap.size, 1, none⟩ = some (.slice A1 l1 c1) := (b5.out).cell 1
  have x6_0 : W17.cell? ⟨W3.heap.size + 1, 0, none⟩ = some (.bool j1) := (b6.out).cell 0
  have x6_1 : W17.cell? ⟨W3.heap.size + 1, 1, none⟩ = some (.slice B1 o1 e1) := (b6.out).cell 1
  have x7_0 : W17.cell? ⟨W10.heap.size, 0, none⟩ = some (.bool k2) := (b7.out).cell 0
  have x7_1 : W17.cell? ⟨W10.heap.size, 1, none⟩ = some (.slice A2 l2 c2) := (b7.out).cell 1
  have x8_0 : W17.cell? ⟨W10.heap.size + 1, 0, none⟩ = some (.bool j2) := (b8.out).cell 0
  have x8_1 : W17.cell? ⟨W10.heap.size + 1, 1, none⟩ = some (.slice B2 o2 e2) := (b8.out).cell 1
  have szb : w.heap.size ≤ W17.heap.size := HB18.out.size
  have s2 : w.heap.size < W17.heap.size := (b2.out).lt
  have s3 : w.heap.size + 1 < W17.heap.size := (b3.out).lt
  have s4 : w.heap.size + 1 + 1 < W17.heap.size := (b4.out).lt
  have s5 : W3.heap.size < W17.heap.size := (b5.out).lt
  have s6 : W3.heap.size + 1 < W17.heap.size := (b6.out).lt
  have s7 : W10.heap.size < W17.heap.size := (b7.out).lt
  have s8 : W10.heap.size + 1 < W17.heap.size := (b8.out).lt
  refine AS.region_facts (ratAddFL x y n) (JRes w W17 27 (w.heap.size + 1 + 1)) [[], [], [19, 20], [], [], [22, 23], [21, 24], [], [], [26, 27], [25, 28], [29], [30]] [12] [[], [30]] [0, 0, 1, 0, 0, 1, 1, 0, 0, 1, 1, 1, 1] [] (fun u => by simp only [ratAddFL, AS.temps, List.map_cons, List.map_nil, fillL, List.setIfInBounds_toArray, List.set_cons_zero, List.set_cons_succ]; rfl) (by kernel_rfl) (by kernel_rfl) (JRes.st w W17 27 (w.heap.size + 1 + 1)) (below_drew (Below.refl _ _)) ?_ ?_
  · refine AS.StepsOk.cons rfl rfl rfl ?_ ?_
    · intro k_ u w_ hk hJ hF K hK
      clear hF
      obtain rfl : k_ = 0 := Nat.le_zero.1 hk
      have hJ0 : Below W17.heap.size W17 w_ := hJ
      have y0 : w_.cell? ⟨W3.heap.size, 0, none⟩ = some (.bool k1) := ((b5.out).up hJ0).cell 0
      have y1 : w_.cell? ⟨W3.heap.size, 1, none⟩ = some (.slice A1 l1 c1) := ((b5.out).up hJ0).cell 1
      go_simp
      exact hK.out _ _ (Below.refl _ _) ((HA.out).kept (Keep.ofBelow hJ0)) trivial
    refine AS.StepsOk.cons rfl rfl rfl ?_ ?_
    · intro k_ u w_ hk hJ hF K hK
      clear hF
      obtain rfl : k_ = 0 := Nat.le_zero.1 hk
      have hJ0 : Below W17.heap.size W17 w_ := hJ
      have y0 : w_.cell? ⟨W10.heap.size + 1, 0, none⟩ = some (.bool j2) := ((b8.out).up hJ0).cell 0
      have y1 : w_.cell? ⟨W10.heap.size + 1, 1, none⟩ = some (.slice B2 o2 e2) := ((b8.out).up hJ0).cell 1
      go_simp
      exact hK.out _ _ (Below.refl _ _) ((HD.out).kept (Keep.ofBelow hJ0)) trivial
    refine AS.StepsOk.cons rfl rfl rfl ?_ ?_
    · intro k_ u w_ hk hJ hF K hK
      have h19 : PInt (x.num) n (u 19) w_ := AS.facts_get hF 19 (by simp)
      have h20 : PInt ((y.den : Int)) n (u 20) w_ := AS.facts_get hF 20 (by simp)
      clear hF
      go_simp
      refine (mul_fact h19 h20 (by omega) (by omega)).mono ?_
      rintro e w' ⟨v, rfl, hv, hb⟩
      exact hK.out _ _ hb (hv) trivial
    refine AS.StepsOk.cons rfl rfl rfl ?_ ?_
    · intro k_ u w_ hk hJ hF K hK
      clear hF
      obtain rfl : k_ = 0 := Nat.le_zero.1 hk
      have hJ0 : Below W17.heap.size W17 w_ := hJ
      have y0 : w_.cell? ⟨W10.heap.size, 0, none⟩ = some (.bool k2) := ((b7.out).up hJ0).cell 0
      have y1 : w_.cell? ⟨W10.heap.size, 1, none⟩ = some (.slice A2 l2 c2) := ((b7.out).up hJ0).cell 1
      go_simp
      exact hK.out _ _ (Below.refl _ _) ((HC.out).kept (Keep.ofBelow hJ0)) trivial
    refine AS.StepsOk.cons rfl rfl rfl ?_ ?_
    · intro k_ u w_ hk hJ hF K hK
      clear hF
      obtain rfl : k_ = 0 := Nat.le_zero.1 hk
      have hJ0 : Below W17.heap.size W17 w_ := hJ
      have y0 : w_.cell? ⟨W3.heap.size + 1, 0, none⟩ = some (.bool j1) := ((b6.out).up hJ0).cell 0
      have y1 : w_.cell? ⟨W3.heap.size + 1, 1, none⟩ = some (.slice B1 o1 e1) := ((b6.out).up hJ0).cell 1
      go_simp
      exact hK.out _ _ (Below.refl _ _) ((HB.out).kept (Keep.ofBelow hJ0)) trivial
    refine AS.StepsOk.cons rfl rfl rfl ?_ ?_
    · intro k_ u w_ hk hJ hF K hK
      have h22 : PInt (y.num) n (u 22) w_ := AS.facts_get hF 22 (by simp)
      have h23 : PInt ((x.den : Int)) n (u 23) w_ := AS.facts_get hF 23 (by simp)
      clear hF
      go_simp
      refine (mul_fact h22 h23 (by omega) (by omega)).mono ?_
      rintro e w' ⟨v, rfl, hv, hb⟩
      exact hK.out _ _ hb (hv) trivial
    refine AS.StepsOk.cons rfl rfl rfl ?_ ?_
    · intro k_ u w_ hk hJ hF K hK
      have h21 : PInt ((x.num) * ((y.den : Int))) (n + n) (u 21) w_ := AS.facts_get hF 21 (by simp)
      have h24 : PInt ((y.num) * ((x.den : Int))) (n + n) (u 24) w_ := AS.facts_get hF 24 (by simp)
      clear hF
      go_simp
      refine (add_fact h21 h24 (by omega) (by omega)).mono ?_
      rintro e w' ⟨v, rfl, hv, hb⟩
      exact hK.out _ _ hb (hv) trivial
    refine AS.StepsOk.cons rfl rfl rfl ?_ ?_
    · intro k_ u w_ hk hJ hF K hK
      clear hF
      obtain rfl : k_ = 0 := Nat.le_zero.1 hk
      have hJ0 : Below W17.heap.size W17 w_ := hJ
      have y0 : w_.cell? ⟨W3.heap.size + 1, 0, none⟩ = some (.bool j1) := ((b6.out).up hJ0).cell 0
      have y1 : w_.cell? ⟨W3.heap.size + 1, 1, none⟩ = some (.slice B1 o1 e1) := ((b6.out).up hJ0).cell 1
      go_simp
      exact hK.out _ _ (Below.refl _ _) ((HB.out).kept (Keep.ofBelow hJ0)) trivial
    refine AS.StepsOk.cons rfl rfl rfl ?_ ?_
    · intro k_ u w_ hk hJ hF K hK
      clear hF
      obtain rfl : k_ = 0 := Nat.le_zero.1 hk
      have hJ0 : Below W17.heap.size W17 w_ := hJ
      have y0 : w_.cell? ⟨W10.heap.size + 1, 0, none⟩ = some (.bool j2) := ((b8.out).up hJ0).cell 0
      have y1 : w_.cell? ⟨W10.heap.size + 1, 1, none⟩ = some (.slice B2 o2 e2) := ((b8.out).up hJ0).cell 1
      go_simp
      exact hK.out _ _ (Below.refl _ _) ((HD.out).kept (Keep.ofBelow hJ0)) trivial
    refine AS.StepsOk.cons rfl rfl rfl ?_ ?_
    · intro k_ u w_ hk hJ hF K hK
      have h26 : PInt ((x.den : Int)) n (u 26) w_ := AS.facts_get hF 26 (by simp)
      have h27 : PInt ((y.den : Int)) n (u 27) w_ := AS.facts_get hF 27 (by simp)
      clear hF
      go_simp
      refine (mul_fact h26 h27 (by omega) (by omega)).mono ?_
      rintro e w' ⟨v, rfl, hv, hb⟩
      exact hK.out _ _ hb (hv) trivial
    refine AS.StepsOk.cons rfl rfl rfl ?_ ?_
    · intro k_ u w_ hk hJ hF K hK
      have h25 : PInt (((x.num) * ((y.den : Int))) + ((y.num) * ((x.den : Int)))) (((n + n) + (n + n)) + 1) (u 25) w_ := AS.facts_get hF 25 (by simp)
      have h28 : PInt (((x.den : Int)) * ((y.den : Int))) (n + n) (u 28) w_ := AS.facts_get hF 28 (by simp)
      clear hF
      obtain ⟨ka, Aa, la, ca, ea⟩ := h25.open
      obtain ⟨kb, Ab, lb, cb, eb⟩ := h28.open
      rw [ea] at h25
      rw [eb] at h28
      simp only [ea, eb] at hK ⊢
      go_simp
      exact hK.out _ _ (Below.refl _ _) (⟨ka, Aa, la, ca, kb, Ab, lb, cb, rfl, h25.more (by omega), h28.more (by omega)⟩) trivial
    refine AS.StepsOk.cons rfl rfl rfl ?_ ?_
    · intro k_ u w_ hk hJ hF K hK
      have h29 : Pair (x.num * (y.den : Int) + y.num * (x.den : Int)) ((x.den : Int) * (y.den : Int)) (4 * n + 1) (u 29) w_ := AS.facts_get hF 29 (by simp)
      clear hF
      go_simp
      refine (red_pair h29 (by omega) (mul_ne (den_ne x) (den_ne y))).mono ?_
      rintro e w' ⟨v, rfl, hv, hb⟩
      exact hK.out _ _ hb (by rw [add_terms] at hv; exact hv) trivial
    refine AS.StepsOk.store rfl rfl ?_ ?_
    · intro u w_ hJ hAp hF K hK
      have h30 : PRat (x + y) (4 * n + 2) (u 30) w_ := AS.facts_get hF 30 (by simp)
      clear hF
      obtain ⟨k1, A1, l1, c1, k2, A2, l2, c2, e_⟩ := h30.open
      have hJ0 : Below W17.heap.size W17 w_ := hJ
      have bx := (b4.out).up hJ0
      have hbel := below_then HB18.out hJ0 HB18.out.size
      have y0 := bx.cell 0
      have z0 := bx.frozen 0
      have y1 := bx.cell 1
      have z1 := bx.frozen 1
      have y2 := bx.cell 2
      have z2 := bx.frozen 2
      have y3 := bx.cell 3
      have z3 := bx.frozen 3
      simp only [List.getElem?_cons_zero, List.getElem?_cons_succ] at y0 y1 y2 y3
      simp only [e_] at hK ⊢
      go_simp
      exact hK.out undef _ ⟨⟨(Below.setCell (p := ⟨w.heap.size + 1 + 1, 3, none⟩) (Below.setCell (p := ⟨w.heap.size + 1 + 1, 2, none⟩) (Below.setCell (p := ⟨w.heap.size + 1 + 1, 1, none⟩) (Below.setCell (p := ⟨w.heap.size + 1 + 1, 0, none⟩) hbel (by first | omega | (simp; done) | (simp; omega)) (.bool k1)) (by first | omega | (simp; done) | (simp; omega)) (.slice A1 l1 c1)) (by first | omega | (simp; done) | (simp; omega)) (.bool k2)) (by first | omega | (simp; done) | (simp; omega)) (.slice A2 l2 c2)), (by simp only [setCell_size]; first | exact hsz | exact Nat.le_trans HB18.out.size hJ0.size)⟩, [.bool k1, .slice A1 l1 c1, .bool k2, .slice A2 l2 c2], by simp [e_], (Bx.set (Bx.set (Bx.set (Bx.set bx 0 (Leaf.bool k1)) 1 (Leaf.slice A1 l1 c1)) 2 (Leaf.bool k2)) 3 (Leaf.slice A2 l2 c2))⟩ (Keep.set (Keep.set (Keep.set (Keep.set (Keep.refl w_) bx 0 (Leaf.bool k1)) (Bx.set bx 0 (Leaf.bool k1)) 1 (Leaf.slice A1 l1 c1)) (Bx.set (Bx.set bx 0 (Leaf.bool k1)) 1 (Leaf.slice A1 l1 c1)) 2 (Leaf.bool k2)) (Bx.set (Bx.set (Bx.set bx 0 (Leaf.bool k1)) 1 (Leaf.slice A1 l1 c1)) 2 (Leaf.bool k2)) 3 (Leaf.slice A2 l2 c2))
    exact AS.StepsOk.nil
  · intro u W19 hJ9 hF
    have h30 : PRat (x + y) (4 * n + 2) (u 30) W19 := AS.facts_get hF 30 (by simp [ratAddFL, AS.temps])
    clear hF
    obtain ⟨⟨hbel, -⟩, vs, hvs, hbx⟩ := hJ9
    obtain ⟨ka, Aa, la, ca, kb, Ab, lb, cb, ea⟩ := h30.open
    rw [ea] at h30
    obtain rfl : vs = [.bool ka, .slice Aa la ca, .bool kb, .slice Ab lb cb] := by
      have e1 := (List.cons.inj hvs).1
      rw [show u 30 = _ from ea] at e1
      have e2 := congrArg Array.toList (Value.agg.inj e1)
      simpa using e2.symm
    have y0 := hbx.cell 0
    have y1 := hbx.cell 1
    have y2 := hbx.cell 2
    have y3 := hbx.cell 3
    simp only [List.getElem?_cons_zero, List.getElem?_cons_succ] at y0 y1 y2 y3
    go_wp2_with fail
    refine bodyPost_ret (v := .agg #[.bool ka, .slice Aa la ca, .bool kb, .slice Ab lb cb]) (by simp [results, Tryd.results16, go_sem, y0, y1, y2, y3]) rfl ⟨_, rfl, h30, hbel⟩
end Go.Proofs.YtmpdpfiokjepaaaDoor

/- nearest. -/
namespace Go.Proofs.YtmpdpfiokjepaaaDoor
open Go.RowKit
open AS (Keep NoInt)

def nearFLN (a b : Int) (n : Nat) (W20 : World) : List (Nat × AS.Fact) := [(18, AS.Fact.int (a) n), (19, AS.Fact.int (2) 3), (20, AS.Fact.int ((a) * (2)) (n + 3)), (21, AS.Fact.int (-b) n), (22, AS.Fact.int (((a) * (2)) + (-b)) (((n + 3) + n) + 1)), (23, AS.Fact.int (b) n), (24, AS.Fact.int (2) 3), (25, AS.Fact.int ((b) * (2)) (n + 3)), (26, AS.Fact.quo (Int.tdiv ((a) * (2) + (-b)) ((b) * (2))) (Int.tmod ((a) * (2) + (-b)) ((b) * (2))) (2 * n + 5)), (17, AS.Fact.quo (Int.tdiv ((a) * (2) + (-b)) ((b) * (2))) (Int.tmod ((a) * (2) + (-b)) ((b) * (2))) (2 * n + 5)), (27, AS.Fact.int (Int.tdiv ((a) * (2) + (-b)) ((b) * (2))) (2 * n + 5)), (28, AS.Fact.int (Int.tmod ((a) * (2) + (-b)) ((b) * (2))) (2 * n + 5)), (29, AS.Fact.is (.int .i64 0)), (7, AS.Fact.isBox 25 W20.heap.size), (8, AS.Fact.isBox 25 W20.heap.size), (9, AS.Fact.is (.int .i64 0))]
set_option maxRecDepth 20000 in
set_option maxHeartbeats 3200000 in
theorem near_neg {a b : Int} {n : Nat} {k : Bool} {A : Option Addr} {l c : Nat} {k' : Bool} {A' : Option Addr} {l' c' : Nat} {w : World} (h : PInt a n (.agg #[.bool k, .slice A l c]) w) (h2 : PInt b n (.agg #[.bool k', .slice A' l' c']) w) (hn : n ≤ 90000) (hbp : 0 < b) (hc : cmpI a 0 = -1) (ha : a < 0) :
    Calls Tryd.prog 31 #[.agg #[.bool k, .slice A l c], .agg #[.bool k', .slice A' l' c']] w fun e w' => ∃ v, e = .returned v ∧ PInt (rndI a b) (2 * n + 5) v w' ∧ Below w.heap.size w w' := by
  have HBP := Lib.hid hbp
  have H1 := Lib.hid h
  have H2 := Lib.hid h2
  clear h h2
  go_enter Tryd.func31, Tryd.ntmps31
  go_upto_region 1 with (fail)
  change Code.wp Tryd.prog _ _ _ (((w.alloc (.cells #[.bool k, .slice A l c] 25)).alloc (.cells #[.bool k', .slice A' l' c'] 25)).alloc (.cells #[.bool false, .slice none 0 0] 25))
  have nb2 := (Bx.alloc (Bx.alloc (Bx.new 25 w [.bool k, .slice A l c] (leaf2 (Leaf.bool k) (Leaf.slice A l c))) (.cells #[.bool k', .slice A' l' c'] 25)) (.cells #[.bool false, .slice none 0 0] 25))
  have nb3 := (Bx.alloc (Bx.new 25 (w.alloc (.cells #[.bool k, .slice A l c] 25)) [.bool k', .slice A' l' c'] (leaf2 (Leaf.bool k') (Leaf.slice A' l' c'))) (.cells #[.bool false, .slice none 0 0] 25))
  rw [show (w.alloc (.cells #[.bool k, .slice A l c] 25)).heap.size = w.heap.size + 1 by simp] at nb3
  have nb4 := (Bx.new 25 ((w.alloc (.cells #[.bool k, .slice A l c] 25)).alloc (.cells #[.bool k', .slice A' l' c'] 25)) [.bool false, .slice none 0 0] (leaf2 (Leaf.bool false) (Leaf.slice none 0 0)))
  rw [show ((w.alloc (.cells #[.bool k, .slice A l c] 25)).alloc (.cells #[.bool k', .slice A' l' c'] 25)).heap.size = w.heap.size + 1 + 1 by simp] at nb4
  have nkeep := (Keep.alloc (Keep.alloc (Keep.alloc (Keep.refl w) (.cells #[.bool k, .slice A l c] 25)) (.cells #[.bool k', .slice A' l' c'] 25)) (.cells #[.bool false, .slice none 0 0] 25))
  have nbel : Below w.heap.size w (((w.alloc (.cells #[.bool k, .slice A l c] 25)).alloc (.cells #[.bool k', .slice A' l' c'] 25)).alloc (.cells #[.bool false, .slice none 0 0] 25)) := (Below.alloc (Below.alloc (Below.alloc (Below.refl w.heap.size w) (by first | omega | (simp; done) | (simp; omega) | (simp [World.setCell]; done) | (simp [World.setCell]; omega)) (.cells #[.bool k, .slice A l c] 25)) (by first | omega | (simp; done) | (simp; omega) | (simp [World.setCell]; done) | (simp [World.setCell]; omega)) (.cells #[.bool k', .slice A' l' c'] 25)) (by first | omega | (simp; done) | (simp; omega) | (simp [World.setCell]; done) | (simp [World.setCell]; omega)) (.cells #[.bool false, .slice none 0 0] 25))
  generalize ((w.alloc (.cells #[.bool k, .slice A l c] 25)).alloc (.cells #[.bool k', .slice A' l' c'] 25)).alloc (.cells #[.bool false, .slice none 0 0] 25) = W1 at *
  have b2 := Lib.hid nb2
  have b3 := Lib.hid nb3
  have b4 := Lib.hid nb4
  clear nb2 nb3 nb4
  have f_ := Lib.hid (H1.out.kept nkeep)
  clear H1
  have H1 := f_
  clear f_
  have f_ := Lib.hid (H2.out.kept nkeep)
  clear H2
  have H2 := f_
  clear f_
  clear nkeep
  have HB2 := Lib.hid nbel
  clear nbel
  have x2_0 : W1.cell? ⟨w.heap.size, 0, none⟩ = some (.bool k) := (b2.out).cell 0
  have x2_1 : W1.cell? ⟨w.heap.size, 1, none⟩ = some (.slice A l c) := (b2.out).cell 1
  have x3_0 : W1.cell? ⟨w.heap.size + 1, 0, none⟩ = some (.bool k') := (b3.out).cell 0
  have x3_1 : W1.cell? ⟨w.heap.size + 1, 1, none⟩ = some (.slice A' l' c') := (b3.out).cell 1
  have x4_0 : W1.cell? ⟨w.heap.size + 1 + 1, 0, none⟩ = some (.bool false) := (b4.out).cell 0
  have x4_1 : W1.cell? ⟨w.heap.size + 1 + 1, 1, none⟩ = some (.slice none 0 0) := (b4.out).cell 1
  have szb : w.heap.size ≤ W1.heap.size := HB2.out.size
  have s2 : w.heap.size < W1.heap.size := (b2.out).lt
  have s3 : w.heap.size + 1 < W1.heap.size := (b3.out).lt
  have s4 : w.heap.size + 1 + 1 < W1.heap.size := (b4.out).lt
  go_upto_region 2 with (fail)
  have q3 : w.heap.size < W1.heap.size := (b2.out).lt
  have q4 : w.heap.size + 1 < W1.heap.size := (b3.out).lt
  have q5 : w.heap.size + 1 + 1 < W1.heap.size := (b4.out).lt
  change Code.wp Tryd.prog _ _ _ (W1.alloc (.cells #[.bool k', .slice A' l' c'] 25))
  have nb2 : Bx 25 (W1.alloc (.cells #[.bool k', .slice A' l' c'] 25)) w.heap.size [.bool k, .slice A l c] := (Bx.alloc b2.out (.cells #[.bool k', .slice A' l' c'] 25))
  have nb3 : Bx 25 (W1.alloc (.cells #[.bool k', .slice A' l' c'] 25)) (w.heap.size + 1) [.bool k', .slice A' l' c'] := (Bx.alloc b3.out (.cells #[.bool k', .slice A' l' c'] 25))
  have nb4 : Bx 25 (W1.alloc (.cells #[.bool k', .slice A' l' c'] 25)) (w.heap.size + 1 + 1) [.bool false, .slice none 0 0] := (Bx.alloc b4.out (.cells #[.bool k', .slice A' l' c'] 25))
  have nb5 := (Bx.new 25 W1 [.bool k', .slice A' l' c'] (leaf2 (Leaf.bool k') (Leaf.slice A' l' c')))
  have nkeep := (Keep.alloc (Keep.refl W1) (.cells #[.bool k', .slice A' l' c'] 25))
  have nbel : Below w.heap.size w (W1.alloc (.cells #[.bool k', .slice A' l' c'] 25)) := (Below.alloc HB2.out (by first | omega | (simp; done) | (simp; omega) | (simp [World.setCell]; done) | (simp [World.setCell]; omega)) (.cells #[.bool k', .slice A' l' c'] 25))
  generalize W1.alloc (.cells #[.bool k', .slice A' l' c'] 25) = W6 at *
  clear x2_0 x2_1 x3_0 x3_1 x4_0 x4_1 szb s2 s3 s4
  clear b2 b3 b4
  have b2 := Lib.hid nb2
  have b3 := Lib.hid nb3
  have b4 := Lib.hid nb4
  have b5 := Lib.hid nb5
  clear nb2 nb3 nb4 nb5
  have f_ := Lib.hid (H1.out.kept nkeep)
  clear H1
  have H1 := f_
  clear f_
  have f_ := Lib.hid (H2.out.kept nkeep)
  clear H2
  have H2 := f_
  clear f_
  clear nkeep
  have HB7 := Lib.hid nbel
  clear nbel
  clear HB2
  have x2_0 : W6.cell? ⟨w.heap.size, 0, none⟩ = some (.bool k) := (b2.out).cell 0
  have x2_1 : W6.cell? ⟨w.heap.size, 1, none⟩ = some (.slice A l c) := (b2.out).cell 1
  have x3_0 : W6.cell? ⟨w.heap.size + 1, 0, none⟩ = some (.bool k') := (b3.out).cell 0
  have x3_1 : W6.cell? ⟨w.heap.size + 1, 1, none⟩ = some (.slice A' l' c') := (b3.out).cell 1
  have x4_0 : W6.cell? ⟨w.heap.size + 1 + 1, 0, none⟩ = some (.bool false) := (b4.out).cell 0
  have x4_1 : W6.cell? ⟨w.heap.size + 1 + 1, 1, none⟩ = some (.slice none 0 0) := (b4.out).cell 1
  have x5_0 : W6.cell? ⟨W1.heap.size, 0, none⟩ = some (.bool k') := (b5.out).cell 0
  have x5_1 : W6.cell? ⟨W1.heap.size, 1, none⟩ = some (.slice A' l' c') := (b5.out).cell 1
  have szb : w.heap.size ≤ W6.heap.size := HB7.out.size
  have s2 : w.heap.size < W6.heap.size := (b2.out).lt
  have s3 : w.heap.size + 1 < W6.heap.size := (b3.out).lt
  have s4 : w.heap.size + 1 + 1 < W6.heap.size := (b4.out).lt
  have s5 : W1.heap.size < W6.heap.size := (b5.out).lt
  clear x2_0 x2_1 x3_0 x3_1 x4_0 x4_1 x5_0 x5_1 szb s2 s3 s4 s5
  have x2_0 : W6.cell? ⟨w.heap.size, 0, none⟩ = some (.bool k) := (b2.out).cell 0
  have x2_1 : W6.cell? ⟨w.heap.size, 1, none⟩ = some (.slice A l c) := (b2.out).cell 1
  have x3_0 : W6.cell? ⟨w.heap.size + 1, 0, none⟩ = some (.bool k') := (b3.out).cell 0
  have x3_1 : W6.cell? ⟨w.heap.size + 1, 1, none⟩ = some (.slice A' l' c') := (b3.out).cell 1
  have x4_0 : W6.cell? ⟨w.heap.size + 1 + 1, 0, none⟩ = some (.bool false) := (b4.out).cell 0
  have x4_1 : W6.cell? ⟨w.heap.size + 1 + 1, 1, none⟩ = some (.slice none 0 0) := (b4.out).cell 1
  have x5_0 : W6.cell? ⟨W1.heap.size, 0, none⟩ = some (.bool k') := (b5.out).cell 0
  have x5_1 : W6.cell? ⟨W1.heap.size, 1, none⟩ = some (.slice A' l' c') := (b5.out).cell 1
  have z5_0 : W6.frozen? ⟨W1.heap.size, 0, none⟩ = false := (b5.out).frozen 0
  have z5_1 : W6.frozen? ⟨W1.heap.size, 1, none⟩ = false := (b5.out).frozen 1
  have szb : w.heap.size ≤ W6.heap.size := HB7.out.size
  have s2 : w.heap.size < W6.heap.size := (b2.out).lt
  have s3 : w.heap.size + 1 < W6.heap.size := (b3.out).lt
  have s4 : w.heap.size + 1 + 1 < W6.heap.size := (b4.out).lt
  have s5 : W1.heap.size < W6.heap.size := (b5.out).lt
  go_wp2_with fail
  refine (sign_is H1.out hc).mono ?_
  rintro e W8 ⟨rfl, hb⟩
  have nb := Lib.hid ((b2.out).up hb)
  clear b2
  have b2 := nb
  clear nb
  have nb := Lib.hid ((b3.out).up hb)
  clear b3
  have b3 := nb
  clear nb
  have nb := Lib.hid ((b4.out).up hb)
  clear b4
  have b4 := nb
  clear nb
  have nb := Lib.hid ((b5.out).up hb)
  clear b5
  have b5 := nb
  clear nb
  have f_ := Lib.hid (H1.out.kept (Keep.ofBelow hb))
  clear H1
  have H1 := f_
  clear f_
  have f_ := Lib.hid (H2.out.kept (Keep.ofBelow hb))
  clear H2
  have H2 := f_
  clear f_
  have nbel := below_then HB7.out hb HB7.out.size
  have HB9 := Lib.hid nbel
  clear nbel
  clear HB7
  clear hb
  clear x2_0 x2_1 x3_0 x3_1 x4_0 x4_1 x5_0 x5_1 z5_0 z5_1 szb s2 s3 s4 s5
  have x2_0 : W8.cell? ⟨w.heap.size, 0, none⟩ = some (.bool k) := (b2.out).cell 0
  have x2_1 : W8.cell? ⟨w.heap.size, 1, none⟩ = some (.slice A l c) := (b2.out).cell 1
  have x3_0 : W8.cell? ⟨w.heap.size + 1, 0, none⟩ = some (.bool k') := (b3.out).cell 0
  have x3_1 : W8.cell? ⟨w.heap.size + 1, 1, none⟩ = some (.slice A' l' c') := (b3.out).cell 1
  have x4_0 : W8.cell? ⟨w.heap.size + 1 + 1, 0, none⟩ = some (.bool false) := (b4.out).cell 0
  have x4_1 : W8.cell? ⟨w.heap.size + 1 + 1, 1, none⟩ = some (.slice none 0 0) := (b4.out).cell 1
  have x5_0 : W8.cell? ⟨W1.heap.size, 0, none⟩ = some (.bool k') := (b5.out).cell 0
  have x5_1 : W8.cell? ⟨W1.heap.size, 1, none⟩ = some (.slice A' l' c') := (b5.out).cell 1
  have z5_0 : W8.frozen? ⟨W1.heap.size, 0, none⟩ = false := (b5.out).frozen 0
  have z5_1 : W8.frozen? ⟨W1.heap.size, 1, none⟩ = false := (b5.out).frozen 1
  have szb : w.heap.size ≤ W8.heap.size := HB9.out.size
  have s2 : w.heap.size < W8.heap.size := (b2.out).lt
  have s3 : w.heap.size + 1 < W8.heap.size := (b3.out).lt
  have s4 : w.heap.size + 1 + 1 < W8.heap.size := (b4.out).lt
  have s5 : W1.heap.size < W8.heap.size := (b5.out).lt
  go_wp2_with fail
  refine (neg_fact H2.out (by omega)).mono ?_
  rintro e W10 ⟨v2, rfl, hv2, hb⟩
  have nb := Lib.hid ((b2.out).up hb)
  clear b2
  have b2 := nb
  clear nb
  have nb := Lib.hid ((b3.out).up hb)
  clear b3
  have b3 := nb
  clear nb
  have nb := Lib.hid ((b4.out).up hb)
  clear b4
  have b4 := nb
  clear nb
  have nb := Lib.hid ((b5.out).up hb)
  clear b5
  have b5 := nb
  clear nb
  have f_ := Lib.hid (H1.out.kept (Keep.ofBelow hb))
  clear H1
  have H1 := f_
  clear f_
  have f_ := Lib.hid (H2.out.kept (Keep.ofBelow hb))
  clear H2
  have H2 := f_
  clear f_
  have nbel := below_then HB9.out hb HB9.out.size
  have HB11 := Lib.hid nbel
  clear nbel
  clear HB9
  clear hb
  clear x2_0 x2_1 x3_0 x3_1 x4_0 x4_1 x5_0 x5_1 z5_0 z5_1 szb s2 s3 s4 s5
  have x2_0 : W10.cell? ⟨w.heap.size, 0, none⟩ = some (.bool k) := (b2.out).cell 0
  have x2_1 : W10.cell? ⟨w.heap.size, 1, none⟩ = some (.slice A l c) := (b2.out).cell 1
  have x3_0 : W10.cell? ⟨w.heap.size + 1, 0, none⟩ = some (.bool k') := (b3.out).cell 0
  have x3_1 : W10.cell? ⟨w.heap.size + 1, 1, none⟩ = some (.slice A' l' c') := (b3.out).cell 1
  have x4_0 : W10.cell? ⟨w.heap.size + 1 + 1, 0, none⟩ = some (.bool false) := (b4.out).cell 0
  have x4_1 : W10.cell? ⟨w.heap.size + 1 + 1, 1, none⟩ = some (.slice none 0 0) := (b4.out).cell 1
  have x5_0 : W10.cell? ⟨W1.heap.size, 0, none⟩ = some (.bool k') := (b5.out).cell 0
  have x5_1 : W10.cell? ⟨W1.heap.size, 1, none⟩ = some (.slice A' l' c') := (b5.out).cell 1
  have z5_0 : W10.frozen? ⟨W1.heap.size, 0, none⟩ = false := (b5.out).frozen 0
  have z5_1 : W10.frozen? ⟨W1.heap.size, 1, none⟩ = false := (b5.out).frozen 1
  have szb : w.heap.size ≤ W10.heap.size := HB11.out.size
  have s2 : w.heap.size < W10.heap.size := (b2.out).lt
  have s3 : w.heap.size + 1 < W10.heap.size := (b3.out).lt
  have s4 : w.heap.size + 1 + 1 < W10.heap.size := (b4.out).lt
  have s5 : W1.heap.size < W10.heap.size := (b5.out).lt
  obtain ⟨k2, A2, l2, c2, rfl⟩ := hv2.open
  have HH := Lib.hid hv2
  clear hv2
  go_upto_region 4 with (fail)
  change Code.wp Tryd.prog _ _ _ ((W10.setCell ⟨W1.heap.size, 0, none⟩ (.bool k2)).setCell ⟨W1.heap.size, 1, none⟩ (.slice A2 l2 c2))
  have nb2 : Bx 25 ((W10.setCell ⟨W1.heap.size, 0, none⟩ (.bool k2)).setCell ⟨W1.heap.size, 1, none⟩ (.slice A2 l2 c2)) w.heap.size [.bool k, .slice A l c] := (Bx.far (g' := W1.heap.size) (Bx.far (g' := W1.heap.size) b2.out (by omega) 0 (.bool k2)) (by omega) 1 (.slice A2 l2 c2))
  have nb3 : Bx 25 ((W10.setCell ⟨W1.heap.size, 0, none⟩ (.bool k2)).setCell ⟨W1.heap.size, 1, none⟩ (.slice A2 l2 c2)) (w.heap.size + 1) [.bool k', .slice A' l' c'] := (Bx.far (g' := W1.heap.size) (Bx.far (g' := W1.heap.size) b3.out (by omega) 0 (.bool k2)) (by omega) 1 (.slice A2 l2 c2))
  have nb4 : Bx 25 ((W10.setCell ⟨W1.heap.size, 0, none⟩ (.bool k2)).setCell ⟨W1.heap.size, 1, none⟩ (.slice A2 l2 c2)) (w.heap.size + 1 + 1) [.bool false, .slice none 0 0] := (Bx.far (g' := W1.heap.size) (Bx.far (g' := W1.heap.size) b4.out (by omega) 0 (.bool k2)) (by omega) 1 (.slice A2 l2 c2))
  have nb5 : Bx 25 ((W10.setCell ⟨W1.heap.size, 0, none⟩ (.bool k2)).setCell ⟨W1.heap.size, 1, none⟩ (.slice A2 l2 c2)) W1.heap.size [.bool k2, .slice A2 l2 c2] := (Bx.set (Bx.set b5.out 0 (Leaf.bool k2)) 1 (Leaf.slice A2 l2 c2))
  have nkeep := (Keep.set (Keep.set (Keep.refl W10) b5.out 0 (Leaf.bool k2)) (Bx.set b5.out 0 (Leaf.bool k2)) 1 (Leaf.slice A2 l2 c2))
  have nbel : Below w.heap.size w ((W10.setCell ⟨W1.heap.size, 0, none⟩ (.bool k2)).setCell ⟨W1.heap.size, 1, none⟩ (.slice A2 l2 c2)) := (Below.setCell (p := ⟨W1.heap.size, 1, none⟩) (Below.setCell (p := ⟨W1.heap.size, 0, none⟩) HB11.out (by first | omega | (simp; done) | (simp; omega)) (.bool k2)) (by first | omega | (simp; done) | (simp; omega)) (.slice A2 l2 c2))
  generalize (W10.setCell ⟨W1.heap.size, 0, none⟩ (.bool k2)).setCell ⟨W1.heap.size, 1, none⟩ (.slice A2 l2 c2) = W12 at *
  clear x2_0 x2_1 x3_0 x3_1 x4_0 x4_1 x5_0 x5_1 z5_0 z5_1 szb s2 s3 s4 s5
  clear b2 b3 b4 b5
  have b2 := Lib.hid nb2
  have b3 := Lib.hid nb3
  have b4 := Lib.hid nb4
  have b5 := Lib.hid nb5
  clear nb2 nb3 nb4 nb5
  have f_ := Lib.hid (H1.out.kept nkeep)
  clear H1
  have H1 := f_
  clear f_
  have f_ := Lib.hid (H2.out.kept nkeep)
  clear H2
  have H2 := f_
  clear f_
  have f_ := Lib.hid (HH.out.kept nkeep)
  clear HH
  have HH := f_
  clear f_
  clear nkeep
  have HB13 := Lib.hid nbel
  clear nbel
  clear HB11
  have x2_0 : W12.cell? ⟨w.heap.size, 0, none⟩ = some (.bool k) := (b2.out).cell 0
  have x2_1 : W12.cell? ⟨w.heap.size, 1, none⟩ = some (.slice A l c) := (b2.out).cell 1
  have x3_0 : W12.cell? ⟨w.heap.size + 1, 0, none⟩ = some (.bool k') := (b3.out).cell 0
  have x3_1 : W12.cell? ⟨w.heap.size + 1, 1, none⟩ = some (.slice A' l' c') := (b3.out).cell 1
  have x4_0 : W12.cell? ⟨w.heap.size + 1 + 1, 0, none⟩ = some (.bool false) := (b4.out).cell 0
  have x4_1 : W12.cell? ⟨w.heap.size + 1 + 1, 1, none⟩ = some (.slice none 0 0) := (b4.out).cell 1
  have x5_0 : W12.cell? ⟨W1.heap.size, 0, none⟩ = some (.bool k2) := (b5.out).cell 0
  have x5_1 : W12.cell? ⟨W1.heap.size, 1, none⟩ = some (.slice A2 l2 c2) := (b5.out).cell 1
  have z5_0 : W12.frozen? ⟨W1.heap.size, 0, none⟩ = false := (b5.out).frozen 0
  have z5_1 : W12.frozen? ⟨W1.heap.size, 1, none⟩ = false := (b5.out).frozen 1
  have szb : w.heap.size ≤ W12.heap.size := HB13.out.size
  have s2 : w.heap.size < W12.heap.size := (b2.out).lt
  have s3 : w.heap.size + 1 < W12.heap.size := (b3.out).lt
  have s4 : w.heap.size + 1 + 1 < W12.heap.size := (b4.out).lt
  have s5 : W1.heap.size < W12.heap.size := (b5.out).lt
  go_wp2_with fail
  refine (of_fact (n := 2) (by decide) (by decide)).mono ?_
  rintro e W14 ⟨v2, rfl, hv2, hb⟩
  have nb := Lib.hid ((b2.out).up hb)
  clear b2
  have b2 := nb
  clear nb
  have nb := Lib.hid ((b3.out).up hb)
  clear b3
  have b3 := nb
  clear nb
  have nb := Lib.hid ((b4.out).up hb)
  clear b4
  have b4 := nb
  clear nb
  have nb := Lib.hid ((b5.out).up hb)
  clear b5
  have b5 := nb
  clear nb
  have f_ := Lib.hid (H1.out.kept (Keep.ofBelow hb))
  clear H1
  have H1 := f_
  clear f_
  have f_ := Lib.hid (H2.out.kept (Keep.ofBelow hb))
  clear H2
  have H2 := f_
  clear f_
  have f_ := Lib.hid (HH.out.kept (Keep.ofBelow hb))
  clear HH
  have HH := f_
  clear f_
  have nbel := below_then HB13.out hb HB13.out.size
  have HB15 := Lib.hid nbel
  clear nbel
  clear HB13
  clear hb
  clear x2_0 x2_1 x3_0 x3_1 x4_0 x4_1 x5_0 x5_1 z5_0 z5_1 szb s2 s3 s4 s5
  have x2_0 : W14.cell? ⟨w.heap.size, 0, none⟩ = some (.bool k) := (b2.out).cell 0
  have x2_1 : W14.cell? ⟨w.heap.size, 1, none⟩ = some (.slice A l c) := (b2.out).cell 1
  have x3_0 : W14.cell? ⟨w.heap.size + 1, 0, none⟩ = some (.bool k') := (b3.out).cell 0
  have x3_1 : W14.cell? ⟨w.heap.size + 1, 1, none⟩ = some (.slice A' l' c') := (b3.out).cell 1
  have x4_0 : W14.cell? ⟨w.heap.size + 1 + 1, 0, none⟩ = some (.bool false) := (b4.out).cell 0
  have x4_1 : W14.cell? ⟨w.heap.size + 1 + 1, 1, none⟩ = some (.slice none 0 0) := (b4.out).cell 1
  have x5_0 : W14.cell? ⟨W1.heap.size, 0, none⟩ = some (.bool k2) := (b5.out).cell 0
  have x5_1 : W14.cell? ⟨W1.heap.size, 1, none⟩ = some (.slice A2 l2 c2) := (b5.out).cell 1
  have z5_0 : W14.frozen? ⟨W1.heap.size, 0, none⟩ = false := (b5.out).frozen 0
  have z5_1 : W14.frozen? ⟨W1.heap.size, 1, none⟩ = false := (b5.out).frozen 1
  have szb : w.heap.size ≤ W14.heap.size := HB15.out.size
  have s2 : w.heap.size < W14.heap.size := (b2.out).lt
  have s3 : w.heap.size + 1 < W14.heap.size := (b3.out).lt
  have s4 : w.heap.size + 1 + 1 < W14.heap.size := (b4.out).lt
  have s5 : W1.heap.size < W14.heap.size := (b5.out).lt
  obtain ⟨k3, A3, l3, c3, rfl⟩ := hv2.open
  have HO := Lib.hid hv2
  clear hv2
  go_upto_region 5 with (fail)
  have q16 : w.heap.size < W14.heap.size := (b2.out).lt
  have q17 : w.heap.size + 1 < W14.heap.size := (b3.out).lt
  have q18 : w.heap.size + 1 + 1 < W14.heap.size := (b4.out).lt
  have q19 : W1.heap.size < W14.heap.size := (b5.out).lt
  change Code.wp Tryd.prog _ _ _ (W14.alloc (.cells #[.bool k3, .slice A3 l3 c3] 25))
  have nb2 : Bx 25 (W14.alloc (.cells #[.bool k3, .slice A3 l3 c3] 25)) w.heap.size [.bool k, .slice A l c] := (Bx.alloc b2.out (.cells #[.bool k3, .slice A3 l3 c3] 25))
  have nb3 : Bx 25 (W14.alloc (.cells #[.bool k3, .slice A3 l3 c3] 25)) (w.heap.size + 1) [.bool k', .slice A' l' c'] := (Bx.alloc b3.out (.cells #[.bool k3, .slice A3 l3 c3] 25))
  have nb4 : Bx 25 (W14.alloc (.cells #[.bool k3, .slice A3 l3 c3] 25)) (w.heap.size + 1 + 1) [.bool false, .slice none 0 0] := (Bx.alloc b4.out (.cells #[.bool k3, .slice A3 l3 c3] 25))
  have nb5 : Bx 25 (W14.alloc (.cells #[.bool k3, .slice A3 l3 c3] 25)) W1.heap.size [.bool k2, .slice A2 l2 c2] := (Bx.alloc b5.out (.cells #[.bool k3, .slice A3 l3 c3] 25))
  have nb6 := (Bx.new 25 W14 [.bool k3, .slice A3 l3 c3] (leaf2 (Leaf.bool k3) (Leaf.slice A3 l3 c3)))
  have nkeep := (Keep.alloc (Keep.refl W14) (.cells #[.bool k3, .slice A3 l3 c3] 25))
  have nbel : Below w.heap.size w (W14.alloc (.cells #[.bool k3, .slice A3 l3 c3] 25)) := (Below.alloc HB15.out (by first | omega | (simp; done) | (simp; omega) | (simp [World.setCell]; done) | (simp [World.setCell]; omega)) (.cells #[.bool k3, .slice A3 l3 c3] 25))
  generalize W14.alloc (.cells #[.bool k3, .slice A3 l3 c3] 25) = W20 at *
  clear x2_0 x2_1 x3_0 x3_1 x4_0 x4_1 x5_0 x5_1 z5_0 z5_1 szb s2 s3 s4 s5
  clear b2 b3 b4 b5
  have b2 := Lib.hid nb2
  have b3 := Lib.hid nb3
  have b4 := Lib.hid nb4
  have b5 := Lib.hid nb5
  have b6 := Lib.hid nb6
  clear nb2 nb3 nb4 nb5 nb6
  have f_ := Lib.hid (H1.out.kept nkeep)
  clear H1
  have H1 := f_
  clear f_
  have f_ := Lib.hid (H2.out.kept nkeep)
  clear H2
  have H2 := f_
  clear f_
  have f_ := Lib.hid (HH.out.kept nkeep)
  clear HH
  have HH := f_
  clear f_
  have f_ := Lib.hid (HO.out.kept nkeep)
  clear HO
  have HO := f_
  clear f_
  clear nkeep
  have HB21 := Lib.hid nbel
  clear nbel
  clear HB15
  have x2_0 : W20.cell? ⟨w.heap.size, 0, none⟩ = some (.bool k) := (b2.out).cell 0
  have x2_1 : W20.cell? ⟨w.heap.size, 1, none⟩ = some (.slice A l c) := (b2.out).cell 1
  have x3_0 : W20.cell? ⟨w.heap.size + 1, 0, none⟩ = some (.bool k') := (b3.out).cell 0
  have x3_1 : W20.cell? ⟨w.heap.size + 1, 1, none⟩ = some (.slice A' l' c') := (b3.out).cell 1
  have x4_0 : W20.cell? ⟨w.heap.size + 1 + 1, 0, none⟩ = some (.bool false) := (b4.out).cell 0
  have x4_1 : W20.cell? ⟨w.heap.size + 1 + 1, 1, none⟩ = some (.slice none 0 0) := (b4.out).cell 1
  have x5_0 : W20.cell? ⟨W1.heap.size, 0, none⟩ = some (.bool k2) := (b5.out).cell 0
  have x5_1 : W20.cell? ⟨W1.heap.size, 1, none⟩ = some (.slice A2 l2 c2) := (b5.out).cell 1
  have z5_0 : W20.frozen? ⟨W1.heap.size, 0, none⟩ = false := (b5.out).frozen 0
  have z5_1 : W20.frozen? ⟨W1.heap.size, 1, none⟩ = false := (b5.out).frozen 1
  have x6_0 : W20.cell? ⟨W14.heap.size, 0, none⟩ = some (.bool k3) := (b6.out).cell 0
  have x6_1 : W20.cell? ⟨W14.heap.size, 1, none⟩ = some (.slice A3 l3 c3) := (b6.out).cell 1
  have szb : w.heap.size ≤ W20.heap.size := HB21.out.size
  have s2 : w.heap.size < W20.heap.size := (b2.out).lt
  have s3 : w.heap.size + 1 < W20.heap.size := (b3.out).lt
  have s4 : w.heap.size + 1 + 1 < W20.heap.size := (b4.out).lt
  have s5 : W1.heap.size < W20.heap.size := (b5.out).lt
  have s6 : W14.heap.size < W20.heap.size := (b6.out).lt
  refine AS.region_facts (nearFLN a b n W20) (JFst W20 25) [[], [], [18, 19], [], [20, 21], [], [], [23, 24], [22, 25], [26], [17], [17], [17], [], [], [27, 7], [28, 8], [29]] [15, 16] [[], [27, 7], [27, 7]] [0, 0, 2, 0, 2, 0, 0, 2, 2, 2, 2, 2, 2, 0, 0, 2, 2, 2] [7, 8] (fun u => by simp only [nearFLN, AS.temps, List.map_cons, List.map_nil, fillL, List.setIfInBounds_toArray, List.set_cons_zero, List.set_cons_succ]; rfl) (by kernel_rfl) (by kernel_rfl) (JFst.st W20 25) (below_drew (Below.refl _ _)) ?_ ?_
  · refine AS.StepsOk.cons rfl rfl rfl ?_ ?_
    · intro k_ u w_ hk hJ hF K hK
      clear hF
      obtain rfl : k_ = 0 := Nat.le_zero.1 hk
      have hJ0 : Below W20.heap.size W20 w_ := hJ
      have y0 : w_.cell? ⟨w.heap.size, 0, none⟩ = some (.bool k) := ((b2.out).up hJ0).cell 0
      have y1 : w_.cell? ⟨w.heap.size, 1, none⟩ = some (.slice A l c) := ((b2.out).up hJ0).cell 1
      go_simp
      exact hK.out _ _ (Below.refl _ _) ((H1.out).kept (Keep.ofBelow hJ0)) trivial
    refine AS.StepsOk.cons rfl rfl rfl ?_ ?_
    · intro k_ u w_ hk hJ hF K hK
      clear hF
      obtain rfl : k_ = 0 := Nat.le_zero.1 hk
      have hJ0 : Below W20.heap.size W20 w_ := hJ
      have y0 : w_.cell? ⟨W14.heap.size, 0, none⟩ = some (.bool k3) := ((b6.out).up hJ0).cell 0
      have y1 : w_.cell? ⟨W14.heap.size, 1, none⟩ = some (.slice A3 l3 c3) := ((b6.out).up hJ0).cell 1
      go_simp
      exact hK.out _ _ (Below.refl _ _) ((HO.out).kept (Keep.ofBelow hJ0)) trivial
    refine AS.StepsOk.cons rfl rfl rfl ?_ ?_
    · intro k_ u w_ hk hJ hF K hK
      have h18 : PInt (a) n (u 18) w_ := AS.facts_get hF 18 (by simp)
      have h19 : PInt (2) 3 (u 19) w_ := AS.facts_get hF 19 (by simp)
      clear hF
      go_simp
      refine (mul_fact h18 h19 (by omega) (by omega)).mono ?_
      rintro e w' ⟨v, rfl, hv, hb⟩
      exact hK.out _ _ hb (hv) trivial
    refine AS.StepsOk.cons rfl rfl rfl ?_ ?_
    · intro k_ u w_ hk hJ hF K hK
      clear hF
      obtain rfl : k_ = 0 := Nat.le_zero.1 hk
      have hJ0 : Below W20.heap.size W20 w_ := hJ
      have y0 : w_.cell? ⟨W1.heap.size, 0, none⟩ = some (.bool k2) := ((b5.out).up hJ0).cell 0
      have y1 : w_.cell? ⟨W1.heap.size, 1, none⟩ = some (.slice A2 l2 c2) := ((b5.out).up hJ0).cell 1
      go_simp
      exact hK.out _ _ (Below.refl _ _) ((HH.out).kept (Keep.ofBelow hJ0)) trivial
    refine AS.StepsOk.cons rfl rfl rfl ?_ ?_
    · intro k_ u w_ hk hJ hF K hK
      have h20 : PInt ((a) * (2)) (n + 3) (u 20) w_ := AS.facts_get hF 20 (by simp)
      have h21 : PInt (-b) n (u 21) w_ := AS.facts_get hF 21 (by simp)
      clear hF
      go_simp
      refine (add_fact h20 h21 (by omega) (by omega)).mono ?_
      rintro e w' ⟨v, rfl, hv, hb⟩
      exact hK.out _ _ hb (hv) trivial
    refine AS.StepsOk.cons rfl rfl rfl ?_ ?_
    · intro k_ u w_ hk hJ hF K hK
      clear hF
      obtain rfl : k_ = 0 := Nat.le_zero.1 hk
      have hJ0 : Below W20.heap.size W20 w_ := hJ
      have y0 : w_.cell? ⟨w.heap.size + 1, 0, none⟩ = some (.bool k') := ((b3.out).up hJ0).cell 0
      have y1 : w_.cell? ⟨w.heap.size + 1, 1, none⟩ = some (.slice A' l' c') := ((b3.out).up hJ0).cell 1
      go_simp
      exact hK.out _ _ (Below.refl _ _) ((H2.out).kept (Keep.ofBelow hJ0)) trivial
    refine AS.StepsOk.cons rfl rfl rfl ?_ ?_
    · intro k_ u w_ hk hJ hF K hK
      clear hF
      obtain rfl : k_ = 0 := Nat.le_zero.1 hk
      have hJ0 : Below W20.heap.size W20 w_ := hJ
      have y0 : w_.cell? ⟨W14.heap.size, 0, none⟩ = some (.bool k3) := ((b6.out).up hJ0).cell 0
      have y1 : w_.cell? ⟨W14.heap.size, 1, none⟩ = some (.slice A3 l3 c3) := ((b6.out).up hJ0).cell 1
      go_simp
      exact hK.out _ _ (Below.refl _ _) ((HO.out).kept (Keep.ofBelow hJ0)) trivial
    refine AS.StepsOk.cons rfl rfl rfl ?_ ?_
    · intro k_ u w_ hk hJ hF K hK
      have h23 : PInt (b) n (u 23) w_ := AS.facts_get hF 23 (by simp)
      have h24 : PInt (2) 3 (u 24) w_ := AS.facts_get hF 24 (by simp)
      clear hF
      go_simp
      refine (mul_fact h23 h24 (by omega) (by omega)).mono ?_
      rintro e w' ⟨v, rfl, hv, hb⟩
      exact hK.out _ _ hb (hv) trivial
    refine AS.StepsOk.cons rfl rfl rfl ?_ ?_
    · intro k_ u w_ hk hJ hF K hK
      have h22 : PInt (((a) * (2)) + (-b)) (((n + 3) + n) + 1) (u 22) w_ := AS.facts_get hF 22 (by simp)
      have h25 : PInt ((b) * (2)) (n + 3) (u 25) w_ := AS.facts_get hF 25 (by simp)
      clear hF
      go_simp
      refine (quo_fact h22 h25 (by omega) (by omega) (by omega)).mono ?_
      rintro e w' ⟨k7, A7, l7, c7, k8, A8, l8, c8, rfl, hq, hr, hb⟩
      exact hK.out _ _ hb (⟨_, _, rfl, hq.more (by omega), hr.more (by omega)⟩) trivial
    refine AS.StepsOk.cons rfl rfl rfl ?_ ?_
    · intro k_ u w_ hk hJ hF K hK
      have h26 : QuoP (Int.tdiv ((a) * (2) + (-b)) ((b) * (2))) (Int.tmod ((a) * (2) + (-b)) ((b) * (2))) (2 * n + 5) (u 26) w_ := AS.facts_get hF 26 (by simp)
      clear hF
      go_simp
      exact hK.out _ _ (Below.refl _ _) (h26) trivial
    refine AS.StepsOk.cons rfl rfl rfl ?_ ?_
    · intro k_ u w_ hk hJ hF K hK
      have h17 : QuoP (Int.tdiv ((a) * (2) + (-b)) ((b) * (2))) (Int.tmod ((a) * (2) + (-b)) ((b) * (2))) (2 * n + 5) (u 17) w_ := AS.facts_get hF 17 (by simp)
      clear hF
      obtain ⟨qa, qb, e0, hqa, hqb⟩ := h17
      simp only [e0] at hK ⊢
      go_simp
      exact hK.out _ _ (Below.refl _ _) (hqa) trivial
    refine AS.StepsOk.cons rfl rfl rfl ?_ ?_
    · intro k_ u w_ hk hJ hF K hK
      have h17 : QuoP (Int.tdiv ((a) * (2) + (-b)) ((b) * (2))) (Int.tmod ((a) * (2) + (-b)) ((b) * (2))) (2 * n + 5) (u 17) w_ := AS.facts_get hF 17 (by simp)
      clear hF
      obtain ⟨qa, qb, e0, hqa, hqb⟩ := h17
      simp only [e0] at hK ⊢
      go_simp
      exact hK.out _ _ (Below.refl _ _) (hqb) trivial
    refine AS.StepsOk.cons rfl rfl rfl ?_ ?_
    · intro k_ u w_ hk hJ hF K hK
      have h17 : QuoP (Int.tdiv ((a) * (2) + (-b)) ((b) * (2))) (Int.tmod ((a) * (2) + (-b)) ((b) * (2))) (2 * n + 5) (u 17) w_ := AS.facts_get hF 17 (by simp)
      clear hF
      obtain ⟨qa, qb, e0, hqa, hqb⟩ := h17
      simp only [e0] at hK ⊢
      go_simp
      exact hK.out _ _ (Below.refl _ _) (rfl) trivial
    refine AS.StepsOk.cons rfl rfl rfl ?_ ?_
    · intro k_ u w_ hk hJ hF K hK
      clear hF
      obtain rfl : k_ = 0 := Nat.le_zero.1 hk
      have hJ0 : Below W20.heap.size W20 w_ := hJ
      go_simp
      exact hK.out _ _ (below_alloc_new _) (IsBox.new _ hJ0.size) ⟨rfl, by simp⟩
    refine AS.StepsOk.cons rfl rfl rfl ?_ ?_
    · intro k_ u w_ hk hJ hF K hK
      clear hF
      obtain rfl : k_ = 0 := Nat.le_zero.1 hk
      have hJ0 : Below W20.heap.size W20 w_ := hJ
      go_simp
      exact hK.out _ _ (below_alloc_new _) (IsBox.new _ hJ0.size) ⟨rfl, by simp⟩
    refine AS.StepsOk.store rfl rfl ?_ ?_
    · intro u w_ hJ hAp hF K hK
      have h27 : PInt (Int.tdiv ((a) * (2) + (-b)) ((b) * (2))) (2 * n + 5) (u 27) w_ := AS.facts_get hF 27 (by simp)
      have h7 : IsBox 25 W20.heap.size (u 7) w_ := AS.facts_get hF 7 (by simp)
      clear hF
      obtain ⟨g, x_, y_, eg, hgB, bx⟩ := h7
      obtain ⟨k1, A1, l1, c1, e_⟩ := h27.open
      have y0 := bx.cell 0
      have y1 := bx.cell 1
      have z0 := bx.frozen 0
      have z1 := bx.frozen 1
      simp only [List.getElem?_cons_zero, List.getElem?_cons_succ] at y0 y1
      have hbel : Below W20.heap.size W20 w_ := hJ
      simp only [e_, eg] at hK ⊢
      go_simp
      exact hK.out undef _ ⟨(Below.setCell (p := ⟨g, 1, none⟩) (Below.setCell (p := ⟨g, 0, none⟩) hbel hgB (.bool k1)) hgB (.slice A1 l1 c1)), g, [.bool k1, .slice A1 l1 c1], by simp [e_, eg], hgB, (Bx.set (Bx.set bx 0 (Leaf.bool k1)) 1 (Leaf.slice A1 l1 c1))⟩ (Keep.set (Keep.set (Keep.refl w_) bx 0 (Leaf.bool k1)) (Bx.set bx 0 (Leaf.bool k1)) 1 (Leaf.slice A1 l1 c1))
    refine AS.StepsOk.store rfl rfl ?_ ?_
    · intro u w_ hJ hAp hF K hK
      have h28 : PInt (Int.tmod ((a) * (2) + (-b)) ((b) * (2))) (2 * n + 5) (u 28) w_ := AS.facts_get hF 28 (by simp)
      have h8 : IsBox 25 W20.heap.size (u 8) w_ := AS.facts_get hF 8 (by simp)
      clear hF
      obtain ⟨g, x_, y_, eg, hgB, bx⟩ := h8
      obtain ⟨k1, A1, l1, c1, e_⟩ := h28.open
      have y0 := bx.cell 0
      have y1 := bx.cell 1
      have z0 := bx.frozen 0
      have z1 := bx.frozen 1
      simp only [List.getElem?_cons_zero, List.getElem?_cons_succ] at y0 y1
      obtain ⟨hbel, g2, vs, hvs, hg2, bx2⟩ := hJ
      have e7 : u 7 = .pointer (some ⟨g2, 0, none⟩) := (List.cons.inj (List.cons.inj hvs).2).1
      have hne : g ≠ g2 := by
        intro h
        refine hAp 7 (by simp) 8 (by simp) (by decide) ?_
        rw [e7, eg, h]
      clear e7
      simp only [e_, eg] at hK ⊢
      go_simp
      exact hK.out undef _ ⟨(Below.setCell (p := ⟨g, 1, none⟩) (Below.setCell (p := ⟨g, 0, none⟩) hbel hgB (.bool k1)) hgB (.slice A1 l1 c1)), g2, vs, hvs, hg2, Bx.far (Bx.far bx2 hne 0 (.bool k1)) hne 1 (.slice A1 l1 c1)⟩ (Keep.set (Keep.set (Keep.refl w_) bx 0 (Leaf.bool k1)) (Bx.set bx 0 (Leaf.bool k1)) 1 (Leaf.slice A1 l1 c1))
    refine AS.StepsOk.cons rfl rfl rfl ?_ ?_
    · intro k_ u w_ hk hJ hF K hK
      have h29 : u 29 = .int .i64 0 := AS.facts_get hF 29 (by simp)
      clear hF
      simp only [h29] at hK ⊢
      clear h29
      go_simp
      exact hK.out _ _ (Below.refl _ _) (rfl) trivial
    exact AS.StepsOk.nil
  · intro u W22 hJ9 hF
    have h27 : PInt (Int.tdiv ((a) * (2) + (-b)) ((b) * (2))) (2 * n + 5) (u 27) W22 := AS.facts_get hF 27 (by simp [nearFLN, AS.temps])
    clear hF
    obtain ⟨hbel, g, vs, hvs, hgB, bx⟩ := hJ9
    obtain ⟨ka, Aa, la, ca, ea⟩ := h27.open
    rw [ea] at h27
    have e7 : u 7 = .pointer (some ⟨g, 0, none⟩) := (List.cons.inj (List.cons.inj hvs).2).1
    obtain rfl : vs = [.bool ka, .slice Aa la ca] := by
      have e1 := (List.cons.inj hvs).1
      rw [show u 27 = _ from ea] at e1
      have e2 := congrArg Array.toList (Value.agg.inj e1)
      simpa using e2.symm
    clear hvs
    have HQ := Lib.hid h27
    have b7 := Lib.hid bx
    clear h27 bx
    rw [show u 7 = _ from e7]
    clear e7
    have nb := Lib.hid ((b2.out).up hbel)
    clear b2
    have b2 := nb
    clear nb
    have nb := Lib.hid ((b3.out).up hbel)
    clear b3
    have b3 := nb
    clear nb
    have nb := Lib.hid ((b4.out).up hbel)
    clear b4
    have b4 := nb
    clear nb
    have nb := Lib.hid ((b5.out).up hbel)
    clear b5
    have b5 := nb
    clear nb
    have nb := Lib.hid ((b6.out).up hbel)
    clear b6
    have b6 := nb
    clear nb
    have f_ := Lib.hid (H1.out.kept (Keep.ofBelow hbel))
    clear H1
    have H1 := f_
    clear f_
    have f_ := Lib.hid (H2.out.kept (Keep.ofBelow hbel))
    clear H2
    have H2 := f_
    clear f_
    have f_ := Lib.hid (HH.out.kept (Keep.ofBelow hbel))
    clear HH
    have HH := f_
    clear f_
    have f_ := Lib.hid (HO.out.kept (Keep.ofBelow hbel))
    clear HO
    have HO := f_
    clear f_
    have nbel := below_then HB21.out hbel HB21.out.size
    have HB23 := Lib.hid nbel
    clear nbel
    clear HB21
    clear hbel
    clear x2_0 x2_1 x3_0 x3_1 x4_0 x4_1 x5_0 x5_1 z5_0 z5_1 x6_0 x6_1 szb s2 s3 s4 s5 s6
    have x2_0 : W22.cell? ⟨w.heap.size, 0, none⟩ = some (.bool k) := (b2.out).cell 0
    have x2_1 : W22.cell? ⟨w.heap.size, 1, none⟩ = some (.slice A l c) := (b2.out).cell 1
    have x3_0 : W22.cell? ⟨w.heap.size + 1, 0, none⟩ = some (.bool k') := (b3.out).cell 0
    have x3_1 : W22.cell? ⟨w.heap.size + 1, 1, none⟩ = some (.slice A' l' c') := (b3.out).cell 1
    have x4_0 : W22.cell? ⟨w.heap.size + 1 + 1, 0, none⟩ = some (.bool false) := (b4.out).cell 0
    have x4_1 : W22.cell? ⟨w.heap.size + 1 + 1, 1, none⟩ = some (.slice none 0 0) := (b4.out).cell 1
    have z4_0 : W22.frozen? ⟨w.heap.size + 1 + 1, 0, none⟩ = false := (b4.out).frozen 0
    have z4_1 : W22.frozen? ⟨w.heap.size + 1 + 1, 1, none⟩ = false := (b4.out).frozen 1
    have x5_0 : W22.cell? ⟨W1.heap.size, 0, none⟩ = some (.bool k2) := (b5.out).cell 0
    have x5_1 : W22.cell? ⟨W1.heap.size, 1, none⟩ = some (.slice A2 l2 c2) := (b5.out).cell 1
    have z5_0 : W22.frozen? ⟨W1.heap.size, 0, none⟩ = false := (b5.out).frozen 0
    have z5_1 : W22.frozen? ⟨W1.heap.size, 1, none⟩ = false := (b5.out).frozen 1
    have x6_0 : W22.cell? ⟨W14.heap.size, 0, none⟩ = some (.bool k3) := (b6.out).cell 0
    have x6_1 : W22.cell? ⟨W14.heap.size, 1, none⟩ = some (.slice A3 l3 c3) := (b6.out).cell 1
    have szb : w.heap.size ≤ W22.heap.size := HB23.out.size
    have s2 : w.heap.size < W22.heap.size := (b2.out).lt
    have s3 : w.heap.size + 1 < W22.heap.size := (b3.out).lt
    have s4 : w.heap.size + 1 + 1 < W22.heap.size := (b4.out).lt
    have s5 : W1.heap.size < W22.heap.size := (b5.out).lt
    have s6 : W14.heap.size < W22.heap.size := (b6.out).lt
    clear x2_0 x2_1 x3_0 x3_1 x4_0 x4_1 z4_0 z4_1 x5_0 x5_1 z5_0 z5_1 x6_0 x6_1 szb s2 s3 s4 s5 s6
    have x2_0 : W22.cell? ⟨w.heap.size, 0, none⟩ = some (.bool k) := (b2.out).cell 0
    have x2_1 : W22.cell? ⟨w.heap.size, 1, none⟩ = some (.slice A l c) := (b2.out).cell 1
    have x3_0 : W22.cell? ⟨w.heap.size + 1, 0, none⟩ = some (.bool k') := (b3.out).cell 0
    have x3_1 : W22.cell? ⟨w.heap.size + 1, 1, none⟩ = some (.slice A' l' c') := (b3.out).cell 1
    have x4_0 : W22.cell? ⟨w.heap.size + 1 + 1, 0, none⟩ = some (.bool false) := (b4.out).cell 0
    have x4_1 : W22.cell? ⟨w.heap.size + 1 + 1, 1, none⟩ = some (.slice none 0 0) := (b4.out).cell 1
    have z4_0 : W22.frozen? ⟨w.heap.size + 1 + 1, 0, none⟩ = false := (b4.out).frozen 0
    have z4_1 : W22.frozen? ⟨w.heap.size + 1 + 1, 1, none⟩ = false := (b4.out).frozen 1
    have x5_0 : W22.cell? ⟨W1.heap.size, 0, none⟩ = some (.bool k2) := (b5.out).cell 0
    have x5_1 : W22.cell? ⟨W1.heap.size, 1, none⟩ = some (.slice A2 l2 c2) := (b5.out).cell 1
    have z5_0 : W22.frozen? ⟨W1.heap.size, 0, none⟩ = false := (b5.out).frozen 0
    have z5_1 : W22.frozen? ⟨W1.heap.size, 1, none⟩ = false := (b5.out).frozen 1
    have x6_0 : W22.cell? ⟨W14.heap.size, 0, none⟩ = some (.bool k3) := (b6.out).cell 0
    have x6_1 : W22.cell? ⟨W14.heap.size, 1, none⟩ = some (.slice A3 l3 c3) := (b6.out).cell 1
    have x7_0 : W22.cell? ⟨g, 0, none⟩ = some (.bool ka) := (b7.out).cell 0
    have x7_1 : W22.cell? ⟨g, 1, none⟩ = some (.slice Aa la ca) := (b7.out).cell 1
    have szb : w.heap.size ≤ W22.heap.size := HB23.out.size
    have s2 : w.heap.size < W22.heap.size := (b2.out).lt
    have s3 : w.heap.size + 1 < W22.heap.size := (b3.out).lt
    have s4 : w.heap.size + 1 + 1 < W22.heap.size := (b4.out).lt
    have s5 : W1.heap.size < W22.heap.size := (b5.out).lt
    have s6 : W14.heap.size < W22.heap.size := (b6.out).lt
    have s7 : g < W22.heap.size := (b7.out).lt
    go_wp2_with fail
    have hkeep := (Keep.set (Keep.set (Keep.refl W22) b4.out 0 (Leaf.bool ka)) (Bx.set b4.out 0 (Leaf.bool ka)) 1 (Leaf.slice Aa la ca))
    have hbel := (Below.setCell (p := ⟨w.heap.size + 1 + 1, 1, none⟩) (Below.setCell (p := ⟨w.heap.size + 1 + 1, 0, none⟩) HB23.out (by first | omega | (simp; done) | (simp; omega)) (.bool ka)) (by first | omega | (simp; done) | (simp; omega)) (.slice Aa la ca))
    refine bodyPost_ret (v := .agg #[.bool ka, .slice Aa la ca]) (by simp [results, Tryd.results31, go_sem, x4_0, x4_1]) rfl ⟨_, rfl, by rw [← near_eq a b HBP.out, if_pos (by omega)]; exact HQ.out.kept hkeep, hbel⟩
def nearFLP (a b : Int) (n : Nat) (W16 : World) : List (Nat × AS.Fact) := [(18, AS.Fact.int (a) n), (19, AS.Fact.int (2) 3), (20, AS.Fact.int ((a) * (2)) (n + 3)), (21, AS.Fact.int (b) n), (22, AS.Fact.int (((a) * (2)) + (b)) (((n + 3) + n) + 1)), (23, AS.Fact.int (b) n), (24, AS.Fact.int (2) 3), (25, AS.Fact.int ((b) * (2)) (n + 3)), (26, AS.Fact.quo (Int.tdiv ((a) * (2) + (b)) ((b) * (2))) (Int.tmod ((a) * (2) + (b)) ((b) * (2))) (2 * n + 5)), (17, AS.Fact.quo (Int.tdiv ((a) * (2) + (b)) ((b) * (2))) (Int.tmod ((a) * (2) + (b)) ((b) * (2))) (2 * n + 5)), (27, AS.Fact.int (Int.tdiv ((a) * (2) + (b)) ((b) * (2))) (2 * n + 5)), (28, AS.Fact.int (Int.tmod ((a) * (2) + (b)) ((b) * (2))) (2 * n + 5)), (29, AS.Fact.is (.int .i64 0)), (7, AS.Fact.isBox 25 W16.heap.size), (8, AS.Fact.isBox 25 W16.heap.size), (9, AS.Fact.is (.int .i64 0))]
set_option maxRecDepth 20000 in
set_option maxHeartbeats 3200000 in
theorem near_pos {a b : Int} {n : Nat} {k : Bool} {A : Option Addr} {l c : Nat} {k' : Bool} {A' : Option Addr} {l' c' : Nat} {w : World} (h : PInt a n (.agg #[.bool k, .slice A l c]) w) (h2 : PInt b n (.agg #[.bool k', .slice A' l' c']) w) (hn : n ≤ 90000) (hbp : 0 < b) (cc : Int) (hcc : decide (cc < 0) = false) (hc : cmpI a 0 = cc) (ha : 0 ≤ a) :
    Calls Tryd.prog 31 #[.agg #[.bool k, .slice A l c], .agg #[.bool k', .slice A' l' c']] w fun e w' => ∃ v, e = .returned v ∧ PInt (rndI a b) (2 * n + 5) v w' ∧ Below w.heap.size w w' := by
  have HBP := Lib.hid hbp
  have H1 := Lib.hid h
  have H2 := Lib.hid h2
  clear h h2
  go_enter Tryd.func31, Tryd.ntmps31
  go_upto_region 1 with (fail)
  change Code.wp Tryd.prog _ _ _ (((w.alloc (.cells #[.bool k, .slice A l c] 25)).alloc (.cells #[.bool k', .slice A' l' c'] 25)).alloc (.cells #[.bool false, .slice none 0 0] 25))
  have nb2 := (Bx.alloc (Bx.alloc (Bx.new 25 w [.bool k, .slice A l c] (leaf2 (Leaf.bool k) (Leaf.slice A l c))) (.cells #[.bool k', .slice A' l' c'] 25)) (.cells #[.bool false, .slice none 0 0] 25))
  have nb3 := (Bx.alloc (Bx.new 25 (w.alloc (.cells #[.bool k, .slice A l c] 25)) [.bool k', .slice A' l' c'] (leaf2 (Leaf.bool k') (Leaf.slice A' l' c'))) (.cells #[.bool false, .slice none 0 0] 25))
  rw [show (w.alloc (.cells #[.bool k, .slice A l c] 25)).heap.size = w.heap.size + 1 by simp] at nb3
  have nb4 := (Bx.new 25 ((w.alloc (.cells #[.bool k, .slice A l c] 25)).alloc (.cells #[.bool k', .slice A' l' c'] 25)) [.bool false, .slice none 0 0] (leaf2 (Leaf.bool false) (Leaf.slice none 0 0)))
  rw [show ((w.alloc (.cells #[.bool k, .slice A l c] 25)).alloc (.cells #[.bool k', .slice A' l' c'] 25)).heap.size = w.heap.size + 1 + 1 by simp] at nb4
  have nkeep := (Keep.alloc (Keep.alloc (Keep.alloc (Keep.refl w) (.cells #[.bool k, .slice A l c] 25)) (.cells #[.bool k', .slice A' l' c'] 25)) (.cells #[.bool false, .slice none 0 0] 25))
  have nbel : Below w.heap.size w (((w.alloc (.cells #[.bool k, .slice A l c] 25)).alloc (.cells #[.bool k', .slice A' l' c'] 25)).alloc (.cells #[.bool false, .slice none 0 0] 25)) := (Below.alloc (Below.alloc (Below.alloc (Below.refl w.heap.size w) (by first | omega | (simp; done) | (simp; omega) | (simp [World.setCell]; done) | (simp [World.setCell]; omega)) (.cells #[.bool k, .slice A l c] 25)) (by first | omega | (simp; done) | (simp; omega) | (simp [World.setCell]; done) | (simp [World.setCell]; omega)) (.cells #[.bool k', .slice A' l' c'] 25)) (by first | omega | (simp; done) | (simp; omega) | (simp [World.setCell]; done) | (simp [World.setCell]; omega)) (.cells #[.bool false, .slice none 0 0] 25))
  generalize ((w.alloc (.cells #[.bool k, .slice A l c] 25)).alloc (.cells #[.bool k', .slice A' l' c'] 25)).alloc (.cells #[.bool false, .slice none 0 0] 25) = W1 at *
  have b2 := Lib.hid nb2
  have b3 := Lib.hid nb3
  have b4 := Lib.hid nb4
  clear nb2 nb3 nb4
  have f_ := Lib.hid (H1.out.kept nkeep)
  clear H1
  have H1 := f_
  clear f_
  have f_ := Lib.hid (H2.out.kept nkeep)
  clear H2
  have H2 := f_
  clear f_
  clear nkeep
  have HB2 := Lib.hid nbel
  clear nbel
  have x2_0 : W1.cell? ⟨w.heap.size, 0, none⟩ = some (.bool k) := (b2.out).cell 0
  have x2_1 : W1.cell? ⟨w.heap.size, 1, none⟩ = some (.slice A l c) := (b2.out).cell 1
  have x3_0 : W1.cell? ⟨w.heap.size + 1, 0, none⟩ = some (.bool k') := (b3.out).cell 0
  have x3_1 : W1.cell? ⟨w.heap.size + 1, 1, none⟩ = some (.slice A' l' c') := (b3.out).cell 1
  have x4_0 : W1.cell? ⟨w.heap.size + 1 + 1, 0, none⟩ = some (.bool false) := (b4.out).cell 0
  have x4_1 : W1.cell? ⟨w.heap.size + 1 + 1, 1, none⟩ = some (.slice none 0 0) := (b4.out).cell 1
  have szb : w.heap.size ≤ W1.heap.size := HB2.out.size
  have s2 : w.heap.size < W1.heap.size := (b2.out).lt
  have s3 : w.heap.size + 1 < W1.heap.size := (b3.out).lt
  have s4 : w.heap.size + 1 + 1 < W1.heap.size := (b4.out).lt
  go_upto_region 2 with (fail)
  have q3 : w.heap.size < W1.heap.size := (b2.out).lt
  have q4 : w.heap.size + 1 < W1.heap.size := (b3.out).lt
  have q5 : w.heap.size + 1 + 1 < W1.heap.size := (b4.out).lt
  change Code.wp Tryd.prog _ _ _ (W1.alloc (.cells #[.bool k', .slice A' l' c'] 25))
  have nb2 : Bx 25 (W1.alloc (.cells #[.bool k', .slice A' l' c'] 25)) w.heap.size [.bool k, .slice A l c] := (Bx.alloc b2.out (.cells #[.bool k', .slice A' l' c'] 25))
  have nb3 : Bx 25 (W1.alloc (.cells #[.bool k', .slice A' l' c'] 25)) (w.heap.size + 1) [.bool k', .slice A' l' c'] := (Bx.alloc b3.out (.cells #[.bool k', .slice A' l' c'] 25))
  have nb4 : Bx 25 (W1.alloc (.cells #[.bool k', .slice A' l' c'] 25)) (w.heap.size + 1 + 1) [.bool false, .slice none 0 0] := (Bx.alloc b4.out (.cells #[.bool k', .slice A' l' c'] 25))
  have nb5 := (Bx.new 25 W1 [.bool k', .slice A' l' c'] (leaf2 (Leaf.bool k') (Leaf.slice A' l' c')))
  have nkeep := (Keep.alloc (Keep.refl W1) (.cells #[.bool k', .slice A' l' c'] 25))
  have nbel : Below w.heap.size w (W1.alloc (.cells #[.bool k', .slice A' l' c'] 25)) := (Below.alloc HB2.out (by first | omega | (simp; done) | (simp; omega) | (simp [World.setCell]; done) | (simp [World.setCell]; omega)) (.cells #[.bool k', .slice A' l' c'] 25))
  generalize W1.alloc (.cells #[.bool k', .slice A' l' c'] 25) = W6 at *
  clear x2_0 x2_1 x3_0 x3_1 x4_0 x4_1 szb s2 s3 s4
  clear b2 b3 b4
  have b2 := Lib.hid nb2
  have b3 := Lib.hid nb3
  have b4 := Lib.hid nb4
  have b5 := Lib.hid nb5
  clear nb2 nb3 nb4 nb5
  have f_ := Lib.hid (H1.out.kept nkeep)
  clear H1
  have H1 := f_
  clear f_
  have f_ := Lib.hid (H2.out.kept nkeep)
  clear H2
  have H2 := f_
  clear f_
  clear nkeep
  have HB7 := Lib.hid nbel
  clear nbel
  clear HB2
  have x2_0 : W6.cell? ⟨w.heap.size, 0, none⟩ = some (.bool k) := (b2.out).cell 0
  have x2_1 : W6.cell? ⟨w.heap.size, 1, none⟩ = some (.slice A l c) := (b2.out).cell 1
  have x3_0 : W6.cell? ⟨w.heap.size + 1, 0, none⟩ = some (.bool k') := (b3.out).cell 0
  have x3_1 : W6.cell? ⟨w.heap.size + 1, 1, none⟩ = some (.slice A' l' c') := (b3.out).cell 1
  have x4_0 : W6.cell? ⟨w.heap.size + 1 + 1, 0, none⟩ = some (.bool false) := (b4.out).cell 0
  have x4_1 : W6.cell? ⟨w.heap.size + 1 + 1, 1, none⟩ = some (.slice none 0 0) := (b4.out).cell 1
  have x5_0 : W6.cell? ⟨W1.heap.size, 0, none⟩ = some (.bool k') := (b5.out).cell 0
  have x5_1 : W6.cell? ⟨W1.heap.size, 1, none⟩ = some (.slice A' l' c') := (b5.out).cell 1
  have szb : w.heap.size ≤ W6.heap.size := HB7.out.size
  have s2 : w.heap.size < W6.heap.size := (b2.out).lt
  have s3 : w.heap.size + 1 < W6.heap.size := (b3.out).lt
  have s4 : w.heap.size + 1 + 1 < W6.heap.size := (b4.out).lt
  have s5 : W1.heap.size < W6.heap.size := (b5.out).lt
  clear x2_0 x2_1 x3_0 x3_1 x4_0 x4_1 x5_0 x5_1 szb s2 s3 s4 s5
  have x2_0 : W6.cell? ⟨w.heap.size, 0, none⟩ = some (.bool k) := (b2.out).cell 0
  have x2_1 : W6.cell? ⟨w.heap.size, 1, none⟩ = some (.slice A l c) := (b2.out).cell 1
  have x3_0 : W6.cell? ⟨w.heap.size + 1, 0, none⟩ = some (.bool k') := (b3.out).cell 0
  have x3_1 : W6.cell? ⟨w.heap.size + 1, 1, none⟩ = some (.slice A' l' c') := (b3.out).cell 1
  have x4_0 : W6.cell? ⟨w.heap.size + 1 + 1, 0, none⟩ = some (.bool false) := (b4.out).cell 0
  have x4_1 : W6.cell? ⟨w.heap.size + 1 + 1, 1, none⟩ = some (.slice none 0 0) := (b4.out).cell 1
  have x5_0 : W6.cell? ⟨W1.heap.size, 0, none⟩ = some (.bool k') := (b5.out).cell 0
  have x5_1 : W6.cell? ⟨W1.heap.size, 1, none⟩ = some (.slice A' l' c') := (b5.out).cell 1
  have z5_0 : W6.frozen? ⟨W1.heap.size, 0, none⟩ = false := (b5.out).frozen 0
  have z5_1 : W6.frozen? ⟨W1.heap.size, 1, none⟩ = false := (b5.out).frozen 1
  have szb : w.heap.size ≤ W6.heap.size := HB7.out.size
  have s2 : w.heap.size < W6.heap.size := (b2.out).lt
  have s3 : w.heap.size + 1 < W6.heap.size := (b3.out).lt
  have s4 : w.heap.size + 1 + 1 < W6.heap.size := (b4.out).lt
  have s5 : W1.heap.size < W6.heap.size := (b5.out).lt
  go_wp2_with fail
  refine (sign_is H1.out hc).mono ?_
  rintro e W8 ⟨rfl, hb⟩
  have nb := Lib.hid ((b2.out).up hb)
  clear b2
  have b2 := nb
  clear nb
  have nb := Lib.hid ((b3.out).up hb)
  clear b3
  have b3 := nb
  clear nb
  have nb := Lib.hid ((b4.out).up hb)
  clear b4
  have b4 := nb
  clear nb
  have nb := Lib.hid ((b5.out).up hb)
  clear b5
  have b5 := nb
  clear nb
  have f_ := Lib.hid (H1.out.kept (Keep.ofBelow hb))
  clear H1
  have H1 := f_
  clear f_
  have f_ := Lib.hid (H2.out.kept (Keep.ofBelow hb))
  clear H2
  have H2 := f_
  clear f_
  have nbel := below_then HB7.out hb HB7.out.size
  have HB9 := Lib.hid nbel
  clear nbel
  clear HB7
  clear hb
  clear x2_0 x2_1 x3_0 x3_1 x4_0 x4_1 x5_0 x5_1 z5_0 z5_1 szb s2 s3 s4 s5
  have x2_0 : W8.cell? ⟨w.heap.size, 0, none⟩ = some (.bool k) := (b2.out).cell 0
  have x2_1 : W8.cell? ⟨w.heap.size, 1, none⟩ = some (.slice A l c) := (b2.out).cell 1
  have x3_0 : W8.cell? ⟨w.heap.size + 1, 0, none⟩ = some (.bool k') := (b3.out).cell 0
  have x3_1 : W8.cell? ⟨w.heap.size + 1, 1, none⟩ = some (.slice A' l' c') := (b3.out).cell 1
  have x4_0 : W8.cell? ⟨w.heap.size + 1 + 1, 0, none⟩ = some (.bool false) := (b4.out).cell 0
  have x4_1 : W8.cell? ⟨w.heap.size + 1 + 1, 1, none⟩ = some (.slice none 0 0) := (b4.out).cell 1
  have x5_0 : W8.cell? ⟨W1.heap.size, 0, none⟩ = some (.bool k') := (b5.out).cell 0
  have x5_1 : W8.cell? ⟨W1.heap.size, 1, none⟩ = some (.slice A' l' c') := (b5.out).cell 1
  have z5_0 : W8.frozen? ⟨W1.heap.size, 0, none⟩ = false := (b5.out).frozen 0
  have z5_1 : W8.frozen? ⟨W1.heap.size, 1, none⟩ = false := (b5.out).frozen 1
  have szb : w.heap.size ≤ W8.heap.size := HB9.out.size
  have s2 : w.heap.size < W8.heap.size := (b2.out).lt
  have s3 : w.heap.size + 1 < W8.heap.size := (b3.out).lt
  have s4 : w.heap.size + 1 + 1 < W8.heap.size := (b4.out).lt
  have s5 : W1.heap.size < W8.heap.size := (b5.out).lt
  go_wp2_with fail
  refine (of_fact (n := 2) (by decide) (by decide)).mono ?_
  rintro e W10 ⟨v2, rfl, hv2, hb⟩
  have nb := Lib.hid ((b2.out).up hb)
  clear b2
  have b2 := nb
  clear nb
  have nb := Lib.hid ((b3.out).up hb)
  clear b3
  have b3 := nb
  clear nb
  have nb := Lib.hid ((b4.out).up hb)
  clear b4
  have b4 := nb
  clear nb
  have nb := Lib.hid ((b5.out).up hb)
  clear b5
  have b5 := nb
  clear nb
  have f_ := Lib.hid (H1.out.kept (Keep.ofBelow hb))
  clear H1
  have H1 := f_
  clear f_
  have f_ := Lib.hid (H2.out.kept (Keep.ofBelow hb))
  clear H2
  have H2 := f_
  clear f_
  have nbel := below_then HB9.out hb HB9.out.size
  have HB11 := Lib.hid nbel
  clear nbel
  clear HB9
  clear hb
  clear x2_0 x2_1 x3_0 x3_1 x4_0 x4_1 x5_0 x5_1 z5_0 z5_1 szb s2 s3 s4 s5
  have x2_0 : W10.cell? ⟨w.heap.size, 0, none⟩ = some (.bool k) := (b2.out).cell 0
  have x2_1 : W10.cell? ⟨w.heap.size, 1, none⟩ = some (.slice A l c) := (b2.out).cell 1
  have x3_0 : W10.cell? ⟨w.heap.size + 1, 0, none⟩ = some (.bool k') := (b3.out).cell 0
  have x3_1 : W10.cell? ⟨w.heap.size + 1, 1, none⟩ = some (.slice A' l' c') := (b3.out).cell 1
  have x4_0 : W10.cell? ⟨w.heap.size + 1 + 1, 0, none⟩ = some (.bool false) := (b4.out).cell 0
  have x4_1 : W10.cell? ⟨w.heap.size + 1 + 1, 1, none⟩ = some (.slice none 0 0) := (b4.out).cell 1
  have x5_0 : W10.cell? ⟨W1.heap.size, 0, none⟩ = some (.bool k') := (b5.out).cell 0
  have x5_1 : W10.cell? ⟨W1.heap.size, 1, none⟩ = some (.slice A' l' c') := (b5.out).cell 1
  have z5_0 : W10.frozen? ⟨W1.heap.size, 0, none⟩ = false := (b5.out).frozen 0
  have z5_1 : W10.frozen? ⟨W1.heap.size, 1, none⟩ = false := (b5.out).frozen 1
  have szb : w.heap.size ≤ W10.heap.size := HB11.out.size
  have s2 : w.heap.size < W10.heap.size := (b2.out).lt
  have s3 : w.heap.size + 1 < W10.heap.size := (b3.out).lt
  have s4 : w.heap.size + 1 + 1 < W10.heap.size := (b4.out).lt
  have s5 : W1.heap.size < W10.heap.size := (b5.out).lt
  obtain ⟨k3, A3, l3, c3, rfl⟩ := hv2.open
  have HO := Lib.hid hv2
  clear hv2
  go_upto_region 5 with (fail)
  have q12 : w.heap.size < W10.heap.size := (b2.out).lt
  have q13 : w.heap.size + 1 < W10.heap.size := (b3.out).lt
  have q14 : w.heap.size + 1 + 1 < W10.heap.size := (b4.out).lt
  have q15 : W1.heap.size < W10.heap.size := (b5.out).lt
  change Code.wp Tryd.prog _ _ _ (W10.alloc (.cells #[.bool k3, .slice A3 l3 c3] 25))
  have nb2 : Bx 25 (W10.alloc (.cells #[.bool k3, .slice A3 l3 c3] 25)) w.heap.size [.bool k, .slice A l c] := (Bx.alloc b2.out (.cells #[.bool k3, .slice A3 l3 c3] 25))
  have nb3 : Bx 25 (W10.alloc (.cells #[.bool k3, .slice A3 l3 c3] 25)) (w.heap.size + 1) [.bool k', .slice A' l' c'] := (Bx.alloc b3.out (.cells #[.bool k3, .slice A3 l3 c3] 25))
  have nb4 : Bx 25 (W10.alloc (.cells #[.bool k3, .slice A3 l3 c3] 25)) (w.heap.size + 1 + 1) [.bool false, .slice none 0 0] := (Bx.alloc b4.out (.cells #[.bool k3, .slice A3 l3 c3] 25))
  have nb5 : Bx 25 (W10.alloc (.cells #[.bool k3, .slice A3 l3 c3] 25)) W1.heap.size [.bool k', .slice A' l' c'] := (Bx.alloc b5.out (.cells #[.bool k3, .slice A3 l3 c3] 25))
  have nb6 := (Bx.new 25 W10 [.bool k3, .slice A3 l3 c3] (leaf2 (Leaf.bool k3) (Leaf.slice A3 l3 c3)))
  have nkeep := (Keep.alloc (Keep.refl W10) (.cells #[.bool k3, .slice A3 l3 c3] 25))
  have nbel : Below w.heap.size w (W10.alloc (.cells #[.bool k3, .slice A3 l3 c3] 25)) := (Below.alloc HB11.out (by first | omega | (simp; done) | (simp; omega) | (simp [World.setCell]; done) | (simp [World.setCell]; omega)) (.cells #[.bool k3, .slice A3 l3 c3] 25))
  generalize W10.alloc (.cells #[.bool k3, .slice A3 l3 c3] 25) = W16 at *
  clear x2_0 x2_1 x3_0 x3_1 x4_0 x4_1 x5_0 x5_1 z5_0 z5_1 szb s2 s3 s4 s5
  clear b2 b3 b4 b5
  have b2 := Lib.hid nb2
  have b3 := Lib.hid nb3
  have b4 := Lib.hid nb4
  have b5 := Lib.hid nb5
  have b6 := Lib.hid nb6
  clear nb2 nb3 nb4 nb5 nb6
  have f_ := Lib.hid (H1.out.kept nkeep)
  clear H1
  have H1 := f_
  clear f_
  have f_ := Lib.hid (H2.out.kept nkeep)
  clear H2
  have H2 := f_
  clear f_
  have f_ := Lib.hid (HO.out.kept nkeep)
  clear HO
  have HO := f_
  clear f_
  clear nkeep
  have HB17 := Lib.hid nbel
  clear nbel
  clear HB11
  have x2_0 : W16.cell? ⟨w.heap.size, 0, none⟩ = some (.bool k) := (b2.out).cell 0
  have x2_1 : W16.cell? ⟨w.heap.size, 1, none⟩ = some (.slice A l c) := (b2.out).cell 1
  have x3_0 : W16.cell? ⟨w.heap.size + 1, 0, none⟩ = some (.bool k') := (b3.out).cell 0
  have x3_1 : W16.cell? ⟨w.heap.size + 1, 1, none⟩ = some (.slice A' l' c') := (b3.out).cell 1
  have x4_0 : W16.cell? ⟨w.heap.size + 1 + 1, 0, none⟩ = some (.bool false) := (b4.out).cell 0
  have x4_1 : W16.cell? ⟨w.heap.size + 1 + 1, 1, none⟩ = some (.slice none 0 0) := (b4.out).cell 1
  have x5_0 : W16.cell? ⟨W1.heap.size, 0, none⟩ = some (.bool k') := (b5.out).cell 0
  have x5_1 : W16.cell? ⟨W1.heap.size, 1, none⟩ = some (.slice A' l' c') := (b5.out).cell 1
  have z5_0 : W16.frozen? ⟨W1.heap.size, 0, none⟩ = false := (b5.out).frozen 0
  have z5_1 : W16.frozen? ⟨W1.heap.size, 1, none⟩ = false := (b5.out).frozen 1
  have x6_0 : W16.cell? ⟨W10.heap.size, 0, none⟩ = some (.bool k3) := (b6.out).cell 0
  have x6_1 : W16.cell? ⟨W10.heap.size, 1, none⟩ = some (.slice A3 l3 c3) := (b6.out).cell 1
  have szb : w.heap.size ≤ W16.heap.size := HB17.out.size
  have s2 : w.heap.size < W16.heap.size := (b2.out).lt
  have s3 : w.heap.size + 1 < W16.heap.size := (b3.out).lt
  have s4 : w.heap.size + 1 + 1 < W16.heap.size := (b4.out).lt
  have s5 : W1.heap.size < W16.heap.size := (b5.out).lt
  have s6 : W10.heap.size < W16.heap.size := (b6.out).lt
  refine AS.region_facts (nearFLP a b n W16) (JFst W16 25) [[], [], [18, 19], [], [20, 21], [], [], [23, 24], [22, 25], [26], [17], [17], [17], [], [], [27, 7], [28, 8], [29]] [15, 16] [[], [27, 7], [27, 7]] [0, 0, 2, 0, 2, 0, 0, 2, 2, 2, 2, 2, 2, 0, 0, 2, 2, 2] [7, 8] (fun u => by simp only [nearFLP, AS.temps, List.map_cons, List.map_nil, fillL, List.setIfInBounds_toArray, List.set_cons_zero, List.set_cons_succ]; rfl) (by kernel_rfl) (by kernel_rfl) (JFst.st W16 25) (below_drew (Below.refl _ _)) ?_ ?_
  · refine AS.StepsOk.cons rfl rfl rfl ?_ ?_
    · intro k_ u w_ hk hJ hF K hK
      clear hF
      obtain rfl : k_ = 0 := Nat.le_zero.1 hk
      have hJ0 : Below W16.heap.size W16 w_ := hJ
      have y0 : w_.cell? ⟨w.heap.size, 0, none⟩ = some (.bool k) := ((b2.out).up hJ0).cell 0
      have y1 : w_.cell? ⟨w.heap.size, 1, none⟩ = some (.slice A l c) := ((b2.out).up hJ0).cell 1
      go_simp
      exact hK.out _ _ (Below.refl _ _) ((H1.out).kept (Keep.ofBelow hJ0)) trivial
    refine AS.StepsOk.cons rfl rfl rfl ?_ ?_
    · intro k_ u w_ hk hJ hF K hK
      clear hF
      obtain rfl : k_ = 0 := Nat.le_zero.1 hk
      have hJ0 : Below W16.heap.size W16 w_ := hJ
      have y0 : w_.cell? ⟨W10.heap.size, 0, none⟩ = some (.bool k3) := ((b6.out).up hJ0).cell 0
      have y1 : w_.cell? ⟨W10.heap.size, 1, none⟩ = some (.slice A3 l3 c3) := ((b6.out).up hJ0).cell 1
      go_simp
      exact hK.out _ _ (Below.refl _ _) ((HO.out).kept (Keep.ofBelow hJ0)) trivial
    refine AS.StepsOk.cons rfl rfl rfl ?_ ?_
    · intro k_ u w_ hk hJ hF K hK
      have h18 : PInt (a) n (u 18) w_ := AS.facts_get hF 18 (by simp)
      have h19 : PInt (2) 3 (u 19) w_ := AS.facts_get hF 19 (by simp)
      clear hF
      go_simp
      refine (mul_fact h18 h19 (by omega) (by omega)).mono ?_
      rintro e w' ⟨v, rfl, hv, hb⟩
      exact hK.out _ _ hb (hv) trivial
    refine AS.StepsOk.cons rfl rfl rfl ?_ ?_
    · intro k_ u w_ hk hJ hF K hK
      clear hF
      obtain rfl : k_ = 0 := Nat.le_zero.1 hk
      have hJ0 : Below W16.heap.size W16 w_ := hJ
      have y0 : w_.cell? ⟨W1.heap.size, 0, none⟩ = some (.bool k') := ((b5.out).up hJ0).cell 0
      have y1 : w_.cell? ⟨W1.heap.size, 1, none⟩ = some (.slice A' l' c') := ((b5.out).up hJ0).cell 1
      go_simp
      exact hK.out _ _ (Below.refl _ _) ((H2.out).kept (Keep.ofBelow hJ0)) trivial
    refine AS.StepsOk.cons rfl rfl rfl ?_ ?_
    · intro k_ u w_ hk hJ hF K hK
      have h20 : PInt ((a) * (2)) (n + 3) (u 20) w_ := AS.facts_get hF 20 (by simp)
      have h21 : PInt (b) n (u 21) w_ := AS.facts_get hF 21 (by simp)
      clear hF
      go_simp
      refine (add_fact h20 h21 (by omega) (by omega)).mono ?_
      rintro e w' ⟨v, rfl, hv, hb⟩
      exact hK.out _ _ hb (hv) trivial
    refine AS.StepsOk.cons rfl rfl rfl ?_ ?_
    · intro k_ u w_ hk hJ hF K hK
      clear hF
      obtain rfl : k_ = 0 := Nat.le_zero.1 hk
      have hJ0 : Below W16.heap.size W16 w_ := hJ
      have y0 : w_.cell? ⟨w.heap.size + 1, 0, none⟩ = some (.bool k') := ((b3.out).up hJ0).cell 0
      have y1 : w_.cell? ⟨w.heap.size + 1, 1, none⟩ = some (.slice A' l' c') := ((b3.out).up hJ0).cell 1
      go_simp
      exact hK.out _ _ (Below.refl _ _) ((H2.out).kept (Keep.ofBelow hJ0)) trivial
    refine AS.StepsOk.cons rfl rfl rfl ?_ ?_
    · intro k_ u w_ hk hJ hF K hK
      clear hF
      obtain rfl : k_ = 0 := Nat.le_zero.1 hk
      have hJ0 : Below W16.heap.size W16 w_ := hJ
      have y0 : w_.cell? ⟨W10.heap.size, 0, none⟩ = some (.bool k3) := ((b6.out).up hJ0).cell 0
      have y1 : w_.cell? ⟨W10.heap.size, 1, none⟩ = some (.slice A3 l3 c3) := ((b6.out).up hJ0).cell 1
      go_simp
      exact hK.out _ _ (Below.refl _ _) ((HO.out).kept (Keep.ofBelow hJ0)) trivial
    refine AS.StepsOk.cons rfl rfl rfl ?_ ?_
    · intro k_ u w_ hk hJ hF K hK
      have h23 : PInt (b) n (u 23) w_ := AS.facts_get hF 23 (by simp)
      have h24 : PInt (2) 3 (u 24) w_ := AS.facts_get hF 24 (by simp)
      clear hF
      go_simp
      refine (mul_fact h23 h24 (by omega) (by omega)).mono ?_
      rintro e w' ⟨v, rfl, hv, hb⟩
      exact hK.out _ _ hb (hv) trivial
    refine AS.StepsOk.cons rfl rfl rfl ?_ ?_
    · intro k_ u w_ hk hJ hF K hK
      have h22 : PInt (((a) * (2)) + (b)) (((n + 3) + n) + 1) (u 22) w_ := AS.facts_get hF 22 (by simp)
      have h25 : PInt ((b) * (2)) (n + 3) (u 25) w_ := AS.facts_get hF 25 (by simp)
      clear hF
      go_simp
      refine (quo_fact h22 h25 (by omega) (by omega) (by omega)).mono ?_
      rintro e w' ⟨k7, A7, l7, c7, k8, A8, l8, c8, rfl, hq, hr, hb⟩
      exact hK.out _ _ hb (⟨_, _, rfl, hq.more (by omega), hr.more (by omega)⟩) trivial
    refine AS.StepsOk.cons rfl rfl rfl ?_ ?_
    · intro k_ u w_ hk hJ hF K hK
      have h26 : QuoP (Int.tdiv ((a) * (2) + (b)) ((b) * (2))) (Int.tmod ((a) * (2) + (b)) ((b) * (2))) (2 * n + 5) (u 26) w_ := AS.facts_get hF 26 (by simp)
      clear hF
      go_simp
      exact hK.out _ _ (Below.refl _ _) (h26) trivial
    refine AS.StepsOk.cons rfl rfl rfl ?_ ?_
    · intro k_ u w_ hk hJ hF K hK
      have h17 : QuoP (Int.tdiv ((a) * (2) + (b)) ((b) * (2))) (Int.tmod ((a) * (2) + (b)) ((b) * (2))) (2 * n + 5) (u 17) w_ := AS.facts_get hF 17 (by simp)
      clear hF
      obtain ⟨qa, qb, e0, hqa, hqb⟩ := h17
      simp only [e0] at hK ⊢
      go_simp
      exact hK.out _ _ (Below.refl _ _) (hqa) trivial
    refine AS.StepsOk.cons rfl rfl rfl ?_ ?_
    · intro k_ u w_ hk hJ hF K hK
      have h17 : QuoP (Int.tdiv ((a) * (2) + (b)) ((b) * (2))) (Int.tmod ((a) * (2) + (b)) ((b) * (2))) (2 * n + 5) (u 17) w_ := AS.facts_get hF 17 (by simp)
      clear hF
      obtain ⟨qa, qb, e0, hqa, hqb⟩ := h17
      simp only [e0] at hK ⊢
      go_simp
      exact hK.out _ _ (Below.refl _ _) (hqb) trivial
    refine AS.StepsOk.cons rfl rfl rfl ?_ ?_
    · intro k_ u w_ hk hJ hF K hK
      have h17 : QuoP (Int.tdiv ((a) * (2) + (b)) ((b) * (2))) (Int.tmod ((a) * (2) + (b)) ((b) * (2))) (2 * n + 5) (u 17) w_ := AS.facts_get hF 17 (by simp)
      clear hF
      obtain ⟨qa, qb, e0, hqa, hqb⟩ := h17
      simp only [e0] at hK ⊢
      go_simp
      exact hK.out _ _ (Below.refl _ _) (rfl) trivial
    refine AS.StepsOk.cons rfl rfl rfl ?_ ?_
    · intro k_ u w_ hk hJ hF K hK
      clear hF
      obtain rfl : k_ = 0 := Nat.le_zero.1 hk
      have hJ0 : Below W16.heap.size W16 w_ := hJ
      go_simp
      exact hK.out _ _ (below_alloc_new _) (IsBox.new _ hJ0.size) ⟨rfl, by simp⟩
    refine AS.StepsOk.cons rfl rfl rfl ?_ ?_
    · intro k_ u w_ hk hJ hF K hK
      clear hF
      obtain rfl : k_ = 0 := Nat.le_zero.1 hk
      have hJ0 : Below W16.heap.size W16 w_ := hJ
      go_simp
      exact hK.out _ _ (below_alloc_new _) (IsBox.new _ hJ0.size) ⟨rfl, by simp⟩
    refine AS.StepsOk.store rfl rfl ?_ ?_
    · intro u w_ hJ hAp hF K hK
      have h27 : PInt (Int.tdiv ((a) * (2) + (b)) ((b) * (2))) (2 * n + 5) (u 27) w_ := AS.facts_get hF 27 (by simp)
      have h7 : IsBox 25 W16.heap.size (u 7) w_ := AS.facts_get hF 7 (by simp)
      clear hF
      obtain ⟨g, x_, y_, eg, hgB, bx⟩ := h7
      obtain ⟨k1, A1, l1, c1, e_⟩ := h27.open
      have y0 := bx.cell 0
      have y1 := bx.cell 1
      have z0 := bx.frozen 0
      have z1 := bx.frozen 1
      simp only [List.getElem?_cons_zero, List.getElem?_cons_succ] at y0 y1
      have hbel : Below W16.heap.size W16 w_ := hJ
      simp only [e_, eg] at hK ⊢
      go_simp
      exact hK.out undef _ ⟨(Below.setCell (p := ⟨g, 1, none⟩) (Below.setCell (p := ⟨g, 0, none⟩) hbel hgB (.bool k1)) hgB (.slice A1 l1 c1)), g, [.bool k1, .slice A1 l1 c1], by simp [e_, eg], hgB, (Bx.set (Bx.set bx 0 (Leaf.bool k1)) 1 (Leaf.slice A1 l1 c1))⟩ (Keep.set (Keep.set (Keep.refl w_) bx 0 (Leaf.bool k1)) (Bx.set bx 0 (Leaf.bool k1)) 1 (Leaf.slice A1 l1 c1))
    refine AS.StepsOk.store rfl rfl ?_ ?_
    · intro u w_ hJ hAp hF K hK
      have h28 : PInt (Int.tmod ((a) * (2) + (b)) ((b) * (2))) (2 * n + 5) (u 28) w_ := AS.facts_get hF 28 (by simp)
      have h8 : IsBox 25 W16.heap.size (u 8) w_ := AS.facts_get hF 8 (by simp)
      clear hF
      obtain ⟨g, x_, y_, eg, hgB, bx⟩ := h8
      obtain ⟨k1, A1, l1, c1, e_⟩ := h28.open
      have y0 := bx.cell 0
      have y1 := bx.cell 1
      have z0 := bx.frozen 0
      have z1 := bx.frozen 1
      simp only [List.getElem?_cons_zero, List.getElem?_cons_succ] at y0 y1
      obtain ⟨hbel, g2, vs, hvs, hg2, bx2⟩ := hJ
      have e7 : u 7 = .pointer (some ⟨g2, 0, none⟩) := (List.cons.inj (List.cons.inj hvs).2).1
      have hne : g ≠ g2 := by
        intro h
        refine hAp 7 (by simp) 8 (by simp) (by decide) ?_
        rw [e7, eg, h]
      clear e7
      simp only [e_, eg] at hK ⊢
      go_simp
      exact hK.out undef _ ⟨(Below.setCell (p := ⟨g, 1, none⟩) (Below.setCell (p := ⟨g, 0, none⟩) hbel hgB (.bool k1)) hgB (.slice A1 l1 c1)), g2, vs, hvs, hg2, Bx.far (Bx.far bx2 hne 0 (.bool k1)) hne 1 (.slice A1 l1 c1)⟩ (Keep.set (Keep.set (Keep.refl w_) bx 0 (Leaf.bool k1)) (Bx.set bx 0 (Leaf.bool k1)) 1 (Leaf.slice A1 l1 c1))
    refine AS.StepsOk.cons rfl rfl rfl ?_ ?_
    · intro k_ u w_ hk hJ hF K hK
      have h29 : u 29 = .int .i64 0 := AS.facts_get hF 29 (by simp)
      clear hF
      simp only [h29] at hK ⊢
      clear h29
      go_simp
      exact hK.out _ _ (Below.refl _ _) (rfl) trivial
    exact AS.StepsOk.nil
  · intro u W18 hJ9 hF
    have h27 : PInt (Int.tdiv ((a) * (2) + (b)) ((b) * (2))) (2 * n + 5) (u 27) W18 := AS.facts_get hF 27 (by simp [nearFLP, AS.temps])
    clear hF
    obtain ⟨hbel, g, vs, hvs, hgB, bx⟩ := hJ9
    obtain ⟨ka, Aa, la, ca, ea⟩ := h27.open
    rw [ea] at h27
    have e7 : u 7 = .pointer (some ⟨g, 0, none⟩) := (List.cons.inj (List.cons.inj hvs).2).1
    obtain rfl : vs = [.bool ka, .slice Aa la ca] := by
      have e1 := (List.cons.inj hvs).1
      rw [show u 27 = _ from ea] at e1
      have e2 := congrArg Array.toList (Value.agg.inj e1)
      simpa using e2.symm
    clear hvs
    have HQ := Lib.hid h27
    have b7 := Lib.hid bx
    clear h27 bx
    rw [show u 7 = _ from e7]
    clear e7
    have nb := Lib.hid ((b2.out).up hbel)
    clear b2
    have b2 := nb
    clear nb
    have nb := Lib.hid ((b3.out).up hbel)
    clear b3
    have b3 := nb
    clear nb
    have nb := Lib.hid ((b4.out).up hbel)
    clear b4
    have b4 := nb
    clear nb
    have nb := Lib.hid ((b5.out).up hbel)
    clear b5
    have b5 := nb
    clear nb
    have nb := Lib.hid ((b6.out).up hbel)
    clear b6
    have b6 := nb
    clear nb
    have f_ := Lib.hid (H1.out.kept (Keep.ofBelow hbel))
    clear H1
    have H1 := f_
    clear f_
    have f_ := Lib.hid (H2.out.kept (Keep.ofBelow hbel))
    clear H2
    have H2 := f_
    clear f_
    have f_ := Lib.hid (HO.out.kept (Keep.ofBelow hbel))
    clear HO
    have HO := f_
    clear f_
    have nbel := below_then HB17.out hbel HB17.out.size
    have HB19 := Lib.hid nbel
    clear nbel
    clear HB17
    clear hbel
    clear x2_0 x2_1 x3_0 x3_1 x4_0 x4_1 x5_0 x5_1 z5_0 z5_1 x6_0 x6_1 szb s2 s3 s4 s5 s6
    have x2_0 : W18.cell? ⟨w.heap.size, 0, none⟩ = some (.bool k) := (b2.out).cell 0
    have x2_1 : W18.cell? ⟨w.heap.size, 1, none⟩ = some (.slice A l c) := (b2.out).cell 1
    have x3_0 : W18.cell? ⟨w.heap.size + 1, 0, none⟩ = some (.bool k') := (b3.out).cell 0
    have x3_1 : W18.cell? ⟨w.heap.size + 1, 1, none⟩ = some (.slice A' l' c') := (b3.out).cell 1
    have x4_0 : W18.cell? ⟨w.heap.size + 1 + 1, 0, none⟩ = some (.bool false) := (b4.out).cell 0
    have x4_1 : W18.cell? ⟨w.heap.size + 1 + 1, 1, none⟩ = some (.slice none 0 0) := (b4.out).cell 1
    have z4_0 : W18.frozen? ⟨w.heap.size + 1 + 1, 0, none⟩ = false := (b4.out).frozen 0
    have z4_1 : W18.frozen? ⟨w.heap.size + 1 + 1, 1, none⟩ = false := (b4.out).frozen 1
    have x5_0 : W18.cell? ⟨W1.heap.size, 0, none⟩ = some (.bool k') := (b5.out).cell 0
    have x5_1 : W18.cell? ⟨W1.heap.size, 1, none⟩ = some (.slice A' l' c') := (b5.out).cell 1
    have z5_0 : W18.frozen? ⟨W1.heap.size, 0, none⟩ = false := (b5.out).frozen 0
    have z5_1 : W18.frozen? ⟨W1.heap.size, 1, none⟩ = false := (b5.out).frozen 1
    have x6_0 : W18.cell? ⟨W10.heap.size, 0, none⟩ = some (.bool k3) := (b6.out).cell 0
    have x6_1 : W18.cell? ⟨W10.heap.size, 1, none⟩ = some (.slice A3 l3 c3) := (b6.out).cell 1
    have szb : w.heap.size ≤ W18.heap.size := HB19.out.size
    have s2 : w.heap.size < W18.heap.size := (b2.out).lt
    have s3 : w.heap.size + 1 < W18.heap.size := (b3.out).lt
    have s4 : w.heap.size + 1 + 1 < W18.heap.size := (b4.out).lt
    have s5 : W1.heap.size < W18.heap.size := (b5.out).lt
    have s6 : W10.heap.size < W18.heap.size := (b6.out).lt
    clear x2_0 x2_1 x3_0 x3_1 x4_0 x4_1 z4_0 z4_1 x5_0 x5_1 z5_0 z5_1 x6_0 x6_1 szb s2 s3 s4 s5 s6
    have x2_0 : W18.cell? ⟨w.heap.size, 0, none⟩ = some (.bool k) := (b2.out).cell 0
    have x2_1 : W18.cell? ⟨w.heap.size, 1, none⟩ = some (.slice A l c) := (b2.out).cell 1
    have x3_0 : W18.cell? ⟨w.heap.size + 1, 0, none⟩ = some (.bool k') := (b3.out).cell 0
    have x3_1 : W18.cell? ⟨w.heap.size + 1, 1, none⟩ = some (.slice A' l' c') := (b3.out).cell 1
    have x4_0 : W18.cell? ⟨w.heap.size + 1 + 1, 0, none⟩ = some (.bool false) := (b4.out).cell 0
    have x4_1 : W18.cell? ⟨w.heap.size + 1 + 1, 1, none⟩ = some (.slice none 0 0) := (b4.out).cell 1
    have z4_0 : W18.frozen? ⟨w.heap.size + 1 + 1, 0, none⟩ = false := (b4.out).frozen 0
    have z4_1 : W18.frozen? ⟨w.heap.size + 1 + 1, 1, none⟩ = false := (b4.out).frozen 1
    have x5_0 : W18.cell? ⟨W1.heap.size, 0, none⟩ = some (.bool k') := (b5.out).cell 0
    have x5_1 : W18.cell? ⟨W1.heap.size, 1, none⟩ = some (.slice A' l' c') := (b5.out).cell 1
    have z5_0 : W18.frozen? ⟨W1.heap.size, 0, none⟩ = false := (b5.out).frozen 0
    have z5_1 : W18.frozen? ⟨W1.heap.size, 1, none⟩ = false := (b5.out).frozen 1
    have x6_0 : W18.cell? ⟨W10.heap.size, 0, none⟩ = some (.bool k3) := (b6.out).cell 0
    have x6_1 : W18.cell? ⟨W10.heap.size, 1, none⟩ = some (.slice A3 l3 c3) := (b6.out).cell 1
    have x7_0 : W18.cell? ⟨g, 0, none⟩ = some (.bool ka) := (b7.out).cell 0
    have x7_1 : W18.cell? ⟨g, 1, none⟩ = some (.slice Aa la ca) := (b7.out).cell 1
    have szb : w.heap.size ≤ W18.heap.size := HB19.out.size
    have s2 : w.heap.size < W18.heap.size := (b2.out).lt
    have s3 : w.heap.size + 1 < W18.heap.size := (b3.out).lt
    have s4 : w.heap.size + 1 + 1 < W18.heap.size := (b4.out).lt
    have s5 : W1.heap.size < W18.heap.size := (b5.out).lt
    have s6 : W10.heap.size < W18.heap.size := (b6.out).lt
    have s7 : g < W18.heap.size := (b7.out).lt
    go_wp2_with fail
    have hkeep := (Keep.set (Keep.set (Keep.refl W18) b4.out 0 (Leaf.bool ka)) (Bx.set b4.out 0 (Leaf.bool ka)) 1 (Leaf.slice Aa la ca))
    have hbel := (Below.setCell (p := ⟨w.heap.size + 1 + 1, 1, none⟩) (Below.setCell (p := ⟨w.heap.size + 1 + 1, 0, none⟩) HB19.out (by first | omega | (simp; done) | (simp; omega)) (.bool ka)) (by first | omega | (simp; done) | (simp; omega)) (.slice Aa la ca))
    refine bodyPost_ret (v := .agg #[.bool ka, .slice Aa la ca]) (by simp [results, Tryd.results31, go_sem, x4_0, x4_1]) rfl ⟨_, rfl, by rw [← near_eq a b HBP.out, if_neg (by omega)]; exact HQ.out.kept hkeep, hbel⟩
theorem near_fact {a b : Int} {n : Nat} {v v2 : Value} {w : World} (h : PInt a n v w) (h2 : PInt b n v2 w) (hn : n ≤ 90000) (hbp : 0 < b) :
    Calls Tryd.prog 31 #[v, v2] w fun e w' => ∃ v, e = .returned v ∧ PInt (rndI a b) (2 * n + 5) v w' ∧ Below w.heap.size w w' := by
  obtain ⟨k, A, l, c, rfl⟩ := h.open
  obtain ⟨k', A', l', c', rfl⟩ := h2.open
  rcases Int.lt_trichotomy a 0 with ha | ha | ha
  · exact near_neg h h2 hn hbp (by unfold cmpI; rw [if_pos ha]) ha
  · exact near_pos h h2 hn hbp 0 (by decide) (by subst ha; rfl) (by omega)
  · exact near_pos h h2 hn hbp 1 (by decide) (by unfold cmpI; rw [if_neg (by omega), if_neg (by omega)]) (by omega)
end Go.Proofs.YtmpdpfiokjepaaaDoor
