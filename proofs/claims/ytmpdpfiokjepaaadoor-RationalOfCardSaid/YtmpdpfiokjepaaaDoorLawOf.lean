/- RationalOf: for every two ints the statement about Of returns true. -/
import Derived.Test.YtmpdpfiokjepaaaDoorM9
namespace Go.Proofs.YtmpdpfiokjepaaaDoor
open Go.RowKit
open AS (Keep NoInt)

abbrev inI (a b : Int) : Prop := (-9223372036854775808 ≤ a ∧ a ≤ 9223372036854775807) ∧ -9223372036854775808 ≤ b ∧ b ≤ 9223372036854775807
theorem ofq_er {a b er : Int} {w : World} (h : inI a b) (he : (if b = 0 then 10 else 0) = er) :
    Calls Tryd.prog 5 #[.int .i64 a, .int .i64 b] w fun e w' => ∃ v, e = .returned (.tuple #[v, .int .i64 er]) ∧ PRat (Rat.divInt a b) 4 v w' ∧ Below w.heap.size w w' := he ▸ ofq_any h.1.1 h.1.2 h.2.1 h.2.2
theorem rofq_er {a b er : Int} {w : World} (h : inI a b) (he : (if b = 0 then 10 else 0) = er) :
    Calls Tryd.prog 6 #[.int .i64 a, .int .i64 b] w fun e w' => ∃ v, e = .returned (.tuple #[v, .int .i64 er]) ∧ RRat (Rat.divInt a b) 5 v w' ∧ Below w.heap.size w w' := he ▸ rofq_any h.1.1 h.1.2 h.2.1 h.2.2
theorem text_is {z : Int} {n : Nat} {a : Value} {w : World} {T : Array UInt8} (h1 : PInt z n a w) (hn : n ≤ 100000) (ht : Tab w.heap.size w) (hT : (decZ z).toArray = T) :
    Calls Tryd.prog 10 #[a] w fun e w' => e = .returned (.string ⟨T⟩) ∧ Below w.heap.size w w' := hT ▸ text_fact h1 hn ht
theorem txt0 : (decZ 0).toArray = #[48] := by decide +kernel
theorem txt1 : (decZ 1).toArray = #[49] := by decide +kernel
theorem txtq : ratText 0 = [48] := by decide +kernel
def ofLawFL (a b er : Int) : List (Nat × AS.Fact) := [(44, AS.Fact.is (.int .i64 er)), (45, AS.Fact.is (.int .i64 er)), (46, AS.Fact.is (.bool true)), (47, AS.Fact.is (.bool true)), (48, AS.Fact.rat ((Rat.divInt a b)) 4), (49, AS.Fact.rrat ((Rat.divInt a b)) 5), (50, AS.Fact.is (.bool true)), (51, AS.Fact.is (.bool true)), (52, AS.Fact.is (.bool true)), (53, AS.Fact.int ((Rat.divInt a b).num) 5), (54, AS.Fact.is (.string ⟨(decZ ((Rat.divInt a b).num)).toArray⟩)), (55, AS.Fact.ref ((Rat.divInt a b).num) 5), (56, AS.Fact.is (.string ⟨(decZ ((Rat.divInt a b).num)).toArray⟩)), (57, AS.Fact.is (.bool true)), (58, AS.Fact.is (.bool true)), (59, AS.Fact.is (.bool true)), (60, AS.Fact.int (((Rat.divInt a b).den : Int)) 5), (61, AS.Fact.is (.string ⟨(decZ (((Rat.divInt a b).den : Int))).toArray⟩)), (62, AS.Fact.ref (((Rat.divInt a b).den : Int)) 5), (63, AS.Fact.is (.string ⟨(decZ (((Rat.divInt a b).den : Int))).toArray⟩)), (64, AS.Fact.is (.bool true)), (65, AS.Fact.is (.bool true)), (66, AS.Fact.is (.bool true)), (67, AS.Fact.rat ((Rat.divInt a b)) 4), (68, AS.Fact.is (.int .i64 (cmpQ ((Rat.divInt a b)) 0))), (69, AS.Fact.rrat ((Rat.divInt a b)) 5), (70, AS.Fact.is (.int .i64 (cmpQ ((Rat.divInt a b)) 0))), (71, AS.Fact.is (.bool true)), (72, AS.Fact.is (.bool true)), (73, AS.Fact.is (.bool true)), (74, AS.Fact.int (0) 4), (75, AS.Fact.is (.string ⟨#[48]⟩)), (76, AS.Fact.is (.bool true)), (77, AS.Fact.is (.bool true)), (78, AS.Fact.is (.bool true)), (79, AS.Fact.int (1) 4), (80, AS.Fact.is (.string ⟨#[49]⟩)), (81, AS.Fact.is (.bool true)), (82, AS.Fact.is (.bool true)), (83, AS.Fact.is (.bool true)), (84, AS.Fact.rat (0) 3), (85, AS.Fact.is (.string ⟨#[48]⟩)), (86, AS.Fact.is (.bool true)), (87, AS.Fact.is (.bool true)), (4, AS.Fact.is (.bool true))]
set_option maxRecDepth 20000 in
set_option maxHeartbeats 12800000 in
theorem law_of (a b : Int) (w : World) (hr : inI a b) (ht : Tab w.heap.size w) :
    Calls Tryd.prog 3 #[.int .i64 a, .int .i64 b] w fun e w' => e = .returned (.bool true) ∧ Below w.heap.size w w' := by
  have HT := Lib.hid ht
  have HR := Lib.hid hr
  clear ht hr
  obtain ⟨er, her⟩ : ∃ er : Int, (if b = 0 then 10 else 0) = er := ⟨_, rfl⟩
  have HER := Lib.hid her
  clear her
  go_enter Tryd.func3, Tryd.ntmps3
  go_wp2_with fail
  refine (awake_fact HT.out).mono ?_
  rintro e W1 ⟨rfl, hb⟩
  have nbel := hb
  have HB2 := Lib.hid nbel
  clear nbel
  clear hb
  have szb : w.heap.size ≤ W1.heap.size := HB2.out.size
  go_wp2_with fail
  refine (ofq_er HR.out HER.out).mono ?_
  rintro e W3 ⟨v, rfl, hv, hb⟩
  have nbel := below_then HB2.out hb HB2.out.size
  have HB4 := Lib.hid nbel
  clear nbel
  clear HB2
  clear hb
  clear szb
  have szb : w.heap.size ≤ W3.heap.size := HB4.out.size
  obtain ⟨k1, A1, l1, c1, k2, A2, l2, c2, rfl⟩ := hv.open
  have HX := Lib.hid hv
  clear hv
  go_upto_region 4 with (fail)
  change Code.wp Tryd.prog _ _ _ (W3.alloc (.cells #[.bool k1, .slice A1 l1 c1, .bool k2, .slice A2 l2 c2] 27))
  have nb5 := (Bx.new 27 W3 [.bool k1, .slice A1 l1 c1, .bool k2, .slice A2 l2 c2] (leaf4 (Leaf.bool k1) (Leaf.slice A1 l1 c1) (Leaf.bool k2) (Leaf.slice A2 l2 c2)))
  have nkeep := (Keep.alloc (Keep.refl W3) (.cells #[.bool k1, .slice A1 l1 c1, .bool k2, .slice A2 l2 c2] 27))
  have nbel : Below w.heap.size w (W3.alloc (.cells #[.bool k1, .slice A1 l1 c1, .bool k2, .slice A2 l2 c2] 27)) := (Below.alloc HB4.out (by first | omega | (simp; done) | (simp; omega) | (simp [World.setCell]; done) | (simp [World.setCell]; omega)) (.cells #[.bool k1, .slice A1 l1 c1, .bool k2, .slice A2 l2 c2] 27))
  generalize W3.alloc (.cells #[.bool k1, .slice A1 l1 c1, .bool k2, .slice A2 l2 c2] 27) = W5 at *
  clear szb
  have b5 := Lib.hid nb5
  clear nb5
  have f_ := Lib.hid (HX.out.kept nkeep)
  clear HX
  have HX := f_
  clear f_
  clear nkeep
  have HB6 := Lib.hid nbel
  clear nbel
  clear HB4
  have x5_0 : W5.cell? ⟨W3.heap.size, 0, none⟩ = some (.bool k1) := (b5.out).cell 0
  have x5_1 : W5.cell? ⟨W3.heap.size, 1, none⟩ = some (.slice A1 l1 c1) := (b5.out).cell 1
  have x5_2 : W5.cell? ⟨W3.heap.size, 2, none⟩ = some (.bool k2) := (b5.out).cell 2
  have x5_3 : W5.cell? ⟨W3.heap.size, 3, none⟩ = some (.slice A2 l2 c2) := (b5.out).cell 3
  have szb : w.heap.size ≤ W5.heap.size := HB6.out.size
  have s5 : W3.heap.size < W5.heap.size := (b5.out).lt
  go_wp2_with fail
  refine (rofq_er HR.out HER.out).mono ?_
  rintro e W7 ⟨v, rfl, hv, hb⟩
  have nb := Lib.hid ((b5.out).up hb)
  clear b5
  have b5 := nb
  clear nb
  have f_ := Lib.hid (HX.out.kept (Keep.ofBelow hb))
  clear HX
  have HX := f_
  clear f_
  have nbel := below_then HB6.out hb HB6.out.size
  have HB8 := Lib.hid nbel
  clear nbel
  clear HB6
  clear hb
  clear x5_0 x5_1 x5_2 x5_3 szb s5
  have x5_0 : W7.cell? ⟨W3.heap.size, 0, none⟩ = some (.bool k1) := (b5.out).cell 0
  have x5_1 : W7.cell? ⟨W3.heap.size, 1, none⟩ = some (.slice A1 l1 c1) := (b5.out).cell 1
  have x5_2 : W7.cell? ⟨W3.heap.size, 2, none⟩ = some (.bool k2) := (b5.out).cell 2
  have x5_3 : W7.cell? ⟨W3.heap.size, 3, none⟩ = some (.slice A2 l2 c2) := (b5.out).cell 3
  have szb : w.heap.size ≤ W7.heap.size := HB8.out.size
  have s5 : W3.heap.size < W7.heap.size := (b5.out).lt
  obtain ⟨k3, A3, l3, c3, k4, A4, l4, c4, rfl⟩ := hv.open
  have HA := Lib.hid hv
  clear hv
  go_upto_region 5 with (fail)
  have q9 : W3.heap.size < W7.heap.size := (b5.out).lt
  change Code.wp Tryd.prog _ _ _ (W7.alloc (.cells #[.bool k3, .slice A3 l3 c3, .bool k4, .slice A4 l4 c4] 35))
  have nb5 : Bx 27 (W7.alloc (.cells #[.bool k3, .slice A3 l3 c3, .bool k4, .slice A4 l4 c4] 35)) W3.heap.size [.bool k1, .slice A1 l1 c1, .bool k2, .slice A2 l2 c2] := (Bx.alloc b5.out (.cells #[.bool k3, .slice A3 l3 c3, .bool k4, .slice A4 l4 c4] 35))
  have nb7 := (Bx.new 35 W7 [.bool k3, .slice A3 l3 c3, .bool k4, .slice A4 l4 c4] (leaf4 (Leaf.bool k3) (Leaf.slice A3 l3 c3) (Leaf.bool k4) (Leaf.slice A4 l4 c4)))
  have nkeep := (Keep.alloc (Keep.refl W7) (.cells #[.bool k3, .slice A3 l3 c3, .bool k4, .slice A4 l4 c4] 35))
  have nbel : Below w.heap.size w (W7.alloc (.cells #[.bool k3, .slice A3 l3 c3, .bool k4, .slice A4 l4 c4] 35)) := (Below.alloc HB8.out (by first | omega | (simp; done) | (simp; omega) | (simp [World.setCell]; done) | (simp [World.setCell]; omega)) (.cells #[.bool k3, .slice A3 l3 c3, .bool k4, .slice A4 l4 c4] 35))
  generalize W7.alloc (.cells #[.bool k3, .slice A3 l3 c3, .bool k4, .slice A4 l4 c4] 35) = W10 at *
  clear x5_0 x5_1 x5_2 x5_3 szb s5
  clear b5
  have b5 := Lib.hid nb5
  have b7 := Lib.hid nb7
  clear nb5 nb7
  have f_ := Lib.hid (HX.out.kept nkeep)
  clear HX
  have HX := f_
  clear f_
  have f_ := Lib.hid (HA.out.kept nkeep)
  clear HA
  have HA := f_
  clear f_
  clear nkeep
  have HB11 := Lib.hid nbel
  clear nbel
  clear HB8
  have x5_0 : W10.cell? ⟨W3.heap.size, 0, none⟩ = some (.bool k1) := (b5.out).cell 0
  have x5_1 : W10.cell? ⟨W3.heap.size, 1, none⟩ = some (.slice A1 l1 c1) := (b5.out).cell 1
  have x5_2 : W10.cell? ⟨W3.heap.size, 2, none⟩ = some (.bool k2) := (b5.out).cell 2
  have x5_3 : W10.cell? ⟨W3.heap.size, 3, none⟩ = some (.slice A2 l2 c2) := (b5.out).cell 3
  have x7_0 : W10.cell? ⟨W7.heap.size, 0, none⟩ = some (.bool k3) := (b7.out).cell 0
  have x7_1 : W10.cell? ⟨W7.heap.size, 1, none⟩ = some (.slice A3 l3 c3) := (b7.out).cell 1
  have x7_2 : W10.cell? ⟨W7.heap.size, 2, none⟩ = some (.bool k4) := (b7.out).cell 2
  have x7_3 : W10.cell? ⟨W7.heap.size, 3, none⟩ = some (.slice A4 l4 c4) := (b7.out).cell 3
  have szb : w.heap.size ≤ W10.heap.size := HB11.out.size
  have s5 : W3.heap.size < W10.heap.size := (b5.out).lt
  have s7 : W7.heap.size < W10.heap.size := (b7.out).lt
  go_wp2_with fail
  refine (ratParts_fact HX.out (by decide) (by decide)).mono ?_
  rintro e W12 ⟨v, v2, rfl, hp, hq, hb⟩
  have nb := Lib.hid ((b5.out).up hb)
  clear b5
  have b5 := nb
  clear nb
  have nb := Lib.hid ((b7.out).up hb)
  clear b7
  have b7 := nb
  clear nb
  have f_ := Lib.hid (HX.out.kept (Keep.ofBelow hb))
  clear HX
  have HX := f_
  clear f_
  have f_ := Lib.hid (HA.out.kept (Keep.ofBelow hb))
  clear HA
  have HA := f_
  clear f_
  have nbel := below_then HB11.out hb HB11.out.size
  have HB13 := Lib.hid nbel
  clear nbel
  clear HB11
  clear hb
  clear x5_0 x5_1 x5_2 x5_3 x7_0 x7_1 x7_2 x7_3 szb s5 s7
  have x5_0 : W12.cell? ⟨W3.heap.size, 0, none⟩ = some (.bool k1) := (b5.out).cell 0
  have x5_1 : W12.cell? ⟨W3.heap.size, 1, none⟩ = some (.slice A1 l1 c1) := (b5.out).cell 1
  have x5_2 : W12.cell? ⟨W3.heap.size, 2, none⟩ = some (.bool k2) := (b5.out).cell 2
  have x5_3 : W12.cell? ⟨W3.heap.size, 3, none⟩ = some (.slice A2 l2 c2) := (b5.out).cell 3
  have x7_0 : W12.cell? ⟨W7.heap.size, 0, none⟩ = some (.bool k3) := (b7.out).cell 0
  have x7_1 : W12.cell? ⟨W7.heap.size, 1, none⟩ = some (.slice A3 l3 c3) := (b7.out).cell 1
  have x7_2 : W12.cell? ⟨W7.heap.size, 2, none⟩ = some (.bool k4) := (b7.out).cell 2
  have x7_3 : W12.cell? ⟨W7.heap.size, 3, none⟩ = some (.slice A4 l4 c4) := (b7.out).cell 3
  have szb : w.heap.size ≤ W12.heap.size := HB13.out.size
  have s5 : W3.heap.size < W12.heap.size := (b5.out).lt
  have s7 : W7.heap.size < W12.heap.size := (b7.out).lt
  obtain ⟨k5, A5, l5, c5, rfl⟩ := hp.open
  obtain ⟨k6, A6, l6, c6, rfl⟩ := hq.open
  have HP := Lib.hid hp
  have HQ := Lib.hid hq
  clear hp hq
  go_upto_region 6 with (fail)
  have q14 : W3.heap.size < W12.heap.size := (b5.out).lt
  have q15 : W7.heap.size < W12.heap.size := (b7.out).lt
  change Code.wp Tryd.prog _ _ _ ((W12.alloc (.cells #[.bool k5, .slice A5 l5 c5] 25)).alloc (.cells #[.bool k6, .slice A6 l6 c6] 25))
  have nb5 : Bx 27 ((W12.alloc (.cells #[.bool k5, .slice A5 l5 c5] 25)).alloc (.cells #[.bool k6, .slice A6 l6 c6] 25)) W3.heap.size [.bool k1, .slice A1 l1 c1, .bool k2, .slice A2 l2 c2] := (Bx.alloc (Bx.alloc b5.out (.cells #[.bool k5, .slice A5 l5 c5] 25)) (.cells #[.bool k6, .slice A6 l6 c6] 25))
  have nb7 : Bx 35 ((W12.alloc (.cells #[.bool k5, .slice A5 l5 c5] 25)).alloc (.cells #[.bool k6, .slice A6 l6 c6] 25)) W7.heap.size [.bool k3, .slice A3 l3 c3, .bool k4, .slice A4 l4 c4] := (Bx.alloc (Bx.alloc b7.out (.cells #[.bool k5, .slice A5 l5 c5] 25)) (.cells #[.bool k6, .slice A6 l6 c6] 25))
  have nb9 := (Bx.alloc (Bx.new 25 W12 [.bool k5, .slice A5 l5 c5] (leaf2 (Leaf.bool k5) (Leaf.slice A5 l5 c5))) (.cells #[.bool k6, .slice A6 l6 c6] 25))
  have nb10 := (Bx.new 25 (W12.alloc (.cells #[.bool k5, .slice A5 l5 c5] 25)) [.bool k6, .slice A6 l6 c6] (leaf2 (Leaf.bool k6) (Leaf.slice A6 l6 c6)))
  rw [show (W12.alloc (.cells #[.bool k5, .slice A5 l5 c5] 25)).heap.size = W12.heap.size + 1 by simp] at nb10
  have nkeep := (Keep.alloc (Keep.alloc (Keep.refl W12) (.cells #[.bool k5, .slice A5 l5 c5] 25)) (.cells #[.bool k6, .slice A6 l6 c6] 25))
  have nbel : Below w.heap.size w ((W12.alloc (.cells #[.bool k5, .slice A5 l5 c5] 25)).alloc (.cells #[.bool k6, .slice A6 l6 c6] 25)) := (Below.alloc (Below.alloc HB13.out (by first | omega | (simp; done) | (simp; omega) | (simp [World.setCell]; done) | (simp [World.setCell]; omega)) (.cells #[.bool k5, .slice A5 l5 c5] 25)) (by first | omega | (simp; done) | (simp; omega) | (simp [World.setCell]; done) | (simp [World.setCell]; omega)) (.cells #[.bool k6, .slice A6 l6 c6] 25))
  generalize (W12.alloc (.cells #[.bool k5, .slice A5 l5 c5] 25)).alloc (.cells #[.bool k6, .slice A6 l6 c6] 25) = W16 at *
  clear x5_0 x5_1 x5_2 x5_3 x7_0 x7_1 x7_2 x7_3 szb s5 s7
  clear b5 b7
  have b5 := Lib.hid nb5
  have b7 := Lib.hid nb7
  have b9 := Lib.hid nb9
  have b10 := Lib.hid nb10
  clear nb5 nb7 nb9 nb10
  have f_ := Lib.hid (HX.out.kept nkeep)
  clear HX
  have HX := f_
  clear f_
  have f_ := Lib.hid (HA.out.kept nkeep)
  clear HA
  have HA := f_
  clear f_
  have f_ := Lib.hid (HP.out.kept nkeep)
  clear HP
  have HP := f_
  clear f_
  have f_ := Lib.hid (HQ.out.kept nkeep)
  clear HQ
  have HQ := f_
  clear f_
  clear nkeep
  have HB17 := Lib.hid nbel
  clear nbel
  clear HB13
  have x5_0 : W16.cell? ⟨W3.heap.size, 0, none⟩ = some (.bool k1) := (b5.out).cell 0
  have x5_1 : W16.cell? ⟨W3.heap.size, 1, none⟩ = some (.slice A1 l1 c1) := (b5.out).cell 1
  have x5_2 : W16.cell? ⟨W3.heap.size, 2, none⟩ = some (.bool k2) := (b5.out).cell 2
  have x5_3 : W16.cell? ⟨W3.heap.size, 3, none⟩ = some (.slice A2 l2 c2) := (b5.out).cell 3
  have x7_0 : W16.cell? ⟨W7.heap.size, 0, none⟩ = some (.bool k3) := (b7.out).cell 0
  have x7_1 : W16.cell? ⟨W7.heap.size, 1, none⟩ = some (.slice A3 l3 c3) := (b7.out).cell 1
  have x7_2 : W16.cell? ⟨W7.heap.size, 2, none⟩ = some (.bool k4) := (b7.out).cell 2
  have x7_3 : W16.cell? ⟨W7.heap.size, 3, none⟩ = some (.slice A4 l4 c4) := (b7.out).cell 3
  have x9_0 : W16.cell? ⟨W12.heap.size, 0, none⟩ = some (.bool k5) := (b9.out).cell 0
  have x9_1 : W16.cell? ⟨W12.heap.size, 1, none⟩ = some (.slice A5 l5 c5) := (b9.out).cell 1
  have x10_0 : W16.cell? ⟨W12.heap.size + 1, 0, none⟩ = some (.bool k6) := (b10.out).cell 0
  have x10_1 : W16.cell? ⟨W12.heap.size + 1, 1, none⟩ = some (.slice A6 l6 c6) := (b10.out).cell 1
  have szb : w.heap.size ≤ W16.heap.size := HB17.out.size
  have s5 : W3.heap.size < W16.heap.size := (b5.out).lt
  have s7 : W7.heap.size < W16.heap.size := (b7.out).lt
  have s9 : W12.heap.size < W16.heap.size := (b9.out).lt
  have s10 : W12.heap.size + 1 < W16.heap.size := (b10.out).lt
  go_wp2_with fail
  refine (rparts_fact HA.out (by decide)).mono ?_
  rintro e W18 ⟨k7, A7, l7, c7, k8, A8, l8, c8, rfl, hp, hq, hb⟩
  have nb := Lib.hid ((b5.out).up hb)
  clear b5
  have b5 := nb
  clear nb
  have nb := Lib.hid ((b7.out).up hb)
  clear b7
  have b7 := nb
  clear nb
  have nb := Lib.hid ((b9.out).up hb)
  clear b9
  have b9 := nb
  clear nb
  have nb := Lib.hid ((b10.out).up hb)
  clear b10
  have b10 := nb
  clear nb
  have f_ := Lib.hid (HX.out.kept (Keep.ofBelow hb))
  clear HX
  have HX := f_
  clear f_
  have f_ := Lib.hid (HA.out.kept (Keep.ofBelow hb))
  clear HA
  have HA := f_
  clear f_
  have f_ := Lib.hid (HP.out.kept (Keep.ofBelow hb))
  clear HP
  have HP := f_
  clear f_
  have f_ := Lib.hid (HQ.out.kept (Keep.ofBelow hb))
  clear HQ
  have HQ := f_
  clear f_
  have nbel := below_then HB17.out hb HB17.out.size
  have HB19 := Lib.hid nbel
  clear nbel
  clear HB17
  clear hb
  clear x5_0 x5_1 x5_2 x5_3 x7_0 x7_1 x7_2 x7_3 x9_0 x9_1 x10_0 x10_1 szb s5 s7 s9 s10
  have x5_0 : W18.cell? ⟨W3.heap.size, 0, none⟩ = some (.bool k1) := (b5.out).cell 0
  have x5_1 : W18.cell? ⟨W3.heap.size, 1, none⟩ = some (.slice A1 l1 c1) := (b5.out).cell 1
  have x5_2 : W18.cell? ⟨W3.heap.size, 2, none⟩ = some (.bool k2) := (b5.out).cell 2
  have x5_3 : W18.cell? ⟨W3.heap.size, 3, none⟩ = some (.slice A2 l2 c2) := (b5.out).cell 3
  have x7_0 : W18.cell? ⟨W7.heap.size, 0, none⟩ = some (.bool k3) := (b7.out).cell 0
  have x7_1 : W18.cell? ⟨W7.heap.size, 1, none⟩ = some (.slice A3 l3 c3) := (b7.out).cell 1
  have x7_2 : W18.cell? ⟨W7.heap.size, 2, none⟩ = some (.bool k4) := (b7.out).cell 2
  have x7_3 : W18.cell? ⟨W7.heap.size, 3, none⟩ = some (.slice A4 l4 c4) := (b7.out).cell 3
  have x9_0 : W18.cell? ⟨W12.heap.size, 0, none⟩ = some (.bool k5) := (b9.out).cell 0
  have x9_1 : W18.cell? ⟨W12.heap.size, 1, none⟩ = some (.slice A5 l5 c5) := (b9.out).cell 1
  have x10_0 : W18.cell? ⟨W12.heap.size + 1, 0, none⟩ = some (.bool k6) := (b10.out).cell 0
  have x10_1 : W18.cell? ⟨W12.heap.size + 1, 1, none⟩ = some (.slice A6 l6 c6) := (b10.out).cell 1
  have szb : w.heap.size ≤ W18.heap.size := HB19.out.size
  have s5 : W3.heap.size < W18.heap.size := (b5.out).lt
  have s7 : W7.heap.size < W18.heap.size := (b7.out).lt
  have s9 : W12.heap.size < W18.heap.size := (b9.out).lt
  have s10 : W12.heap.size + 1 < W18.heap.size := (b10.out).lt
  have HC := Lib.hid hp
  have HD := Lib.hid hq
  clear hp hq
  go_upto_region 7 with (fail)
  have q20 : W3.heap.size < W18.heap.size := (b5.out).lt
  have q21 : W7.heap.size < W18.heap.size := (b7.out).lt
  have q22 : W12.heap.size < W18.heap.size := (b9.out).lt
  have q23 : W12.heap.size + 1 < W18.heap.size := (b10.out).lt
  change Code.wp Tryd.prog _ _ _ ((W18.alloc (.cells #[.bool k7, .slice A7 l7 c7] 33)).alloc (.cells #[.bool k8, .slice A8 l8 c8] 33))
  have nb5 : Bx 27 ((W18.alloc (.cells #[.bool k7, .slice A7 l7 c7] 33)).alloc (.cells #[.bool k8, .slice A8 l8 c8] 33)) W3.heap.size [.bool k1, .slice A1 l1 c1, .bool k2, .slice A2 l2 c2] := (Bx.alloc (Bx.alloc b5.out (.cells #[.bool k7, .slice A7 l7 c7] 33)) (.cells #[.bool k8, .slice A8 l8 c8] 33))
  have nb7 : Bx 35 ((W18.alloc (.cells #[.bool k7, .slice A7 l7 c7] 33)).alloc (.cells #[.bool k8, .slice A8 l8 c8] 33)) W7.heap.size [.bool k3, .slice A3 l3 c3, .bool k4, .slice A4 l4 c4] := (Bx.alloc (Bx.alloc b7.out (.cells #[.bool k7, .slice A7 l7 c7] 33)) (.cells #[.bool k8, .slice A8 l8 c8] 33))
  have nb9 : Bx 25 ((W18.alloc (.cells #[.bool k7, .slice A7 l7 c7] 33)).alloc (.cells #[.bool k8, .slice A8 l8 c8] 33)) W12.heap.size [.bool k5, .slice A5 l5 c5] := (Bx.alloc (Bx.alloc b9.out (.cells #[.bool k7, .slice A7 l7 c7] 33)) (.cells #[.bool k8, .slice A8 l8 c8] 33))
  have nb10 : Bx 25 ((W18.alloc (.cells #[.bool k7, .slice A7 l7 c7] 33)).alloc (.cells #[.bool k8, .slice A8 l8 c8] 33)) (W12.heap.size + 1) [.bool k6, .slice A6 l6 c6] := (Bx.alloc (Bx.alloc b10.out (.cells #[.bool k7, .slice A7 l7 c7] 33)) (.cells #[.bool k8, .slice A8 l8 c8] 33))
  have nb11 := (Bx.alloc (Bx.new 33 W18 [.bool k7, .slice A7 l7 c7] (leaf2 (Leaf.bool k7) (Leaf.slice A7 l7 c7))) (.cells #[.bool k8, .slice A8 l8 c8] 33))
  have nb12 := (Bx.new 33 (W18.alloc (.cells #[.bool k7, .slice A7 l7 c7] 33)) [.bool k8, .slice A8 l8 c8] (leaf2 (Leaf.bool k8) (Leaf.slice A8 l8 c8)))
  rw [show (W18.alloc (.cells #[.bool k7, .slice A7 l7 c7] 33)).heap.size = W18.heap.size + 1 by simp] at nb12
  have nkeep := (Keep.alloc (Keep.alloc (Keep.refl W18) (.cells #[.bool k7, .slice A7 l7 c7] 33)) (.cells #[.bool k8, .slice A8 l8 c8] 33))
  have nbel : Below w.heap.size w ((W18.alloc (.cells #[.bool k7, .slice A7 l7 c7] 33)).alloc (.cells #[.bool k8, .slice A8 l8 c8] 33)) := (Below.alloc (Below.alloc HB19.out (by first | omega | (simp; done) | (simp; omega) | (simp [World.setCell]; done) | (simp [World.setCell]; omega)) (.cells #[.bool k7, .slice A7 l7 c7] 33)) (by first | omega | (simp; done) | (simp; omega) | (simp [World.setCell]; done) | (simp [World.setCell]; omega)) (.cells #[.bool k8, .slice A8 l8 c8] 33))
  generalize (W18.alloc (.cells #[.bool k7, .slice A7 l7 c7] 33)).alloc (.cells #[.bool k8, .slice A8 l8 c8] 33) = W24 at *
  clear x5_0 x5_1 x5_2 x5_3 x7_0 x7_1 x7_2 x7_3 x9_0 x9_1 x10_0 x10_1 szb s5 s7 s9 s10
  clear b5 b7 b9 b10
  have b5 := Lib.hid nb5
  have b7 := Lib.hid nb7
  have b9 := Lib.hid nb9
  have b10 := Lib.hid nb10
  have b11 := Lib.hid nb11
  have b12 := Lib.hid nb12
  clear nb5 nb7 nb9 nb10 nb11 nb12
  have f_ := Lib.hid (HX.out.kept nkeep)
  clear HX
  have HX := f_
  clear f_
  have f_ := Lib.hid (HA.out.kept nkeep)
  clear HA
  have HA := f_
  clear f_
  have f_ := Lib.hid (HP.out.kept nkeep)
  clear HP
  have HP := f_
  clear f_
  have f_ := Lib.hid (HQ.out.kept nkeep)
  clear HQ
  have HQ := f_
  clear f_
  have f_ := Lib.hid (HC.out.kept nkeep)
  clear HC
  have HC := f_
  clear f_
  have f_ := Lib.hid (HD.out.kept nkeep)
  clear HD
  have HD := f_
  clear f_
  clear nkeep
  have HB25 := Lib.hid nbel
  clear nbel
  clear HB19
  have x5_0 : W24.cell? ⟨W3.heap.size, 0, none⟩ = some (.bool k1) := (b5.out).cell 0
  have x5_1 : W24.cell? ⟨W3.heap.size, 1, none⟩ = some (.slice A1 l1 c1) := (b5.out).cell 1
  have x5_2 : W24.cell? ⟨W3.heap.size, 2, none⟩ = some (.bool k2) := (b5.out).cell 2
  have x5_3 : W24.cell? ⟨W3.heap.size, 3, none⟩ = some (.slice A2 l2 c2) := (b5.out).cell 3
  have x7_0 : W24.cell? ⟨W7.heap.size, 0, none⟩ = some (.bool k3) := (b7.out).cell 0
  have x7_1 : W24.cell? ⟨W7.heap.size, 1, none⟩ = some (.slice A3 l3 c3) := (b7.out).cell 1
  have x7_2 : W24.cell? ⟨W7.heap.size, 2, none⟩ = some (.bool k4) := (b7.out).cell 2
  have x7_3 : W24.cell? ⟨W7.heap.size, 3, none⟩ = some (.slice A4 l4 c4) := (b7.out).cell 3
  have x9_0 : W24.cell? ⟨W12.heap.size, 0, none⟩ = some (.bool k5) := (b9.out).cell 0
  have x9_1 : W24.cell? ⟨W12.heap.size, 1, none⟩ = some (.slice A5 l5 c5) := (b9.out).cell 1
  have x10_0 : W24.cell? ⟨W12.heap.size + 1, 0, none⟩ = some (.bool k6) := (b10.out).cell 0
  have x10_1 : W24.cell? ⟨W12.heap.size + 1, 1, none⟩ = some (.slice A6 l6 c6) := (b10.out).cell 1
  have x11_0 : W24.cell? ⟨W18.heap.size, 0, none⟩ = some (.bool k7) := (b11.out).cell 0
  have x11_1 : W24.cell? ⟨W18.heap.size, 1, none⟩ = some (.slice A7 l7 c7) := (b11.out).cell 1
  have x12_0 : W24.cell? ⟨W18.heap.size + 1, 0, none⟩ = some (.bool k8) := (b12.out).cell 0
  have x12_1 : W24.cell? ⟨W18.heap.size + 1, 1, none⟩ = some (.slice A8 l8 c8) := (b12.out).cell 1
  have szb : w.heap.size ≤ W24.heap.size := HB25.out.size
  have s5 : W3.heap.size < W24.heap.size := (b5.out).lt
  have s7 : W7.heap.size < W24.heap.size := (b7.out).lt
  have s9 : W12.heap.size < W24.heap.size := (b9.out).lt
  have s10 : W12.heap.size + 1 < W24.heap.size := (b10.out).lt
  have s11 : W18.heap.size < W24.heap.size := (b11.out).lt
  have s12 : W18.heap.size + 1 < W24.heap.size := (b12.out).lt
  go_wp2_with fail
  refine (ratParts_fact (PRat.zero 3 _) (by decide) (by decide)).mono ?_
  rintro e W26 ⟨v, v2, rfl, hp, hq, hb⟩
  have nb := Lib.hid ((b5.out).up hb)
  clear b5
  have b5 := nb
  clear nb
  have nb := Lib.hid ((b7.out).up hb)
  clear b7
  have b7 := nb
  clear nb
  have nb := Lib.hid ((b9.out).up hb)
  clear b9
  have b9 := nb
  clear nb
  have nb := Lib.hid ((b10.out).up hb)
  clear b10
  have b10 := nb
  clear nb
  have nb := Lib.hid ((b11.out).up hb)
  clear b11
  have b11 := nb
  clear nb
  have nb := Lib.hid ((b12.out).up hb)
  clear b12
  have b12 := nb
  clear nb
  have f_ := Lib.hid (HX.out.kept (Keep.ofBelow hb))
  clear HX
  have HX := f_
  clear f_
  have f_ := Lib.hid (HA.out.kept (Keep.ofBelow hb))
  clear HA
  have HA := f_
  clear f_
  have f_ := Lib.hid (HP.out.kept (Keep.ofBelow hb))
  clear HP
  have HP := f_
  clear f_
  have f_ := Lib.hid (HQ.out.kept (Keep.ofBelow hb))
  clear HQ
  have HQ := f_
  clear f_
  have f_ := Lib.hid (HC.out.kept (Keep.ofBelow hb))
  clear HC
  have HC := f_
  clear f_
  have f_ := Lib.hid (HD.out.kept (Keep.ofBelow hb))
  clear HD
  have HD := f_
  clear f_
  have nbel := below_then HB25.out hb HB25.out.size
  have HB27 := Lib.hid nbel
  clear nbel
  clear HB25
  clear hb
  clear x5_0 x5_1 x5_2 x5_3 x7_0 x7_1 x7_2 x7_3 x9_0 x9_1 x10_0 x10_1 x11_0 x11_1 x12_0 x12_1 szb s5 s7 s9 s10 s11 s12
  have x5_0 : W26.cell? ⟨W3.heap.size, 0, none⟩ = some (.bool k1) := (b5.out).cell 0
  have x5_1 : W26.cell? ⟨W3.heap.size, 1, none⟩ = some (.slice A1 l1 c1) := (b5.out).cell 1
  have x5_2 : W26.cell? ⟨W3.heap.size, 2, none⟩ = some (.bool k2) := (b5.out).cell 2
  have x5_3 : W26.cell? ⟨W3.heap.size, 3, none⟩ = some (.slice A2 l2 c2) := (b5.out).cell 3
  have x7_0 : W26.cell? ⟨W7.heap.size, 0, none⟩ = some (.bool k3) := (b7.out).cell 0
  have x7_1 : W26.cell? ⟨W7.heap.size, 1, none⟩ = some (.slice A3 l3 c3) := (b7.out).cell 1
  have x7_2 : W26.cell? ⟨W7.heap.size, 2, none⟩ = some (.bool k4) := (b7.out).cell 2
  have x7_3 : W26.cell? ⟨W7.heap.size, 3, none⟩ = some (.slice A4 l4 c4) := (b7.out).cell 3
  have x9_0 : W26.cell? ⟨W12.heap.size, 0, none⟩ = some (.bool k5) := (b9.out).cell 0
  have x9_1 : W26.cell? ⟨W12.heap.size, 1, none⟩ = some (.slice A5 l5 c5) := (b9.out).cell 1
  have x10_0 : W26.cell? ⟨W12.heap.size + 1, 0, none⟩ = some (.bool k6) := (b10.out).cell 0
  have x10_1 : W26.cell? ⟨W12.heap.size + 1, 1, none⟩ = some (.slice A6 l6 c6) := (b10.out).cell 1
  have x11_0 : W26.cell? ⟨W18.heap.size, 0, none⟩ = some (.bool k7) := (b11.out).cell 0
  have x11_1 : W26.cell? ⟨W18.heap.size, 1, none⟩ = some (.slice A7 l7 c7) := (b11.out).cell 1
  have x12_0 : W26.cell? ⟨W18.heap.size + 1, 0, none⟩ = some (.bool k8) := (b12.out).cell 0
  have x12_1 : W26.cell? ⟨W18.heap.size + 1, 1, none⟩ = some (.slice A8 l8 c8) := (b12.out).cell 1
  have szb : w.heap.size ≤ W26.heap.size := HB27.out.size
  have s5 : W3.heap.size < W26.heap.size := (b5.out).lt
  have s7 : W7.heap.size < W26.heap.size := (b7.out).lt
  have s9 : W12.heap.size < W26.heap.size := (b9.out).lt
  have s10 : W12.heap.size + 1 < W26.heap.size := (b10.out).lt
  have s11 : W18.heap.size < W26.heap.size := (b11.out).lt
  have s12 : W18.heap.size + 1 < W26.heap.size := (b12.out).lt
  obtain ⟨k9, A9, l9, c9, rfl⟩ := hp.open
  obtain ⟨k0, A0, l0, c0, rfl⟩ := hq.open
  have HN := Lib.hid hp
  have HM := Lib.hid hq
  clear hp hq
  go_upto_region 8 with (fail)
  have q28 : W3.heap.size < W26.heap.size := (b5.out).lt
  have q29 : W7.heap.size < W26.heap.size := (b7.out).lt
  have q30 : W12.heap.size < W26.heap.size := (b9.out).lt
  have q31 : W12.heap.size + 1 < W26.heap.size := (b10.out).lt
  have q32 : W18.heap.size < W26.heap.size := (b11.out).lt
  have q33 : W18.heap.size + 1 < W26.heap.size := (b12.out).lt
  change Code.wp Tryd.prog _ _ _ ((W26.alloc (.cells #[.bool k9, .slice A9 l9 c9] 25)).alloc (.cells #[.bool k0, .slice A0 l0 c0] 25))
  have nb5 : Bx 27 ((W26.alloc (.cells #[.bool k9, .slice A9 l9 c9] 25)).alloc (.cells #[.bool k0, .slice A0 l0 c0] 25)) W3.heap.size [.bool k1, .slice A1 l1 c1, .bool k2, .slice A2 l2 c2] := (Bx.alloc (Bx.alloc b5.out (.cells #[.bool k9, .slice A9 l9 c9] 25)) (.cells #[.bool k0, .slice A0 l0 c0] 25))
  have nb7 : Bx 35 ((W26.alloc (.cells #[.bool k9, .slice A9 l9 c9] 25)).alloc (.cells #[.bool k0, .slice A0 l0 c0] 25)) W7.heap.size [.bool k3, .slice A3 l3 c3, .bool k4, .slice A4 l4 c4] := (Bx.alloc (Bx.alloc b7.out (.cells #[.bool k9, .slice A9 l9 c9] 25)) (.cells #[.bool k0, .slice A0 l0 c0] 25))
  have nb9 : Bx 25 ((W26.alloc (.cells #[.bool k9, .slice A9 l9 c9] 25)).alloc (.cells #[.bool k0, .slice A0 l0 c0] 25)) W12.heap.size [.bool k5, .slice A5 l5 c5] := (Bx.alloc (Bx.alloc b9.out (.cells #[.bool k9, .slice A9 l9 c9] 25)) (.cells #[.bool k0, .slice A0 l0 c0] 25))
  have nb10 : Bx 25 ((W26.alloc (.cells #[.bool k9, .slice A9 l9 c9] 25)).alloc (.cells #[.bool k0, .slice A0 l0 c0] 25)) (W12.heap.size + 1) [.bool k6, .slice A6 l6 c6] := (Bx.alloc (Bx.alloc b10.out (.cells #[.bool k9, .slice A9 l9 c9] 25)) (.cells #[.bool k0, .slice A0 l0 c0] 25))
  have nb11 : Bx 33 ((W26.alloc (.cells #[.bool k9, .slice A9 l9 c9] 25)).alloc (.cells #[.bool k0, .slice A0 l0 c0] 25)) W18.heap.size [.bool k7, .slice A7 l7 c7] := (Bx.alloc (Bx.alloc b11.out (.cells #[.bool k9, .slice A9 l9 c9] 25)) (.cells #[.bool k0, .slice A0 l0 c0] 25))
  have nb12 : Bx 33 ((W26.alloc (.cells #[.bool k9, .slice A9 l9 c9] 25)).alloc (.cells #[.bool k0, .slice A0 l0 c0] 25)) (W18.heap.size + 1) [.bool k8, .slice A8 l8 c8] := (Bx.alloc (Bx.alloc b12.out (.cells #[.bool k9, .slice A9 l9 c9] 25)) (.cells #[.bool k0, .slice A0 l0 c0] 25))
  have nb13 := (Bx.alloc (Bx.new 25 W26 [.bool k9, .slice A9 l9 c9] (leaf2 (Leaf.bool k9) (Leaf.slice A9 l9 c9))) (.cells #[.bool k0, .slice A0 l0 c0] 25))
  have nb14 := (Bx.new 25 (W26.alloc (.cells #[.bool k9, .slice A9 l9 c9] 25)) [.bool k0, .slice A0 l0 c0] (leaf2 (Leaf.bool k0) (Leaf.slice A0 l0 c0)))
  rw [show (W26.alloc (.cells #[.bool k9, .slice A9 l9 c9] 25)).heap.size = W26.heap.size + 1 by simp] at nb14
  have nkeep := (Keep.alloc (Keep.alloc (Keep.refl W26) (.cells #[.bool k9, .slice A9 l9 c9] 25)) (.cells #[.bool k0, .slice A0 l0 c0] 25))
  have nbel : Below w.heap.size w ((W26.alloc (.cells #[.bool k9, .slice A9 l9 c9] 25)).alloc (.cells #[.bool k0, .slice A0 l0 c0] 25)) := (Below.alloc (Below.alloc HB27.out (by first | omega | (simp; done) | (simp; omega) | (simp [World.setCell]; done) | (simp [World.setCell]; omega)) (.cells #[.bool k9, .slice A9 l9 c9] 25)) (by first | omega | (simp; done) | (simp; omega) | (simp [World.setCell]; done) | (simp [World.setCell]; omega)) (.cells #[.bool k0, .slice A0 l0 c0] 25))
  generalize (W26.alloc (.cells #[.bool k9, .slice A9 l9 c9] 25)).alloc (.cells #[.bool k0, .slice A0 l0 c0] 25) = W34 at *
  clear x5_0 x5_1 x5_2 x5_3 x7_0 x7_1 x7_2 x7_3 x9_0 x9_1 x10_0 x10_1 x11_0 x11_1 x12_0 x12_1 szb s5 s7 s9 s10 s11 s12
  clear b5 b7 b9 b10 b11 b12
  have b5 := Lib.hid nb5
  have b7 := Lib.hid nb7
  have b9 := Lib.hid nb9
  have b10 := Lib.hid nb10
  have b11 := Lib.hid nb11
  have b12 := Lib.hid nb12
  have b13 := Lib.hid nb13
  have b14 := Lib.hid nb14
  clear nb5 nb7 nb9 nb10 nb11 nb12 nb13 nb14
  have f_ := Lib.hid (HX.out.kept nkeep)
  clear HX
  have HX := f_
  clear f_
  have f_ := Lib.hid (HA.out.kept nkeep)
  clear HA
  have HA := f_
  clear f_
  have f_ := Lib.hid (HP.out.kept nkeep)
  clear HP
  have HP := f_
  clear f_
  have f_ := Lib.hid (HQ.out.kept nkeep)
  clear HQ
  have HQ := f_
  clear f_
  have f_ := Lib.hid (HC.out.kept nkeep)
  clear HC
  have HC := f_
  clear f_
  have f_ := Lib.hid (HD.out.kept nkeep)
  clear HD
  have HD := f_
  clear f_
  have f_ := Lib.hid (HN.out.kept nkeep)
  clear HN
  have HN := f_
  clear f_
  have f_ := Lib.hid (HM.out.kept nkeep)
  clear HM
  have HM := f_
  clear f_
  clear nkeep
  have HB35 := Lib.hid nbel
  clear nbel
  clear HB27
  have x5_0 : W34.cell? ⟨W3.heap.size, 0, none⟩ = some (.bool k1) := (b5.out).cell 0
  have x5_1 : W34.cell? ⟨W3.heap.size, 1, none⟩ = some (.slice A1 l1 c1) := (b5.out).cell 1
  have x5_2 : W34.cell? ⟨W3.heap.size, 2, none⟩ = some (.bool k2) := (b5.out).cell 2
  have x5_3 : W34.cell? ⟨W3.heap.size, 3, none⟩ = some (.slice A2 l2 c2) := (b5.out).cell 3
  have x7_0 : W34.cell? ⟨W7.heap.size, 0, none⟩ = some (.bool k3) := (b7.out).cell 0
  have x7_1 : W34.cell? ⟨W7.heap.size, 1, none⟩ = some (.slice A3 l3 c3) := (b7.out).cell 1
  have x7_2 : W34.cell? ⟨W7.heap.size, 2, none⟩ = some (.bool k4) := (b7.out).cell 2
  have x7_3 : W34.cell? ⟨W7.heap.size, 3, none⟩ = some (.slice A4 l4 c4) := (b7.out).cell 3
  have x9_0 : W34.cell? ⟨W12.heap.size, 0, none⟩ = some (.bool k5) := (b9.out).cell 0
  have x9_1 : W34.cell? ⟨W12.heap.size, 1, none⟩ = some (.slice A5 l5 c5) := (b9.out).cell 1
  have x10_0 : W34.cell? ⟨W12.heap.size + 1, 0, none⟩ = some (.bool k6) := (b10.out).cell 0
  have x10_1 : W34.cell? ⟨W12.heap.size + 1, 1, none⟩ = some (.slice A6 l6 c6) := (b10.out).cell 1
  have x11_0 : W34.cell? ⟨W18.heap.size, 0, none⟩ = some (.bool k7) := (b11.out).cell 0
  have x11_1 : W34.cell? ⟨W18.heap.size, 1, none⟩ = some (.slice A7 l7 c7) := (b11.out).cell 1
  have x12_0 : W34.cell? ⟨W18.heap.size + 1, 0, none⟩ = some (.bool k8) := (b12.out).cell 0
  have x12_1 : W34.cell? ⟨W18.heap.size + 1, 1, none⟩ = some (.slice A8 l8 c8) := (b12.out).cell 1
  have x13_0 : W34.cell? ⟨W26.heap.size, 0, none⟩ = some (.bool k9) := (b13.out).cell 0
  have x13_1 : W34.cell? ⟨W26.heap.size, 1, none⟩ = some (.slice A9 l9 c9) := (b13.out).cell 1
  have x14_0 : W34.cell? ⟨W26.heap.size + 1, 0, none⟩ = some (.bool k0) := (b14.out).cell 0
  have x14_1 : W34.cell? ⟨W26.heap.size + 1, 1, none⟩ = some (.slice A0 l0 c0) := (b14.out).cell 1
  have szb : w.heap.size ≤ W34.heap.size := HB35.out.size
  have s5 : W3.heap.size < W34.heap.size := (b5.out).lt
  have s7 : W7.heap.size < W34.heap.size := (b7.out).lt
  have s9 : W12.heap.size < W34.heap.size := (b9.out).lt
  have s10 : W12.heap.size + 1 < W34.heap.size := (b10.out).lt
  have s11 : W18.heap.size < W34.heap.size := (b11.out).lt
  have s12 : W18.heap.size + 1 < W34.heap.size := (b12.out).lt
  have s13 : W26.heap.size < W34.heap.size := (b13.out).lt
  have s14 : W26.heap.size + 1 < W34.heap.size := (b14.out).lt
  have HTW := Lib.hid (tab_up HT.out HB35.out)
  refine AS.region_facts (ofLawFL a b er) (JNo W34) [[], [], [44, 45], [46], [47], [47], [47, 48, 49], [47, 50], [51], [52], [52, 53], [52], [52, 55], [52, 54, 56], [52, 57], [58], [59], [59, 60], [59], [59, 62], [59, 61, 63], [59, 64], [65], [66], [66, 67], [66], [66, 69], [66, 68, 70], [66, 71], [72], [73], [73, 74], [73, 75], [73, 76], [77], [78], [78, 79], [78, 80], [78, 81], [82], [83], [83, 84], [83, 85], [83, 86], [87]] [] [[]] [0, 0, 0, 0, 0, 0, 0, 0, 0, 0, 0, 0, 0, 0, 0, 0, 0, 0, 0, 0, 0, 0, 0, 0, 0, 0, 0, 0, 0, 0, 0, 0, 0, 0, 0, 0, 0, 0, 0, 0, 0, 0, 0, 0, 0] [] (fun u => by simp only [ofLawFL, AS.temps, List.map_cons, List.map_nil, fillL, List.setIfInBounds_toArray, List.set_cons_zero, List.set_cons_succ]; rfl) (by kernel_rfl) (by kernel_rfl) (JNo.st W34) (below_drew (Below.refl _ _)) ?_ ?_
  · refine AS.StepsOk.cons rfl rfl rfl ?_ ?_
    · intro k_ u w_ hk hJ hF K hK
      clear hF
      go_simp
      exact hK.out _ _ (Below.refl _ _) (rfl) trivial
    refine AS.StepsOk.cons rfl rfl rfl ?_ ?_
    · intro k_ u w_ hk hJ hF K hK
      clear hF
      go_simp
      exact hK.out _ _ (Below.refl _ _) (rfl) trivial
    refine AS.StepsOk.cons rfl rfl rfl ?_ ?_
    · intro k_ u w_ hk hJ hF K hK
      have h44 : u 44 = .int .i64 er := AS.facts_get hF 44 (by simp)
      have h45 : u 45 = .int .i64 er := AS.facts_get hF 45 (by simp)
      clear hF
      simp only [h44, h45] at hK ⊢
      clear h44 h45
      go_simp
      exact hK.out _ _ (Below.refl _ _) (rfl) trivial
    refine AS.StepsOk.cons rfl rfl rfl ?_ ?_
    · intro k_ u w_ hk hJ hF K hK
      have h46 : u 46 = .bool true := AS.facts_get hF 46 (by simp)
      clear hF
      simp only [h46] at hK ⊢
      clear h46
      go_simp
      exact hK.out _ _ (Below.refl _ _) (rfl) trivial
    refine AS.StepsOk.cons rfl rfl rfl ?_ ?_
    · intro k_ u w_ hk hJ hF K hK
      have h47 : u 47 = .bool true := AS.facts_get hF 47 (by simp)
      clear hF
      simp only [h47] at hK ⊢
      clear h47
      obtain rfl : k_ = 0 := Nat.le_zero.1 hk
      have hJ0 : Below W34.heap.size W34 w_ := hJ
      have y0 : w_.cell? ⟨W3.heap.size, 0, none⟩ = some (.bool k1) := ((b5.out).up hJ0).cell 0
      have y1 : w_.cell? ⟨W3.heap.size, 1, none⟩ = some (.slice A1 l1 c1) := ((b5.out).up hJ0).cell 1
      have y2 : w_.cell? ⟨W3.heap.size, 2, none⟩ = some (.bool k2) := ((b5.out).up hJ0).cell 2
      have y3 : w_.cell? ⟨W3.heap.size, 3, none⟩ = some (.slice A2 l2 c2) := ((b5.out).up hJ0).cell 3
      go_simp
      exact hK.out _ _ (Below.refl _ _) ((HX.out).kept (Keep.ofBelow hJ0)) trivial
    refine AS.StepsOk.cons rfl rfl rfl ?_ ?_
    · intro k_ u w_ hk hJ hF K hK
      have h47 : u 47 = .bool true := AS.facts_get hF 47 (by simp)
      clear hF
      simp only [h47] at hK ⊢
      clear h47
      obtain rfl : k_ = 0 := Nat.le_zero.1 hk
      have hJ0 : Below W34.heap.size W34 w_ := hJ
      have y0 : w_.cell? ⟨W7.heap.size, 0, none⟩ = some (.bool k3) := ((b7.out).up hJ0).cell 0
      have y1 : w_.cell? ⟨W7.heap.size, 1, none⟩ = some (.slice A3 l3 c3) := ((b7.out).up hJ0).cell 1
      have y2 : w_.cell? ⟨W7.heap.size, 2, none⟩ = some (.bool k4) := ((b7.out).up hJ0).cell 2
      have y3 : w_.cell? ⟨W7.heap.size, 3, none⟩ = some (.slice A4 l4 c4) := ((b7.out).up hJ0).cell 3
      go_simp
      exact hK.out _ _ (Below.refl _ _) ((HA.out).kept (Keep.ofBelow hJ0)) trivial
    refine AS.StepsOk.cons rfl rfl rfl ?_ ?_
    · intro k_ u w_ hk hJ hF K hK
      have h47 : u 47 = .bool true := AS.facts_get hF 47 (by simp)
      have h48 : PRat ((Rat.divInt a b)) 4 (u 48) w_ := AS.facts_get hF 48 (by simp)
      have h49 : RRat ((Rat.divInt a b)) 5 (u 49) w_ := AS.facts_get hF 49 (by simp)
      clear hF
      simp only [h47] at hK ⊢
      clear h47
      go_simp
      refine (same_fact (h48.more (by omega)) h49 (by decide) (by decide) (tab_up HTW.out hJ)).mono ?_
      rintro e w' ⟨rfl, hb⟩
      exact hK.out _ _ hb (rfl) trivial
    refine AS.StepsOk.cons rfl rfl rfl ?_ ?_
    · intro k_ u w_ hk hJ hF K hK
      have h47 : u 47 = .bool true := AS.facts_get hF 47 (by simp)
      have h50 : u 50 = .bool true := AS.facts_get hF 50 (by simp)
      clear hF
      simp only [h47, h50] at hK ⊢
      clear h47 h50
      go_simp
      exact hK.out _ _ (Below.refl _ _) (rfl) trivial
    refine AS.StepsOk.cons rfl rfl rfl ?_ ?_
    · intro k_ u w_ hk hJ hF K hK
      have h51 : u 51 = .bool true := AS.facts_get hF 51 (by simp)
      clear hF
      simp only [h51] at hK ⊢
      clear h51
      go_simp
      exact hK.out _ _ (Below.refl _ _) (rfl) trivial
    refine AS.StepsOk.cons rfl rfl rfl ?_ ?_
    · intro k_ u w_ hk hJ hF K hK
      have h52 : u 52 = .bool true := AS.facts_get hF 52 (by simp)
      clear hF
      simp only [h52] at hK ⊢
      clear h52
      obtain rfl : k_ = 0 := Nat.le_zero.1 hk
      have hJ0 : Below W34.heap.size W34 w_ := hJ
      have y0 : w_.cell? ⟨W12.heap.size, 0, none⟩ = some (.bool k5) := ((b9.out).up hJ0).cell 0
      have y1 : w_.cell? ⟨W12.heap.size, 1, none⟩ = some (.slice A5 l5 c5) := ((b9.out).up hJ0).cell 1
      go_simp
      exact hK.out _ _ (Below.refl _ _) ((HP.out).kept (Keep.ofBelow hJ0)) trivial
    refine AS.StepsOk.cons rfl rfl rfl ?_ ?_
    · intro k_ u w_ hk hJ hF K hK
      have h52 : u 52 = .bool true := AS.facts_get hF 52 (by simp)
      have h53 : PInt ((Rat.divInt a b).num) 5 (u 53) w_ := AS.facts_get hF 53 (by simp)
      clear hF
      simp only [h52] at hK ⊢
      clear h52
      go_simp
      refine (text_fact h53 (by omega) (tab_up HTW.out hJ)).mono ?_
      rintro e w' ⟨rfl, hb⟩
      exact hK.out _ _ hb (rfl) trivial
    refine AS.StepsOk.cons rfl rfl rfl ?_ ?_
    · intro k_ u w_ hk hJ hF K hK
      have h52 : u 52 = .bool true := AS.facts_get hF 52 (by simp)
      clear hF
      simp only [h52] at hK ⊢
      clear h52
      obtain rfl : k_ = 0 := Nat.le_zero.1 hk
      have hJ0 : Below W34.heap.size W34 w_ := hJ
      have y0 : w_.cell? ⟨W18.heap.size, 0, none⟩ = some (.bool k7) := ((b11.out).up hJ0).cell 0
      have y1 : w_.cell? ⟨W18.heap.size, 1, none⟩ = some (.slice A7 l7 c7) := ((b11.out).up hJ0).cell 1
      go_simp
      exact hK.out _ _ (Below.refl _ _) ((HC.out).kept (Keep.ofBelow hJ0)) trivial
    refine AS.StepsOk.cons rfl rfl rfl ?_ ?_
    · intro k_ u w_ hk hJ hF K hK
      have h52 : u 52 = .bool true := AS.facts_get hF 52 (by simp)
      have h55 : PRef ((Rat.divInt a b).num) 5 (u 55) w_ := AS.facts_get hF 55 (by simp)
      clear hF
      simp only [h52] at hK ⊢
      clear h52
      go_simp
      refine (rtext_fact h55 (by omega)).mono ?_
      rintro e w' ⟨rfl, hb⟩
      exact hK.out _ _ hb (rfl) trivial
    refine AS.StepsOk.cons rfl rfl rfl ?_ ?_
    · intro k_ u w_ hk hJ hF K hK
      have h52 : u 52 = .bool true := AS.facts_get hF 52 (by simp)
      have h54 : u 54 = .string ⟨(decZ ((Rat.divInt a b).num)).toArray⟩ := AS.facts_get hF 54 (by simp)
      have h56 : u 56 = .string ⟨(decZ ((Rat.divInt a b).num)).toArray⟩ := AS.facts_get hF 56 (by simp)
      clear hF
      simp only [h52, h54, h56] at hK ⊢
      clear h52 h54 h56
      go_simp
      exact hK.out _ _ (Below.refl _ _) (rfl) trivial
    refine AS.StepsOk.cons rfl rfl rfl ?_ ?_
    · intro k_ u w_ hk hJ hF K hK
      have h52 : u 52 = .bool true := AS.facts_get hF 52 (by simp)
      have h57 : u 57 = .bool true := AS.facts_get hF 57 (by simp)
      clear hF
      simp only [h52, h57] at hK ⊢
      clear h52 h57
      go_simp
      exact hK.out _ _ (Below.refl _ _) (rfl) trivial
    refine AS.StepsOk.cons rfl rfl rfl ?_ ?_
    · intro k_ u w_ hk hJ hF K hK
      have h58 : u 58 = .bool true := AS.facts_get hF 58 (by simp)
      clear hF
      simp only [h58] at hK ⊢
      clear h58
      go_simp
      exact hK.out _ _ (Below.refl _ _) (rfl) trivial
    refine AS.StepsOk.cons rfl rfl rfl ?_ ?_
    · intro k_ u w_ hk hJ hF K hK
      have h59 : u 59 = .bool true := AS.facts_get hF 59 (by simp)
      clear hF
      simp only [h59] at hK ⊢
      clear h59
      obtain rfl : k_ = 0 := Nat.le_zero.1 hk
      have hJ0 : Below W34.heap.size W34 w_ := hJ
      have y0 : w_.cell? ⟨W12.heap.size + 1, 0, none⟩ = some (.bool k6) := ((b10.out).up hJ0).cell 0
      have y1 : w_.cell? ⟨W12.heap.size + 1, 1, none⟩ = some (.slice A6 l6 c6) := ((b10.out).up hJ0).cell 1
      go_simp
      exact hK.out _ _ (Below.refl _ _) ((HQ.out).kept (Keep.ofBelow hJ0)) trivial
    refine AS.StepsOk.cons rfl rfl rfl ?_ ?_
    · intro k_ u w_ hk hJ hF K hK
      have h59 : u 59 = .bool true := AS.facts_get hF 59 (by simp)
      have h60 : PInt (((Rat.divInt a b).den : Int)) 5 (u 60) w_ := AS.facts_get hF 60 (by simp)
      clear hF
      simp only [h59] at hK ⊢
      clear h59
      go_simp
      refine (text_fact h60 (by omega) (tab_up HTW.out hJ)).mono ?_
      rintro e w' ⟨rfl, hb⟩
      exact hK.out _ _ hb (rfl) trivial
    refine AS.StepsOk.cons rfl rfl rfl ?_ ?_
    · intro k_ u w_ hk hJ hF K hK
      have h59 : u 59 = .bool true := AS.facts_get hF 59 (by simp)
      clear hF
      simp only [h59] at hK ⊢
      clear h59
      obtain rfl : k_ = 0 := Nat.le_zero.1 hk
      have hJ0 : Below W34.heap.size W34 w_ := hJ
      have y0 : w_.cell? ⟨W18.heap.size + 1, 0, none⟩ = some (.bool k8) := ((b12.out).up hJ0).cell 0
      have y1 : w_.cell? ⟨W18.heap.size + 1, 1, none⟩ = some (.slice A8 l8 c8) := ((b12.out).up hJ0).cell 1
      go_simp
      exact hK.out _ _ (Below.refl _ _) ((HD.out).kept (Keep.ofBelow hJ0)) trivial
    refine AS.StepsOk.cons rfl rfl rfl ?_ ?_
    · intro k_ u w_ hk hJ hF K hK
      have h59 : u 59 = .bool true := AS.facts_get hF 59 (by simp)
      have h62 : PRef (((Rat.divInt a b).den : Int)) 5 (u 62) w_ := AS.facts_get hF 62 (by simp)
      clear hF
      simp only [h59] at hK ⊢
      clear h59
      go_simp
      refine (rtext_fact h62 (by omega)).mono ?_
      rintro e w' ⟨rfl, hb⟩
      exact hK.out _ _ hb (rfl) trivial
    refine AS.StepsOk.cons rfl rfl rfl ?_ ?_
    · intro k_ u w_ hk hJ hF K hK
      have h59 : u 59 = .bool true := AS.facts_get hF 59 (by simp)
      have h61 : u 61 = .string ⟨(decZ (((Rat.divInt a b).den : Int))).toArray⟩ := AS.facts_get hF 61 (by simp)
      have h63 : u 63 = .string ⟨(decZ (((Rat.divInt a b).den : Int))).toArray⟩ := AS.facts_get hF 63 (by simp)
      clear hF
      simp only [h59, h61, h63] at hK ⊢
      clear h59 h61 h63
      go_simp
      exact hK.out _ _ (Below.refl _ _) (rfl) trivial
    refine AS.StepsOk.cons rfl rfl rfl ?_ ?_
    · intro k_ u w_ hk hJ hF K hK
      have h59 : u 59 = .bool true := AS.facts_get hF 59 (by simp)
      have h64 : u 64 = .bool true := AS.facts_get hF 64 (by simp)
      clear hF
      simp only [h59, h64] at hK ⊢
      clear h59 h64
      go_simp
      exact hK.out _ _ (Below.refl _ _) (rfl) trivial
    refine AS.StepsOk.cons rfl rfl rfl ?_ ?_
    · intro k_ u w_ hk hJ hF K hK
      have h65 : u 65 = .bool true := AS.facts_get hF 65 (by simp)
      clear hF
      simp only [h65] at hK ⊢
      clear h65
      go_simp
      exact hK.out _ _ (Below.refl _ _) (rfl) trivial
    refine AS.StepsOk.cons rfl rfl rfl ?_ ?_
    · intro k_ u w_ hk hJ hF K hK
      have h66 : u 66 = .bool true := AS.facts_get hF 66 (by simp)
      clear hF
      simp only [h66] at hK ⊢
      clear h66
      obtain rfl : k_ = 0 := Nat.le_zero.1 hk
      have hJ0 : Below W34.heap.size W34 w_ := hJ
      have y0 : w_.cell? ⟨W3.heap.size, 0, none⟩ = some (.bool k1) := ((b5.out).up hJ0).cell 0
      have y1 : w_.cell? ⟨W3.heap.size, 1, none⟩ = some (.slice A1 l1 c1) := ((b5.out).up hJ0).cell 1
      have y2 : w_.cell? ⟨W3.heap.size, 2, none⟩ = some (.bool k2) := ((b5.out).up hJ0).cell 2
      have y3 : w_.cell? ⟨W3.heap.size, 3, none⟩ = some (.slice A2 l2 c2) := ((b5.out).up hJ0).cell 3
      go_simp
      exact hK.out _ _ (Below.refl _ _) ((HX.out).kept (Keep.ofBelow hJ0)) trivial
    refine AS.StepsOk.cons rfl rfl rfl ?_ ?_
    · intro k_ u w_ hk hJ hF K hK
      have h66 : u 66 = .bool true := AS.facts_get hF 66 (by simp)
      have h67 : PRat ((Rat.divInt a b)) 4 (u 67) w_ := AS.facts_get hF 67 (by simp)
      clear hF
      simp only [h66] at hK ⊢
      clear h66
      go_simp
      refine (ratSign_fact h67).mono ?_
      rintro e w' ⟨rfl, hb⟩
      exact hK.out _ _ hb (rfl) trivial
    refine AS.StepsOk.cons rfl rfl rfl ?_ ?_
    · intro k_ u w_ hk hJ hF K hK
      have h66 : u 66 = .bool true := AS.facts_get hF 66 (by simp)
      clear hF
      simp only [h66] at hK ⊢
      clear h66
      obtain rfl : k_ = 0 := Nat.le_zero.1 hk
      have hJ0 : Below W34.heap.size W34 w_ := hJ
      have y0 : w_.cell? ⟨W7.heap.size, 0, none⟩ = some (.bool k3) := ((b7.out).up hJ0).cell 0
      have y1 : w_.cell? ⟨W7.heap.size, 1, none⟩ = some (.slice A3 l3 c3) := ((b7.out).up hJ0).cell 1
      have y2 : w_.cell? ⟨W7.heap.size, 2, none⟩ = some (.bool k4) := ((b7.out).up hJ0).cell 2
      have y3 : w_.cell? ⟨W7.heap.size, 3, none⟩ = some (.slice A4 l4 c4) := ((b7.out).up hJ0).cell 3
      go_simp
      exact hK.out _ _ (Below.refl _ _) ((HA.out).kept (Keep.ofBelow hJ0)) trivial
    refine AS.StepsOk.cons rfl rfl rfl ?_ ?_
    · intro k_ u w_ hk hJ hF K hK
      have h66 : u 66 = .bool true := AS.facts_get hF 66 (by simp)
      have h69 : RRat ((Rat.divInt a b)) 5 (u 69) w_ := AS.facts_get hF 69 (by simp)
      clear hF
      simp only [h66] at hK ⊢
      clear h66
      go_simp
      refine (rratSign_fact h69).mono ?_
      rintro e w' ⟨rfl, hb⟩
      exact hK.out _ _ hb (rfl) trivial
    refine AS.StepsOk.cons rfl rfl rfl ?_ ?_
    · intro k_ u w_ hk hJ hF K hK
      have h66 : u 66 = .bool true := AS.facts_get hF 66 (by simp)
      have h68 : u 68 = .int .i64 (cmpQ ((Rat.divInt a b)) 0) := AS.facts_get hF 68 (by simp)
      have h70 : u 70 = .int .i64 (cmpQ ((Rat.divInt a b)) 0) := AS.facts_get hF 70 (by simp)
      clear hF
      simp only [h66, h68, h70] at hK ⊢
      clear h66 h68 h70
      go_simp
      exact hK.out _ _ (Below.refl _ _) (rfl) trivial
    refine AS.StepsOk.cons rfl rfl rfl ?_ ?_
    · intro k_ u w_ hk hJ hF K hK
      have h66 : u 66 = .bool true := AS.facts_get hF 66 (by simp)
      have h71 : u 71 = .bool true := AS.facts_get hF 71 (by simp)
      clear hF
      simp only [h66, h71] at hK ⊢
      clear h66 h71
      go_simp
      exact hK.out _ _ (Below.refl _ _) (rfl) trivial
    refine AS.StepsOk.cons rfl rfl rfl ?_ ?_
    · intro k_ u w_ hk hJ hF K hK
      have h72 : u 72 = .bool true := AS.facts_get hF 72 (by simp)
      clear hF
      simp only [h72] at hK ⊢
      clear h72
      go_simp
      exact hK.out _ _ (Below.refl _ _) (rfl) trivial
    refine AS.StepsOk.cons rfl rfl rfl ?_ ?_
    · intro k_ u w_ hk hJ hF K hK
      have h73 : u 73 = .bool true := AS.facts_get hF 73 (by simp)
      clear hF
      simp only [h73] at hK ⊢
      clear h73
      obtain rfl : k_ = 0 := Nat.le_zero.1 hk
      have hJ0 : Below W34.heap.size W34 w_ := hJ
      have y0 : w_.cell? ⟨W26.heap.size, 0, none⟩ = some (.bool k9) := ((b13.out).up hJ0).cell 0
      have y1 : w_.cell? ⟨W26.heap.size, 1, none⟩ = some (.slice A9 l9 c9) := ((b13.out).up hJ0).cell 1
      go_simp
      exact hK.out _ _ (Below.refl _ _) ((HN.out).kept (Keep.ofBelow hJ0)) trivial
    refine AS.StepsOk.cons rfl rfl rfl ?_ ?_
    · intro k_ u w_ hk hJ hF K hK
      have h73 : u 73 = .bool true := AS.facts_get hF 73 (by simp)
      have h74 : PInt (0) 4 (u 74) w_ := AS.facts_get hF 74 (by simp)
      clear hF
      simp only [h73] at hK ⊢
      clear h73
      go_simp
      refine (text_is h74 (by omega) (tab_up HTW.out hJ) txt0).mono ?_
      rintro e w' ⟨rfl, hb⟩
      exact hK.out _ _ hb (rfl) trivial
    refine AS.StepsOk.cons rfl rfl rfl ?_ ?_
    · intro k_ u w_ hk hJ hF K hK
      have h73 : u 73 = .bool true := AS.facts_get hF 73 (by simp)
      have h75 : u 75 = .string ⟨#[48]⟩ := AS.facts_get hF 75 (by simp)
      clear hF
      simp only [h73, h75] at hK ⊢
      clear h73 h75
      go_simp
      exact hK.out _ _ (Below.refl _ _) (rfl) trivial
    refine AS.StepsOk.cons rfl rfl rfl ?_ ?_
    · intro k_ u w_ hk hJ hF K hK
      have h73 : u 73 = .bool true := AS.facts_get hF 73 (by simp)
      have h76 : u 76 = .bool true := AS.facts_get hF 76 (by simp)
      clear hF
      simp only [h73, h76] at hK ⊢
      clear h73 h76
      go_simp
      exact hK.out _ _ (Below.refl _ _) (rfl) trivial
    refine AS.StepsOk.cons rfl rfl rfl ?_ ?_
    · intro k_ u w_ hk hJ hF K hK
      have h77 : u 77 = .bool true := AS.facts_get hF 77 (by simp)
      clear hF
      simp only [h77] at hK ⊢
      clear h77
      go_simp
      exact hK.out _ _ (Below.refl _ _) (rfl) trivial
    refine AS.StepsOk.cons rfl rfl rfl ?_ ?_
    · intro k_ u w_ hk hJ hF K hK
      have h78 : u 78 = .bool true := AS.facts_get hF 78 (by simp)
      clear hF
      simp only [h78] at hK ⊢
      clear h78
      obtain rfl : k_ = 0 := Nat.le_zero.1 hk
      have hJ0 : Below W34.heap.size W34 w_ := hJ
      have y0 : w_.cell? ⟨W26.heap.size + 1, 0, none⟩ = some (.bool k0) := ((b14.out).up hJ0).cell 0
      have y1 : w_.cell? ⟨W26.heap.size + 1, 1, none⟩ = some (.slice A0 l0 c0) := ((b14.out).up hJ0).cell 1
      go_simp
      exact hK.out _ _ (Below.refl _ _) ((HM.out).kept (Keep.ofBelow hJ0)) trivial
    refine AS.StepsOk.cons rfl rfl rfl ?_ ?_
    · intro k_ u w_ hk hJ hF K hK
      have h78 : u 78 = .bool true := AS.facts_get hF 78 (by simp)
      have h79 : PInt (1) 4 (u 79) w_ := AS.facts_get hF 79 (by simp)
      clear hF
      simp only [h78] at hK ⊢
      clear h78
      go_simp
      refine (text_is h79 (by omega) (tab_up HTW.out hJ) txt1).mono ?_
      rintro e w' ⟨rfl, hb⟩
      exact hK.out _ _ hb (rfl) trivial
    refine AS.StepsOk.cons rfl rfl rfl ?_ ?_
    · intro k_ u w_ hk hJ hF K hK
      have h78 : u 78 = .bool true := AS.facts_get hF 78 (by simp)
      have h80 : u 80 = .string ⟨#[49]⟩ := AS.facts_get hF 80 (by simp)
      clear hF
      simp only [h78, h80] at hK ⊢
      clear h78 h80
      go_simp
      exact hK.out _ _ (Below.refl _ _) (rfl) trivial
    refine AS.StepsOk.cons rfl rfl rfl ?_ ?_
    · intro k_ u w_ hk hJ hF K hK
      have h78 : u 78 = .bool true := AS.facts_get hF 78 (by simp)
      have h81 : u 81 = .bool true := AS.facts_get hF 81 (by simp)
      clear hF
      simp only [h78, h81] at hK ⊢
      clear h78 h81
      go_simp
      exact hK.out _ _ (Below.refl _ _) (rfl) trivial
    refine AS.StepsOk.cons rfl rfl rfl ?_ ?_
    · intro k_ u w_ hk hJ hF K hK
      have h82 : u 82 = .bool true := AS.facts_get hF 82 (by simp)
      clear hF
      simp only [h82] at hK ⊢
      clear h82
      go_simp
      exact hK.out _ _ (Below.refl _ _) (rfl) trivial
    refine AS.StepsOk.cons rfl rfl rfl ?_ ?_
    · intro k_ u w_ hk hJ hF K hK
      have h83 : u 83 = .bool true := AS.facts_get hF 83 (by simp)
      clear hF
      simp only [h83] at hK ⊢
      clear h83
      go_simp
      exact hK.out _ _ (Below.refl _ _) (PRat.zero 3 _) trivial
    refine AS.StepsOk.cons rfl rfl rfl ?_ ?_
    · intro k_ u w_ hk hJ hF K hK
      have h83 : u 83 = .bool true := AS.facts_get hF 83 (by simp)
      have h84 : PRat (0) 3 (u 84) w_ := AS.facts_get hF 84 (by simp)
      clear hF
      simp only [h83] at hK ⊢
      clear h83
      go_simp
      refine (ratText_is (n := 3) (x := 0) h84 (by decide) (by decide) (tab_up HTW.out hJ) txtq).mono ?_
      rintro e w' ⟨rfl, hb⟩
      exact hK.out _ _ hb (rfl) trivial
    refine AS.StepsOk.cons rfl rfl rfl ?_ ?_
    · intro k_ u w_ hk hJ hF K hK
      have h83 : u 83 = .bool true := AS.facts_get hF 83 (by simp)
      have h85 : u 85 = .string ⟨#[48]⟩ := AS.facts_get hF 85 (by simp)
      clear hF
      simp only [h83, h85] at hK ⊢
      clear h83 h85
      go_simp
      exact hK.out _ _ (Below.refl _ _) (rfl) trivial
    refine AS.StepsOk.cons rfl rfl rfl ?_ ?_
    · intro k_ u w_ hk hJ hF K hK
      have h83 : u 83 = .bool true := AS.facts_get hF 83 (by simp)
      have h86 : u 86 = .bool true := AS.facts_get hF 86 (by simp)
      clear hF
      simp only [h83, h86] at hK ⊢
      clear h83 h86
      go_simp
      exact hK.out _ _ (Below.refl _ _) (rfl) trivial
    refine AS.StepsOk.cons rfl rfl rfl ?_ ?_
    · intro k_ u w_ hk hJ hF K hK
      have h87 : u 87 = .bool true := AS.facts_get hF 87 (by simp)
      clear hF
      simp only [h87] at hK ⊢
      clear h87
      go_simp
      exact hK.out _ _ (Below.refl _ _) (rfl) trivial
    exact AS.StepsOk.nil
  · intro u W36 hJ9 hF
    have h4 : u 4 = .bool true := AS.facts_get hF 4 (by simp [ofLawFL, AS.temps])
    clear hF
    rw [show u 4 = _ from h4]
    clear h4
    have nb := Lib.hid ((b5.out).up hJ9)
    clear b5
    have b5 := nb
    clear nb
    have nb := Lib.hid ((b7.out).up hJ9)
    clear b7
    have b7 := nb
    clear nb
    have nb := Lib.hid ((b9.out).up hJ9)
    clear b9
    have b9 := nb
    clear nb
    have nb := Lib.hid ((b10.out).up hJ9)
    clear b10
    have b10 := nb
    clear nb
    have nb := Lib.hid ((b11.out).up hJ9)
    clear b11
    have b11 := nb
    clear nb
    have nb := Lib.hid ((b12.out).up hJ9)
    clear b12
    have b12 := nb
    clear nb
    have nb := Lib.hid ((b13.out).up hJ9)
    clear b13
    have b13 := nb
    clear nb
    have nb := Lib.hid ((b14.out).up hJ9)
    clear b14
    have b14 := nb
    clear nb
    have f_ := Lib.hid (HX.out.kept (Keep.ofBelow hJ9))
    clear HX
    have HX := f_
    clear f_
    have f_ := Lib.hid (HA.out.kept (Keep.ofBelow hJ9))
    clear HA
    have HA := f_
    clear f_
    have f_ := Lib.hid (HP.out.kept (Keep.ofBelow hJ9))
    clear HP
    have HP := f_
    clear f_
    have f_ := Lib.hid (HQ.out.kept (Keep.ofBelow hJ9))
    clear HQ
    have HQ := f_
    clear f_
    have f_ := Lib.hid (HC.out.kept (Keep.ofBelow hJ9))
    clear HC
    have HC := f_
    clear f_
    have f_ := Lib.hid (HD.out.kept (Keep.ofBelow hJ9))
    clear HD
    have HD := f_
    clear f_
    have f_ := Lib.hid (HN.out.kept (Keep.ofBelow hJ9))
    clear HN
    have HN := f_
    clear f_
    have f_ := Lib.hid (HM.out.kept (Keep.ofBelow hJ9))
    clear HM
    have HM := f_
    clear f_
    have nbel := below_then HB35.out hJ9 HB35.out.size
    have HB37 := Lib.hid nbel
    clear nbel
    clear HB35
    clear hJ9
    clear x5_0 x5_1 x5_2 x5_3 x7_0 x7_1 x7_2 x7_3 x9_0 x9_1 x10_0 x10_1 x11_0 x11_1 x12_0 x12_1 x13_0 x13_1 x14_0 x14_1 szb s5 s7 s9 s10 s11 s12 s13 s14
    have x5_0 : W36.cell? ⟨W3.heap.size, 0, none⟩ = some (.bool k1) := (b5.out).cell 0
    have x5_1 : W36.cell? ⟨W3.heap.size, 1, none⟩ = some (.slice A1 l1 c1) := (b5.out).cell 1
    have x5_2 : W36.cell? ⟨W3.heap.size, 2, none⟩ = some (.bool k2) := (b5.out).cell 2
    have x5_3 : W36.cell? ⟨W3.heap.size, 3, none⟩ = some (.slice A2 l2 c2) := (b5.out).cell 3
    have x7_0 : W36.cell? ⟨W7.heap.size, 0, none⟩ = some (.bool k3) := (b7.out).cell 0
    have x7_1 : W36.cell? ⟨W7.heap.size, 1, none⟩ = some (.slice A3 l3 c3) := (b7.out).cell 1
    have x7_2 : W36.cell? ⟨W7.heap.size, 2, none⟩ = some (.bool k4) := (b7.out).cell 2
    have x7_3 : W36.cell? ⟨W7.heap.size, 3, none⟩ = some (.slice A4 l4 c4) := (b7.out).cell 3
    have x9_0 : W36.cell? ⟨W12.heap.size, 0, none⟩ = some (.bool k5) := (b9.out).cell 0
    have x9_1 : W36.cell? ⟨W12.heap.size, 1, none⟩ = some (.slice A5 l5 c5) := (b9.out).cell 1
    have x10_0 : W36.cell? ⟨W12.heap.size + 1, 0, none⟩ = some (.bool k6) := (b10.out).cell 0
    have x10_1 : W36.cell? ⟨W12.heap.size + 1, 1, none⟩ = some (.slice A6 l6 c6) := (b10.out).cell 1
    have x11_0 : W36.cell? ⟨W18.heap.size, 0, none⟩ = some (.bool k7) := (b11.out).cell 0
    have x11_1 : W36.cell? ⟨W18.heap.size, 1, none⟩ = some (.slice A7 l7 c7) := (b11.out).cell 1
    have x12_0 : W36.cell? ⟨W18.heap.size + 1, 0, none⟩ = some (.bool k8) := (b12.out).cell 0
    have x12_1 : W36.cell? ⟨W18.heap.size + 1, 1, none⟩ = some (.slice A8 l8 c8) := (b12.out).cell 1
    have x13_0 : W36.cell? ⟨W26.heap.size, 0, none⟩ = some (.bool k9) := (b13.out).cell 0
    have x13_1 : W36.cell? ⟨W26.heap.size, 1, none⟩ = some (.slice A9 l9 c9) := (b13.out).cell 1
    have x14_0 : W36.cell? ⟨W26.heap.size + 1, 0, none⟩ = some (.bool k0) := (b14.out).cell 0
    have x14_1 : W36.cell? ⟨W26.heap.size + 1, 1, none⟩ = some (.slice A0 l0 c0) := (b14.out).cell 1
    have szb : w.heap.size ≤ W36.heap.size := HB37.out.size
    have s5 : W3.heap.size < W36.heap.size := (b5.out).lt
    have s7 : W7.heap.size < W36.heap.size := (b7.out).lt
    have s9 : W12.heap.size < W36.heap.size := (b9.out).lt
    have s10 : W12.heap.size + 1 < W36.heap.size := (b10.out).lt
    have s11 : W18.heap.size < W36.heap.size := (b11.out).lt
    have s12 : W18.heap.size + 1 < W36.heap.size := (b12.out).lt
    have s13 : W26.heap.size < W36.heap.size := (b13.out).lt
    have s14 : W26.heap.size + 1 < W36.heap.size := (b14.out).lt
    go_wp2_with fail
    have hkeep := (Keep.refl W36)
    have hbel := HB37.out
    refine bodyPost_ret (v := .bool true) (by simp [results, Tryd.results3, go_sem]) rfl ⟨rfl, hbel⟩
theorem wf_rng {n : Int} (hw : (Lit.int .i64 n).wf = true) : -9223372036854775808 ≤ n ∧ n ≤ 9223372036854775807 := by
  have hw' : IntKind.i64.min ≤ n ∧ n ≤ IntKind.i64.max := by simpa [Lit.wf] using hw
  rw [show IntKind.i64.min = -9223372036854775808 by decide, show IntKind.i64.max = 9223372036854775807 by decide] at hw'
  exact hw'
theorem law_of_wf (a b : Int) (w : World) (h1 : (Lit.int .i64 a).wf = true) (h2 : (Lit.int .i64 b).wf = true) (ht : Tab w.heap.size w) :
    Calls Tryd.prog 3 #[.int .i64 a, .int .i64 b] w fun e w' => e = .returned (.bool true) ∧ Below w.heap.size w w' := law_of a b w ⟨wf_rng h1, wf_rng h2⟩ ht
end Go.Proofs.YtmpdpfiokjepaaaDoor
