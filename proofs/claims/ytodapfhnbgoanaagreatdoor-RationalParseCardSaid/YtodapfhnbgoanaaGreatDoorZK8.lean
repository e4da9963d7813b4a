/- Contracts of the functions that the statements reach, part 8: what was proved of each, callees first. -/
import Derived.Test.YtodapfhnbgoanaaGreatDoorZK7
namespace Go.Proofs.YtodapfhnbgoanaaGreatDoor
open Go.RowKit
open AS (Keep NoInt)
set_option maxHeartbeats 3200000
set_option maxRecDepth 20000
structure But2 (g g' : Nat) (w w' : World) : Prop where
 os : w'.os = w.os
 tape : w'.tape = w.tape
 output : w'.output = w.output
 size : w.heap.size ≤ w'.heap.size
 block : ∀ i, i < w.heap.size → i ≠ g → i ≠ g' → w'.heap[i]? = w.heap[i]?
section
variable {g g' B : Nat} {w w' w2 : World}
theorem But2.ofBelow (h : Below w.heap.size w w') : But2 g g' w w' := ⟨h.os, h.tape, h.output, h.size, fun i hi _ _ => h.block i hi⟩
theorem But2.set (h : But2 g g' w w') (k i : Nat) (hk : k = g ∨ k = g' ∨ w.heap.size ≤ k) (v : Value) : But2 g g' w (w'.setCell ⟨k, i, none⟩ v) :=
 ⟨h.os, h.tape, h.output, by rw [setCell_size]; exact h.size, fun j hj h1 h2 => (Below.heap_setCell w' _ v j (by show j ≠ k; rcases hk with rfl | rfl | hk <;> omega)).trans (h.block j hj h1 h2)⟩
theorem But2.below {w0 : World} (h : But2 g g' w w') (h0 : Below B w0 w) (hg : B ≤ g) (hg' : B ≤ g') (hB : B ≤ w.heap.size) : Below B w0 w' :=
 ⟨h.os.trans h0.os, h.tape.trans h0.tape, h.output.trans h0.output, Nat.le_trans h0.size h.size, fun i hi => (h.block i (by omega) (by omega) (by omega)).trans (h0.block i hi)⟩
theorem But2.bx {t : TypeId} {k : Nat} {vs : List Value} (h : But2 g g' w w') (hb : Bx t w k vs) (h1 : k ≠ g) (h2 : k ≠ g') : Bx t w' k vs := ⟨(h.block k hb.lt h1 h2).trans hb.blk, hb.leaf⟩
theorem But2.keep {t : TypeId} {x y : Value} (h : But2 g g' w w') (h1 : Bx t w g [x]) (h2 : Bx t w g' [y]) : Keep w w' := by
 refine ⟨h.size, fun i hi ⟨j, k, n, hc⟩ => h.block i hi ?_ ?_, fun t' b vs hl hb => ⟨vs, rfl, h.bx hb ?_ ?_⟩⟩
 ·rintro rfl; exact h1.noInt _ _ _ hc
 ·rintro rfl; exact h2.noInt _ _ _ hc
 ·rintro rfl
  have e1 := hb.cell 1
  rw [h1.cell 1, show vs[1]? = some (vs[1]'hl) from List.getElem?_eq_getElem hl] at e1
  simp at e1
 ·rintro rfl
  have e1 := hb.cell 1
  rw [h2.cell 1, show vs[1]? = some (vs[1]'hl) from List.getElem?_eq_getElem hl] at e1
  simp at e1
end
def valZ (l : List UInt8) : Int := if errOf l = 0 then textZ l else 0
theorem parse_fact (s : ByteArray) (w : World) (hs : s.size ≤ 1000000) :
  Calls Tryz.prog 15 #[.string s] w fun e w' => ∃ v, e = .returned (.tuple #[v, .int .i64 (errOf s.data.toList)]) ∧ PInt (valZ s.data.toList) 223 v w' ∧ Below w.heap.size w w' := by
 refine (parse_any s w hs).mono ?_
 rintro e w' ⟨k, A, c, L, rfl, hi, hl, h0, h1, hb⟩
 refine ⟨_, rfl, ⟨k, A, c, L, rfl, hi, ?_, hl⟩, hb⟩
 unfold valZ
 by_cases h : errOf s.data.toList = 0
 ·rw [if_pos h]
  obtain ⟨h2, h3⟩ := h0.out h
  exact textZ_I h2 h3
 ·rw [if_neg h]
  obtain ⟨rfl, rfl⟩ := h1.out h
  rfl
theorem part_true_true (s : ByteArray) (w : World) (g7 g8 : Nat) (h7 : Bx 4 w g7 [.bool true]) (h8 : Bx 4 w g8 [.bool true]) (hne : g7 ≠ g8) (hs : s.size ≤ 1000000) :
  Calls Tryz.prog 14 #[.string s, .pointer (some ⟨g7, 0, none⟩), .pointer (some ⟨g8, 0, none⟩)] w fun e w' => ∃ v, e = .returned v ∧ PInt (valZ s.data.toList) 223 v w' ∧ Bx 4 w' g7 [.bool (errOf s.data.toList != 3)] ∧ Bx 4 w' g8 [.bool (errOf s.data.toList != 6)] ∧ But2 g7 g8 w w' := by
 have HP := Lib.hid (fun W => parse_fact s W hs)
 have b1 := Lib.hid h7
 have b2 := Lib.hid h8
 have hg7 := h7.lt
 have hg8 := h8.lt
 generalize errOf s.data.toList = er at *
 generalize valZ s.data.toList = zz at *
 clear h7 h8 hs
 go_enter Tryz.func14, Tryz.ntmps14
 go_upto_region 1 with (fail)
 have q1 := b1.out.lt
 have q2 := b2.out.lt
 change Code.wp Tryz.prog _ _ _ (w.alloc (.cells #[.bool false, .slice none 0 0] 25))
 obtain ⟨nb4, na⟩ := new1 w 25 [.bool false, .slice none 0 0] lf2
 have nb1 := b1.out.up na
 have nb2 := b2.out.up na
 have nkeep := Keep.ofBelow na
 have nbel := na
 generalize w.alloc (.cells #[.bool false, .slice none 0 0] 25) = W3 at *
 clear na b1 b2
 have b1 := Lib.hid nb1
 have b2 := Lib.hid nb2
 have b4 := Lib.hid nb4
 clear nb1 nb2 nb4 nkeep
 have HB4 := Lib.hid nbel
 clear nbel
 have x10 : W3.cell? ⟨g7, 0, none⟩ = some (.bool true) := (b1.out).cell 0
 have z10 : W3.frozen? ⟨g7, 0, none⟩ = false := (b1.out).frozen 0
 have x20 : W3.cell? ⟨g8, 0, none⟩ = some (.bool true) := (b2.out).cell 0
 have z20 : W3.frozen? ⟨g8, 0, none⟩ = false := (b2.out).frozen 0
 obtain ⟨x40, x41, z40, z41, s4⟩ := b4.out.e2
 have szb := HB4.out.size
 have s1 := b1.out.lt
 have s2 := b2.out.lt
 go_wp2_with fail
 refine (HP.out _).mono ?_
 rintro e W5 ⟨v, rfl, hv, hb⟩
 replace b1 := hup b1 hb
 replace b2 := hup b2 hb
 replace b4 := hup b4 hb
 have nbel := below_then HB4.out hb HB4.out.size
 have HB6 := Lib.hid nbel
 clear nbel HB4 hb x10 z10 x20 z20 x40 x41 z40 z41 szb s1 s2 s4
 have x10 : W5.cell? ⟨g7, 0, none⟩ = some (.bool true) := (b1.out).cell 0
 have z10 : W5.frozen? ⟨g7, 0, none⟩ = false := (b1.out).frozen 0
 have x20 : W5.cell? ⟨g8, 0, none⟩ = some (.bool true) := (b2.out).cell 0
 have z20 : W5.frozen? ⟨g8, 0, none⟩ = false := (b2.out).frozen 0
 obtain ⟨x40, x41, z40, z41, s4⟩ := b4.out.e2
 have szb := HB6.out.size
 have s1 := b1.out.lt
 have s2 := b2.out.lt
 obtain ⟨k1, A1, l1, c1, rfl⟩ := hv.open
 have HV := Lib.hid hv
 clear hv
 go_upto_region 2 with (fail)
 have q7 := b1.out.lt
 have q8 := b2.out.lt
 have q9 := b4.out.lt
 change Code.wp Tryz.prog _ _ _ (W5.alloc (.cells #[.bool k1, .slice A1 l1 c1] 25))
 obtain ⟨nb5, na⟩ := new1 W5 25 [.bool k1, .slice A1 l1 c1] lf2
 have nb1 := b1.out.up na
 have nb2 := b2.out.up na
 have nb4 := b4.out.up na
 have nkeep := Keep.ofBelow na
 have nbel := below_then HB6.out na HB6.out.size
 generalize W5.alloc (.cells #[.bool k1, .slice A1 l1 c1] 25) = W10 at *
 clear na x10 z10 x20 z20 x40 x41 z40 z41 szb s1 s2 s4 b1 b2 b4
 have b1 := Lib.hid nb1
 have b2 := Lib.hid nb2
 have b4 := Lib.hid nb4
 have b5 := Lib.hid nb5
 clear nb1 nb2 nb4 nb5
 replace HV := Lib.hid (HV.out.kept nkeep)
 clear nkeep
 have HB11 := Lib.hid nbel
 clear nbel HB6
 have x10 : W10.cell? ⟨g7, 0, none⟩ = some (.bool true) := (b1.out).cell 0
 have z10 : W10.frozen? ⟨g7, 0, none⟩ = false := (b1.out).frozen 0
 have x20 : W10.cell? ⟨g8, 0, none⟩ = some (.bool true) := (b2.out).cell 0
 have z20 : W10.frozen? ⟨g8, 0, none⟩ = false := (b2.out).frozen 0
 obtain ⟨x40, x41, z40, z41, s4⟩ := b4.out.e2
 obtain ⟨x50, x51, s5⟩ := b5.out.d2
 have szb := HB11.out.size
 have s1 := b1.out.lt
 have s2 := b2.out.lt
 go_wp2_with fail
 have k1_ := Keep.set (Keep.refl W10) b1.out 0 (Leaf.bool (er != 3))
 have c1_ := Bx.set b1.out 0 (Leaf.bool (er != 3))
 have d2_ := Bx.far (g' := g7) b2.out hne 0 (.bool (er != 3))
 have d4_ := Bx.far (g' := g7) b4.out (by omega) 0 (.bool (er != 3))
 have k2_ := Keep.set k1_ d2_ 0 (Leaf.bool (er != 6))
 have c2_ := Bx.set d2_ 0 (Leaf.bool (er != 6))
 have c1b := Bx.far (g' := g8) c1_ (Ne.symm hne) 0 (.bool (er != 6))
 have d4b := Bx.far (g' := g8) d4_ (by omega) 0 (.bool (er != 6))
 have k3_ := Keep.set (Keep.set k2_ d4b 0 (Leaf.bool k1)) (Bx.set d4b 0 (Leaf.bool k1)) 1 (Leaf.slice A1 l1 c1)
 have bb : But2 g7 g8 w W10 := But2.ofBelow HB11.out
 have bb2 := (((bb.set g7 0 (.inl rfl) (.bool (er != 3))).set g8 0 (.inr (.inl rfl)) (.bool (er != 6))).set w.heap.size 0 (.inr (.inr (Nat.le_refl _))) (.bool k1)).set w.heap.size 1 (.inr (.inr (Nat.le_refl _))) (.slice A1 l1 c1)
 have e7 := Bx.far (g' := w.heap.size) (Bx.far (g' := w.heap.size) c1b (by omega) 0 (.bool k1)) (by omega) 1 (.slice A1 l1 c1)
 have e8 := Bx.far (g' := w.heap.size) (Bx.far (g' := w.heap.size) c2_ (by omega) 0 (.bool k1)) (by omega) 1 (.slice A1 l1 c1)
 refine bodyPost_ret (v := .agg #[.bool k1, .slice A1 l1 c1]) (by simp [results, Tryz.results14, go_sem, x40, x41]) rfl ⟨_, rfl, HV.out.kept k3_, e7, e8, bb2⟩
theorem part_true_false (s : ByteArray) (w : World) (g7 g8 : Nat) (h7 : Bx 4 w g7 [.bool true]) (h8 : Bx 4 w g8 [.bool false]) (hne : g7 ≠ g8) (hs : s.size ≤ 1000000) :
  Calls Tryz.prog 14 #[.string s, .pointer (some ⟨g7, 0, none⟩), .pointer (some ⟨g8, 0, none⟩)] w fun e w' => ∃ v, e = .returned v ∧ PInt (valZ s.data.toList) 223 v w' ∧ Bx 4 w' g7 [.bool (errOf s.data.toList != 3)] ∧ Bx 4 w' g8 [.bool false] ∧ But2 g7 g8 w w' := by
 have HP := Lib.hid (fun W => parse_fact s W hs)
 have b1 := Lib.hid h7
 have b2 := Lib.hid h8
 have hg7 := h7.lt
 have hg8 := h8.lt
 generalize errOf s.data.toList = er at *
 generalize valZ s.data.toList = zz at *
 clear h7 h8 hs
 go_enter Tryz.func14, Tryz.ntmps14
 go_upto_region 1 with (fail)
 have q1 := b1.out.lt
 have q2 := b2.out.lt
 change Code.wp Tryz.prog _ _ _ (w.alloc (.cells #[.bool false, .slice none 0 0] 25))
 obtain ⟨nb4, na⟩ := new1 w 25 [.bool false, .slice none 0 0] lf2
 have nb1 := b1.out.up na
 have nb2 := b2.out.up na
 have nkeep := Keep.ofBelow na
 have nbel := na
 generalize w.alloc (.cells #[.bool false, .slice none 0 0] 25) = W3 at *
 clear na b1 b2
 have b1 := Lib.hid nb1
 have b2 := Lib.hid nb2
 have b4 := Lib.hid nb4
 clear nb1 nb2 nb4 nkeep
 have HB4 := Lib.hid nbel
 clear nbel
 have x10 : W3.cell? ⟨g7, 0, none⟩ = some (.bool true) := (b1.out).cell 0
 have z10 : W3.frozen? ⟨g7, 0, none⟩ = false := (b1.out).frozen 0
 have x20 : W3.cell? ⟨g8, 0, none⟩ = some (.bool false) := (b2.out).cell 0
 have z20 : W3.frozen? ⟨g8, 0, none⟩ = false := (b2.out).frozen 0
 obtain ⟨x40, x41, z40, z41, s4⟩ := b4.out.e2
 have szb := HB4.out.size
 have s1 := b1.out.lt
 have s2 := b2.out.lt
 go_wp2_with fail
 refine (HP.out _).mono ?_
 rintro e W5 ⟨v, rfl, hv, hb⟩
 replace b1 := hup b1 hb
 replace b2 := hup b2 hb
 replace b4 := hup b4 hb
 have nbel := below_then HB4.out hb HB4.out.size
 have HB6 := Lib.hid nbel
 clear nbel HB4 hb x10 z10 x20 z20 x40 x41 z40 z41 szb s1 s2 s4
 have x10 : W5.cell? ⟨g7, 0, none⟩ = some (.bool true) := (b1.out).cell 0
 have z10 : W5.frozen? ⟨g7, 0, none⟩ = false := (b1.out).frozen 0
 have x20 : W5.cell? ⟨g8, 0, none⟩ = some (.bool false) := (b2.out).cell 0
 have z20 : W5.frozen? ⟨g8, 0, none⟩ = false := (b2.out).frozen 0
 obtain ⟨x40, x41, z40, z41, s4⟩ := b4.out.e2
 have szb := HB6.out.size
 have s1 := b1.out.lt
 have s2 := b2.out.lt
 obtain ⟨k1, A1, l1, c1, rfl⟩ := hv.open
 have HV := Lib.hid hv
 clear hv
 go_upto_region 2 with (fail)
 have q7 := b1.out.lt
 have q8 := b2.out.lt
 have q9 := b4.out.lt
 change Code.wp Tryz.prog _ _ _ (W5.alloc (.cells #[.bool k1, .slice A1 l1 c1] 25))
 obtain ⟨nb5, na⟩ := new1 W5 25 [.bool k1, .slice A1 l1 c1] lf2
 have nb1 := b1.out.up na
 have nb2 := b2.out.up na
 have nb4 := b4.out.up na
 have nkeep := Keep.ofBelow na
 have nbel := below_then HB6.out na HB6.out.size
 generalize W5.alloc (.cells #[.bool k1, .slice A1 l1 c1] 25) = W10 at *
 clear na x10 z10 x20 z20 x40 x41 z40 z41 szb s1 s2 s4 b1 b2 b4
 have b1 := Lib.hid nb1
 have b2 := Lib.hid nb2
 have b4 := Lib.hid nb4
 have b5 := Lib.hid nb5
 clear nb1 nb2 nb4 nb5
 replace HV := Lib.hid (HV.out.kept nkeep)
 clear nkeep
 have HB11 := Lib.hid nbel
 clear nbel HB6
 have x10 : W10.cell? ⟨g7, 0, none⟩ = some (.bool true) := (b1.out).cell 0
 have z10 : W10.frozen? ⟨g7, 0, none⟩ = false := (b1.out).frozen 0
 have x20 : W10.cell? ⟨g8, 0, none⟩ = some (.bool false) := (b2.out).cell 0
 have z20 : W10.frozen? ⟨g8, 0, none⟩ = false := (b2.out).frozen 0
 obtain ⟨x40, x41, z40, z41, s4⟩ := b4.out.e2
 obtain ⟨x50, x51, s5⟩ := b5.out.d2
 have szb := HB11.out.size
 have s1 := b1.out.lt
 have s2 := b2.out.lt
 go_wp2_with fail
 have k1_ := Keep.set (Keep.refl W10) b1.out 0 (Leaf.bool (er != 3))
 have c1_ := Bx.set b1.out 0 (Leaf.bool (er != 3))
 have d2_ := Bx.far (g' := g7) b2.out hne 0 (.bool (er != 3))
 have d4_ := Bx.far (g' := g7) b4.out (by omega) 0 (.bool (er != 3))
 have k2_ := Keep.set k1_ d2_ 0 (Leaf.bool false)
 have c2_ := Bx.set d2_ 0 (Leaf.bool false)
 have c1b := Bx.far (g' := g8) c1_ (Ne.symm hne) 0 (.bool false)
 have d4b := Bx.far (g' := g8) d4_ (by omega) 0 (.bool false)
 have k3_ := Keep.set (Keep.set k2_ d4b 0 (Leaf.bool k1)) (Bx.set d4b 0 (Leaf.bool k1)) 1 (Leaf.slice A1 l1 c1)
 have bb : But2 g7 g8 w W10 := But2.ofBelow HB11.out
 have bb2 := (((bb.set g7 0 (.inl rfl) (.bool (er != 3))).set g8 0 (.inr (.inl rfl)) (.bool false)).set w.heap.size 0 (.inr (.inr (Nat.le_refl _))) (.bool k1)).set w.heap.size 1 (.inr (.inr (Nat.le_refl _))) (.slice A1 l1 c1)
 have e7 := Bx.far (g' := w.heap.size) (Bx.far (g' := w.heap.size) c1b (by omega) 0 (.bool k1)) (by omega) 1 (.slice A1 l1 c1)
 have e8 := Bx.far (g' := w.heap.size) (Bx.far (g' := w.heap.size) c2_ (by omega) 0 (.bool k1)) (by omega) 1 (.slice A1 l1 c1)
 refine bodyPost_ret (v := .agg #[.bool k1, .slice A1 l1 c1]) (by simp [results, Tryz.results14, go_sem, x40, x41]) rfl ⟨_, rfl, HV.out.kept k3_, e7, e8, bb2⟩
theorem part_false_true (s : ByteArray) (w : World) (g7 g8 : Nat) (h7 : Bx 4 w g7 [.bool false]) (h8 : Bx 4 w g8 [.bool true]) (hne : g7 ≠ g8) (hs : s.size ≤ 1000000) :
  Calls Tryz.prog 14 #[.string s, .pointer (some ⟨g7, 0, none⟩), .pointer (some ⟨g8, 0, none⟩)] w fun e w' => ∃ v, e = .returned v ∧ PInt (valZ s.data.toList) 223 v w' ∧ Bx 4 w' g7 [.bool false] ∧ Bx 4 w' g8 [.bool (errOf s.data.toList != 6)] ∧ But2 g7 g8 w w' := by
 have HP := Lib.hid (fun W => parse_fact s W hs)
 have b1 := Lib.hid h7
 have b2 := Lib.hid h8
 have hg7 := h7.lt
 have hg8 := h8.lt
 generalize errOf s.data.toList = er at *
 generalize valZ s.data.toList = zz at *
 clear h7 h8 hs
 go_enter Tryz.func14, Tryz.ntmps14
 go_upto_region 1 with (fail)
 have q1 := b1.out.lt
 have q2 := b2.out.lt
 change Code.wp Tryz.prog _ _ _ (w.alloc (.cells #[.bool false, .slice none 0 0] 25))
 obtain ⟨nb4, na⟩ := new1 w 25 [.bool false, .slice none 0 0] lf2
 have nb1 := b1.out.up na
 have nb2 := b2.out.up na
 have nkeep := Keep.ofBelow na
 have nbel := na
 generalize w.alloc (.cells #[.bool false, .slice none 0 0] 25) = W3 at *
 clear na b1 b2
 have b1 := Lib.hid nb1
 have b2 := Lib.hid nb2
 have b4 := Lib.hid nb4
 clear nb1 nb2 nb4 nkeep
 have HB4 := Lib.hid nbel
 clear nbel
 have x10 : W3.cell? ⟨g7, 0, none⟩ = some (.bool false) := (b1.out).cell 0
 have z10 : W3.frozen? ⟨g7, 0, none⟩ = false := (b1.out).frozen 0
 have x20 : W3.cell? ⟨g8, 0, none⟩ = some (.bool true) := (b2.out).cell 0
 have z20 : W3.frozen? ⟨g8, 0, none⟩ = false := (b2.out).frozen 0
 obtain ⟨x40, x41, z40, z41, s4⟩ := b4.out.e2
 have szb := HB4.out.size
 have s1 := b1.out.lt
 have s2 := b2.out.lt
 go_wp2_with fail
 refine (HP.out _).mono ?_
 rintro e W5 ⟨v, rfl, hv, hb⟩
 replace b1 := hup b1 hb
 replace b2 := hup b2 hb
 replace b4 := hup b4 hb
 have nbel := below_then HB4.out hb HB4.out.size
 have HB6 := Lib.hid nbel
 clear nbel HB4 hb x10 z10 x20 z20 x40 x41 z40 z41 szb s1 s2 s4
 have x10 : W5.cell? ⟨g7, 0, none⟩ = some (.bool false) := (b1.out).cell 0
 have z10 : W5.frozen? ⟨g7, 0, none⟩ = false := (b1.out).frozen 0
 have x20 : W5.cell? ⟨g8, 0, none⟩ = some (.bool true) := (b2.out).cell 0
 have z20 : W5.frozen? ⟨g8, 0, none⟩ = false := (b2.out).frozen 0
 obtain ⟨x40, x41, z40, z41, s4⟩ := b4.out.e2
 have szb := HB6.out.size
 have s1 := b1.out.lt
 have s2 := b2.out.lt
 obtain ⟨k1, A1, l1, c1, rfl⟩ := hv.open
 have HV := Lib.hid hv
 clear hv
 go_upto_region 2 with (fail)
 have q7 := b1.out.lt
 have q8 := b2.out.lt
 have q9 := b4.out.lt
 change Code.wp Tryz.prog _ _ _ (W5.alloc (.cells #[.bool k1, .slice A1 l1 c1] 25))
 obtain ⟨nb5, na⟩ := new1 W5 25 [.bool k1, .slice A1 l1 c1] lf2
 have nb1 := b1.out.up na
 have nb2 := b2.out.up na
 have nb4 := b4.out.up na
 have nkeep := Keep.ofBelow na
 have nbel := below_then HB6.out na HB6.out.size
 generalize W5.alloc (.cells #[.bool k1, .slice A1 l1 c1] 25) = W10 at *
 clear na x10 z10 x20 z20 x40 x41 z40 z41 szb s1 s2 s4 b1 b2 b4
 have b1 := Lib.hid nb1
 have b2 := Lib.hid nb2
 have b4 := Lib.hid nb4
 have b5 := Lib.hid nb5
 clear nb1 nb2 nb4 nb5
 replace HV := Lib.hid (HV.out.kept nkeep)
 clear nkeep
 have HB11 := Lib.hid nbel
 clear nbel HB6
 have x10 : W10.cell? ⟨g7, 0, none⟩ = some (.bool false) := (b1.out).cell 0
 have z10 : W10.frozen? ⟨g7, 0, none⟩ = false := (b1.out).frozen 0
 have x20 : W10.cell? ⟨g8, 0, none⟩ = some (.bool true) := (b2.out).cell 0
 have z20 : W10.frozen? ⟨g8, 0, none⟩ = false := (b2.out).frozen 0
 obtain ⟨x40, x41, z40, z41, s4⟩ := b4.out.e2
 obtain ⟨x50, x51, s5⟩ := b5.out.d2
 have szb := HB11.out.size
 have s1 := b1.out.lt
 have s2 := b2.out.lt
 go_wp2_with fail
 have k1_ := Keep.set (Keep.refl W10) b1.out 0 (Leaf.bool false)
 have c1_ := Bx.set b1.out 0 (Leaf.bool false)
 have d2_ := Bx.far (g' := g7) b2.out hne 0 (.bool false)
 have d4_ := Bx.far (g' := g7) b4.out (by omega) 0 (.bool false)
 have k2_ := Keep.set k1_ d2_ 0 (Leaf.bool (er != 6))
 have c2_ := Bx.set d2_ 0 (Leaf.bool (er != 6))
 have c1b := Bx.far (g' := g8) c1_ (Ne.symm hne) 0 (.bool (er != 6))
 have d4b := Bx.far (g' := g8) d4_ (by omega) 0 (.bool (er != 6))
 have k3_ := Keep.set (Keep.set k2_ d4b 0 (Leaf.bool k1)) (Bx.set d4b 0 (Leaf.bool k1)) 1 (Leaf.slice A1 l1 c1)
 have bb : But2 g7 g8 w W10 := But2.ofBelow HB11.out
 have bb2 := (((bb.set g7 0 (.inl rfl) (.bool false)).set g8 0 (.inr (.inl rfl)) (.bool (er != 6))).set w.heap.size 0 (.inr (.inr (Nat.le_refl _))) (.bool k1)).set w.heap.size 1 (.inr (.inr (Nat.le_refl _))) (.slice A1 l1 c1)
 have e7 := Bx.far (g' := w.heap.size) (Bx.far (g' := w.heap.size) c1b (by omega) 0 (.bool k1)) (by omega) 1 (.slice A1 l1 c1)
 have e8 := Bx.far (g' := w.heap.size) (Bx.far (g' := w.heap.size) c2_ (by omega) 0 (.bool k1)) (by omega) 1 (.slice A1 l1 c1)
 refine bodyPost_ret (v := .agg #[.bool k1, .slice A1 l1 c1]) (by simp [results, Tryz.results14, go_sem, x40, x41]) rfl ⟨_, rfl, HV.out.kept k3_, e7, e8, bb2⟩
theorem part_false_false (s : ByteArray) (w : World) (g7 g8 : Nat) (h7 : Bx 4 w g7 [.bool false]) (h8 : Bx 4 w g8 [.bool false]) (hne : g7 ≠ g8) (hs : s.size ≤ 1000000) :
  Calls Tryz.prog 14 #[.string s, .pointer (some ⟨g7, 0, none⟩), .pointer (some ⟨g8, 0, none⟩)] w fun e w' => ∃ v, e = .returned v ∧ PInt (valZ s.data.toList) 223 v w' ∧ Bx 4 w' g7 [.bool false] ∧ Bx 4 w' g8 [.bool false] ∧ But2 g7 g8 w w' := by
 have HP := Lib.hid (fun W => parse_fact s W hs)
 have b1 := Lib.hid h7
 have b2 := Lib.hid h8
 have hg7 := h7.lt
 have hg8 := h8.lt
 generalize errOf s.data.toList = er at *
 generalize valZ s.data.toList = zz at *
 clear h7 h8 hs
 go_enter Tryz.func14, Tryz.ntmps14
 go_upto_region 1 with (fail)
 have q1 := b1.out.lt
 have q2 := b2.out.lt
 change Code.wp Tryz.prog _ _ _ (w.alloc (.cells #[.bool false, .slice none 0 0] 25))
 obtain ⟨nb4, na⟩ := new1 w 25 [.bool false, .slice none 0 0] lf2
 have nb1 := b1.out.up na
 have nb2 := b2.out.up na
 have nkeep := Keep.ofBelow na
 have nbel := na
 generalize w.alloc (.cells #[.bool false, .slice none 0 0] 25) = W3 at *
 clear na b1 b2
 have b1 := Lib.hid nb1
 have b2 := Lib.hid nb2
 have b4 := Lib.hid nb4
 clear nb1 nb2 nb4 nkeep
 have HB4 := Lib.hid nbel
 clear nbel
 have x10 : W3.cell? ⟨g7, 0, none⟩ = some (.bool false) := (b1.out).cell 0
 have z10 : W3.frozen? ⟨g7, 0, none⟩ = false := (b1.out).frozen 0
 have x20 : W3.cell? ⟨g8, 0, none⟩ = some (.bool false) := (b2.out).cell 0
 have z20 : W3.frozen? ⟨g8, 0, none⟩ = false := (b2.out).frozen 0
 obtain ⟨x40, x41, z40, z41, s4⟩ := b4.out.e2
 have szb := HB4.out.size
 have s1 := b1.out.lt
 have s2 := b2.out.lt
 go_wp2_with fail
 refine (HP.out _).mono ?_
 rintro e W5 ⟨v, rfl, hv, hb⟩
 replace b1 := hup b1 hb
 replace b2 := hup b2 hb
 replace b4 := hup b4 hb
 have nbel := below_then HB4.out hb HB4.out.size
 have HB6 := Lib.hid nbel
 clear nbel HB4 hb x10 z10 x20 z20 x40 x41 z40 z41 szb s1 s2 s4
 have x10 : W5.cell? ⟨g7, 0, none⟩ = some (.bool false) := (b1.out).cell 0
 have z10 : W5.frozen? ⟨g7, 0, none⟩ = false := (b1.out).frozen 0
 have x20 : W5.cell? ⟨g8, 0, none⟩ = some (.bool false) := (b2.out).cell 0
 have z20 : W5.frozen? ⟨g8, 0, none⟩ = false := (b2.out).frozen 0
 obtain ⟨x40, x41, z40, z41, s4⟩ := b4.out.e2
 have szb := HB6.out.size
 have s1 := b1.out.lt
 have s2 := b2.out.lt
 obtain ⟨k1, A1, l1, c1, rfl⟩ := hv.open
 have HV := Lib.hid hv
 clear hv
 go_upto_region 2 with (fail)
 have q7 := b1.out.lt
 have q8 := b2.out.lt
 have q9 := b4.out.lt
 change Code.wp Tryz.prog _ _ _ (W5.alloc (.cells #[.bool k1, .slice A1 l1 c1] 25))
 obtain ⟨nb5, na⟩ := new1 W5 25 [.bool k1, .slice A1 l1 c1] lf2
 have nb1 := b1.out.up na
 have nb2 := b2.out.up na
 have nb4 := b4.out.up na
 have nkeep := Keep.ofBelow na
 have nbel := below_then HB6.out na HB6.out.size
 generalize W5.alloc (.cells #[.bool k1, .slice A1 l1 c1] 25) = W10 at *
 clear na x10 z10 x20 z20 x40 x41 z40 z41 szb s1 s2 s4 b1 b2 b4
 have b1 := Lib.hid nb1
 have b2 := Lib.hid nb2
 have b4 := Lib.hid nb4
 have b5 := Lib.hid nb5
 clear nb1 nb2 nb4 nb5
 replace HV := Lib.hid (HV.out.kept nkeep)
 clear nkeep
 have HB11 := Lib.hid nbel
 clear nbel HB6
 have x10 : W10.cell? ⟨g7, 0, none⟩ = some (.bool false) := (b1.out).cell 0
 have z10 : W10.frozen? ⟨g7, 0, none⟩ = false := (b1.out).frozen 0
 have x20 : W10.cell? ⟨g8, 0, none⟩ = some (.bool false) := (b2.out).cell 0
 have z20 : W10.frozen? ⟨g8, 0, none⟩ = false := (b2.out).frozen 0
 obtain ⟨x40, x41, z40, z41, s4⟩ := b4.out.e2
 obtain ⟨x50, x51, s5⟩ := b5.out.d2
 have szb := HB11.out.size
 have s1 := b1.out.lt
 have s2 := b2.out.lt
 go_wp2_with fail
 have k1_ := Keep.set (Keep.refl W10) b1.out 0 (Leaf.bool false)
 have c1_ := Bx.set b1.out 0 (Leaf.bool false)
 have d2_ := Bx.far (g' := g7) b2.out hne 0 (.bool false)
 have d4_ := Bx.far (g' := g7) b4.out (by omega) 0 (.bool false)
 have k2_ := Keep.set k1_ d2_ 0 (Leaf.bool false)
 have c2_ := Bx.set d2_ 0 (Leaf.bool false)
 have c1b := Bx.far (g' := g8) c1_ (Ne.symm hne) 0 (.bool false)
 have d4b := Bx.far (g' := g8) d4_ (by omega) 0 (.bool false)
 have k3_ := Keep.set (Keep.set k2_ d4b 0 (Leaf.bool k1)) (Bx.set d4b 0 (Leaf.bool k1)) 1 (Leaf.slice A1 l1 c1)
 have bb : But2 g7 g8 w W10 := But2.ofBelow HB11.out
 have bb2 := (((bb.set g7 0 (.inl rfl) (.bool false)).set g8 0 (.inr (.inl rfl)) (.bool false)).set w.heap.size 0 (.inr (.inr (Nat.le_refl _))) (.bool k1)).set w.heap.size 1 (.inr (.inr (Nat.le_refl _))) (.slice A1 l1 c1)
 have e7 := Bx.far (g' := w.heap.size) (Bx.far (g' := w.heap.size) c1b (by omega) 0 (.bool k1)) (by omega) 1 (.slice A1 l1 c1)
 have e8 := Bx.far (g' := w.heap.size) (Bx.far (g' := w.heap.size) c2_ (by omega) 0 (.bool k1)) (by omega) 1 (.slice A1 l1 c1)
 refine bodyPost_ret (v := .agg #[.bool k1, .slice A1 l1 c1]) (by simp [results, Tryz.results14, go_sem, x40, x41]) rfl ⟨_, rfl, HV.out.kept k3_, e7, e8, bb2⟩
theorem part_any (s : ByteArray) (w : World) (g7 g8 : Nat) (b7 b8 : Bool) (h7 : Bx 4 w g7 [.bool b7]) (h8 : Bx 4 w g8 [.bool b8]) (hne : g7 ≠ g8) (hs : s.size ≤ 1000000) :
  Calls Tryz.prog 14 #[.string s, .pointer (some ⟨g7, 0, none⟩), .pointer (some ⟨g8, 0, none⟩)] w fun e w' => ∃ v, e = .returned v ∧ PInt (valZ s.data.toList) 223 v w' ∧ Bx 4 w' g7 [.bool (b7 && (errOf s.data.toList != 3))] ∧ Bx 4 w' g8 [.bool (b8 && (errOf s.data.toList != 6))] ∧ But2 g7 g8 w w' := by
 cases b7 <;> cases b8
 ·exact part_false_false s w g7 g8 h7 h8 hne hs
 ·exact part_false_true s w g7 g8 h7 h8 hne hs
 ·exact part_true_false s w g7 g8 h7 h8 hne hs
 ·exact part_true_true s w g7 g8 h7 h8 hne hs
open Go.RowKit
open AS (Keep NoInt)
set_option maxHeartbeats 3200000
set_option maxRecDepth 20000
theorem leaf1 {x : Value} (hx : Leaf x) : ∀ v ∈ [x], Leaf v := by intro v hv; simp at hv; rw [hv]; exact hx
def MaxOk (w : World) : Prop := ∃ m : Int, w.cell? ⟨0, 0, none⟩ = some (.int .i64 m)
theorem MaxOk.lt {w : World} (h : MaxOk w) : 0 < w.heap.size := by
 obtain ⟨m, h⟩ := h
 rcases Nat.eq_zero_or_pos w.heap.size with h0 | h0
 ·exfalso
  unfold World.cell? at h
  rw [show w.heap[0]? = none from Array.getElem?_eq_none (by omega)] at h
  cases h
 ·exact h0
theorem MaxOk.up {w w' : World} (h : MaxOk w) (hb : Below w.heap.size w w') : MaxOk w' := by
 have h0 := h.lt
 obtain ⟨m, h⟩ := h
 exact ⟨m, (hb.cell (p := ⟨0, 0, none⟩) h0).trans h⟩
theorem cut_is {s : ByteArray} {N D : List UInt8} {fd : Bool} {w : World} (hm : MaxOk w) (hs : s.size ≤ 1000000) (hc : Lib.cut s.data.toList [47] = (N, D, fd)) :
  Calls Tryz.prog 13 #[.string s, .string ⟨#[47]⟩] w fun e w' => e = .returned (.tuple #[.string ⟨N.toArray⟩, .string ⟨D.toArray⟩, .bool fd]) ∧ Below w.heap.size w w' := by
 obtain ⟨m, hm⟩ := hm
 refine (Tryz.strings_Cut s ⟨#[47]⟩ m w (by omega) hm).mono ?_
 rintro e w' ⟨rfl, n, rfl⟩
 rw [show Lib.cut s.data.toList (⟨#[47]⟩ : ByteArray).data.toList = (N, D, fd) from hc]
 exact ⟨rfl, below_drewN (Below.refl _ _) n⟩
theorem pparse_n3 {s : ByteArray} {N D : List UInt8} {c8 : Bool} {w : World} (hm : MaxOk w) (hc : Lib.cut s.data.toList [47] = (N, D, false)) (hln : s.size ≤ 9000 ∧ N.length ≤ 9000 ∧ D.length ≤ 9000) (h7 : (true && (errOf N != 3)) = false) (h8 : (true && (errOf N != 6)) = c8) :
  Calls Tryz.prog 5 #[.string s] w fun e w' => e = .returned (.tuple #[.agg #[.bool false, .slice none 0 0, .bool false, .slice none 0 0], .int .i64 3]) ∧ Below w.heap.size w w' := by
 have hmf : ∀ (fn : Fn) (first cap : Array Value) (w : World), (Instr.makeFunc fn first cap).run Tryz.prog w = .ok (.func fn first cap) w := fun _ _ _ _ => rfl
 have HM := Lib.hid hm
 have HC := Lib.hid hc
 have HLN := Lib.hid hln
 have HE7 := Lib.hid h7
 have HE8 := Lib.hid h8
 clear hm hc hln h7 h8
 go_enter Tryz.func5, Tryz.ntmps5
 go_upto_region 1 with (fail)
 change Code.wp Tryz.prog _ _ _ (w.alloc (.cells #[.bool false, .slice none 0 0, .bool false, .slice none 0 0] 27))
 obtain ⟨nb2, na⟩ := new1 w 27 [.bool false, .slice none 0 0, .bool false, .slice none 0 0] lf4
 have nkeep := Keep.ofBelow na
 have nbel := na
 generalize w.alloc (.cells #[.bool false, .slice none 0 0, .bool false, .slice none 0 0] 27) = W1 at *
 clear na
 have b2 := Lib.hid nb2
 clear nb2 nkeep
 have HB2 := Lib.hid nbel
 clear nbel
 obtain ⟨x20, x21, x22, x23, z20, z21, z22, z23, s2⟩ := b2.out.e4
 have szb := HB2.out.size
 go_wp2_with fail
 refine (cut_is (HM.out.up HB2.out) (by have := HLN.out; omega) HC.out).mono ?_
 rintro e W3 ⟨rfl, hb⟩
 replace b2 := hup b2 hb
 have nbel := below_then HB2.out hb HB2.out.size
 have HB4 := Lib.hid nbel
 clear nbel HB2 hb x20 x21 x22 x23 z20 z21 z22 z23 szb s2
 obtain ⟨x20, x21, x22, x23, z20, z21, z22, z23, s2⟩ := b2.out.e4
 have szb := HB4.out.size
 go_upto_region 3 with (fail)
 have q5 := b2.out.lt
 change Code.wp Tryz.prog _ _ _ ((W3.alloc (.cells #[.bool true] 4)).alloc (.cells #[.bool true] 4))
 have nb2 : Bx 27 ((W3.alloc (.cells #[.bool true] 4)).alloc (.cells #[.bool true] 4)) w.heap.size [.bool false, .slice none 0 0, .bool false, .slice none 0 0] := (Bx.alloc (Bx.alloc b2.out (.cells #[.bool true] 4)) (.cells #[.bool true] 4))
 have nb7 := (Bx.alloc (Bx.new 4 W3 [.bool true] (leaf1 (Leaf.bool true))) (.cells #[.bool true] 4))
 have nb8 := (Bx.new 4 (W3.alloc (.cells #[.bool true] 4)) [.bool true] (leaf1 (Leaf.bool true)))
 rw [show (W3.alloc (.cells #[.bool true] 4)).heap.size = W3.heap.size + 1 by simp] at nb8
 have nkeep := (Keep.alloc (Keep.alloc (Keep.refl W3) (.cells #[.bool true] 4)) (.cells #[.bool true] 4))
 have nbel : Below w.heap.size w ((W3.alloc (.cells #[.bool true] 4)).alloc (.cells #[.bool true] 4)) := (Below.alloc (Below.alloc HB4.out (by first | omega | (simp; done) | (simp; omega) | (simp [World.setCell]; done) | (simp [World.setCell]; omega)) (.cells #[.bool true] 4)) (by first | omega | (simp; done) | (simp; omega) | (simp [World.setCell]; done) | (simp [World.setCell]; omega)) (.cells #[.bool true] 4))
 generalize (W3.alloc (.cells #[.bool true] 4)).alloc (.cells #[.bool true] 4) = W6 at *
 clear x20 x21 x22 x23 z20 z21 z22 z23 szb s2 b2
 have b2 := Lib.hid nb2
 have b7 := Lib.hid nb7
 have b8 := Lib.hid nb8
 clear nb2 nb7 nb8 nkeep
 have HB7 := Lib.hid nbel
 clear nbel HB4
 obtain ⟨x20, x21, x22, x23, z20, z21, z22, z23⟩ := b2.out.cz4
 have x70 : W6.cell? ⟨W3.heap.size, 0, none⟩ = some (.bool true) := (b7.out).cell 0
 have z70 : W6.frozen? ⟨W3.heap.size, 0, none⟩ = false := (b7.out).frozen 0
 have x80 : W6.cell? ⟨W3.heap.size + 1, 0, none⟩ = some (.bool true) := (b8.out).cell 0
 have z80 : W6.frozen? ⟨W3.heap.size + 1, 0, none⟩ = false := (b8.out).frozen 0
 have szb := HB7.out.size
 have s2 := b2.out.lt
 have s7 := b7.out.lt
 have s8 := b8.out.lt
 have h78 : Hid (W3.heap.size ≠ W3.heap.size + 1) := by show _ ≠ _; omega
 go_wp2_with fail
 refine (part_any ⟨N.toArray⟩ _ _ _ _ _ b7.out b8.out h78.out (by have := HLN.out; show N.toArray.size ≤ 1000000; rw [List.size_toArray]; omega)).mono ?_
 rintro e W8 ⟨v, rfl, hv, h7n, h8n, hbt⟩
 have hk_ := hbt.keep b7.out b8.out
 replace b2 := Lib.hid (hbt.bx b2.out (by omega) (by omega))
 have nbel := hbt.below HB7.out (by omega) (by omega) HB7.out.size
 clear hbt hk_ b7 b8
 rw [show (true && (errOf (⟨N.toArray⟩ : ByteArray).data.toList != 3)) = false from HE7.out] at h7n
 rw [show (true && (errOf (⟨N.toArray⟩ : ByteArray).data.toList != 6)) = c8 from HE8.out] at h8n
 have b7 := Lib.hid h7n
 have b8 := Lib.hid h8n
 clear h7n h8n
 have HB9 := Lib.hid nbel
 clear nbel HB7 x20 x21 x22 x23 z20 z21 z22 z23 x70 z70 x80 z80 szb s2 s7 s8
 obtain ⟨x20, x21, x22, x23, z20, z21, z22, z23⟩ := b2.out.cz4
 have x70 : W8.cell? ⟨W3.heap.size, 0, none⟩ = some (.bool false) := (b7.out).cell 0
 have z70 : W8.frozen? ⟨W3.heap.size, 0, none⟩ = false := (b7.out).frozen 0
 have x80 : W8.cell? ⟨W3.heap.size + 1, 0, none⟩ = some (.bool c8) := (b8.out).cell 0
 have z80 : W8.frozen? ⟨W3.heap.size + 1, 0, none⟩ = false := (b8.out).frozen 0
 have szb := HB9.out.size
 have s2 := b2.out.lt
 have s7 := b7.out.lt
 have s8 := b8.out.lt
 obtain ⟨k1, A1, l1, c1, rfl⟩ := hv.open
 have HV1 := Lib.hid hv
 clear hv
 go_wp2_with fail
 refine (of_fact (n := 1) (by decide) (by decide)).mono ?_
 rintro e W10 ⟨v, rfl, hv, hb⟩
 replace b2 := hup b2 hb
 replace b7 := hup b7 hb
 replace b8 := hup b8 hb
 replace HV1 := Lib.hid (HV1.out.kept (Keep.ofBelow hb))
 have nbel := below_then HB9.out hb HB9.out.size
 have HB11 := Lib.hid nbel
 clear nbel HB9 hb x20 x21 x22 x23 z20 z21 z22 z23 x70 z70 x80 z80 szb s2 s7 s8
 obtain ⟨x20, x21, x22, x23, z20, z21, z22, z23⟩ := b2.out.cz4
 have x70 : W10.cell? ⟨W3.heap.size, 0, none⟩ = some (.bool false) := (b7.out).cell 0
 have z70 : W10.frozen? ⟨W3.heap.size, 0, none⟩ = false := (b7.out).frozen 0
 have x80 : W10.cell? ⟨W3.heap.size + 1, 0, none⟩ = some (.bool c8) := (b8.out).cell 0
 have z80 : W10.frozen? ⟨W3.heap.size + 1, 0, none⟩ = false := (b8.out).frozen 0
 have szb := HB11.out.size
 have s2 := b2.out.lt
 have s7 := b7.out.lt
 have s8 := b8.out.lt
 obtain ⟨k2, A2, l2, c2, rfl⟩ := hv.open
 have HO := Lib.hid hv
 clear hv
 go_upto_region 5 with (fail)
 have q12 := b2.out.lt
 have q13 := b7.out.lt
 have q14 := b8.out.lt
 change Code.wp Tryz.prog _ _ _ ((W10.alloc (.cells #[.bool k1, .slice A1 l1 c1] 25)).alloc (.cells #[.bool k2, .slice A2 l2 c2] 25))
 obtain ⟨nb10, nb11, na⟩ := new2 W10 25 [.bool k1, .slice A1 l1 c1] 25 [.bool k2, .slice A2 l2 c2] lf2 lf2
 have nb2 := b2.out.up na
 have nb7 := b7.out.up na
 have nb8 := b8.out.up na
 have nkeep := Keep.ofBelow na
 have nbel := below_then HB11.out na HB11.out.size
 generalize (W10.alloc (.cells #[.bool k1, .slice A1 l1 c1] 25)).alloc (.cells #[.bool k2, .slice A2 l2 c2] 25) = W15 at *
 clear na x20 x21 x22 x23 z20 z21 z22 z23 x70 z70 x80 z80 szb s2 s7 s8 b2 b7 b8
 have b2 := Lib.hid nb2
 have b7 := Lib.hid nb7
 have b8 := Lib.hid nb8
 have b10 := Lib.hid nb10
 have b11 := Lib.hid nb11
 clear nb2 nb7 nb8 nb10 nb11
 replace HV1 := Lib.hid (HV1.out.kept nkeep)
 replace HO := Lib.hid (HO.out.kept nkeep)
 clear nkeep
 have HB16 := Lib.hid nbel
 clear nbel HB11
 obtain ⟨x20, x21, x22, x23, z20, z21, z22, z23⟩ := b2.out.cz4
 have x70 : W15.cell? ⟨W3.heap.size, 0, none⟩ = some (.bool false) := (b7.out).cell 0
 have z70 : W15.frozen? ⟨W3.heap.size, 0, none⟩ = false := (b7.out).frozen 0
 have x80 : W15.cell? ⟨W3.heap.size + 1, 0, none⟩ = some (.bool c8) := (b8.out).cell 0
 have z80 : W15.frozen? ⟨W3.heap.size + 1, 0, none⟩ = false := (b8.out).frozen 0
 obtain ⟨x100, x101, s10⟩ := b10.out.d2
 obtain ⟨x110, x111, s11⟩ := b11.out.d2
 have szb := HB16.out.size
 have s2 := b2.out.lt
 have s7 := b7.out.lt
 have s8 := b8.out.lt
 go_wp2_with fail
 have hkeep := (Keep.set4 (Keep.refl W15) b2.out (Leaf.bool false) (Leaf.slice none 0 0) (Leaf.bool false) (Leaf.slice none 0 0))
 have hbel := (Below.set4 (g := w.heap.size) HB16.out (by first | omega | (simp; done) | (simp; omega)) (.bool false) (.slice none 0 0) (.bool false) (.slice none 0 0))
 refine bodyPost_ret (v := .tuple #[.agg #[.bool false, .slice none 0 0, .bool false, .slice none 0 0], .int .i64 3]) (by simp [results, Tryz.results5, go_sem, x20, x21, x22, x23]) rfl ⟨rfl, hbel⟩
theorem pparse_n6 {s : ByteArray} {N D : List UInt8} {w : World} (hm : MaxOk w) (hc : Lib.cut s.data.toList [47] = (N, D, false)) (hln : s.size ≤ 9000 ∧ N.length ≤ 9000 ∧ D.length ≤ 9000) (h7 : (true && (errOf N != 3)) = true) (h8 : (true && (errOf N != 6)) = false) :
  Calls Tryz.prog 5 #[.string s] w fun e w' => e = .returned (.tuple #[.agg #[.bool false, .slice none 0 0, .bool false, .slice none 0 0], .int .i64 6]) ∧ Below w.heap.size w w' := by
 have hmf : ∀ (fn : Fn) (first cap : Array Value) (w : World), (Instr.makeFunc fn first cap).run Tryz.prog w = .ok (.func fn first cap) w := fun _ _ _ _ => rfl
 have HM := Lib.hid hm
 have HC := Lib.hid hc
 have HLN := Lib.hid hln
 have HE7 := Lib.hid h7
 have HE8 := Lib.hid h8
 clear hm hc hln h7 h8
 go_enter Tryz.func5, Tryz.ntmps5
 go_upto_region 1 with (fail)
 change Code.wp Tryz.prog _ _ _ (w.alloc (.cells #[.bool false, .slice none 0 0, .bool false, .slice none 0 0] 27))
 obtain ⟨nb2, na⟩ := new1 w 27 [.bool false, .slice none 0 0, .bool false, .slice none 0 0] lf4
 have nkeep := Keep.ofBelow na
 have nbel := na
 generalize w.alloc (.cells #[.bool false, .slice none 0 0, .bool false, .slice none 0 0] 27) = W1 at *
 clear na
 have b2 := Lib.hid nb2
 clear nb2 nkeep
 have HB2 := Lib.hid nbel
 clear nbel
 obtain ⟨x20, x21, x22, x23, z20, z21, z22, z23, s2⟩ := b2.out.e4
 have szb := HB2.out.size
 go_wp2_with fail
 refine (cut_is (HM.out.up HB2.out) (by have := HLN.out; omega) HC.out).mono ?_
 rintro e W3 ⟨rfl, hb⟩
 replace b2 := hup b2 hb
 have nbel := below_then HB2.out hb HB2.out.size
 have HB4 := Lib.hid nbel
 clear nbel HB2 hb x20 x21 x22 x23 z20 z21 z22 z23 szb s2
 obtain ⟨x20, x21, x22, x23, z20, z21, z22, z23, s2⟩ := b2.out.e4
 have szb := HB4.out.size
 go_upto_region 3 with (fail)
 have q5 := b2.out.lt
 change Code.wp Tryz.prog _ _ _ ((W3.alloc (.cells #[.bool true] 4)).alloc (.cells #[.bool true] 4))
 have nb2 : Bx 27 ((W3.alloc (.cells #[.bool true] 4)).alloc (.cells #[.bool true] 4)) w.heap.size [.bool false, .slice none 0 0, .bool false, .slice none 0 0] := (Bx.alloc (Bx.alloc b2.out (.cells #[.bool true] 4)) (.cells #[.bool true] 4))
 have nb7 := (Bx.alloc (Bx.new 4 W3 [.bool true] (leaf1 (Leaf.bool true))) (.cells #[.bool true] 4))
 have nb8 := (Bx.new 4 (W3.alloc (.cells #[.bool true] 4)) [.bool true] (leaf1 (Leaf.bool true)))
 rw [show (W3.alloc (.cells #[.bool true] 4)).heap.size = W3.heap.size + 1 by simp] at nb8
 have nkeep := (Keep.alloc (Keep.alloc (Keep.refl W3) (.cells #[.bool true] 4)) (.cells #[.bool true] 4))
 have nbel : Below w.heap.size w ((W3.alloc (.cells #[.bool true] 4)).alloc (.cells #[.bool true] 4)) := (Below.alloc (Below.alloc HB4.out (by first | omega | (simp; done) | (simp; omega) | (simp [World.setCell]; done) | (simp [World.setCell]; omega)) (.cells #[.bool true] 4)) (by first | omega | (simp; done) | (simp; omega) | (simp [World.setCell]; done) | (simp [World.setCell]; omega)) (.cells #[.bool true] 4))
 generalize (W3.alloc (.cells #[.bool true] 4)).alloc (.cells #[.bool true] 4) = W6 at *
 clear x20 x21 x22 x23 z20 z21 z22 z23 szb s2 b2
 have b2 := Lib.hid nb2
 have b7 := Lib.hid nb7
 have b8 := Lib.hid nb8
 clear nb2 nb7 nb8 nkeep
 have HB7 := Lib.hid nbel
 clear nbel HB4
 obtain ⟨x20, x21, x22, x23, z20, z21, z22, z23⟩ := b2.out.cz4
 have x70 : W6.cell? ⟨W3.heap.size, 0, none⟩ = some (.bool true) := (b7.out).cell 0
 have z70 : W6.frozen? ⟨W3.heap.size, 0, none⟩ = false := (b7.out).frozen 0
 have x80 : W6.cell? ⟨W3.heap.size + 1, 0, none⟩ = some (.bool true) := (b8.out).cell 0
 have z80 : W6.frozen? ⟨W3.heap.size + 1, 0, none⟩ = false := (b8.out).frozen 0
 have szb := HB7.out.size
 have s2 := b2.out.lt
 have s7 := b7.out.lt
 have s8 := b8.out.lt
 have h78 : Hid (W3.heap.size ≠ W3.heap.size + 1) := by show _ ≠ _; omega
 go_wp2_with fail
 refine (part_any ⟨N.toArray⟩ _ _ _ _ _ b7.out b8.out h78.out (by have := HLN.out; show N.toArray.size ≤ 1000000; rw [List.size_toArray]; omega)).mono ?_
 rintro e W8 ⟨v, rfl, hv, h7n, h8n, hbt⟩
 have hk_ := hbt.keep b7.out b8.out
 replace b2 := Lib.hid (hbt.bx b2.out (by omega) (by omega))
 have nbel := hbt.below HB7.out (by omega) (by omega) HB7.out.size
 clear hbt hk_ b7 b8
 rw [show (true && (errOf (⟨N.toArray⟩ : ByteArray).data.toList != 3)) = true from HE7.out] at h7n
 rw [show (true && (errOf (⟨N.toArray⟩ : ByteArray).data.toList != 6)) = false from HE8.out] at h8n
 have b7 := Lib.hid h7n
 have b8 := Lib.hid h8n
 clear h7n h8n
 have HB9 := Lib.hid nbel
 clear nbel HB7 x20 x21 x22 x23 z20 z21 z22 z23 x70 z70 x80 z80 szb s2 s7 s8
 obtain ⟨x20, x21, x22, x23, z20, z21, z22, z23⟩ := b2.out.cz4
 have x70 : W8.cell? ⟨W3.heap.size, 0, none⟩ = some (.bool true) := (b7.out).cell 0
 have z70 : W8.frozen? ⟨W3.heap.size, 0, none⟩ = false := (b7.out).frozen 0
 have x80 : W8.cell? ⟨W3.heap.size + 1, 0, none⟩ = some (.bool false) := (b8.out).cell 0
 have z80 : W8.frozen? ⟨W3.heap.size + 1, 0, none⟩ = false := (b8.out).frozen 0
 have szb := HB9.out.size
 have s2 := b2.out.lt
 have s7 := b7.out.lt
 have s8 := b8.out.lt
 obtain ⟨k1, A1, l1, c1, rfl⟩ := hv.open
 have HV1 := Lib.hid hv
 clear hv
 go_wp2_with fail
 refine (of_fact (n := 1) (by decide) (by decide)).mono ?_
 rintro e W10 ⟨v, rfl, hv, hb⟩
 replace b2 := hup b2 hb
 replace b7 := hup b7 hb
 replace b8 := hup b8 hb
 replace HV1 := Lib.hid (HV1.out.kept (Keep.ofBelow hb))
 have nbel := below_then HB9.out hb HB9.out.size
 have HB11 := Lib.hid nbel
 clear nbel HB9 hb x20 x21 x22 x23 z20 z21 z22 z23 x70 z70 x80 z80 szb s2 s7 s8
 obtain ⟨x20, x21, x22, x23, z20, z21, z22, z23⟩ := b2.out.cz4
 have x70 : W10.cell? ⟨W3.heap.size, 0, none⟩ = some (.bool true) := (b7.out).cell 0
 have z70 : W10.frozen? ⟨W3.heap.size, 0, none⟩ = false := (b7.out).frozen 0
 have x80 : W10.cell? ⟨W3.heap.size + 1, 0, none⟩ = some (.bool false) := (b8.out).cell 0
 have z80 : W10.frozen? ⟨W3.heap.size + 1, 0, none⟩ = false := (b8.out).frozen 0
 have szb := HB11.out.size
 have s2 := b2.out.lt
 have s7 := b7.out.lt
 have s8 := b8.out.lt
 obtain ⟨k2, A2, l2, c2, rfl⟩ := hv.open
 have HO := Lib.hid hv
 clear hv
 go_upto_region 5 with (fail)
 have q12 := b2.out.lt
 have q13 := b7.out.lt
 have q14 := b8.out.lt
 change Code.wp Tryz.prog _ _ _ ((W10.alloc (.cells #[.bool k1, .slice A1 l1 c1] 25)).alloc (.cells #[.bool k2, .slice A2 l2 c2] 25))
 obtain ⟨nb10, nb11, na⟩ := new2 W10 25 [.bool k1, .slice A1 l1 c1] 25 [.bool k2, .slice A2 l2 c2] lf2 lf2
 have nb2 := b2.out.up na
 have nb7 := b7.out.up na
 have nb8 := b8.out.up na
 have nkeep := Keep.ofBelow na
 have nbel := below_then HB11.out na HB11.out.size
 generalize (W10.alloc (.cells #[.bool k1, .slice A1 l1 c1] 25)).alloc (.cells #[.bool k2, .slice A2 l2 c2] 25) = W15 at *
 clear na x20 x21 x22 x23 z20 z21 z22 z23 x70 z70 x80 z80 szb s2 s7 s8 b2 b7 b8
 have b2 := Lib.hid nb2
 have b7 := Lib.hid nb7
 have b8 := Lib.hid nb8
 have b10 := Lib.hid nb10
 have b11 := Lib.hid nb11
 clear nb2 nb7 nb8 nb10 nb11
 replace HV1 := Lib.hid (HV1.out.kept nkeep)
 replace HO := Lib.hid (HO.out.kept nkeep)
 clear nkeep
 have HB16 := Lib.hid nbel
 clear nbel HB11
 obtain ⟨x20, x21, x22, x23, z20, z21, z22, z23⟩ := b2.out.cz4
 have x70 : W15.cell? ⟨W3.heap.size, 0, none⟩ = some (.bool true) := (b7.out).cell 0
 have z70 : W15.frozen? ⟨W3.heap.size, 0, none⟩ = false := (b7.out).frozen 0
 have x80 : W15.cell? ⟨W3.heap.size + 1, 0, none⟩ = some (.bool false) := (b8.out).cell 0
 have z80 : W15.frozen? ⟨W3.heap.size + 1, 0, none⟩ = false := (b8.out).frozen 0
 obtain ⟨x100, x101, s10⟩ := b10.out.d2
 obtain ⟨x110, x111, s11⟩ := b11.out.d2
 have szb := HB16.out.size
 have s2 := b2.out.lt
 have s7 := b7.out.lt
 have s8 := b8.out.lt
 go_wp2_with fail
 have hkeep := (Keep.set4 (Keep.refl W15) b2.out (Leaf.bool false) (Leaf.slice none 0 0) (Leaf.bool false) (Leaf.slice none 0 0))
 have hbel := (Below.set4 (g := w.heap.size) HB16.out (by first | omega | (simp; done) | (simp; omega)) (.bool false) (.slice none 0 0) (.bool false) (.slice none 0 0))
 refine bodyPost_ret (v := .tuple #[.agg #[.bool false, .slice none 0 0, .bool false, .slice none 0 0], .int .i64 6]) (by simp [results, Tryz.results5, go_sem, x20, x21, x22, x23]) rfl ⟨rfl, hbel⟩
theorem pparse_n0 {s : ByteArray} {N D : List UInt8} {w : World} (hm : MaxOk w) (hc : Lib.cut s.data.toList [47] = (N, D, false)) (hln : s.size ≤ 9000 ∧ N.length ≤ 9000 ∧ D.length ≤ 9000) (h7 : (true && (errOf N != 3)) = true) (h8 : (true && (errOf N != 6)) = true) :
  Calls Tryz.prog 5 #[.string s] w fun e w' => ∃ v, e = .returned (.tuple #[v, .int .i64 0]) ∧ (∃ (k : Bool) (A : Option Addr) (l c : Nat) (k' : Bool) (A' : Option Addr) (l' c' : Nat), v = .agg #[.bool k, .slice A l c, .bool k', .slice A' l' c'] ∧ PInt (valZ N) 223 (.agg #[.bool k, .slice A l c]) w' ∧ PInt 1 223 (.agg #[.bool k', .slice A' l' c']) w') ∧ Below w.heap.size w w' := by
 have hmf : ∀ (fn : Fn) (first cap : Array Value) (w : World), (Instr.makeFunc fn first cap).run Tryz.prog w = .ok (.func fn first cap) w := fun _ _ _ _ => rfl
 have HM := Lib.hid hm
 have HC := Lib.hid hc
 have HLN := Lib.hid hln
 have HE7 := Lib.hid h7
 have HE8 := Lib.hid h8
 clear hm hc hln h7 h8
 go_enter Tryz.func5, Tryz.ntmps5
 go_upto_region 1 with (fail)
 change Code.wp Tryz.prog _ _ _ (w.alloc (.cells #[.bool false, .slice none 0 0, .bool false, .slice none 0 0] 27))
 obtain ⟨nb2, na⟩ := new1 w 27 [.bool false, .slice none 0 0, .bool false, .slice none 0 0] lf4
 have nkeep := Keep.ofBelow na
 have nbel := na
 generalize w.alloc (.cells #[.bool false, .slice none 0 0, .bool false, .slice none 0 0] 27) = W1 at *
 clear na
 have b2 := Lib.hid nb2
 clear nb2 nkeep
 have HB2 := Lib.hid nbel
 clear nbel
 obtain ⟨x20, x21, x22, x23, z20, z21, z22, z23, s2⟩ := b2.out.e4
 have szb := HB2.out.size
 go_wp2_with fail
 refine (cut_is (HM.out.up HB2.out) (by have := HLN.out; omega) HC.out).mono ?_
 rintro e W3 ⟨rfl, hb⟩
 replace b2 := hup b2 hb
 have nbel := below_then HB2.out hb HB2.out.size
 have HB4 := Lib.hid nbel
 clear nbel HB2 hb x20 x21 x22 x23 z20 z21 z22 z23 szb s2
 obtain ⟨x20, x21, x22, x23, z20, z21, z22, z23, s2⟩ := b2.out.e4
 have szb := HB4.out.size
 go_upto_region 3 with (fail)
 have q5 := b2.out.lt
 change Code.wp Tryz.prog _ _ _ ((W3.alloc (.cells #[.bool true] 4)).alloc (.cells #[.bool true] 4))
 have nb2 : Bx 27 ((W3.alloc (.cells #[.bool true] 4)).alloc (.cells #[.bool true] 4)) w.heap.size [.bool false, .slice none 0 0, .bool false, .slice none 0 0] := (Bx.alloc (Bx.alloc b2.out (.cells #[.bool true] 4)) (.cells #[.bool true] 4))
 have nb7 := (Bx.alloc (Bx.new 4 W3 [.bool true] (leaf1 (Leaf.bool true))) (.cells #[.bool true] 4))
 have nb8 := (Bx.new 4 (W3.alloc (.cells #[.bool true] 4)) [.bool true] (leaf1 (Leaf.bool true)))
 rw [show (W3.alloc (.cells #[.bool true] 4)).heap.size = W3.heap.size + 1 by simp] at nb8
 have nkeep := (Keep.alloc (Keep.alloc (Keep.refl W3) (.cells #[.bool true] 4)) (.cells #[.bool true] 4))
 have nbel : Below w.heap.size w ((W3.alloc (.cells #[.bool true] 4)).alloc (.cells #[.bool true] 4)) := (Below.alloc (Below.alloc HB4.out (by first | omega | (simp; done) | (simp; omega) | (simp [World.setCell]; done) | (simp [World.setCell]; omega)) (.cells #[.bool true] 4)) (by first | omega | (simp; done) | (simp; omega) | (simp [World.setCell]; done) | (simp [World.setCell]; omega)) (.cells #[.bool true] 4))
 generalize (W3.alloc (.cells #[.bool true] 4)).alloc (.cells #[.bool true] 4) = W6 at *
 clear x20 x21 x22 x23 z20 z21 z22 z23 szb s2 b2
 have b2 := Lib.hid nb2
 have b7 := Lib.hid nb7
 have b8 := Lib.hid nb8
 clear nb2 nb7 nb8 nkeep
 have HB7 := Lib.hid nbel
 clear nbel HB4
 obtain ⟨x20, x21, x22, x23, z20, z21, z22, z23⟩ := b2.out.cz4
 have x70 : W6.cell? ⟨W3.heap.size, 0, none⟩ = some (.bool true) := (b7.out).cell 0
 have z70 : W6.frozen? ⟨W3.heap.size, 0, none⟩ = false := (b7.out).frozen 0
 have x80 : W6.cell? ⟨W3.heap.size + 1, 0, none⟩ = some (.bool true) := (b8.out).cell 0
 have z80 : W6.frozen? ⟨W3.heap.size + 1, 0, none⟩ = false := (b8.out).frozen 0
 have szb := HB7.out.size
 have s2 := b2.out.lt
 have s7 := b7.out.lt
 have s8 := b8.out.lt
 have h78 : Hid (W3.heap.size ≠ W3.heap.size + 1) := by show _ ≠ _; omega
 go_wp2_with fail
 refine (part_any ⟨N.toArray⟩ _ _ _ _ _ b7.out b8.out h78.out (by have := HLN.out; show N.toArray.size ≤ 1000000; rw [List.size_toArray]; omega)).mono ?_
 rintro e W8 ⟨v, rfl, hv, h7n, h8n, hbt⟩
 have hk_ := hbt.keep b7.out b8.out
 replace b2 := Lib.hid (hbt.bx b2.out (by omega) (by omega))
 have nbel := hbt.below HB7.out (by omega) (by omega) HB7.out.size
 clear hbt hk_ b7 b8
 rw [show (true && (errOf (⟨N.toArray⟩ : ByteArray).data.toList != 3)) = true from HE7.out] at h7n
 rw [show (true && (errOf (⟨N.toArray⟩ : ByteArray).data.toList != 6)) = true from HE8.out] at h8n
 have b7 := Lib.hid h7n
 have b8 := Lib.hid h8n
 clear h7n h8n
 have HB9 := Lib.hid nbel
 clear nbel HB7 x20 x21 x22 x23 z20 z21 z22 z23 x70 z70 x80 z80 szb s2 s7 s8
 obtain ⟨x20, x21, x22, x23, z20, z21, z22, z23⟩ := b2.out.cz4
 have x70 : W8.cell? ⟨W3.heap.size, 0, none⟩ = some (.bool true) := (b7.out).cell 0
 have z70 : W8.frozen? ⟨W3.heap.size, 0, none⟩ = false := (b7.out).frozen 0
 have x80 : W8.cell? ⟨W3.heap.size + 1, 0, none⟩ = some (.bool true) := (b8.out).cell 0
 have z80 : W8.frozen? ⟨W3.heap.size + 1, 0, none⟩ = false := (b8.out).frozen 0
 have szb := HB9.out.size
 have s2 := b2.out.lt
 have s7 := b7.out.lt
 have s8 := b8.out.lt
 obtain ⟨k1, A1, l1, c1, rfl⟩ := hv.open
 have HV1 := Lib.hid hv
 clear hv
 go_wp2_with fail
 refine (of_fact (n := 1) (by decide) (by decide)).mono ?_
 rintro e W10 ⟨v, rfl, hv, hb⟩
 replace b2 := hup b2 hb
 replace b7 := hup b7 hb
 replace b8 := hup b8 hb
 replace HV1 := Lib.hid (HV1.out.kept (Keep.ofBelow hb))
 have nbel := below_then HB9.out hb HB9.out.size
 have HB11 := Lib.hid nbel
 clear nbel HB9 hb x20 x21 x22 x23 z20 z21 z22 z23 x70 z70 x80 z80 szb s2 s7 s8
 obtain ⟨x20, x21, x22, x23, z20, z21, z22, z23⟩ := b2.out.cz4
 have x70 : W10.cell? ⟨W3.heap.size, 0, none⟩ = some (.bool true) := (b7.out).cell 0
 have z70 : W10.frozen? ⟨W3.heap.size, 0, none⟩ = false := (b7.out).frozen 0
 have x80 : W10.cell? ⟨W3.heap.size + 1, 0, none⟩ = some (.bool true) := (b8.out).cell 0
 have z80 : W10.frozen? ⟨W3.heap.size + 1, 0, none⟩ = false := (b8.out).frozen 0
 have szb := HB11.out.size
 have s2 := b2.out.lt
 have s7 := b7.out.lt
 have s8 := b8.out.lt
 obtain ⟨k2, A2, l2, c2, rfl⟩ := hv.open
 have HO := Lib.hid hv
 clear hv
 go_upto_region 5 with (fail)
 have q12 := b2.out.lt
 have q13 := b7.out.lt
 have q14 := b8.out.lt
 change Code.wp Tryz.prog _ _ _ ((W10.alloc (.cells #[.bool k1, .slice A1 l1 c1] 25)).alloc (.cells #[.bool k2, .slice A2 l2 c2] 25))
 obtain ⟨nb10, nb11, na⟩ := new2 W10 25 [.bool k1, .slice A1 l1 c1] 25 [.bool k2, .slice A2 l2 c2] lf2 lf2
 have nb2 := b2.out.up na
 have nb7 := b7.out.up na
 have nb8 := b8.out.up na
 have nkeep := Keep.ofBelow na
 have nbel := below_then HB11.out na HB11.out.size
 generalize (W10.alloc (.cells #[.bool k1, .slice A1 l1 c1] 25)).alloc (.cells #[.bool k2, .slice A2 l2 c2] 25) = W15 at *
 clear na x20 x21 x22 x23 z20 z21 z22 z23 x70 z70 x80 z80 szb s2 s7 s8 b2 b7 b8
 have b2 := Lib.hid nb2
 have b7 := Lib.hid nb7
 have b8 := Lib.hid nb8
 have b10 := Lib.hid nb10
 have b11 := Lib.hid nb11
 clear nb2 nb7 nb8 nb10 nb11
 replace HV1 := Lib.hid (HV1.out.kept nkeep)
 replace HO := Lib.hid (HO.out.kept nkeep)
 clear nkeep
 have HB16 := Lib.hid nbel
 clear nbel HB11
 obtain ⟨x20, x21, x22, x23, z20, z21, z22, z23⟩ := b2.out.cz4
 have x70 : W15.cell? ⟨W3.heap.size, 0, none⟩ = some (.bool true) := (b7.out).cell 0
 have z70 : W15.frozen? ⟨W3.heap.size, 0, none⟩ = false := (b7.out).frozen 0
 have x80 : W15.cell? ⟨W3.heap.size + 1, 0, none⟩ = some (.bool true) := (b8.out).cell 0
 have z80 : W15.frozen? ⟨W3.heap.size + 1, 0, none⟩ = false := (b8.out).frozen 0
 obtain ⟨x100, x101, s10⟩ := b10.out.d2
 obtain ⟨x110, x111, s11⟩ := b11.out.d2
 have szb := HB16.out.size
 have s2 := b2.out.lt
 have s7 := b7.out.lt
 have s8 := b8.out.lt
 go_wp2_with fail
 have hkeep := (Keep.set4 (Keep.refl W15) b2.out (Leaf.bool k1) (Leaf.slice A1 l1 c1) (Leaf.bool k2) (Leaf.slice A2 l2 c2))
 have hbel := (Below.set4 (g := w.heap.size) HB16.out (by first | omega | (simp; done) | (simp; omega)) (.bool k1) (.slice A1 l1 c1) (.bool k2) (.slice A2 l2 c2))
 refine bodyPost_ret (v := .tuple #[.agg #[.bool k1, .slice A1 l1 c1, .bool k2, .slice A2 l2 c2], .int .i64 0]) (by simp [results, Tryz.results5, go_sem, x20, x21, x22, x23]) rfl ⟨_, rfl, ⟨_, _, _, _, _, _, _, _, rfl, HV1.out.kept hkeep, (HO.out.kept hkeep).more (by omega)⟩, hbel⟩
theorem pparse_q3 {s : ByteArray} {N D : List UInt8} {c8 : Bool} {w : World} (hm : MaxOk w) (hc : Lib.cut s.data.toList [47] = (N, D, true)) (hln : s.size ≤ 9000 ∧ N.length ≤ 9000 ∧ D.length ≤ 9000) {a7 a8 : Bool} (ha7 : (true && (errOf N != 3)) = a7) (ha8 : (true && (errOf N != 6)) = a8) (h7 : (a7 && (errOf D != 3)) = false) (h8 : (a8 && (errOf D != 6)) = c8) :
  Calls Tryz.prog 5 #[.string s] w fun e w' => e = .returned (.tuple #[.agg #[.bool false, .slice none 0 0, .bool false, .slice none 0 0], .int .i64 3]) ∧ Below w.heap.size w w' := by
 have HA7 := Lib.hid ha7
 have HA8 := Lib.hid ha8
 clear ha7 ha8
 have hmf : ∀ (fn : Fn) (first cap : Array Value) (w : World), (Instr.makeFunc fn first cap).run Tryz.prog w = .ok (.func fn first cap) w := fun _ _ _ _ => rfl
 have HM := Lib.hid hm
 have HC := Lib.hid hc
 have HLN := Lib.hid hln
 have HE7 := Lib.hid h7
 have HE8 := Lib.hid h8
 clear hm hc hln h7 h8
 go_enter Tryz.func5, Tryz.ntmps5
 go_upto_region 1 with (fail)
 change Code.wp Tryz.prog _ _ _ (w.alloc (.cells #[.bool false, .slice none 0 0, .bool false, .slice none 0 0] 27))
 obtain ⟨nb2, na⟩ := new1 w 27 [.bool false, .slice none 0 0, .bool false, .slice none 0 0] lf4
 have nkeep := Keep.ofBelow na
 have nbel := na
 generalize w.alloc (.cells #[.bool false, .slice none 0 0, .bool false, .slice none 0 0] 27) = W1 at *
 clear na
 have b2 := Lib.hid nb2
 clear nb2 nkeep
 have HB2 := Lib.hid nbel
 clear nbel
 obtain ⟨x20, x21, x22, x23, z20, z21, z22, z23, s2⟩ := b2.out.e4
 have szb := HB2.out.size
 go_wp2_with fail
 refine (cut_is (HM.out.up HB2.out) (by have := HLN.out; omega) HC.out).mono ?_
 rintro e W3 ⟨rfl, hb⟩
 replace b2 := hup b2 hb
 have nbel := below_then HB2.out hb HB2.out.size
 have HB4 := Lib.hid nbel
 clear nbel HB2 hb x20 x21 x22 x23 z20 z21 z22 z23 szb s2
 obtain ⟨x20, x21, x22, x23, z20, z21, z22, z23, s2⟩ := b2.out.e4
 have szb := HB4.out.size
 go_upto_region 3 with (fail)
 have q5 := b2.out.lt
 change Code.wp Tryz.prog _ _ _ ((W3.alloc (.cells #[.bool true] 4)).alloc (.cells #[.bool true] 4))
 have nb2 : Bx 27 ((W3.alloc (.cells #[.bool true] 4)).alloc (.cells #[.bool true] 4)) w.heap.size [.bool false, .slice none 0 0, .bool false, .slice none 0 0] := (Bx.alloc (Bx.alloc b2.out (.cells #[.bool true] 4)) (.cells #[.bool true] 4))
 have nb7 := (Bx.alloc (Bx.new 4 W3 [.bool true] (leaf1 (Leaf.bool true))) (.cells #[.bool true] 4))
 have nb8 := (Bx.new 4 (W3.alloc (.cells #[.bool true] 4)) [.bool true] (leaf1 (Leaf.bool true)))
 rw [show (W3.alloc (.cells #[.bool true] 4)).heap.size = W3.heap.size + 1 by simp] at nb8
 have nkeep := (Keep.alloc (Keep.alloc (Keep.refl W3) (.cells #[.bool true] 4)) (.cells #[.bool true] 4))
 have nbel : Below w.heap.size w ((W3.alloc (.cells #[.bool true] 4)).alloc (.cells #[.bool true] 4)) := (Below.alloc (Below.alloc HB4.out (by first | omega | (simp; done) | (simp; omega) | (simp [World.setCell]; done) | (simp [World.setCell]; omega)) (.cells #[.bool true] 4)) (by first | omega | (simp; done) | (simp; omega) | (simp [World.setCell]; done) | (simp [World.setCell]; omega)) (.cells #[.bool true] 4))
 generalize (W3.alloc (.cells #[.bool true] 4)).alloc (.cells #[.bool true] 4) = W6 at *
 clear x20 x21 x22 x23 z20 z21 z22 z23 szb s2 b2
 have b2 := Lib.hid nb2
 have b7 := Lib.hid nb7
 have b8 := Lib.hid nb8
 clear nb2 nb7 nb8 nkeep
 have HB7 := Lib.hid nbel
 clear nbel HB4
 obtain ⟨x20, x21, x22, x23, z20, z21, z22, z23⟩ := b2.out.cz4
 have x70 : W6.cell? ⟨W3.heap.size, 0, none⟩ = some (.bool true) := (b7.out).cell 0
 have z70 : W6.frozen? ⟨W3.heap.size, 0, none⟩ = false := (b7.out).frozen 0
 have x80 : W6.cell? ⟨W3.heap.size + 1, 0, none⟩ = some (.bool true) := (b8.out).cell 0
 have z80 : W6.frozen? ⟨W3.heap.size + 1, 0, none⟩ = false := (b8.out).frozen 0
 have szb := HB7.out.size
 have s2 := b2.out.lt
 have s7 := b7.out.lt
 have s8 := b8.out.lt
 have h78 : Hid (W3.heap.size ≠ W3.heap.size + 1) := by show _ ≠ _; omega
 go_wp2_with fail
 refine (part_any ⟨N.toArray⟩ _ _ _ _ _ b7.out b8.out h78.out (by have := HLN.out; show N.toArray.size ≤ 1000000; rw [List.size_toArray]; omega)).mono ?_
 rintro e W8 ⟨v, rfl, hv, h7n, h8n, hbt⟩
 have hk_ := hbt.keep b7.out b8.out
 replace b2 := Lib.hid (hbt.bx b2.out (by omega) (by omega))
 have nbel := hbt.below HB7.out (by omega) (by omega) HB7.out.size
 clear hbt hk_ b7 b8
 rw [show (true && (errOf (⟨N.toArray⟩ : ByteArray).data.toList != 3)) = a7 from HA7.out] at h7n
 rw [show (true && (errOf (⟨N.toArray⟩ : ByteArray).data.toList != 6)) = a8 from HA8.out] at h8n
 have b7 := Lib.hid h7n
 have b8 := Lib.hid h8n
 clear h7n h8n
 have HB9 := Lib.hid nbel
 clear nbel HB7 x20 x21 x22 x23 z20 z21 z22 z23 x70 z70 x80 z80 szb s2 s7 s8
 obtain ⟨x20, x21, x22, x23, z20, z21, z22, z23⟩ := b2.out.cz4
 have x70 : W8.cell? ⟨W3.heap.size, 0, none⟩ = some (.bool a7) := (b7.out).cell 0
 have z70 : W8.frozen? ⟨W3.heap.size, 0, none⟩ = false := (b7.out).frozen 0
 have x80 : W8.cell? ⟨W3.heap.size + 1, 0, none⟩ = some (.bool a8) := (b8.out).cell 0
 have z80 : W8.frozen? ⟨W3.heap.size + 1, 0, none⟩ = false := (b8.out).frozen 0
 have szb := HB9.out.size
 have s2 := b2.out.lt
 have s7 := b7.out.lt
 have s8 := b8.out.lt
 obtain ⟨k1, A1, l1, c1, rfl⟩ := hv.open
 have HV1 := Lib.hid hv
 clear hv
 go_wp2_with fail
 refine (of_fact (n := 1) (by decide) (by decide)).mono ?_
 rintro e W10 ⟨v, rfl, hv, hb⟩
 replace b2 := hup b2 hb
 replace b7 := hup b7 hb
 replace b8 := hup b8 hb
 replace HV1 := Lib.hid (HV1.out.kept (Keep.ofBelow hb))
 have nbel := below_then HB9.out hb HB9.out.size
 have HB11 := Lib.hid nbel
 clear nbel HB9 hb x20 x21 x22 x23 z20 z21 z22 z23 x70 z70 x80 z80 szb s2 s7 s8
 obtain ⟨x20, x21, x22, x23, z20, z21, z22, z23⟩ := b2.out.cz4
 have x70 : W10.cell? ⟨W3.heap.size, 0, none⟩ = some (.bool a7) := (b7.out).cell 0
 have z70 : W10.frozen? ⟨W3.heap.size, 0, none⟩ = false := (b7.out).frozen 0
 have x80 : W10.cell? ⟨W3.heap.size + 1, 0, none⟩ = some (.bool a8) := (b8.out).cell 0
 have z80 : W10.frozen? ⟨W3.heap.size + 1, 0, none⟩ = false := (b8.out).frozen 0
 have szb := HB11.out.size
 have s2 := b2.out.lt
 have s7 := b7.out.lt
 have s8 := b8.out.lt
 obtain ⟨k2, A2, l2, c2, rfl⟩ := hv.open
 have HO := Lib.hid hv
 clear hv
 go_upto_region 5 with (fail)
 have q12 := b2.out.lt
 have q13 := b7.out.lt
 have q14 := b8.out.lt
 change Code.wp Tryz.prog _ _ _ ((W10.alloc (.cells #[.bool k1, .slice A1 l1 c1] 25)).alloc (.cells #[.bool k2, .slice A2 l2 c2] 25))
 obtain ⟨nb10, nb11, na⟩ := new2 W10 25 [.bool k1, .slice A1 l1 c1] 25 [.bool k2, .slice A2 l2 c2] lf2 lf2
 have nb2 := b2.out.up na
 have nb7 := b7.out.up na
 have nb8 := b8.out.up na
 have nkeep := Keep.ofBelow na
 have nbel := below_then HB11.out na HB11.out.size
 generalize (W10.alloc (.cells #[.bool k1, .slice A1 l1 c1] 25)).alloc (.cells #[.bool k2, .slice A2 l2 c2] 25) = W15 at *
 clear na x20 x21 x22 x23 z20 z21 z22 z23 x70 z70 x80 z80 szb s2 s7 s8 b2 b7 b8
 have b2 := Lib.hid nb2
 have b7 := Lib.hid nb7
 have b8 := Lib.hid nb8
 have b10 := Lib.hid nb10
 have b11 := Lib.hid nb11
 clear nb2 nb7 nb8 nb10 nb11
 replace HV1 := Lib.hid (HV1.out.kept nkeep)
 replace HO := Lib.hid (HO.out.kept nkeep)
 clear nkeep
 have HB16 := Lib.hid nbel
 clear nbel HB11
 obtain ⟨x20, x21, x22, x23, z20, z21, z22, z23⟩ := b2.out.cz4
 have x70 : W15.cell? ⟨W3.heap.size, 0, none⟩ = some (.bool a7) := (b7.out).cell 0
 have z70 : W15.frozen? ⟨W3.heap.size, 0, none⟩ = false := (b7.out).frozen 0
 have x80 : W15.cell? ⟨W3.heap.size + 1, 0, none⟩ = some (.bool a8) := (b8.out).cell 0
 have z80 : W15.frozen? ⟨W3.heap.size + 1, 0, none⟩ = false := (b8.out).frozen 0
 obtain ⟨x100, x101, s10⟩ := b10.out.d2
 obtain ⟨x110, x111, z110, z111, s11⟩ := b11.out.e2
 have szb := HB16.out.size
 have s2 := b2.out.lt
 have s7 := b7.out.lt
 have s8 := b8.out.lt
 go_wp2_with fail
 refine (part_any ⟨D.toArray⟩ _ _ _ _ _ b7.out b8.out h78.out (by have := HLN.out; show D.toArray.size ≤ 1000000; rw [List.size_toArray]; omega)).mono ?_
 rintro e W17 ⟨v, rfl, hv, h7n, h8n, hbt⟩
 have hk_ := hbt.keep b7.out b8.out
 replace b2 := Lib.hid (hbt.bx b2.out (by omega) (by omega))
 replace b10 := Lib.hid (hbt.bx b10.out (by omega) (by omega))
 replace b11 := Lib.hid (hbt.bx b11.out (by omega) (by omega))
 replace HV1 := Lib.hid (HV1.out.kept hk_)
 replace HO := Lib.hid (HO.out.kept hk_)
 have nbel := hbt.below HB16.out (by omega) (by omega) HB16.out.size
 clear hbt hk_ b7 b8
 rw [show (a7 && (errOf (⟨D.toArray⟩ : ByteArray).data.toList != 3)) = false from HE7.out] at h7n
 rw [show (a8 && (errOf (⟨D.toArray⟩ : ByteArray).data.toList != 6)) = c8 from HE8.out] at h8n
 have b7 := Lib.hid h7n
 have b8 := Lib.hid h8n
 clear h7n h8n
 have HB18 := Lib.hid nbel
 clear nbel HB16 x20 x21 x22 x23 z20 z21 z22 z23 x70 z70 x80 z80 x100 x101 x110 x111 z110 z111 szb s2 s7 s8 s10 s11
 obtain ⟨x20, x21, x22, x23, z20, z21, z22, z23⟩ := b2.out.cz4
 have x70 : W17.cell? ⟨W3.heap.size, 0, none⟩ = some (.bool false) := (b7.out).cell 0
 have z70 : W17.frozen? ⟨W3.heap.size, 0, none⟩ = false := (b7.out).frozen 0
 have x80 : W17.cell? ⟨W3.heap.size + 1, 0, none⟩ = some (.bool c8) := (b8.out).cell 0
 have z80 : W17.frozen? ⟨W3.heap.size + 1, 0, none⟩ = false := (b8.out).frozen 0
 obtain ⟨x100, x101, s10⟩ := b10.out.d2
 obtain ⟨x110, x111, z110, z111, s11⟩ := b11.out.e2
 have szb := HB18.out.size
 have s2 := b2.out.lt
 have s7 := b7.out.lt
 have s8 := b8.out.lt
 obtain ⟨k3, A3, l3, c3, rfl⟩ := hv.open
 have HV3 := Lib.hid hv
 clear hv
 go_upto_region 7 with (fail)
 change Code.wp Tryz.prog _ _ _ ((W17.setCell ⟨W10.heap.size + 1, 0, none⟩ (.bool k3)).setCell ⟨W10.heap.size + 1, 1, none⟩ (.slice A3 l3 c3))
 have nb2 : Bx 27 ((W17.setCell ⟨W10.heap.size + 1, 0, none⟩ (.bool k3)).setCell ⟨W10.heap.size + 1, 1, none⟩ (.slice A3 l3 c3)) w.heap.size [.bool false, .slice none 0 0, .bool false, .slice none 0 0] := (Bx.far2 (g' := W10.heap.size + 1) b2.out (by omega) (.bool k3) (.slice A3 l3 c3))
 have nb7 : Bx 4 ((W17.setCell ⟨W10.heap.size + 1, 0, none⟩ (.bool k3)).setCell ⟨W10.heap.size + 1, 1, none⟩ (.slice A3 l3 c3)) W3.heap.size [.bool false] := (Bx.far2 (g' := W10.heap.size + 1) b7.out (by omega) (.bool k3) (.slice A3 l3 c3))
 have nb8 : Bx 4 ((W17.setCell ⟨W10.heap.size + 1, 0, none⟩ (.bool k3)).setCell ⟨W10.heap.size + 1, 1, none⟩ (.slice A3 l3 c3)) (W3.heap.size + 1) [.bool c8] := (Bx.far2 (g' := W10.heap.size + 1) b8.out (by omega) (.bool k3) (.slice A3 l3 c3))
 have nb10 : Bx 25 ((W17.setCell ⟨W10.heap.size + 1, 0, none⟩ (.bool k3)).setCell ⟨W10.heap.size + 1, 1, none⟩ (.slice A3 l3 c3)) W10.heap.size [.bool k1, .slice A1 l1 c1] := (Bx.far2 (g' := W10.heap.size + 1) b10.out (by omega) (.bool k3) (.slice A3 l3 c3))
 have nb11 : Bx 25 ((W17.setCell ⟨W10.heap.size + 1, 0, none⟩ (.bool k3)).setCell ⟨W10.heap.size + 1, 1, none⟩ (.slice A3 l3 c3)) (W10.heap.size + 1) [.bool k3, .slice A3 l3 c3] := (Bx.set2 b11.out (Leaf.bool k3) (Leaf.slice A3 l3 c3))
 have nkeep := (Keep.set2 (Keep.refl W17) b11.out (Leaf.bool k3) (Leaf.slice A3 l3 c3))
 have nbel : Below w.heap.size w ((W17.setCell ⟨W10.heap.size + 1, 0, none⟩ (.bool k3)).setCell ⟨W10.heap.size + 1, 1, none⟩ (.slice A3 l3 c3)) := (Below.set2 (g := W10.heap.size + 1) HB18.out (by first | omega | (simp; done) | (simp; omega)) (.bool k3) (.slice A3 l3 c3))
 generalize (W17.setCell ⟨W10.heap.size + 1, 0, none⟩ (.bool k3)).setCell ⟨W10.heap.size + 1, 1, none⟩ (.slice A3 l3 c3) = W19 at *
 clear x20 x21 x22 x23 z20 z21 z22 z23 x70 z70 x80 z80 x100 x101 x110 x111 z110 z111 szb s2 s7 s8 s10 s11 b2 b7 b8 b10 b11
 have b2 := Lib.hid nb2
 have b7 := Lib.hid nb7
 have b8 := Lib.hid nb8
 have b10 := Lib.hid nb10
 have b11 := Lib.hid nb11
 clear nb2 nb7 nb8 nb10 nb11
 replace HV1 := Lib.hid (HV1.out.kept nkeep)
 replace HO := Lib.hid (HO.out.kept nkeep)
 replace HV3 := Lib.hid (HV3.out.kept nkeep)
 clear nkeep
 have HB20 := Lib.hid nbel
 clear nbel HB18
 obtain ⟨x20, x21, x22, x23, z20, z21, z22, z23⟩ := b2.out.cz4
 have x70 : W19.cell? ⟨W3.heap.size, 0, none⟩ = some (.bool false) := (b7.out).cell 0
 have z70 : W19.frozen? ⟨W3.heap.size, 0, none⟩ = false := (b7.out).frozen 0
 have x80 : W19.cell? ⟨W3.heap.size + 1, 0, none⟩ = some (.bool c8) := (b8.out).cell 0
 have z80 : W19.frozen? ⟨W3.heap.size + 1, 0, none⟩ = false := (b8.out).frozen 0
 obtain ⟨x100, x101, s10⟩ := b10.out.d2
 obtain ⟨x110, x111, z110, z111, s11⟩ := b11.out.e2
 have szb := HB20.out.size
 have s2 := b2.out.lt
 have s7 := b7.out.lt
 have s8 := b8.out.lt
 go_wp2_with fail
 have hkeep := (Keep.set4 (Keep.refl W19) b2.out (Leaf.bool false) (Leaf.slice none 0 0) (Leaf.bool false) (Leaf.slice none 0 0))
 have hbel := (Below.set4 (g := w.heap.size) HB20.out (by first | omega | (simp; done) | (simp; omega)) (.bool false) (.slice none 0 0) (.bool false) (.slice none 0 0))
 refine bodyPost_ret (v := .tuple #[.agg #[.bool false, .slice none 0 0, .bool false, .slice none 0 0], .int .i64 3]) (by simp [results, Tryz.results5, go_sem, x20, x21, x22, x23]) rfl ⟨rfl, hbel⟩
theorem pparse_qlow {s : ByteArray} {N D : List UInt8} {c8 : Bool} {w : World} (hm : MaxOk w) (hc : Lib.cut s.data.toList [47] = (N, D, true)) (hln : s.size ≤ 9000 ∧ N.length ≤ 9000 ∧ D.length ≤ 9000) {a7 a8 : Bool} (ha7 : (true && (errOf N != 3)) = a7) (ha8 : (true && (errOf N != 6)) = a8) (h7 : (a7 && (errOf D != 3)) = true) (h8 : (a8 && (errOf D != 6)) = c8) (hbN : badNum N = false) (hbD : badNum D = false) (hz : N.length ≤ 9000 ∧ D.length ≤ 9000) (hlow : lowB N D = false) :
  Calls Tryz.prog 5 #[.string s] w fun e w' => e = .returned (.tuple #[.agg #[.bool false, .slice none 0 0, .bool false, .slice none 0 0], .int .i64 3]) ∧ Below w.heap.size w w' := by
 have HA7 := Lib.hid ha7
 have HA8 := Lib.hid ha8
 clear ha7 ha8
 have hmf : ∀ (fn : Fn) (first cap : Array Value) (w : World), (Instr.makeFunc fn first cap).run Tryz.prog w = .ok (.func fn first cap) w := fun _ _ _ _ => rfl
 have HM := Lib.hid hm
 have HC := Lib.hid hc
 have HLN := Lib.hid hln
 have HE7 := Lib.hid h7
 have HE8 := Lib.hid h8
 clear hm hc hln h7 h8
 have HLOW := Lib.hid (fun W => low_any N D W hbN hbD hz)
 have HLB := Lib.hid hlow
 clear hbN hbD hz hlow
 go_enter Tryz.func5, Tryz.ntmps5
 go_upto_region 1 with (fail)
 change Code.wp Tryz.prog _ _ _ (w.alloc (.cells #[.bool false, .slice none 0 0, .bool false, .slice none 0 0] 27))
 obtain ⟨nb2, na⟩ := new1 w 27 [.bool false, .slice none 0 0, .bool false, .slice none 0 0] lf4
 have nkeep := Keep.ofBelow na
 have nbel := na
 generalize w.alloc (.cells #[.bool false, .slice none 0 0, .bool false, .slice none 0 0] 27) = W1 at *
 clear na
 have b2 := Lib.hid nb2
 clear nb2 nkeep
 have HB2 := Lib.hid nbel
 clear nbel
 obtain ⟨x20, x21, x22, x23, z20, z21, z22, z23, s2⟩ := b2.out.e4
 have szb := HB2.out.size
 go_wp2_with fail
 refine (cut_is (HM.out.up HB2.out) (by have := HLN.out; omega) HC.out).mono ?_
 rintro e W3 ⟨rfl, hb⟩
 replace b2 := hup b2 hb
 have nbel := below_then HB2.out hb HB2.out.size
 have HB4 := Lib.hid nbel
 clear nbel HB2 hb x20 x21 x22 x23 z20 z21 z22 z23 szb s2
 obtain ⟨x20, x21, x22, x23, z20, z21, z22, z23, s2⟩ := b2.out.e4
 have szb := HB4.out.size
 go_upto_region 3 with (fail)
 have q5 := b2.out.lt
 change Code.wp Tryz.prog _ _ _ ((W3.alloc (.cells #[.bool true] 4)).alloc (.cells #[.bool true] 4))
 have nb2 : Bx 27 ((W3.alloc (.cells #[.bool true] 4)).alloc (.cells #[.bool true] 4)) w.heap.size [.bool false, .slice none 0 0, .bool false, .slice none 0 0] := (Bx.alloc (Bx.alloc b2.out (.cells #[.bool true] 4)) (.cells #[.bool true] 4))
 have nb7 := (Bx.alloc (Bx.new 4 W3 [.bool true] (leaf1 (Leaf.bool true))) (.cells #[.bool true] 4))
 have nb8 := (Bx.new 4 (W3.alloc (.cells #[.bool true] 4)) [.bool true] (leaf1 (Leaf.bool true)))
 rw [show (W3.alloc (.cells #[.bool true] 4)).heap.size = W3.heap.size + 1 by simp] at nb8
 have nkeep := (Keep.alloc (Keep.alloc (Keep.refl W3) (.cells #[.bool true] 4)) (.cells #[.bool true] 4))
 have nbel : Below w.heap.size w ((W3.alloc (.cells #[.bool true] 4)).alloc (.cells #[.bool true] 4)) := (Below.alloc (Below.alloc HB4.out (by first | omega | (simp; done) | (simp; omega) | (simp [World.setCell]; done) | (simp [World.setCell]; omega)) (.cells #[.bool true] 4)) (by first | omega | (simp; done) | (simp; omega) | (simp [World.setCell]; done) | (simp [World.setCell]; omega)) (.cells #[.bool true] 4))
 generalize (W3.alloc (.cells #[.bool true] 4)).alloc (.cells #[.bool true] 4) = W6 at *
 clear x20 x21 x22 x23 z20 z21 z22 z23 szb s2 b2
 have b2 := Lib.hid nb2
 have b7 := Lib.hid nb7
 have b8 := Lib.hid nb8
 clear nb2 nb7 nb8 nkeep
 have HB7 := Lib.hid nbel
 clear nbel HB4
 obtain ⟨x20, x21, x22, x23, z20, z21, z22, z23⟩ := b2.out.cz4
 have x70 : W6.cell? ⟨W3.heap.size, 0, none⟩ = some (.bool true) := (b7.out).cell 0
 have z70 : W6.frozen? ⟨W3.heap.size, 0, none⟩ = false := (b7.out).frozen 0
 have x80 : W6.cell? ⟨W3.heap.size + 1, 0, none⟩ = some (.bool true) := (b8.out).cell 0
 have z80 : W6.frozen? ⟨W3.heap.size + 1, 0, none⟩ = false := (b8.out).frozen 0
 have szb := HB7.out.size
 have s2 := b2.out.lt
 have s7 := b7.out.lt
 have s8 := b8.out.lt
 have h78 : Hid (W3.heap.size ≠ W3.heap.size + 1) := by show _ ≠ _; omega
 go_wp2_with fail
 refine (part_any ⟨N.toArray⟩ _ _ _ _ _ b7.out b8.out h78.out (by have := HLN.out; show N.toArray.size ≤ 1000000; rw [List.size_toArray]; omega)).mono ?_
 rintro e W8 ⟨v, rfl, hv, h7n, h8n, hbt⟩
 have hk_ := hbt.keep b7.out b8.out
 replace b2 := Lib.hid (hbt.bx b2.out (by omega) (by omega))
 have nbel := hbt.below HB7.out (by omega) (by omega) HB7.out.size
 clear hbt hk_ b7 b8
 rw [show (true && (errOf (⟨N.toArray⟩ : ByteArray).data.toList != 3)) = a7 from HA7.out] at h7n
 rw [show (true && (errOf (⟨N.toArray⟩ : ByteArray).data.toList != 6)) = a8 from HA8.out] at h8n
 have b7 := Lib.hid h7n
 have b8 := Lib.hid h8n
 clear h7n h8n
 have HB9 := Lib.hid nbel
 clear nbel HB7 x20 x21 x22 x23 z20 z21 z22 z23 x70 z70 x80 z80 szb s2 s7 s8
 obtain ⟨x20, x21, x22, x23, z20, z21, z22, z23⟩ := b2.out.cz4
 have x70 : W8.cell? ⟨W3.heap.size, 0, none⟩ = some (.bool a7) := (b7.out).cell 0
 have z70 : W8.frozen? ⟨W3.heap.size, 0, none⟩ = false := (b7.out).frozen 0
 have x80 : W8.cell? ⟨W3.heap.size + 1, 0, none⟩ = some (.bool a8) := (b8.out).cell 0
 have z80 : W8.frozen? ⟨W3.heap.size + 1, 0, none⟩ = false := (b8.out).frozen 0
 have szb := HB9.out.size
 have s2 := b2.out.lt
 have s7 := b7.out.lt
 have s8 := b8.out.lt
 obtain ⟨k1, A1, l1, c1, rfl⟩ := hv.open
 have HV1 := Lib.hid hv
 clear hv
 go_wp2_with fail
 refine (of_fact (n := 1) (by decide) (by decide)).mono ?_
 rintro e W10 ⟨v, rfl, hv, hb⟩
 replace b2 := hup b2 hb
 replace b7 := hup b7 hb
 replace b8 := hup b8 hb
 replace HV1 := Lib.hid (HV1.out.kept (Keep.ofBelow hb))
 have nbel := below_then HB9.out hb HB9.out.size
 have HB11 := Lib.hid nbel
 clear nbel HB9 hb x20 x21 x22 x23 z20 z21 z22 z23 x70 z70 x80 z80 szb s2 s7 s8
 obtain ⟨x20, x21, x22, x23, z20, z21, z22, z23⟩ := b2.out.cz4
 have x70 : W10.cell? ⟨W3.heap.size, 0, none⟩ = some (.bool a7) := (b7.out).cell 0
 have z70 : W10.frozen? ⟨W3.heap.size, 0, none⟩ = false := (b7.out).frozen 0
 have x80 : W10.cell? ⟨W3.heap.size + 1, 0, none⟩ = some (.bool a8) := (b8.out).cell 0
 have z80 : W10.frozen? ⟨W3.heap.size + 1, 0, none⟩ = false := (b8.out).frozen 0
 have szb := HB11.out.size
 have s2 := b2.out.lt
 have s7 := b7.out.lt
 have s8 := b8.out.lt
 obtain ⟨k2, A2, l2, c2, rfl⟩ := hv.open
 have HO := Lib.hid hv
 clear hv
 go_upto_region 5 with (fail)
 have q12 := b2.out.lt
 have q13 := b7.out.lt
 have q14 := b8.out.lt
 change Code.wp Tryz.prog _ _ _ ((W10.alloc (.cells #[.bool k1, .slice A1 l1 c1] 25)).alloc (.cells #[.bool k2, .slice A2 l2 c2] 25))
 obtain ⟨nb10, nb11, na⟩ := new2 W10 25 [.bool k1, .slice A1 l1 c1] 25 [.bool k2, .slice A2 l2 c2] lf2 lf2
 have nb2 := b2.out.up na
 have nb7 := b7.out.up na
 have nb8 := b8.out.up na
 have nkeep := Keep.ofBelow na
 have nbel := below_then HB11.out na HB11.out.size
 generalize (W10.alloc (.cells #[.bool k1, .slice A1 l1 c1] 25)).alloc (.cells #[.bool k2, .slice A2 l2 c2] 25) = W15 at *
 clear na x20 x21 x22 x23 z20 z21 z22 z23 x70 z70 x80 z80 szb s2 s7 s8 b2 b7 b8
 have b2 := Lib.hid nb2
 have b7 := Lib.hid nb7
 have b8 := Lib.hid nb8
 have b10 := Lib.hid nb10
 have b11 := Lib.hid nb11
 clear nb2 nb7 nb8 nb10 nb11
 replace HV1 := Lib.hid (HV1.out.kept nkeep)
 replace HO := Lib.hid (HO.out.kept nkeep)
 clear nkeep
 have HB16 := Lib.hid nbel
 clear nbel HB11
 obtain ⟨x20, x21, x22, x23, z20, z21, z22, z23⟩ := b2.out.cz4
 have x70 : W15.cell? ⟨W3.heap.size, 0, none⟩ = some (.bool a7) := (b7.out).cell 0
 have z70 : W15.frozen? ⟨W3.heap.size, 0, none⟩ = false := (b7.out).frozen 0
 have x80 : W15.cell? ⟨W3.heap.size + 1, 0, none⟩ = some (.bool a8) := (b8.out).cell 0
 have z80 : W15.frozen? ⟨W3.heap.size + 1, 0, none⟩ = false := (b8.out).frozen 0
 obtain ⟨x100, x101, s10⟩ := b10.out.d2
 obtain ⟨x110, x111, z110, z111, s11⟩ := b11.out.e2
 have szb := HB16.out.size
 have s2 := b2.out.lt
 have s7 := b7.out.lt
 have s8 := b8.out.lt
 go_wp2_with fail
 refine (part_any ⟨D.toArray⟩ _ _ _ _ _ b7.out b8.out h78.out (by have := HLN.out; show D.toArray.size ≤ 1000000; rw [List.size_toArray]; omega)).mono ?_
 rintro e W17 ⟨v, rfl, hv, h7n, h8n, hbt⟩
 have hk_ := hbt.keep b7.out b8.out
 replace b2 := Lib.hid (hbt.bx b2.out (by omega) (by omega))
 replace b10 := Lib.hid (hbt.bx b10.out (by omega) (by omega))
 replace b11 := Lib.hid (hbt.bx b11.out (by omega) (by omega))
 replace HV1 := Lib.hid (HV1.out.kept hk_)
 replace HO := Lib.hid (HO.out.kept hk_)
 have nbel := hbt.below HB16.out (by omega) (by omega) HB16.out.size
 clear hbt hk_ b7 b8
 rw [show (a7 && (errOf (⟨D.toArray⟩ : ByteArray).data.toList != 3)) = true from HE7.out] at h7n
 rw [show (a8 && (errOf (⟨D.toArray⟩ : ByteArray).data.toList != 6)) = c8 from HE8.out] at h8n
 have b7 := Lib.hid h7n
 have b8 := Lib.hid h8n
 clear h7n h8n
 have HB18 := Lib.hid nbel
 clear nbel HB16 x20 x21 x22 x23 z20 z21 z22 z23 x70 z70 x80 z80 x100 x101 x110 x111 z110 z111 szb s2 s7 s8 s10 s11
 obtain ⟨x20, x21, x22, x23, z20, z21, z22, z23⟩ := b2.out.cz4
 have x70 : W17.cell? ⟨W3.heap.size, 0, none⟩ = some (.bool true) := (b7.out).cell 0
 have z70 : W17.frozen? ⟨W3.heap.size, 0, none⟩ = false := (b7.out).frozen 0
 have x80 : W17.cell? ⟨W3.heap.size + 1, 0, none⟩ = some (.bool c8) := (b8.out).cell 0
 have z80 : W17.frozen? ⟨W3.heap.size + 1, 0, none⟩ = false := (b8.out).frozen 0
 obtain ⟨x100, x101, s10⟩ := b10.out.d2
 obtain ⟨x110, x111, z110, z111, s11⟩ := b11.out.e2
 have szb := HB18.out.size
 have s2 := b2.out.lt
 have s7 := b7.out.lt
 have s8 := b8.out.lt
 obtain ⟨k3, A3, l3, c3, rfl⟩ := hv.open
 have HV3 := Lib.hid hv
 clear hv
 go_upto_region 7 with (fail)
 change Code.wp Tryz.prog _ _ _ ((W17.setCell ⟨W10.heap.size + 1, 0, none⟩ (.bool k3)).setCell ⟨W10.heap.size + 1, 1, none⟩ (.slice A3 l3 c3))
 have nb2 : Bx 27 ((W17.setCell ⟨W10.heap.size + 1, 0, none⟩ (.bool k3)).setCell ⟨W10.heap.size + 1, 1, none⟩ (.slice A3 l3 c3)) w.heap.size [.bool false, .slice none 0 0, .bool false, .slice none 0 0] := (Bx.far2 (g' := W10.heap.size + 1) b2.out (by omega) (.bool k3) (.slice A3 l3 c3))
 have nb7 : Bx 4 ((W17.setCell ⟨W10.heap.size + 1, 0, none⟩ (.bool k3)).setCell ⟨W10.heap.size + 1, 1, none⟩ (.slice A3 l3 c3)) W3.heap.size [.bool true] := (Bx.far2 (g' := W10.heap.size + 1) b7.out (by omega) (.bool k3) (.slice A3 l3 c3))
 have nb8 : Bx 4 ((W17.setCell ⟨W10.heap.size + 1, 0, none⟩ (.bool k3)).setCell ⟨W10.heap.size + 1, 1, none⟩ (.slice A3 l3 c3)) (W3.heap.size + 1) [.bool c8] := (Bx.far2 (g' := W10.heap.size + 1) b8.out (by omega) (.bool k3) (.slice A3 l3 c3))
 have nb10 : Bx 25 ((W17.setCell ⟨W10.heap.size + 1, 0, none⟩ (.bool k3)).setCell ⟨W10.heap.size + 1, 1, none⟩ (.slice A3 l3 c3)) W10.heap.size [.bool k1, .slice A1 l1 c1] := (Bx.far2 (g' := W10.heap.size + 1) b10.out (by omega) (.bool k3) (.slice A3 l3 c3))
 have nb11 : Bx 25 ((W17.setCell ⟨W10.heap.size + 1, 0, none⟩ (.bool k3)).setCell ⟨W10.heap.size + 1, 1, none⟩ (.slice A3 l3 c3)) (W10.heap.size + 1) [.bool k3, .slice A3 l3 c3] := (Bx.set2 b11.out (Leaf.bool k3) (Leaf.slice A3 l3 c3))
 have nkeep := (Keep.set2 (Keep.refl W17) b11.out (Leaf.bool k3) (Leaf.slice A3 l3 c3))
 have nbel : Below w.heap.size w ((W17.setCell ⟨W10.heap.size + 1, 0, none⟩ (.bool k3)).setCell ⟨W10.heap.size + 1, 1, none⟩ (.slice A3 l3 c3)) := (Below.set2 (g := W10.heap.size + 1) HB18.out (by first | omega | (simp; done) | (simp; omega)) (.bool k3) (.slice A3 l3 c3))
 generalize (W17.setCell ⟨W10.heap.size + 1, 0, none⟩ (.bool k3)).setCell ⟨W10.heap.size + 1, 1, none⟩ (.slice A3 l3 c3) = W19 at *
 clear x20 x21 x22 x23 z20 z21 z22 z23 x70 z70 x80 z80 x100 x101 x110 x111 z110 z111 szb s2 s7 s8 s10 s11 b2 b7 b8 b10 b11
 have b2 := Lib.hid nb2
 have b7 := Lib.hid nb7
 have b8 := Lib.hid nb8
 have b10 := Lib.hid nb10
 have b11 := Lib.hid nb11
 clear nb2 nb7 nb8 nb10 nb11
 replace HV1 := Lib.hid (HV1.out.kept nkeep)
 replace HO := Lib.hid (HO.out.kept nkeep)
 replace HV3 := Lib.hid (HV3.out.kept nkeep)
 clear nkeep
 have HB20 := Lib.hid nbel
 clear nbel HB18
 obtain ⟨x20, x21, x22, x23, z20, z21, z22, z23⟩ := b2.out.cz4
 have x70 : W19.cell? ⟨W3.heap.size, 0, none⟩ = some (.bool true) := (b7.out).cell 0
 have z70 : W19.frozen? ⟨W3.heap.size, 0, none⟩ = false := (b7.out).frozen 0
 have x80 : W19.cell? ⟨W3.heap.size + 1, 0, none⟩ = some (.bool c8) := (b8.out).cell 0
 have z80 : W19.frozen? ⟨W3.heap.size + 1, 0, none⟩ = false := (b8.out).frozen 0
 obtain ⟨x100, x101, s10⟩ := b10.out.d2
 obtain ⟨x110, x111, z110, z111, s11⟩ := b11.out.e2
 have szb := HB20.out.size
 have s2 := b2.out.lt
 have s7 := b7.out.lt
 have s8 := b8.out.lt
 go_wp2_with fail
 refine (HLOW.out _).mono ?_
 rintro e W21 ⟨rfl, hb⟩
 replace b2 := hup b2 hb
 replace b7 := hup b7 hb
 replace b8 := hup b8 hb
 replace b10 := hup b10 hb
 replace b11 := hup b11 hb
 replace HV1 := Lib.hid (HV1.out.kept (Keep.ofBelow hb))
 replace HO := Lib.hid (HO.out.kept (Keep.ofBelow hb))
 replace HV3 := Lib.hid (HV3.out.kept (Keep.ofBelow hb))
 have nbel := below_then HB20.out hb HB20.out.size
 have HB22 := Lib.hid nbel
 clear nbel HB20 hb x20 x21 x22 x23 z20 z21 z22 z23 x70 z70 x80 z80 x100 x101 x110 x111 z110 z111 szb s2 s7 s8 s10 s11
 obtain ⟨x20, x21, x22, x23, z20, z21, z22, z23⟩ := b2.out.cz4
 have x70 : W21.cell? ⟨W3.heap.size, 0, none⟩ = some (.bool true) := (b7.out).cell 0
 have z70 : W21.frozen? ⟨W3.heap.size, 0, none⟩ = false := (b7.out).frozen 0
 have x80 : W21.cell? ⟨W3.heap.size + 1, 0, none⟩ = some (.bool c8) := (b8.out).cell 0
 have z80 : W21.frozen? ⟨W3.heap.size + 1, 0, none⟩ = false := (b8.out).frozen 0
 obtain ⟨x100, x101, s10⟩ := b10.out.d2
 obtain ⟨x110, x111, z110, z111, s11⟩ := b11.out.e2
 have szb := HB22.out.size
 have s2 := b2.out.lt
 have s7 := b7.out.lt
 have s8 := b8.out.lt
 rw [HLB.out]
 go_wp2_with fail
 have hkeep := (Keep.set4 (Keep.refl W21) b2.out (Leaf.bool false) (Leaf.slice none 0 0) (Leaf.bool false) (Leaf.slice none 0 0))
 have hbel := (Below.set4 (g := w.heap.size) HB22.out (by first | omega | (simp; done) | (simp; omega)) (.bool false) (.slice none 0 0) (.bool false) (.slice none 0 0))
 refine bodyPost_ret (v := .tuple #[.agg #[.bool false, .slice none 0 0, .bool false, .slice none 0 0], .int .i64 3]) (by simp [results, Tryz.results5, go_sem, x20, x21, x22, x23]) rfl ⟨rfl, hbel⟩
theorem pparse_q6 {s : ByteArray} {N D : List UInt8} {w : World} (hm : MaxOk w) (hc : Lib.cut s.data.toList [47] = (N, D, true)) (hln : s.size ≤ 9000 ∧ N.length ≤ 9000 ∧ D.length ≤ 9000) {a7 a8 : Bool} (ha7 : (true && (errOf N != 3)) = a7) (ha8 : (true && (errOf N != 6)) = a8) (h7 : (a7 && (errOf D != 3)) = true) (h8 : (a8 && (errOf D != 6)) = false) (hbN : badNum N = false) (hbD : badNum D = false) (hz : N.length ≤ 9000 ∧ D.length ≤ 9000) (hlow : lowB N D = true) :
  Calls Tryz.prog 5 #[.string s] w fun e w' => e = .returned (.tuple #[.agg #[.bool false, .slice none 0 0, .bool false, .slice none 0 0], .int .i64 6]) ∧ Below w.heap.size w w' := by
 have HA7 := Lib.hid ha7
 have HA8 := Lib.hid ha8
 clear ha7 ha8
 have hmf : ∀ (fn : Fn) (first cap : Array Value) (w : World), (Instr.makeFunc fn first cap).run Tryz.prog w = .ok (.func fn first cap) w := fun _ _ _ _ => rfl
 have HM := Lib.hid hm
 have HC := Lib.hid hc
 have HLN := Lib.hid hln
 have HE7 := Lib.hid h7
 have HE8 := Lib.hid h8
 clear hm hc hln h7 h8
 have HLOW := Lib.hid (fun W => low_any N D W hbN hbD hz)
 have HLB := Lib.hid hlow
 clear hbN hbD hz hlow
 go_enter Tryz.func5, Tryz.ntmps5
 go_upto_region 1 with (fail)
 change Code.wp Tryz.prog _ _ _ (w.alloc (.cells #[.bool false, .slice none 0 0, .bool false, .slice none 0 0] 27))
 obtain ⟨nb2, na⟩ := new1 w 27 [.bool false, .slice none 0 0, .bool false, .slice none 0 0] lf4
 have nkeep := Keep.ofBelow na
 have nbel := na
 generalize w.alloc (.cells #[.bool false, .slice none 0 0, .bool false, .slice none 0 0] 27) = W1 at *
 clear na
 have b2 := Lib.hid nb2
 clear nb2 nkeep
 have HB2 := Lib.hid nbel
 clear nbel
 obtain ⟨x20, x21, x22, x23, z20, z21, z22, z23, s2⟩ := b2.out.e4
 have szb := HB2.out.size
 go_wp2_with fail
 refine (cut_is (HM.out.up HB2.out) (by have := HLN.out; omega) HC.out).mono ?_
 rintro e W3 ⟨rfl, hb⟩
 replace b2 := hup b2 hb
 have nbel := below_then HB2.out hb HB2.out.size
 have HB4 := Lib.hid nbel
 clear nbel HB2 hb x20 x21 x22 x23 z20 z21 z22 z23 szb s2
 obtain ⟨x20, x21, x22, x23, z20, z21, z22, z23, s2⟩ := b2.out.e4
 have szb := HB4.out.size
 go_upto_region 3 with (fail)
 have q5 := b2.out.lt
 change Code.wp Tryz.prog _ _ _ ((W3.alloc (.cells #[.bool true] 4)).alloc (.cells #[.bool true] 4))
 have nb2 : Bx 27 ((W3.alloc (.cells #[.bool true] 4)).alloc (.cells #[.bool true] 4)) w.heap.size [.bool false, .slice none 0 0, .bool false, .slice none 0 0] := (Bx.alloc (Bx.alloc b2.out (.cells #[.bool true] 4)) (.cells #[.bool true] 4))
 have nb7 := (Bx.alloc (Bx.new 4 W3 [.bool true] (leaf1 (Leaf.bool true))) (.cells #[.bool true] 4))
 have nb8 := (Bx.new 4 (W3.alloc (.cells #[.bool true] 4)) [.bool true] (leaf1 (Leaf.bool true)))
 rw [show (W3.alloc (.cells #[.bool true] 4)).heap.size = W3.heap.size + 1 by simp] at nb8
 have nkeep := (Keep.alloc (Keep.alloc (Keep.refl W3) (.cells #[.bool true] 4)) (.cells #[.bool true] 4))
 have nbel : Below w.heap.size w ((W3.alloc (.cells #[.bool true] 4)).alloc (.cells #[.bool true] 4)) := (Below.alloc (Below.alloc HB4.out (by first | omega | (simp; done) | (simp; omega) | (simp [World.setCell]; done) | (simp [World.setCell]; omega)) (.cells #[.bool true] 4)) (by first | omega | (simp; done) | (simp; omega) | (simp [World.setCell]; done) | (simp [World.setCell]; omega)) (.cells #[.bool true] 4))
 generalize (W3.alloc (.cells #[.bool true] 4)).alloc (.cells #[.bool true] 4) = W6 at *
 clear x20 x21 x22 x23 z20 z21 z22 z23 szb s2 b2
 have b2 := Lib.hid nb2
 have b7 := Lib.hid nb7
 have b8 := Lib.hid nb8
 clear nb2 nb7 nb8 nkeep
 have HB7 := Lib.hid nbel
 clear nbel HB4
 obtain ⟨x20, x21, x22, x23, z20, z21, z22, z23⟩ := b2.out.cz4
 have x70 : W6.cell? ⟨W3.heap.size, 0, none⟩ = some (.bool true) := (b7.out).cell 0
 have z70 : W6.frozen? ⟨W3.heap.size, 0, none⟩ = false := (b7.out).frozen 0
 have x80 : W6.cell? ⟨W3.heap.size + 1, 0, none⟩ = some (.bool true) := (b8.out).cell 0
 have z80 : W6.frozen? ⟨W3.heap.size + 1, 0, none⟩ = false := (b8.out).frozen 0
 have szb := HB7.out.size
 have s2 := b2.out.lt
 have s7 := b7.out.lt
 have s8 := b8.out.lt
 have h78 : Hid (W3.heap.size ≠ W3.heap.size + 1) := by show _ ≠ _; omega
 go_wp2_with fail
 refine (part_any ⟨N.toArray⟩ _ _ _ _ _ b7.out b8.out h78.out (by have := HLN.out; show N.toArray.size ≤ 1000000; rw [List.size_toArray]; omega)).mono ?_
 rintro e W8 ⟨v, rfl, hv, h7n, h8n, hbt⟩
 have hk_ := hbt.keep b7.out b8.out
 replace b2 := Lib.hid (hbt.bx b2.out (by omega) (by omega))
 have nbel := hbt.below HB7.out (by omega) (by omega) HB7.out.size
 clear hbt hk_ b7 b8
 rw [show (true && (errOf (⟨N.toArray⟩ : ByteArray).data.toList != 3)) = a7 from HA7.out] at h7n
 rw [show (true && (errOf (⟨N.toArray⟩ : ByteArray).data.toList != 6)) = a8 from HA8.out] at h8n
 have b7 := Lib.hid h7n
 have b8 := Lib.hid h8n
 clear h7n h8n
 have HB9 := Lib.hid nbel
 clear nbel HB7 x20 x21 x22 x23 z20 z21 z22 z23 x70 z70 x80 z80 szb s2 s7 s8
 obtain ⟨x20, x21, x22, x23, z20, z21, z22, z23⟩ := b2.out.cz4
 have x70 : W8.cell? ⟨W3.heap.size, 0, none⟩ = some (.bool a7) := (b7.out).cell 0
 have z70 : W8.frozen? ⟨W3.heap.size, 0, none⟩ = false := (b7.out).frozen 0
 have x80 : W8.cell? ⟨W3.heap.size + 1, 0, none⟩ = some (.bool a8) := (b8.out).cell 0
 have z80 : W8.frozen? ⟨W3.heap.size + 1, 0, none⟩ = false := (b8.out).frozen 0
 have szb := HB9.out.size
 have s2 := b2.out.lt
 have s7 := b7.out.lt
 have s8 := b8.out.lt
 obtain ⟨k1, A1, l1, c1, rfl⟩ := hv.open
 have HV1 := Lib.hid hv
 clear hv
 go_wp2_with fail
 refine (of_fact (n := 1) (by decide) (by decide)).mono ?_
 rintro e W10 ⟨v, rfl, hv, hb⟩
 replace b2 := hup b2 hb
 replace b7 := hup b7 hb
 replace b8 := hup b8 hb
 replace HV1 := Lib.hid (HV1.out.kept (Keep.ofBelow hb))
 have nbel := below_then HB9.out hb HB9.out.size
 have HB11 := Lib.hid nbel
 clear nbel HB9 hb x20 x21 x22 x23 z20 z21 z22 z23 x70 z70 x80 z80 szb s2 s7 s8
 obtain ⟨x20, x21, x22, x23, z20, z21, z22, z23⟩ := b2.out.cz4
 have x70 : W10.cell? ⟨W3.heap.size, 0, none⟩ = some (.bool a7) := (b7.out).cell 0
 have z70 : W10.frozen? ⟨W3.heap.size, 0, none⟩ = false := (b7.out).frozen 0
 have x80 : W10.cell? ⟨W3.heap.size + 1, 0, none⟩ = some (.bool a8) := (b8.out).cell 0
 have z80 : W10.frozen? ⟨W3.heap.size + 1, 0, none⟩ = false := (b8.out).frozen 0
 have szb := HB11.out.size
 have s2 := b2.out.lt
 have s7 := b7.out.lt
 have s8 := b8.out.lt
 obtain ⟨k2, A2, l2, c2, rfl⟩ := hv.open
 have HO := Lib.hid hv
 clear hv
 go_upto_region 5 with (fail)
 have q12 := b2.out.lt
 have q13 := b7.out.lt
 have q14 := b8.out.lt
 change Code.wp Tryz.prog _ _ _ ((W10.alloc (.cells #[.bool k1, .slice A1 l1 c1] 25)).alloc (.cells #[.bool k2, .slice A2 l2 c2] 25))
 obtain ⟨nb10, nb11, na⟩ := new2 W10 25 [.bool k1, .slice A1 l1 c1] 25 [.bool k2, .slice A2 l2 c2] lf2 lf2
 have nb2 := b2.out.up na
 have nb7 := b7.out.up na
 have nb8 := b8.out.up na
 have nkeep := Keep.ofBelow na
 have nbel := below_then HB11.out na HB11.out.size
 generalize (W10.alloc (.cells #[.bool k1, .slice A1 l1 c1] 25)).alloc (.cells #[.bool k2, .slice A2 l2 c2] 25) = W15 at *
 clear na x20 x21 x22 x23 z20 z21 z22 z23 x70 z70 x80 z80 szb s2 s7 s8 b2 b7 b8
 have b2 := Lib.hid nb2
 have b7 := Lib.hid nb7
 have b8 := Lib.hid nb8
 have b10 := Lib.hid nb10
 have b11 := Lib.hid nb11
 clear nb2 nb7 nb8 nb10 nb11
 replace HV1 := Lib.hid (HV1.out.kept nkeep)
 replace HO := Lib.hid (HO.out.kept nkeep)
 clear nkeep
 have HB16 := Lib.hid nbel
 clear nbel HB11
 obtain ⟨x20, x21, x22, x23, z20, z21, z22, z23⟩ := b2.out.cz4
 have x70 : W15.cell? ⟨W3.heap.size, 0, none⟩ = some (.bool a7) := (b7.out).cell 0
 have z70 : W15.frozen? ⟨W3.heap.size, 0, none⟩ = false := (b7.out).frozen 0
 have x80 : W15.cell? ⟨W3.heap.size + 1, 0, none⟩ = some (.bool a8) := (b8.out).cell 0
 have z80 : W15.frozen? ⟨W3.heap.size + 1, 0, none⟩ = false := (b8.out).frozen 0
 obtain ⟨x100, x101, s10⟩ := b10.out.d2
 obtain ⟨x110, x111, z110, z111, s11⟩ := b11.out.e2
 have szb := HB16.out.size
 have s2 := b2.out.lt
 have s7 := b7.out.lt
 have s8 := b8.out.lt
 go_wp2_with fail
 refine (part_any ⟨D.toArray⟩ _ _ _ _ _ b7.out b8.out h78.out (by have := HLN.out; show D.toArray.size ≤ 1000000; rw [List.size_toArray]; omega)).mono ?_
 rintro e W17 ⟨v, rfl, hv, h7n, h8n, hbt⟩
 have hk_ := hbt.keep b7.out b8.out
 replace b2 := Lib.hid (hbt.bx b2.out (by omega) (by omega))
 replace b10 := Lib.hid (hbt.bx b10.out (by omega) (by omega))
 replace b11 := Lib.hid (hbt.bx b11.out (by omega) (by omega))
 replace HV1 := Lib.hid (HV1.out.kept hk_)
 replace HO := Lib.hid (HO.out.kept hk_)
 have nbel := hbt.below HB16.out (by omega) (by omega) HB16.out.size
 clear hbt hk_ b7 b8
 rw [show (a7 && (errOf (⟨D.toArray⟩ : ByteArray).data.toList != 3)) = true from HE7.out] at h7n
 rw [show (a8 && (errOf (⟨D.toArray⟩ : ByteArray).data.toList != 6)) = false from HE8.out] at h8n
 have b7 := Lib.hid h7n
 have b8 := Lib.hid h8n
 clear h7n h8n
 have HB18 := Lib.hid nbel
 clear nbel HB16 x20 x21 x22 x23 z20 z21 z22 z23 x70 z70 x80 z80 x100 x101 x110 x111 z110 z111 szb s2 s7 s8 s10 s11
 obtain ⟨x20, x21, x22, x23, z20, z21, z22, z23⟩ := b2.out.cz4
 have x70 : W17.cell? ⟨W3.heap.size, 0, none⟩ = some (.bool true) := (b7.out).cell 0
 have z70 : W17.frozen? ⟨W3.heap.size, 0, none⟩ = false := (b7.out).frozen 0
 have x80 : W17.cell? ⟨W3.heap.size + 1, 0, none⟩ = some (.bool false) := (b8.out).cell 0
 have z80 : W17.frozen? ⟨W3.heap.size + 1, 0, none⟩ = false := (b8.out).frozen 0
 obtain ⟨x100, x101, s10⟩ := b10.out.d2
 obtain ⟨x110, x111, z110, z111, s11⟩ := b11.out.e2
 have szb := HB18.out.size
 have s2 := b2.out.lt
 have s7 := b7.out.lt
 have s8 := b8.out.lt
 obtain ⟨k3, A3, l3, c3, rfl⟩ := hv.open
 have HV3 := Lib.hid hv
 clear hv
 go_upto_region 7 with (fail)
 change Code.wp Tryz.prog _ _ _ ((W17.setCell ⟨W10.heap.size + 1, 0, none⟩ (.bool k3)).setCell ⟨W10.heap.size + 1, 1, none⟩ (.slice A3 l3 c3))
 have nb2 : Bx 27 ((W17.setCell ⟨W10.heap.size + 1, 0, none⟩ (.bool k3)).setCell ⟨W10.heap.size + 1, 1, none⟩ (.slice A3 l3 c3)) w.heap.size [.bool false, .slice none 0 0, .bool false, .slice none 0 0] := (Bx.far2 (g' := W10.heap.size + 1) b2.out (by omega) (.bool k3) (.slice A3 l3 c3))
 have nb7 : Bx 4 ((W17.setCell ⟨W10.heap.size + 1, 0, none⟩ (.bool k3)).setCell ⟨W10.heap.size + 1, 1, none⟩ (.slice A3 l3 c3)) W3.heap.size [.bool true] := (Bx.far2 (g' := W10.heap.size + 1) b7.out (by omega) (.bool k3) (.slice A3 l3 c3))
 have nb8 : Bx 4 ((W17.setCell ⟨W10.heap.size + 1, 0, none⟩ (.bool k3)).setCell ⟨W10.heap.size + 1, 1, none⟩ (.slice A3 l3 c3)) (W3.heap.size + 1) [.bool false] := (Bx.far2 (g' := W10.heap.size + 1) b8.out (by omega) (.bool k3) (.slice A3 l3 c3))
 have nb10 : Bx 25 ((W17.setCell ⟨W10.heap.size + 1, 0, none⟩ (.bool k3)).setCell ⟨W10.heap.size + 1, 1, none⟩ (.slice A3 l3 c3)) W10.heap.size [.bool k1, .slice A1 l1 c1] := (Bx.far2 (g' := W10.heap.size + 1) b10.out (by omega) (.bool k3) (.slice A3 l3 c3))
 have nb11 : Bx 25 ((W17.setCell ⟨W10.heap.size + 1, 0, none⟩ (.bool k3)).setCell ⟨W10.heap.size + 1, 1, none⟩ (.slice A3 l3 c3)) (W10.heap.size + 1) [.bool k3, .slice A3 l3 c3] := (Bx.set2 b11.out (Leaf.bool k3) (Leaf.slice A3 l3 c3))
 have nkeep := (Keep.set2 (Keep.refl W17) b11.out (Leaf.bool k3) (Leaf.slice A3 l3 c3))
 have nbel : Below w.heap.size w ((W17.setCell ⟨W10.heap.size + 1, 0, none⟩ (.bool k3)).setCell ⟨W10.heap.size + 1, 1, none⟩ (.slice A3 l3 c3)) := (Below.set2 (g := W10.heap.size + 1) HB18.out (by first | omega | (simp; done) | (simp; omega)) (.bool k3) (.slice A3 l3 c3))
 generalize (W17.setCell ⟨W10.heap.size + 1, 0, none⟩ (.bool k3)).setCell ⟨W10.heap.size + 1, 1, none⟩ (.slice A3 l3 c3) = W19 at *
 clear x20 x21 x22 x23 z20 z21 z22 z23 x70 z70 x80 z80 x100 x101 x110 x111 z110 z111 szb s2 s7 s8 s10 s11 b2 b7 b8 b10 b11
 have b2 := Lib.hid nb2
 have b7 := Lib.hid nb7
 have b8 := Lib.hid nb8
 have b10 := Lib.hid nb10
 have b11 := Lib.hid nb11
 clear nb2 nb7 nb8 nb10 nb11
 replace HV1 := Lib.hid (HV1.out.kept nkeep)
 replace HO := Lib.hid (HO.out.kept nkeep)
 replace HV3 := Lib.hid (HV3.out.kept nkeep)
 clear nkeep
 have HB20 := Lib.hid nbel
 clear nbel HB18
 obtain ⟨x20, x21, x22, x23, z20, z21, z22, z23⟩ := b2.out.cz4
 have x70 : W19.cell? ⟨W3.heap.size, 0, none⟩ = some (.bool true) := (b7.out).cell 0
 have z70 : W19.frozen? ⟨W3.heap.size, 0, none⟩ = false := (b7.out).frozen 0
 have x80 : W19.cell? ⟨W3.heap.size + 1, 0, none⟩ = some (.bool false) := (b8.out).cell 0
 have z80 : W19.frozen? ⟨W3.heap.size + 1, 0, none⟩ = false := (b8.out).frozen 0
 obtain ⟨x100, x101, s10⟩ := b10.out.d2
 obtain ⟨x110, x111, z110, z111, s11⟩ := b11.out.e2
 have szb := HB20.out.size
 have s2 := b2.out.lt
 have s7 := b7.out.lt
 have s8 := b8.out.lt
 go_wp2_with fail
 refine (HLOW.out _).mono ?_
 rintro e W21 ⟨rfl, hb⟩
 replace b2 := hup b2 hb
 replace b7 := hup b7 hb
 replace b8 := hup b8 hb
 replace b10 := hup b10 hb
 replace b11 := hup b11 hb
 replace HV1 := Lib.hid (HV1.out.kept (Keep.ofBelow hb))
 replace HO := Lib.hid (HO.out.kept (Keep.ofBelow hb))
 replace HV3 := Lib.hid (HV3.out.kept (Keep.ofBelow hb))
 have nbel := below_then HB20.out hb HB20.out.size
 have HB22 := Lib.hid nbel
 clear nbel HB20 hb x20 x21 x22 x23 z20 z21 z22 z23 x70 z70 x80 z80 x100 x101 x110 x111 z110 z111 szb s2 s7 s8 s10 s11
 obtain ⟨x20, x21, x22, x23, z20, z21, z22, z23⟩ := b2.out.cz4
 have x70 : W21.cell? ⟨W3.heap.size, 0, none⟩ = some (.bool true) := (b7.out).cell 0
 have z70 : W21.frozen? ⟨W3.heap.size, 0, none⟩ = false := (b7.out).frozen 0
 have x80 : W21.cell? ⟨W3.heap.size + 1, 0, none⟩ = some (.bool false) := (b8.out).cell 0
 have z80 : W21.frozen? ⟨W3.heap.size + 1, 0, none⟩ = false := (b8.out).frozen 0
 obtain ⟨x100, x101, s10⟩ := b10.out.d2
 obtain ⟨x110, x111, z110, z111, s11⟩ := b11.out.e2
 have szb := HB22.out.size
 have s2 := b2.out.lt
 have s7 := b7.out.lt
 have s8 := b8.out.lt
 rw [HLB.out]
 go_wp2_with fail
 have hkeep := (Keep.set4 (Keep.refl W21) b2.out (Leaf.bool false) (Leaf.slice none 0 0) (Leaf.bool false) (Leaf.slice none 0 0))
 have hbel := (Below.set4 (g := w.heap.size) HB22.out (by first | omega | (simp; done) | (simp; omega)) (.bool false) (.slice none 0 0) (.bool false) (.slice none 0 0))
 refine bodyPost_ret (v := .tuple #[.agg #[.bool false, .slice none 0 0, .bool false, .slice none 0 0], .int .i64 6]) (by simp [results, Tryz.results5, go_sem, x20, x21, x22, x23]) rfl ⟨rfl, hbel⟩
theorem pparse_q0 {s : ByteArray} {N D : List UInt8} {w : World} (hm : MaxOk w) (hc : Lib.cut s.data.toList [47] = (N, D, true)) (hln : s.size ≤ 9000 ∧ N.length ≤ 9000 ∧ D.length ≤ 9000) {a7 a8 : Bool} (ha7 : (true && (errOf N != 3)) = a7) (ha8 : (true && (errOf N != 6)) = a8) (h7 : (a7 && (errOf D != 3)) = true) (h8 : (a8 && (errOf D != 6)) = true) (hbN : badNum N = false) (hbD : badNum D = false) (hz : N.length ≤ 9000 ∧ D.length ≤ 9000) (hlow : lowB N D = true) :
  Calls Tryz.prog 5 #[.string s] w fun e w' => ∃ v, e = .returned (.tuple #[v, .int .i64 0]) ∧ (∃ (k : Bool) (A : Option Addr) (l c : Nat) (k' : Bool) (A' : Option Addr) (l' c' : Nat), v = .agg #[.bool k, .slice A l c, .bool k', .slice A' l' c'] ∧ PInt (valZ N) 223 (.agg #[.bool k, .slice A l c]) w' ∧ PInt (valZ D) 223 (.agg #[.bool k', .slice A' l' c']) w') ∧ Below w.heap.size w w' := by
 have HA7 := Lib.hid ha7
 have HA8 := Lib.hid ha8
 clear ha7 ha8
 have hmf : ∀ (fn : Fn) (first cap : Array Value) (w : World), (Instr.makeFunc fn first cap).run Tryz.prog w = .ok (.func fn first cap) w := fun _ _ _ _ => rfl
 have HM := Lib.hid hm
 have HC := Lib.hid hc
 have HLN := Lib.hid hln
 have HE7 := Lib.hid h7
 have HE8 := Lib.hid h8
 clear hm hc hln h7 h8
 have HLOW := Lib.hid (fun W => low_any N D W hbN hbD hz)
 have HLB := Lib.hid hlow
 clear hbN hbD hz hlow
 go_enter Tryz.func5, Tryz.ntmps5
 go_upto_region 1 with (fail)
 change Code.wp Tryz.prog _ _ _ (w.alloc (.cells #[.bool false, .slice none 0 0, .bool false, .slice none 0 0] 27))
 obtain ⟨nb2, na⟩ := new1 w 27 [.bool false, .slice none 0 0, .bool false, .slice none 0 0] lf4
 have nkeep := Keep.ofBelow na
 have nbel := na
 generalize w.alloc (.cells #[.bool false, .slice none 0 0, .bool false, .slice none 0 0] 27) = W1 at *
 clear na
 have b2 := Lib.hid nb2
 clear nb2 nkeep
 have HB2 := Lib.hid nbel
 clear nbel
 obtain ⟨x20, x21, x22, x23, z20, z21, z22, z23, s2⟩ := b2.out.e4
 have szb := HB2.out.size
 go_wp2_with fail
 refine (cut_is (HM.out.up HB2.out) (by have := HLN.out; omega) HC.out).mono ?_
 rintro e W3 ⟨rfl, hb⟩
 replace b2 := hup b2 hb
 have nbel := below_then HB2.out hb HB2.out.size
 have HB4 := Lib.hid nbel
 clear nbel HB2 hb x20 x21 x22 x23 z20 z21 z22 z23 szb s2
 obtain ⟨x20, x21, x22, x23, z20, z21, z22, z23, s2⟩ := b2.out.e4
 have szb := HB4.out.size
 go_upto_region 3 with (fail)
 have q5 := b2.out.lt
 change Code.wp Tryz.prog _ _ _ ((W3.alloc (.cells #[.bool true] 4)).alloc (.cells #[.bool true] 4))
 have nb2 : Bx 27 ((W3.alloc (.cells #[.bool true] 4)).alloc (.cells #[.bool true] 4)) w.heap.size [.bool false, .slice none 0 0, .bool false, .slice none 0 0] := (Bx.alloc (Bx.alloc b2.out (.cells #[.bool true] 4)) (.cells #[.bool true] 4))
 have nb7 := (Bx.alloc (Bx.new 4 W3 [.bool true] (leaf1 (Leaf.bool true))) (.cells #[.bool true] 4))
 have nb8 := (Bx.new 4 (W3.alloc (.cells #[.bool true] 4)) [.bool true] (leaf1 (Leaf.bool true)))
 rw [show (W3.alloc (.cells #[.bool true] 4)).heap.size = W3.heap.size + 1 by simp] at nb8
 have nkeep := (Keep.alloc (Keep.alloc (Keep.refl W3) (.cells #[.bool true] 4)) (.cells #[.bool true] 4))
 have nbel : Below w.heap.size w ((W3.alloc (.cells #[.bool true] 4)).alloc (.cells #[.bool true] 4)) := (Below.alloc (Below.alloc HB4.out (by first | omega | (simp; done) | (simp; omega) | (simp [World.setCell]; done) | (simp [World.setCell]; omega)) (.cells #[.bool true] 4)) (by first | omega | (simp; done) | (simp; omega) | (simp [World.setCell]; done) | (simp [World.setCell]; omega)) (.cells #[.bool true] 4))
 generalize (W3.alloc (.cells #[.bool true] 4)).alloc (.cells #[.bool true] 4) = W6 at *
 clear x20 x21 x22 x23 z20 z21 z22 z23 szb s2 b2
 have b2 := Lib.hid nb2
 have b7 := Lib.hid nb7
 have b8 := Lib.hid nb8
 clear nb2 nb7 nb8 nkeep
 have HB7 := Lib.hid nbel
 clear nbel HB4
 obtain ⟨x20, x21, x22, x23, z20, z21, z22, z23⟩ := b2.out.cz4
 have x70 : W6.cell? ⟨W3.heap.size, 0, none⟩ = some (.bool true) := (b7.out).cell 0
 have z70 : W6.frozen? ⟨W3.heap.size, 0, none⟩ = false := (b7.out).frozen 0
 have x80 : W6.cell? ⟨W3.heap.size + 1, 0, none⟩ = some (.bool true) := (b8.out).cell 0
 have z80 : W6.frozen? ⟨W3.heap.size + 1, 0, none⟩ = false := (b8.out).frozen 0
 have szb := HB7.out.size
 have s2 := b2.out.lt
 have s7 := b7.out.lt
 have s8 := b8.out.lt
 have h78 : Hid (W3.heap.size ≠ W3.heap.size + 1) := by show _ ≠ _; omega
 go_wp2_with fail
 refine (part_any ⟨N.toArray⟩ _ _ _ _ _ b7.out b8.out h78.out (by have := HLN.out; show N.toArray.size ≤ 1000000; rw [List.size_toArray]; omega)).mono ?_
 rintro e W8 ⟨v, rfl, hv, h7n, h8n, hbt⟩
 have hk_ := hbt.keep b7.out b8.out
 replace b2 := Lib.hid (hbt.bx b2.out (by omega) (by omega))
 have nbel := hbt.below HB7.out (by omega) (by omega) HB7.out.size
 clear hbt hk_ b7 b8
 rw [show (true && (errOf (⟨N.toArray⟩ : ByteArray).data.toList != 3)) = a7 from HA7.out] at h7n
 rw [show (true && (errOf (⟨N.toArray⟩ : ByteArray).data.toList != 6)) = a8 from HA8.out] at h8n
 have b7 := Lib.hid h7n
 have b8 := Lib.hid h8n
 clear h7n h8n
 have HB9 := Lib.hid nbel
 clear nbel HB7 x20 x21 x22 x23 z20 z21 z22 z23 x70 z70 x80 z80 szb s2 s7 s8
 obtain ⟨x20, x21, x22, x23, z20, z21, z22, z23⟩ := b2.out.cz4
 have x70 : W8.cell? ⟨W3.heap.size, 0, none⟩ = some (.bool a7) := (b7.out).cell 0
 have z70 : W8.frozen? ⟨W3.heap.size, 0, none⟩ = false := (b7.out).frozen 0
 have x80 : W8.cell? ⟨W3.heap.size + 1, 0, none⟩ = some (.bool a8) := (b8.out).cell 0
 have z80 : W8.frozen? ⟨W3.heap.size + 1, 0, none⟩ = false := (b8.out).frozen 0
 have szb := HB9.out.size
 have s2 := b2.out.lt
 have s7 := b7.out.lt
 have s8 := b8.out.lt
 obtain ⟨k1, A1, l1, c1, rfl⟩ := hv.open
 have HV1 := Lib.hid hv
 clear hv
 go_wp2_with fail
 refine (of_fact (n := 1) (by decide) (by decide)).mono ?_
 rintro e W10 ⟨v, rfl, hv, hb⟩
 replace b2 := hup b2 hb
 replace b7 := hup b7 hb
 replace b8 := hup b8 hb
 replace HV1 := Lib.hid (HV1.out.kept (Keep.ofBelow hb))
 have nbel := below_then HB9.out hb HB9.out.size
 have HB11 := Lib.hid nbel
 clear nbel HB9 hb x20 x21 x22 x23 z20 z21 z22 z23 x70 z70 x80 z80 szb s2 s7 s8
 obtain ⟨x20, x21, x22, x23, z20, z21, z22, z23⟩ := b2.out.cz4
 have x70 : W10.cell? ⟨W3.heap.size, 0, none⟩ = some (.bool a7) := (b7.out).cell 0
 have z70 : W10.frozen? ⟨W3.heap.size, 0, none⟩ = false := (b7.out).frozen 0
 have x80 : W10.cell? ⟨W3.heap.size + 1, 0, none⟩ = some (.bool a8) := (b8.out).cell 0
 have z80 : W10.frozen? ⟨W3.heap.size + 1, 0, none⟩ = false := (b8.out).frozen 0
 have szb := HB11.out.size
 have s2 := b2.out.lt
 have s7 := b7.out.lt
 have s8 := b8.out.lt
 obtain ⟨k2, A2, l2, c2, rfl⟩ := hv.open
 have HO := Lib.hid hv
 clear hv
 go_upto_region 5 with (fail)
 have q12 := b2.out.lt
 have q13 := b7.out.lt
 have q14 := b8.out.lt
 change Code.wp Tryz.prog _ _ _ ((W10.alloc (.cells #[.bool k1, .slice A1 l1 c1] 25)).alloc (.cells #[.bool k2, .slice A2 l2 c2] 25))
 obtain ⟨nb10, nb11, na⟩ := new2 W10 25 [.bool k1, .slice A1 l1 c1] 25 [.bool k2, .slice A2 l2 c2] lf2 lf2
 have nb2 := b2.out.up na
 have nb7 := b7.out.up na
 have nb8 := b8.out.up na
 have nkeep := Keep.ofBelow na
 have nbel := below_then HB11.out na HB11.out.size
 generalize (W10.alloc (.cells #[.bool k1, .slice A1 l1 c1] 25)).alloc (.cells #[.bool k2, .slice A2 l2 c2] 25) = W15 at *
 clear na x20 x21 x22 x23 z20 z21 z22 z23 x70 z70 x80 z80 szb s2 s7 s8 b2 b7 b8
 have b2 := Lib.hid nb2
 have b7 := Lib.hid nb7
 have b8 := Lib.hid nb8
 have b10 := Lib.hid nb10
 have b11 := Lib.hid nb11
 clear nb2 nb7 nb8 nb10 nb11
 replace HV1 := Lib.hid (HV1.out.kept nkeep)
 replace HO := Lib.hid (HO.out.kept nkeep)
 clear nkeep
 have HB16 := Lib.hid nbel
 clear nbel HB11
 obtain ⟨x20, x21, x22, x23, z20, z21, z22, z23⟩ := b2.out.cz4
 have x70 : W15.cell? ⟨W3.heap.size, 0, none⟩ = some (.bool a7) := (b7.out).cell 0
 have z70 : W15.frozen? ⟨W3.heap.size, 0, none⟩ = false := (b7.out).frozen 0
 have x80 : W15.cell? ⟨W3.heap.size + 1, 0, none⟩ = some (.bool a8) := (b8.out).cell 0
 have z80 : W15.frozen? ⟨W3.heap.size + 1, 0, none⟩ = false := (b8.out).frozen 0
 obtain ⟨x100, x101, s10⟩ := b10.out.d2
 obtain ⟨x110, x111, z110, z111, s11⟩ := b11.out.e2
 have szb := HB16.out.size
 have s2 := b2.out.lt
 have s7 := b7.out.lt
 have s8 := b8.out.lt
 go_wp2_with fail
 refine (part_any ⟨D.toArray⟩ _ _ _ _ _ b7.out b8.out h78.out (by have := HLN.out; show D.toArray.size ≤ 1000000; rw [List.size_toArray]; omega)).mono ?_
 rintro e W17 ⟨v, rfl, hv, h7n, h8n, hbt⟩
 have hk_ := hbt.keep b7.out b8.out
 replace b2 := Lib.hid (hbt.bx b2.out (by omega) (by omega))
 replace b10 := Lib.hid (hbt.bx b10.out (by omega) (by omega))
 replace b11 := Lib.hid (hbt.bx b11.out (by omega) (by omega))
 replace HV1 := Lib.hid (HV1.out.kept hk_)
 replace HO := Lib.hid (HO.out.kept hk_)
 have nbel := hbt.below HB16.out (by omega) (by omega) HB16.out.size
 clear hbt hk_ b7 b8
 rw [show (a7 && (errOf (⟨D.toArray⟩ : ByteArray).data.toList != 3)) = true from HE7.out] at h7n
 rw [show (a8 && (errOf (⟨D.toArray⟩ : ByteArray).data.toList != 6)) = true from HE8.out] at h8n
 have b7 := Lib.hid h7n
 have b8 := Lib.hid h8n
 clear h7n h8n
 have HB18 := Lib.hid nbel
 clear nbel HB16 x20 x21 x22 x23 z20 z21 z22 z23 x70 z70 x80 z80 x100 x101 x110 x111 z110 z111 szb s2 s7 s8 s10 s11
 obtain ⟨x20, x21, x22, x23, z20, z21, z22, z23⟩ := b2.out.cz4
 have x70 : W17.cell? ⟨W3.heap.size, 0, none⟩ = some (.bool true) := (b7.out).cell 0
 have z70 : W17.frozen? ⟨W3.heap.size, 0, none⟩ = false := (b7.out).frozen 0
 have x80 : W17.cell? ⟨W3.heap.size + 1, 0, none⟩ = some (.bool true) := (b8.out).cell 0
 have z80 : W17.frozen? ⟨W3.heap.size + 1, 0, none⟩ = false := (b8.out).frozen 0
 obtain ⟨x100, x101, s10⟩ := b10.out.d2
 obtain ⟨x110, x111, z110, z111, s11⟩ := b11.out.e2
 have szb := HB18.out.size
 have s2 := b2.out.lt
 have s7 := b7.out.lt
 have s8 := b8.out.lt
 obtain ⟨k3, A3, l3, c3, rfl⟩ := hv.open
 have HV3 := Lib.hid hv
 clear hv
 go_upto_region 7 with (fail)
 change Code.wp Tryz.prog _ _ _ ((W17.setCell ⟨W10.heap.size + 1, 0, none⟩ (.bool k3)).setCell ⟨W10.heap.size + 1, 1, none⟩ (.slice A3 l3 c3))
 have nb2 : Bx 27 ((W17.setCell ⟨W10.heap.size + 1, 0, none⟩ (.bool k3)).setCell ⟨W10.heap.size + 1, 1, none⟩ (.slice A3 l3 c3)) w.heap.size [.bool false, .slice none 0 0, .bool false, .slice none 0 0] := (Bx.far2 (g' := W10.heap.size + 1) b2.out (by omega) (.bool k3) (.slice A3 l3 c3))
 have nb7 : Bx 4 ((W17.setCell ⟨W10.heap.size + 1, 0, none⟩ (.bool k3)).setCell ⟨W10.heap.size + 1, 1, none⟩ (.slice A3 l3 c3)) W3.heap.size [.bool true] := (Bx.far2 (g' := W10.heap.size + 1) b7.out (by omega) (.bool k3) (.slice A3 l3 c3))
 have nb8 : Bx 4 ((W17.setCell ⟨W10.heap.size + 1, 0, none⟩ (.bool k3)).setCell ⟨W10.heap.size + 1, 1, none⟩ (.slice A3 l3 c3)) (W3.heap.size + 1) [.bool true] := (Bx.far2 (g' := W10.heap.size + 1) b8.out (by omega) (.bool k3) (.slice A3 l3 c3))
 have nb10 : Bx 25 ((W17.setCell ⟨W10.heap.size + 1, 0, none⟩ (.bool k3)).setCell ⟨W10.heap.size + 1, 1, none⟩ (.slice A3 l3 c3)) W10.heap.size [.bool k1, .slice A1 l1 c1] := (Bx.far2 (g' := W10.heap.size + 1) b10.out (by omega) (.bool k3) (.slice A3 l3 c3))
 have nb11 : Bx 25 ((W17.setCell ⟨W10.heap.size + 1, 0, none⟩ (.bool k3)).setCell ⟨W10.heap.size + 1, 1, none⟩ (.slice A3 l3 c3)) (W10.heap.size + 1) [.bool k3, .slice A3 l3 c3] := (Bx.set2 b11.out (Leaf.bool k3) (Leaf.slice A3 l3 c3))
 have nkeep := (Keep.set2 (Keep.refl W17) b11.out (Leaf.bool k3) (Leaf.slice A3 l3 c3))
 have nbel : Below w.heap.size w ((W17.setCell ⟨W10.heap.size + 1, 0, none⟩ (.bool k3)).setCell ⟨W10.heap.size + 1, 1, none⟩ (.slice A3 l3 c3)) := (Below.set2 (g := W10.heap.size + 1) HB18.out (by first | omega | (simp; done) | (simp; omega)) (.bool k3) (.slice A3 l3 c3))
 generalize (W17.setCell ⟨W10.heap.size + 1, 0, none⟩ (.bool k3)).setCell ⟨W10.heap.size + 1, 1, none⟩ (.slice A3 l3 c3) = W19 at *
 clear x20 x21 x22 x23 z20 z21 z22 z23 x70 z70 x80 z80 x100 x101 x110 x111 z110 z111 szb s2 s7 s8 s10 s11 b2 b7 b8 b10 b11
 have b2 := Lib.hid nb2
 have b7 := Lib.hid nb7
 have b8 := Lib.hid nb8
 have b10 := Lib.hid nb10
 have b11 := Lib.hid nb11
 clear nb2 nb7 nb8 nb10 nb11
 replace HV1 := Lib.hid (HV1.out.kept nkeep)
 replace HO := Lib.hid (HO.out.kept nkeep)
 replace HV3 := Lib.hid (HV3.out.kept nkeep)
 clear nkeep
 have HB20 := Lib.hid nbel
 clear nbel HB18
 obtain ⟨x20, x21, x22, x23, z20, z21, z22, z23⟩ := b2.out.cz4
 have x70 : W19.cell? ⟨W3.heap.size, 0, none⟩ = some (.bool true) := (b7.out).cell 0
 have z70 : W19.frozen? ⟨W3.heap.size, 0, none⟩ = false := (b7.out).frozen 0
 have x80 : W19.cell? ⟨W3.heap.size + 1, 0, none⟩ = some (.bool true) := (b8.out).cell 0
 have z80 : W19.frozen? ⟨W3.heap.size + 1, 0, none⟩ = false := (b8.out).frozen 0
 obtain ⟨x100, x101, s10⟩ := b10.out.d2
 obtain ⟨x110, x111, z110, z111, s11⟩ := b11.out.e2
 have szb := HB20.out.size
 have s2 := b2.out.lt
 have s7 := b7.out.lt
 have s8 := b8.out.lt
 go_wp2_with fail
 refine (HLOW.out _).mono ?_
 rintro e W21 ⟨rfl, hb⟩
 replace b2 := hup b2 hb
 replace b7 := hup b7 hb
 replace b8 := hup b8 hb
 replace b10 := hup b10 hb
 replace b11 := hup b11 hb
 replace HV1 := Lib.hid (HV1.out.kept (Keep.ofBelow hb))
 replace HO := Lib.hid (HO.out.kept (Keep.ofBelow hb))
 replace HV3 := Lib.hid (HV3.out.kept (Keep.ofBelow hb))
 have nbel := below_then HB20.out hb HB20.out.size
 have HB22 := Lib.hid nbel
 clear nbel HB20 hb x20 x21 x22 x23 z20 z21 z22 z23 x70 z70 x80 z80 x100 x101 x110 x111 z110 z111 szb s2 s7 s8 s10 s11
 obtain ⟨x20, x21, x22, x23, z20, z21, z22, z23⟩ := b2.out.cz4
 have x70 : W21.cell? ⟨W3.heap.size, 0, none⟩ = some (.bool true) := (b7.out).cell 0
 have z70 : W21.frozen? ⟨W3.heap.size, 0, none⟩ = false := (b7.out).frozen 0
 have x80 : W21.cell? ⟨W3.heap.size + 1, 0, none⟩ = some (.bool true) := (b8.out).cell 0
 have z80 : W21.frozen? ⟨W3.heap.size + 1, 0, none⟩ = false := (b8.out).frozen 0
 obtain ⟨x100, x101, s10⟩ := b10.out.d2
 obtain ⟨x110, x111, z110, z111, s11⟩ := b11.out.e2
 have szb := HB22.out.size
 have s2 := b2.out.lt
 have s7 := b7.out.lt
 have s8 := b8.out.lt
 rw [HLB.out]
 go_wp2_with fail
 have hkeep := (Keep.set4 (Keep.refl W21) b2.out (Leaf.bool k1) (Leaf.slice A1 l1 c1) (Leaf.bool k3) (Leaf.slice A3 l3 c3))
 have hbel := (Below.set4 (g := w.heap.size) HB22.out (by first | omega | (simp; done) | (simp; omega)) (.bool k1) (.slice A1 l1 c1) (.bool k3) (.slice A3 l3 c3))
 refine bodyPost_ret (v := .tuple #[.agg #[.bool k1, .slice A1 l1 c1, .bool k3, .slice A3 l3 c3], .int .i64 0]) (by simp [results, Tryz.results5, go_sem, x20, x21, x22, x23]) rfl ⟨_, rfl, ⟨_, _, _, _, _, _, _, _, rfl, HV1.out.kept hkeep, HV3.out.kept hkeep⟩, hbel⟩
end Go.Proofs.YtodapfhnbgoanaaGreatDoor
