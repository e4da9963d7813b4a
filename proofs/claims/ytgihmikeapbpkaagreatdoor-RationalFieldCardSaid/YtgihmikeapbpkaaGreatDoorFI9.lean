/- Contracts of the functions that the statement reaches, part 9: what was proved of each, callees first. -/
import Derived.Test.YtgihmikeapbpkaaGreatDoorFI8
namespace Go.Proofs.YtgihmikeapbpkaaGreatDoor
open Go.RowKit
open AS (Keep NoInt)
set_option maxHeartbeats 3200000
set_option maxRecDepth 20000
structure But2 (g g' : Nat) (w w' : World) : Prop where
 os : w'.os = w.os
 tape : w'.tape = w.tape
 output : w'.output = w.output
 size : w.heap.size ≤ w'.heap.size
 block : ∀ i, i < w.heap.size → i ≠ g → i ≠ g' → w'.heap[i]? = w.heap[i]?
section
variable {g g' B : Nat} {w w' w2 : World}
theorem But2.ofBelow (h : Below w.heap.size w w') : But2 g g' w w' := ⟨h.os, h.tape, h.output, h.size, fun i hi _ _ => h.block i hi⟩
theorem But2.set (h : But2 g g' w w') (k i : Nat) (hk : k = g ∨ k = g' ∨ w.heap.size ≤ k) (v : Value) : But2 g g' w (w'.setCell ⟨k, i, none⟩ v) :=
 ⟨h.os, h.tape, h.output, by rw [setCell_size]; exact h.size, fun j hj h1 h2 => (Below.heap_setCell w' _ v j (by show j ≠ k; rcases hk with rfl | rfl | hk <;> omega)).trans (h.block j hj h1 h2)⟩
theorem But2.below {w0 : World} (h : But2 g g' w w') (h0 : Below B w0 w) (hg : B ≤ g) (hg' : B ≤ g') (hB : B ≤ w.heap.size) : Below B w0 w' :=
 ⟨h.os.trans h0.os, h.tape.trans h0.tape, h.output.trans h0.output, Nat.le_trans h0.size h.size, fun i hi => (h.block i (by omega) (by omega) (by omega)).trans (h0.block i hi)⟩
theorem But2.bx {t : TypeId} {k : Nat} {vs : List Value} (h : But2 g g' w w') (hb : Bx t w k vs) (h1 : k ≠ g) (h2 : k ≠ g') : Bx t w' k vs := ⟨(h.block k hb.lt h1 h2).trans hb.blk, hb.leaf⟩
theorem But2.keep {t : TypeId} {x y : Value} (h : But2 g g' w w') (h1 : Bx t w g [x]) (h2 : Bx t w g' [y]) : Keep w w' := by
 refine ⟨h.size, fun i hi ⟨j, k, n, hc⟩ => h.block i hi ?_ ?_, fun t' b vs hl hb => ⟨vs, rfl, h.bx hb ?_ ?_⟩⟩
 ·rintro rfl; exact h1.noInt _ _ _ hc
 ·rintro rfl; exact h2.noInt _ _ _ hc
 ·rintro rfl
  have e1 := hb.cell 1
  rw [h1.cell 1, show vs[1]? = some (vs[1]'hl) from List.getElem?_eq_getElem hl] at e1
  simp at e1
 ·rintro rfl
  have e1 := hb.cell 1
  rw [h2.cell 1, show vs[1]? = some (vs[1]'hl) from List.getElem?_eq_getElem hl] at e1
  simp at e1
end
def valZ (l : List UInt8) : Int := if errOf l = 0 then textZ l else 0
theorem parse_fact (s : ByteArray) (w : World) (hs : s.size ≤ 1000000) :
  Calls Tryz.prog 34 #[.string s] w fun e w' => ∃ v, e = .returned (.tuple #[v, .int .i64 (errOf s.data.toList)]) ∧ PInt (valZ s.data.toList) 223 v w' ∧ Below w.heap.size w w' := by
 refine (parse_any s w hs).mono ?_
 rintro e w' ⟨k, A, c, L, rfl, hi, hl, h0, h1, hb⟩
 refine ⟨_, rfl, ⟨k, A, c, L, rfl, hi, ?_, hl⟩, hb⟩
 unfold valZ
 by_cases h : errOf s.data.toList = 0
 ·rw [if_pos h]
  obtain ⟨h2, h3⟩ := h0.out h
  exact textZ_I h2 h3
 ·rw [if_neg h]
  obtain ⟨rfl, rfl⟩ := h1.out h
  rfl
theorem part_true_true (s : ByteArray) (w : World) (g7 g8 : Nat) (h7 : Bx 4 w g7 [.bool true]) (h8 : Bx 4 w g8 [.bool true]) (hne : g7 ≠ g8) (hs : s.size ≤ 1000000) :
  Calls Tryz.prog 58 #[.string s, .pointer (some ⟨g7, 0, none⟩), .pointer (some ⟨g8, 0, none⟩)] w fun e w' => ∃ v, e = .returned v ∧ PInt (valZ s.data.toList) 223 v w' ∧ Bx 4 w' g7 [.bool (errOf s.data.toList != 3)] ∧ Bx 4 w' g8 [.bool (errOf s.data.toList != 6)] ∧ But2 g7 g8 w w' := by
 have HP := Lib.hid (fun W => parse_fact s W hs)
 have b1 := Lib.hid h7
 have b2 := Lib.hid h8
 have hg7 := h7.lt
 have hg8 := h8.lt
 generalize errOf s.data.toList = er at *
 generalize valZ s.data.toList = zz at *
 clear h7 h8 hs
 go_enter Tryz.func58, Tryz.ntmps58
 go_upto_region 1 with (fail)
 have q1 := b1.out.lt
 have q2 := b2.out.lt
 change Code.wp Tryz.prog _ _ _ (w.alloc (.cells #[.bool false, .slice none 0 0] 25))
 obtain ⟨nb4, na⟩ := new1 w 25 [.bool false, .slice none 0 0] lf2
 have nb1 := b1.out.up na
 have nb2 := b2.out.up na
 have nkeep := Keep.ofBelow na
 have nbel := na
 generalize w.alloc (.cells #[.bool false, .slice none 0 0] 25) = W3 at *
 clear na b1 b2
 have b1 := Lib.hid nb1
 have b2 := Lib.hid nb2
 have b4 := Lib.hid nb4
 clear nb1 nb2 nb4 nkeep
 have HB4 := Lib.hid nbel
 clear nbel
 have x10 : W3.cell? ⟨g7, 0, none⟩ = some (.bool true) := (b1.out).cell 0
 have z10 : W3.frozen? ⟨g7, 0, none⟩ = false := (b1.out).frozen 0
 have x20 : W3.cell? ⟨g8, 0, none⟩ = some (.bool true) := (b2.out).cell 0
 have z20 : W3.frozen? ⟨g8, 0, none⟩ = false := (b2.out).frozen 0
 obtain ⟨x40, x41, z40, z41, s4⟩ := b4.out.e2
 have szb := HB4.out.size
 have s1 := b1.out.lt
 have s2 := b2.out.lt
 go_wp2_with fail
 refine (HP.out _).mono ?_
 rintro e W5 ⟨v, rfl, hv, hb⟩
 replace b1 := hup b1 hb
 replace b2 := hup b2 hb
 replace b4 := hup b4 hb
 have nbel := below_then HB4.out hb HB4.out.size
 have HB6 := Lib.hid nbel
 clear nbel HB4 hb x10 z10 x20 z20 x40 x41 z40 z41 szb s1 s2 s4
 have x10 : W5.cell? ⟨g7, 0, none⟩ = some (.bool true) := (b1.out).cell 0
 have z10 : W5.frozen? ⟨g7, 0, none⟩ = false := (b1.out).frozen 0
 have x20 : W5.cell? ⟨g8, 0, none⟩ = some (.bool true) := (b2.out).cell 0
 have z20 : W5.frozen? ⟨g8, 0, none⟩ = false := (b2.out).frozen 0
 obtain ⟨x40, x41, z40, z41, s4⟩ := b4.out.e2
 have szb := HB6.out.size
 have s1 := b1.out.lt
 have s2 := b2.out.lt
 obtain ⟨k1, A1, l1, c1, rfl⟩ := hv.open
 have HV := Lib.hid hv
 clear hv
 go_upto_region 2 with (fail)
 have q7 := b1.out.lt
 have q8 := b2.out.lt
 have q9 := b4.out.lt
 change Code.wp Tryz.prog _ _ _ (W5.alloc (.cells #[.bool k1, .slice A1 l1 c1] 25))
 obtain ⟨nb5, na⟩ := new1 W5 25 [.bool k1, .slice A1 l1 c1] lf2
 have nb1 := b1.out.up na
 have nb2 := b2.out.up na
 have nb4 := b4.out.up na
 have nkeep := Keep.ofBelow na
 have nbel := below_then HB6.out na HB6.out.size
 generalize W5.alloc (.cells #[.bool k1, .slice A1 l1 c1] 25) = W10 at *
 clear na x10 z10 x20 z20 x40 x41 z40 z41 szb s1 s2 s4 b1 b2 b4
 have b1 := Lib.hid nb1
 have b2 := Lib.hid nb2
 have b4 := Lib.hid nb4
 have b5 := Lib.hid nb5
 clear nb1 nb2 nb4 nb5
 replace HV := Lib.hid (HV.out.kept nkeep)
 clear nkeep
 have HB11 := Lib.hid nbel
 clear nbel HB6
 have x10 : W10.cell? ⟨g7, 0, none⟩ = some (.bool true) := (b1.out).cell 0
 have z10 : W10.frozen? ⟨g7, 0, none⟩ = false := (b1.out).frozen 0
 have x20 : W10.cell? ⟨g8, 0, none⟩ = some (.bool true) := (b2.out).cell 0
 have z20 : W10.frozen? ⟨g8, 0, none⟩ = false := (b2.out).frozen 0
 obtain ⟨x40, x41, z40, z41, s4⟩ := b4.out.e2
 obtain ⟨x50, x51, s5⟩ := b5.out.d2
 have szb := HB11.out.size
 have s1 := b1.out.lt
 have s2 := b2.out.lt
 go_wp2_with fail
 have k1_ := Keep.set (Keep.refl W10) b1.out 0 (Leaf.bool (er != 3))
 have c1_ := Bx.set b1.out 0 (Leaf.bool (er != 3))
 have d2_ := Bx.far (g' := g7) b2.out hne 0 (.bool (er != 3))
 have d4_ := Bx.far (g' := g7) b4.out (by omega) 0 (.bool (er != 3))
 have k2_ := Keep.set k1_ d2_ 0 (Leaf.bool (er != 6))
 have c2_ := Bx.set d2_ 0 (Leaf.bool (er != 6))
 have c1b := Bx.far (g' := g8) c1_ (Ne.symm hne) 0 (.bool (er != 6))
 have d4b := Bx.far (g' := g8) d4_ (by omega) 0 (.bool (er != 6))
 have k3_ := Keep.set (Keep.set k2_ d4b 0 (Leaf.bool k1)) (Bx.set d4b 0 (Leaf.bool k1)) 1 (Leaf.slice A1 l1 c1)
 have bb : But2 g7 g8 w W10 := But2.ofBelow HB11.out
 have bb2 := (((bb.set g7 0 (.inl rfl) (.bool (er != 3))).set g8 0 (.inr (.inl rfl)) (.bool (er != 6))).set w.heap.size 0 (.inr (.inr (Nat.le_refl _))) (.bool k1)).set w.heap.size 1 (.inr (.inr (Nat.le_refl _))) (.slice A1 l1 c1)
 have e7 := Bx.far (g' := w.heap.size) (Bx.far (g' := w.heap.size) c1b (by omega) 0 (.bool k1)) (by omega) 1 (.slice A1 l1 c1)
 have e8 := Bx.far (g' := w.heap.size) (Bx.far (g' := w.heap.size) c2_ (by omega) 0 (.bool k1)) (by omega) 1 (.slice A1 l1 c1)
 refine bodyPost_ret (v := .agg #[.bool k1, .slice A1 l1 c1]) (by simp [results, Tryz.results58, go_sem, x40, x41]) rfl ⟨_, rfl, HV.out.kept k3_, e7, e8, bb2⟩
theorem part_true_false (s : ByteArray) (w : World) (g7 g8 : Nat) (h7 : Bx 4 w g7 [.bool true]) (h8 : Bx 4 w g8 [.bool false]) (hne : g7 ≠ g8) (hs : s.size ≤ 1000000) :
  Calls Tryz.prog 58 #[.string s, .pointer (some ⟨g7, 0, none⟩), .pointer (some ⟨g8, 0, none⟩)] w fun e w' => ∃ v, e = .returned v ∧ PInt (valZ s.data.toList) 223 v w' ∧ Bx 4 w' g7 [.bool (errOf s.data.toList != 3)] ∧ Bx 4 w' g8 [.bool false] ∧ But2 g7 g8 w w' := by
 have HP := Lib.hid (fun W => parse_fact s W hs)
 have b1 := Lib.hid h7
 have b2 := Lib.hid h8
 have hg7 := h7.lt
 have hg8 := h8.lt
 generalize errOf s.data.toList = er at *
 generalize valZ s.data.toList = zz at *
 clear h7 h8 hs
 go_enter Tryz.func58, Tryz.ntmps58
 go_upto_region 1 with (fail)
 have q1 := b1.out.lt
 have q2 := b2.out.lt
 change Code.wp Tryz.prog _ _ _ (w.alloc (.cells #[.bool false, .slice none 0 0] 25))
 obtain ⟨nb4, na⟩ := new1 w 25 [.bool false, .slice none 0 0] lf2
 have nb1 := b1.out.up na
 have nb2 := b2.out.up na
 have nkeep := Keep.ofBelow na
 have nbel := na
 generalize w.alloc (.cells #[.bool false, .slice none 0 0] 25) = W3 at *
 clear na b1 b2
 have b1 := Lib.hid nb1
 have b2 := Lib.hid nb2
 have b4 := Lib.hid nb4
 clear nb1 nb2 nb4 nkeep
 have HB4 := Lib.hid nbel
 clear nbel
 have x10 : W3.cell? ⟨g7, 0, none⟩ = some (.bool true) := (b1.out).cell 0
 have z10 : W3.frozen? ⟨g7, 0, none⟩ = false := (b1.out).frozen 0
 have x20 : W3.cell? ⟨g8, 0, none⟩ = some (.bool false) := (b2.out).cell 0
 have z20 : W3.frozen? ⟨g8, 0, none⟩ = false := (b2.out).frozen 0
 obtain ⟨x40, x41, z40, z41, s4⟩ := b4.out.e2
 have szb := HB4.out.size
 have s1 := b1.out.lt
 have s2 := b2.out.lt
 go_wp2_with fail
 refine (HP.out _).mono ?_
 rintro e W5 ⟨v, rfl, hv, hb⟩
 replace b1 := hup b1 hb
 replace b2 := hup b2 hb
 replace b4 := hup b4 hb
 have nbel := below_then HB4.out hb HB4.out.size
 have HB6 := Lib.hid nbel
 clear nbel HB4 hb x10 z10 x20 z20 x40 x41 z40 z41 szb s1 s2 s4
 have x10 : W5.cell? ⟨g7, 0, none⟩ = some (.bool true) := (b1.out).cell 0
 have z10 : W5.frozen? ⟨g7, 0, none⟩ = false := (b1.out).frozen 0
 have x20 : W5.cell? ⟨g8, 0, none⟩ = some (.bool false) := (b2.out).cell 0
 have z20 : W5.frozen? ⟨g8, 0, none⟩ = false := (b2.out).frozen 0
 obtain ⟨x40, x41, z40, z41, s4⟩ := b4.out.e2
 have szb := HB6.out.size
 have s1 := b1.out.lt
 have s2 := b2.out.lt
 obtain ⟨k1, A1, l1, c1, rfl⟩ := hv.open
 have HV := Lib.hid hv
 clear hv
 go_upto_region 2 with (fail)
 have q7 := b1.out.lt
 have q8 := b2.out.lt
 have q9 := b4.out.lt
 change Code.wp Tryz.prog _ _ _ (W5.alloc (.cells #[.bool k1, .slice A1 l1 c1] 25))
 obtain ⟨nb5, na⟩ := new1 W5 25 [.bool k1, .slice A1 l1 c1] lf2
 have nb1 := b1.out.up na
 have nb2 := b2.out.up na
 have nb4 := b4.out.up na
 have nkeep := Keep.ofBelow na
 have nbel := below_then HB6.out na HB6.out.size
 generalize W5.alloc (.cells #[.bool k1, .slice A1 l1 c1] 25) = W10 at *
 clear na x10 z10 x20 z20 x40 x41 z40 z41 szb s1 s2 s4 b1 b2 b4
 have b1 := Lib.hid nb1
 have b2 := Lib.hid nb2
 have b4 := Lib.hid nb4
 have b5 := Lib.hid nb5
 clear nb1 nb2 nb4 nb5
 replace HV := Lib.hid (HV.out.kept nkeep)
 clear nkeep
 have HB11 := Lib.hid nbel
 clear nbel HB6
 have x10 : W10.cell? ⟨g7, 0, none⟩ = some (.bool true) := (b1.out).cell 0
 have z10 : W10.frozen? ⟨g7, 0, none⟩ = false := (b1.out).frozen 0
 have x20 : W10.cell? ⟨g8, 0, none⟩ = some (.bool false) := (b2.out).cell 0
 have z20 : W10.frozen? ⟨g8, 0, none⟩ = false := (b2.out).frozen 0
 obtain ⟨x40, x41, z40, z41, s4⟩ := b4.out.e2
 obtain ⟨x50, x51, s5⟩ := b5.out.d2
 have szb := HB11.out.size
 have s1 := b1.out.lt
 have s2 := b2.out.lt
 go_wp2_with fail
 have k1_ := Keep.set (Keep.refl W10) b1.out 0 (Leaf.bool (er != 3))
 have c1_ := Bx.set b1.out 0 (Leaf.bool (er != 3))
 have d2_ := Bx.far (g' := g7) b2.out hne 0 (.bool (er != 3))
 have d4_ := Bx.far (g' := g7) b4.out (by omega) 0 (.bool (er != 3))
 have k2_ := Keep.set k1_ d2_ 0 (Leaf.bool false)
 have c2_ := Bx.set d2_ 0 (Leaf.bool false)
 have c1b := Bx.far (g' := g8) c1_ (Ne.symm hne) 0 (.bool false)
 have d4b := Bx.far (g' := g8) d4_ (by omega) 0 (.bool false)
 have k3_ := Keep.set (Keep.set k2_ d4b 0 (Leaf.bool k1)) (Bx.set d4b 0 (Leaf.bool k1)) 1 (Leaf.slice A1 l1 c1)
 have bb : But2 g7 g8 w W10 := But2.ofBelow HB11.out
 have bb2 := (((bb.set g7 0 (.inl rfl) (.bool (er != 3))).set g8 0 (.inr (.inl rfl)) (.bool false)).set w.heap.size 0 (.inr (.inr (Nat.le_refl _))) (.bool k1)).set w.heap.size 1 (.inr (.inr (Nat.le_refl _))) (.slice A1 l1 c1)
 have e7 := Bx.far (g' := w.heap.size) (Bx.far (g' := w.heap.size) c1b (by omega) 0 (.bool k1)) (by omega) 1 (.slice A1 l1 c1)
 have e8 := Bx.far (g' := w.heap.size) (Bx.far (g' := w.heap.size) c2_ (by omega) 0 (.bool k1)) (by omega) 1 (.slice A1 l1 c1)
 refine bodyPost_ret (v := .agg #[.bool k1, .slice A1 l1 c1]) (by simp [results, Tryz.results58, go_sem, x40, x41]) rfl ⟨_, rfl, HV.out.kept k3_, e7, e8, bb2⟩
theorem part_false_true (s : ByteArray) (w : World) (g7 g8 : Nat) (h7 : Bx 4 w g7 [.bool false]) (h8 : Bx 4 w g8 [.bool true]) (hne : g7 ≠ g8) (hs : s.size ≤ 1000000) :
  Calls Tryz.prog 58 #[.string s, .pointer (some ⟨g7, 0, none⟩), .pointer (some ⟨g8, 0, none⟩)] w fun e w' => ∃ v, e = .returned v ∧ PInt (valZ s.data.toList) 223 v w' ∧ Bx 4 w' g7 [.bool false] ∧ Bx 4 w' g8 [.bool (errOf s.data.toList != 6)] ∧ But2 g7 g8 w w' := by
 have HP := Lib.hid (fun W => parse_fact s W hs)
 have b1 := Lib.hid h7
 have b2 := Lib.hid h8
 have hg7 := h7.lt
 have hg8 := h8.lt
 generalize errOf s.data.toList = er at *
 generalize valZ s.data.toList = zz at *
 clear h7 h8 hs
 go_enter Tryz.func58, Tryz.ntmps58
 go_upto_region 1 with (fail)
 have q1 := b1.out.lt
 have q2 := b2.out.lt
 change Code.wp Tryz.prog _ _ _ (w.alloc (.cells #[.bool false, .slice none 0 0] 25))
 obtain ⟨nb4, na⟩ := new1 w 25 [.bool false, .slice none 0 0] lf2
 have nb1 := b1.out.up na
 have nb2 := b2.out.up na
 have nkeep := Keep.ofBelow na
 have nbel := na
 generalize w.alloc (.cells #[.bool false, .slice none 0 0] 25) = W3 at *
 clear na b1 b2
 have b1 := Lib.hid nb1
 have b2 := Lib.hid nb2
 have b4 := Lib.hid nb4
 clear nb1 nb2 nb4 nkeep
 have HB4 := Lib.hid nbel
 clear nbel
 have x10 : W3.cell? ⟨g7, 0, none⟩ = some (.bool false) := (b1.out).cell 0
 have z10 : W3.frozen? ⟨g7, 0, none⟩ = false := (b1.out).frozen 0
 have x20 : W3.cell? ⟨g8, 0, none⟩ = some (.bool true) := (b2.out).cell 0
 have z20 : W3.frozen? ⟨g8, 0, none⟩ = false := (b2.out).frozen 0
 obtain ⟨x40, x41, z40, z41, s4⟩ := b4.out.e2
 have szb := HB4.out.size
 have s1 := b1.out.lt
 have s2 := b2.out.lt
 go_wp2_with fail
 refine (HP.out _).mono ?_
 rintro e W5 ⟨v, rfl, hv, hb⟩
 replace b1 := hup b1 hb
 replace b2 := hup b2 hb
 replace b4 := hup b4 hb
 have nbel := below_then HB4.out hb HB4.out.size
 have HB6 := Lib.hid nbel
 clear nbel HB4 hb x10 z10 x20 z20 x40 x41 z40 z41 szb s1 s2 s4
 have x10 : W5.cell? ⟨g7, 0, none⟩ = some (.bool false) := (b1.out).cell 0
 have z10 : W5.frozen? ⟨g7, 0, none⟩ = false := (b1.out).frozen 0
 have x20 : W5.cell? ⟨g8, 0, none⟩ = some (.bool true) := (b2.out).cell 0
 have z20 : W5.frozen? ⟨g8, 0, none⟩ = false := (b2.out).frozen 0
 obtain ⟨x40, x41, z40, z41, s4⟩ := b4.out.e2
 have szb := HB6.out.size
 have s1 := b1.out.lt
 have s2 := b2.out.lt
 obtain ⟨k1, A1, l1, c1, rfl⟩ := hv.open
 have HV := Lib.hid hv
 clear hv
 go_upto_region 2 with (fail)
 have q7 := b1.out.lt
 have q8 := b2.out.lt
 have q9 := b4.out.lt
 change Code.wp Tryz.prog _ _ _ (W5.alloc (.cells #[.bool k1, .slice A1 l1 c1] 25))
 obtain ⟨nb5, na⟩ := new1 W5 25 [.bool k1, .slice A1 l1 c1] lf2
 have nb1 := b1.out.up na
 have nb2 := b2.out.up na
 have nb4 := b4.out.up na
 have nkeep := Keep.ofBelow na
 have nbel := below_then HB6.out na HB6.out.size
 generalize W5.alloc (.cells #[.bool k1, .slice A1 l1 c1] 25) = W10 at *
 clear na x10 z10 x20 z20 x40 x41 z40 z41 szb s1 s2 s4 b1 b2 b4
 have b1 := Lib.hid nb1
 have b2 := Lib.hid nb2
 have b4 := Lib.hid nb4
 have b5 := Lib.hid nb5
 clear nb1 nb2 nb4 nb5
 replace HV := Lib.hid (HV.out.kept nkeep)
 clear nkeep
 have HB11 := Lib.hid nbel
 clear nbel HB6
 have x10 : W10.cell? ⟨g7, 0, none⟩ = some (.bool false) := (b1.out).cell 0
 have z10 : W10.frozen? ⟨g7, 0, none⟩ = false := (b1.out).frozen 0
 have x20 : W10.cell? ⟨g8, 0, none⟩ = some (.bool true) := (b2.out).cell 0
 have z20 : W10.frozen? ⟨g8, 0, none⟩ = false := (b2.out).frozen 0
 obtain ⟨x40, x41, z40, z41, s4⟩ := b4.out.e2
 obtain ⟨x50, x51, s5⟩ := b5.out.d2
 have szb := HB11.out.size
 have s1 := b1.out.lt
 have s2 := b2.out.lt
 go_wp2_with fail
 have k1_ := Keep.set (Keep.refl W10) b1.out 0 (Leaf.bool false)
 have c1_ := Bx.set b1.out 0 (Leaf.bool false)
 have d2_ := Bx.far (g' := g7) b2.out hne 0 (.bool false)
 have d4_ := Bx.far (g' := g7) b4.out (by omega) 0 (.bool false)
 have k2_ := Keep.set k1_ d2_ 0 (Leaf.bool (er != 6))
 have c2_ := Bx.set d2_ 0 (Leaf.bool (er != 6))
 have c1b := Bx.far (g' := g8) c1_ (Ne.symm hne) 0 (.bool (er != 6))
 have d4b := Bx.far (g' := g8) d4_ (by omega) 0 (.bool (er != 6))
 have k3_ := Keep.set (Keep.set k2_ d4b 0 (Leaf.bool k1)) (Bx.set d4b 0 (Leaf.bool k1)) 1 (Leaf.slice A1 l1 c1)
 have bb : But2 g7 g8 w W10 := But2.ofBelow HB11.out
 have bb2 := (((bb.set g7 0 (.inl rfl) (.bool false)).set g8 0 (.inr (.inl rfl)) (.bool (er != 6))).set w.heap.size 0 (.inr (.inr (Nat.le_refl _))) (.bool k1)).set w.heap.size 1 (.inr (.inr (Nat.le_refl _))) (.slice A1 l1 c1)
 have e7 := Bx.far (g' := w.heap.size) (Bx.far (g' := w.heap.size) c1b (by omega) 0 (.bool k1)) (by omega) 1 (.slice A1 l1 c1)
 have e8 := Bx.far (g' := w.heap.size) (Bx.far (g' := w.heap.size) c2_ (by omega) 0 (.bool k1)) (by omega) 1 (.slice A1 l1 c1)
 refine bodyPost_ret (v := .agg #[.bool k1, .slice A1 l1 c1]) (by simp [results, Tryz.results58, go_sem, x40, x41]) rfl ⟨_, rfl, HV.out.kept k3_, e7, e8, bb2⟩
theorem part_false_false (s : ByteArray) (w : World) (g7 g8 : Nat) (h7 : Bx 4 w g7 [.bool false]) (h8 : Bx 4 w g8 [.bool false]) (hne : g7 ≠ g8) (hs : s.size ≤ 1000000) :
  Calls Tryz.prog 58 #[.string s, .pointer (some ⟨g7, 0, none⟩), .pointer (some ⟨g8, 0, none⟩)] w fun e w' => ∃ v, e = .returned v ∧ PInt (valZ s.data.toList) 223 v w' ∧ Bx 4 w' g7 [.bool false] ∧ Bx 4 w' g8 [.bool false] ∧ But2 g7 g8 w w' := by
 have HP := Lib.hid (fun W => parse_fact s W hs)
 have b1 := Lib.hid h7
 have b2 := Lib.hid h8
 have hg7 := h7.lt
 have hg8 := h8.lt
 generalize errOf s.data.toList = er at *
 generalize valZ s.data.toList = zz at *
 clear h7 h8 hs
 go_enter Tryz.func58, Tryz.ntmps58
 go_upto_region 1 with (fail)
 have q1 := b1.out.lt
 have q2 := b2.out.lt
 change Code.wp Tryz.prog _ _ _ (w.alloc (.cells #[.bool false, .slice none 0 0] 25))
 obtain ⟨nb4, na⟩ := new1 w 25 [.bool false, .slice none 0 0] lf2
 have nb1 := b1.out.up na
 have nb2 := b2.out.up na
 have nkeep := Keep.ofBelow na
 have nbel := na
 generalize w.alloc (.cells #[.bool false, .slice none 0 0] 25) = W3 at *
 clear na b1 b2
 have b1 := Lib.hid nb1
 have b2 := Lib.hid nb2
 have b4 := Lib.hid nb4
 clear nb1 nb2 nb4 nkeep
 have HB4 := Lib.hid nbel
 clear nbel
 have x10 : W3.cell? ⟨g7, 0, none⟩ = some (.bool false) := (b1.out).cell 0
 have z10 : W3.frozen? ⟨g7, 0, none⟩ = false := (b1.out).frozen 0
 have x20 : W3.cell? ⟨g8, 0, none⟩ = some (.bool false) := (b2.out).cell 0
 have z20 : W3.frozen? ⟨g8, 0, none⟩ = false := (b2.out).frozen 0
 obtain ⟨x40, x41, z40, z41, s4⟩ := b4.out.e2
 have szb := HB4.out.size
 have s1 := b1.out.lt
 have s2 := b2.out.lt
 go_wp2_with fail
 refine (HP.out _).mono ?_
 rintro e W5 ⟨v, rfl, hv, hb⟩
 replace b1 := hup b1 hb
 replace b2 := hup b2 hb
 replace b4 := hup b4 hb
 have nbel := below_then HB4.out hb HB4.out.size
 have HB6 := Lib.hid nbel
 clear nbel HB4 hb x10 z10 x20 z20 x40 x41 z40 z41 szb s1 s2 s4
 have x10 : W5.cell? ⟨g7, 0, none⟩ = some (.bool false) := (b1.out).cell 0
 have z10 : W5.frozen? ⟨g7, 0, none⟩ = false := (b1.out).frozen 0
 have x20 : W5.cell? ⟨g8, 0, none⟩ = some (.bool false) := (b2.out).cell 0
 have z20 : W5.frozen? ⟨g8, 0, none⟩ = false := (b2.out).frozen 0
 obtain ⟨x40, x41, z40, z41, s4⟩ := b4.out.e2
 have szb := HB6.out.size
 have s1 := b1.out.lt
 have s2 := b2.out.lt
 obtain ⟨k1, A1, l1, c1, rfl⟩ := hv.open
 have HV := Lib.hid hv
 clear hv
 go_upto_region 2 with (fail)
 have q7 := b1.out.lt
 have q8 := b2.out.lt
 have q9 := b4.out.lt
 change Code.wp Tryz.prog _ _ _ (W5.alloc (.cells #[.bool k1, .slice A1 l1 c1] 25))
 obtain ⟨nb5, na⟩ := new1 W5 25 [.bool k1, .slice A1 l1 c1] lf2
 have nb1 := b1.out.up na
 have nb2 := b2.out.up na
 have nb4 := b4.out.up na
 have nkeep := Keep.ofBelow na
 have nbel := below_then HB6.out na HB6.out.size
 generalize W5.alloc (.cells #[.bool k1, .slice A1 l1 c1] 25) = W10 at *
 clear na x10 z10 x20 z20 x40 x41 z40 z41 szb s1 s2 s4 b1 b2 b4
 have b1 := Lib.hid nb1
 have b2 := Lib.hid nb2
 have b4 := Lib.hid nb4
 have b5 := Lib.hid nb5
 clear nb1 nb2 nb4 nb5
 replace HV := Lib.hid (HV.out.kept nkeep)
 clear nkeep
 have HB11 := Lib.hid nbel
 clear nbel HB6
 have x10 : W10.cell? ⟨g7, 0, none⟩ = some (.bool false) := (b1.out).cell 0
 have z10 : W10.frozen? ⟨g7, 0, none⟩ = false := (b1.out).frozen 0
 have x20 : W10.cell? ⟨g8, 0, none⟩ = some (.bool false) := (b2.out).cell 0
 have z20 : W10.frozen? ⟨g8, 0, none⟩ = false := (b2.out).frozen 0
 obtain ⟨x40, x41, z40, z41, s4⟩ := b4.out.e2
 obtain ⟨x50, x51, s5⟩ := b5.out.d2
 have szb := HB11.out.size
 have s1 := b1.out.lt
 have s2 := b2.out.lt
 go_wp2_with fail
 have k1_ := Keep.set (Keep.refl W10) b1.out 0 (Leaf.bool false)
 have c1_ := Bx.set b1.out 0 (Leaf.bool false)
 have d2_ := Bx.far (g' := g7) b2.out hne 0 (.bool false)
 have d4_ := Bx.far (g' := g7) b4.out (by omega) 0 (.bool false)
 have k2_ := Keep.set k1_ d2_ 0 (Leaf.bool false)
 have c2_ := Bx.set d2_ 0 (Leaf.bool false)
 have c1b := Bx.far (g' := g8) c1_ (Ne.symm hne) 0 (.bool false)
 have d4b := Bx.far (g' := g8) d4_ (by omega) 0 (.bool false)
 have k3_ := Keep.set (Keep.set k2_ d4b 0 (Leaf.bool k1)) (Bx.set d4b 0 (Leaf.bool k1)) 1 (Leaf.slice A1 l1 c1)
 have bb : But2 g7 g8 w W10 := But2.ofBelow HB11.out
 have bb2 := (((bb.set g7 0 (.inl rfl) (.bool false)).set g8 0 (.inr (.inl rfl)) (.bool false)).set w.heap.size 0 (.inr (.inr (Nat.le_refl _))) (.bool k1)).set w.heap.size 1 (.inr (.inr (Nat.le_refl _))) (.slice A1 l1 c1)
 have e7 := Bx.far (g' := w.heap.size) (Bx.far (g' := w.heap.size) c1b (by omega) 0 (.bool k1)) (by omega) 1 (.slice A1 l1 c1)
 have e8 := Bx.far (g' := w.heap.size) (Bx.far (g' := w.heap.size) c2_ (by omega) 0 (.bool k1)) (by omega) 1 (.slice A1 l1 c1)
 refine bodyPost_ret (v := .agg #[.bool k1, .slice A1 l1 c1]) (by simp [results, Tryz.results58, go_sem, x40, x41]) rfl ⟨_, rfl, HV.out.kept k3_, e7, e8, bb2⟩
theorem part_any (s : ByteArray) (w : World) (g7 g8 : Nat) (b7 b8 : Bool) (h7 : Bx 4 w g7 [.bool b7]) (h8 : Bx 4 w g8 [.bool b8]) (hne : g7 ≠ g8) (hs : s.size ≤ 1000000) :
  Calls Tryz.prog 58 #[.string s, .pointer (some ⟨g7, 0, none⟩), .pointer (some ⟨g8, 0, none⟩)] w fun e w' => ∃ v, e = .returned v ∧ PInt (valZ s.data.toList) 223 v w' ∧ Bx 4 w' g7 [.bool (b7 && (errOf s.data.toList != 3))] ∧ Bx 4 w' g8 [.bool (b8 && (errOf s.data.toList != 6))] ∧ But2 g7 g8 w w' := by
 cases b7 <;> cases b8
 ·exact part_false_false s w g7 g8 h7 h8 hne hs
 ·exact part_false_true s w g7 g8 h7 h8 hne hs
 ·exact part_true_false s w g7 g8 h7 h8 hne hs
 ·exact part_true_true s w g7 g8 h7 h8 hne hs
open Go.RowKit
open AS (Keep NoInt)
set_option maxHeartbeats 3200000
set_option maxRecDepth 20000
theorem leaf1 {x : Value} (hx : Leaf x) : ∀ v ∈ [x], Leaf v := by intro v hv; simp at hv; rw [hv]; exact hx
def MaxOk (w : World) : Prop := ∃ m : Int, w.cell? ⟨0, 0, none⟩ = some (.int .i64 m)
theorem MaxOk.lt {w : World} (h : MaxOk w) : 0 < w.heap.size := by
 obtain ⟨m, h⟩ := h
 rcases Nat.eq_zero_or_pos w.heap.size with h0 | h0
 ·exfalso
  unfold World.cell? at h
  rw [show w.heap[0]? = none from Array.getElem?_eq_none (by omega)] at h
  cases h
 ·exact h0
theorem MaxOk.up {w w' : World} (h : MaxOk w) (hb : Below w.heap.size w w') : MaxOk w' := by
 have h0 := h.lt
 obtain ⟨m, h⟩ := h
 exact ⟨m, (hb.cell (p := ⟨0, 0, none⟩) h0).trans h⟩
theorem cut_is {s : ByteArray} {N D : List UInt8} {fd : Bool} {w : World} (hm : MaxOk w) (hs : s.size ≤ 1000000) (hc : Lib.cut s.data.toList [47] = (N, D, fd)) :
  Calls Tryz.prog 57 #[.string s, .string ⟨#[47]⟩] w fun e w' => e = .returned (.tuple #[.string ⟨N.toArray⟩, .string ⟨D.toArray⟩, .bool fd]) ∧ Below w.heap.size w w' := by
 obtain ⟨m, hm⟩ := hm
 refine (Tryz.strings_Cut s ⟨#[47]⟩ m w (by omega) hm).mono ?_
 rintro e w' ⟨rfl, n, rfl⟩
 rw [show Lib.cut s.data.toList (⟨#[47]⟩ : ByteArray).data.toList = (N, D, fd) from hc]
 exact ⟨rfl, below_drewN (Below.refl _ _) n⟩
theorem pparse_n3 {s : ByteArray} {N D : List UInt8} {c8 : Bool} {w : World} (hm : MaxOk w) (hc : Lib.cut s.data.toList [47] = (N, D, false)) (hln : s.size ≤ 9000 ∧ N.length ≤ 9000 ∧ D.length ≤ 9000) (h7 : (true && (errOf N != 3)) = false) (h8 : (true && (errOf N != 6)) = c8) :
  Calls Tryz.prog 14 #[.string s] w fun e w' => e = .returned (.tuple #[.agg #[.bool false, .slice none 0 0, .bool false, .slice none 0 0], .int .i64 3]) ∧ Below w.heap.size w w' := by
 have hmf : ∀ (fn : Fn) (first cap : Array Value) (w : World), (Instr.makeFunc fn first cap).run Tryz.prog w = .ok (.func fn first cap) w := fun _ _ _ _ => rfl
 have HM := Lib.hid hm
 have HC := Lib.hid hc
 have HLN := Lib.hid hln
 have HE7 := Lib.hid h7
 have HE8 := Lib.hid h8
 clear hm hc hln h7 h8
 go_enter Tryz.func14, Tryz.ntmps14
 go_upto_region 1 with (fail)
 change Code.wp Tryz.prog _ _ _ (w.alloc (.cells #[.bool false, .slice none 0 0, .bool false, .slice none 0 0] 27))
 obtain ⟨nb2, na⟩ := new1 w 27 [.bool false, .slice none 0 0, .bool false, .slice none 0 0] lf4
 have nkeep := Keep.ofBelow na
 have nbel := na
 generalize w.alloc (.cells #[.bool false, .slice none 0 0, .bool false, .slice none 0 0] 27) = W1 at *
 clear na
 have b2 := Lib.hid nb2
 clear nb2 nkeep
 have HB2 := Lib.hid nbel
 clear nbel
 obtain ⟨x20, x21, x22, x23, z20, z21, z22, z23, s2⟩ := b2.out.e4
 have szb := HB2.out.size
 go_wp2_with fail
 refine (cut_is (HM.out.up HB2.out) (by have := HLN.out; omega) HC.out).mono ?_
 rintro e W3 ⟨rfl, hb⟩
 replace b2 := hup b2 hb
 have nbel := below_then HB2.out hb HB2.out.size
 have HB4 := Lib.hid nbel
 clear nbel HB2 hb x20 x21 x22 x23 z20 z21 z22 z23 szb s2
 obtain ⟨x20, x21, x22, x23, z20, z21, z22, z23, s2⟩ := b2.out.e4
 have szb := HB4.out.size
 go_upto_region 3 with (fail)
 have q5 := b2.out.lt
 change Code.wp Tryz.prog _ _ _ ((W3.alloc (.cells #[.bool true] 4)).alloc (.cells #[.bool true] 4))
 have nb2 : Bx 27 ((W3.alloc (.cells #[.bool true] 4)).alloc (.cells #[.bool true] 4)) w.heap.size [.bool false, .slice none 0 0, .bool false, .slice none 0 0] := (Bx.alloc (Bx.alloc b2.out (.cells #[.bool true] 4)) (.cells #[.bool true] 4))
 have nb7 := (Bx.alloc (Bx.new 4 W3 [.bool true] (leaf1 (Leaf.bool true))) (.cells #[.bool true] 4))
 have nb8 := (Bx.new 4 (W3.alloc (.cells #[.bool true] 4)) [.bool true] (leaf1 (Leaf.bool true)))
 rw [show (W3.alloc (.cells #[.bool true] 4)).heap.size = W3.heap.size + 1 by simp] at nb8
 have nkeep := (Keep.alloc (Keep.alloc (Keep.refl W3) (.cells #[.bool true] 4)) (.cells #[.bool true] 4))
 have nbel : Below w.heap.size w ((W3.alloc (.cells #[.bool true] 4)).alloc (.cells #[.bool true] 4)) := (Below.alloc (Below.alloc HB4.out (by first | omega | (simp; done) | (simp; omega) | (simp [World.setCell]; done) | (simp [World.setCell]; omega)) (.cells #[.bool true] 4)) (by first | omega | (simp; done) | (simp; omega) | (simp [World.setCell]; done) | (simp [World.setCell]; omega)) (.cells #[.bool true] 4))
 generalize (W3.alloc (.cells #[.bool true] 4)).alloc (.cells #[.bool true] 4) = W6 at *
 clear x20 x21 x22 x23 z20 z21 z22 z23 szb s2 b2
 have b2 := Lib.hid nb2
 have b7 := Lib.hid nb7
 have b8 := Lib.hid nb8
 clear nb2 nb7 nb8 nkeep
 have HB7 := Lib.hid nbel
 clear nbel HB4
 obtain ⟨x20, x21, x22, x23, z20, z21, z22, z23⟩ := b2.out.cz4
 have x70 : W6.cell? ⟨W3.heap.size, 0, none⟩ = some (.bool true) := (b7.out).cell 0
 have z70 : W6.frozen? ⟨W3.heap.size, 0, none⟩ = false := (b7.out).frozen 0
 have x80 : W6.cell? ⟨W3.heap.size + 1, 0, none⟩ = some (.bool true) := (b8.out).cell 0
 have z80 : W6.frozen? ⟨W3.heap.size + 1, 0, none⟩ = false := (b8.out).frozen 0
 have szb := HB7.out.size
 have s2 := b2.out.lt
 have s7 := b7.out.lt
 have s8 := b8.out.lt
 have h78 : Hid (W3.heap.size ≠ W3.heap.size + 1) := by show _ ≠ _; omega
 go_wp2_with fail
 refine (part_any ⟨N.toArray⟩ _ _ _ _ _ b7.out b8.out h78.out (by have := HLN.out; show N.toArray.size ≤ 1000000; rw [List.size_toArray]; omega)).mono ?_
 rintro e W8 ⟨v, rfl, hv, h7n, h8n, hbt⟩
 have hk_ := hbt.keep b7.out b8.out
 replace b2 := Lib.hid (hbt.bx b2.out (by omega) (by omega))
 have nbel := hbt.below HB7.out (by omega) (by omega) HB7.out.size
 clear hbt hk_ b7 b8
 rw [show (true && (errOf (⟨N.toArray⟩ : ByteArray).data.toList != 3)) = false from HE7.out] at h7n
 rw [show (true && (errOf (⟨N.toArray⟩ : ByteArray).data.toList != 6)) = c8 from HE8.out] at h8n
 have b7 := Lib.hid h7n
 have b8 := Lib.hid h8n
 clear h7n h8n
 have HB9 := Lib.hid nbel
 clear nbel HB7 x20 x21 x22 x23 z20 z21 z22 z23 x70 z70 x80 z80 szb s2 s7 s8
 obtain ⟨x20, x21, x22, x23, z20, z21, z22, z23⟩ := b2.out.cz4
 have x70 : W8.cell? ⟨W3.heap.size, 0, none⟩ = some (.bool false) := (b7.out).cell 0
 have z70 : W8.frozen? ⟨W3.heap.size, 0, none⟩ = false := (b7.out).frozen 0
 have x80 : W8.cell? ⟨W3.heap.size + 1, 0, none⟩ = some (.bool c8) := (b8.out).cell 0
 have z80 : W8.frozen? ⟨W3.heap.size + 1, 0, none⟩ = false := (b8.out).frozen 0
 have szb := HB9.out.size
 have s2 := b2.out.lt
 have s7 := b7.out.lt
 have s8 := b8.out.lt
 obtain ⟨k1, A1, l1, c1, rfl⟩ := hv.open
 have HV1 := Lib.hid hv
 clear hv
 go_wp2_with fail
 refine (of_fact (n := 1) (by decide) (by decide)).mono ?_
 rintro e W10 ⟨v, rfl, hv, hb⟩
 replace b2 := hup b2 hb
 replace b7 := hup b7 hb
 replace b8 := hup b8 hb
 replace HV1 := Lib.hid (HV1.out.kept (Keep.ofBelow hb))
 have nbel := below_then HB9.out hb HB9.out.size
 have HB11 := Lib.hid nbel
 clear nbel HB9 hb x20 x21 x22 x23 z20 z21 z22 z23 x70 z70 x80 z80 szb s2 s7 s8
 obtain ⟨x20, x21, x22, x23, z20, z21, z22, z23⟩ := b2.out.cz4
 have x70 : W10.cell? ⟨W3.heap.size, 0, none⟩ = some (.bool false) := (b7.out).cell 0
 have z70 : W10.frozen? ⟨W3.heap.size, 0, none⟩ = false := (b7.out).frozen 0
 have x80 : W10.cell? ⟨W3.heap.size + 1, 0, none⟩ = some (.bool c8) := (b8.out).cell 0
 have z80 : W10.frozen? ⟨W3.heap.size + 1, 0, none⟩ = false := (b8.out).frozen 0
 have szb := HB11.out.size
 have s2 := b2.out.lt
 have s7 := b7.out.lt
 have s8 := b8.out.lt
 obtain ⟨k2, A2, l2, c2, rfl⟩ := hv.open
 have HO := Lib.hid hv
 clear hv
 go_upto_region 5 with (fail)
 have q12 := b2.out.lt
 have q13 := b7.out.lt
 have q14 := b8.out.lt
 change Code.wp Tryz.prog _ _ _ ((W10.alloc (.cells #[.bool k1, .slice A1 l1 c1] 25)).alloc (.cells #[.bool k2, .slice A2 l2 c2] 25))
 obtain ⟨nb10, nb11, na⟩ := new2 W10 25 [.bool k1, .slice A1 l1 c1] 25 [.bool k2, .slice A2 l2 c2] lf2 lf2
 have nb2 := b2.out.up na
 have nb7 := b7.out.up na
 have nb8 := b8.out.up na
 have nkeep := Keep.ofBelow na
 have nbel := below_then HB11.out na HB11.out.size
 generalize (W10.alloc (.cells #[.bool k1, .slice A1 l1 c1] 25)).alloc (.cells #[.bool k2, .slice A2 l2 c2] 25) = W15 at *
 clear na x20 x21 x22 x23 z20 z21 z22 z23 x70 z70 x80 z80 szb s2 s7 s8 b2 b7 b8
 have b2 := Lib.hid nb2
 have b7 := Lib.hid nb7
 have b8 := Lib.hid nb8
 have b10 := Lib.hid nb10
 have b11 := Lib.hid nb11
 clear nb2 nb7 nb8 nb10 nb11
 replace HV1 := Lib.hid (HV1.out.kept nkeep)
 replace HO := Lib.hid (HO.out.kept nkeep)
 clear nkeep
 have HB16 := Lib.hid nbel
 clear nbel HB11
 obtain ⟨x20, x21, x22, x23, z20, z21, z22, z23⟩ := b2.out.cz4
 have x70 : W15.cell? ⟨W3.heap.size, 0, none⟩ = some (.bool false) := (b7.out).cell 0
 have z70 : W15.frozen? ⟨W3.heap.size, 0, none⟩ = false := (b7.out).frozen 0
 have x80 : W15.cell? ⟨W3.heap.size + 1, 0, none⟩ = some (.bool c8) := (b8.out).cell 0
 have z80 : W15.frozen? ⟨W3.heap.size + 1, 0, none⟩ = false := (b8.out).frozen 0
 obtain ⟨x100, x101, s10⟩ := b10.out.d2
 obtain ⟨x110, x111, s11⟩ := b11.out.d2
 have szb := HB16.out.size
 have s2 := b2.out.lt
 have s7 := b7.out.lt
 have s8 := b8.out.lt
 go_wp2_with fail
 have hkeep := (Keep.set4 (Keep.refl W15) b2.out (Leaf.bool false) (Leaf.slice none 0 0) (Leaf.bool false) (Leaf.slice none 0 0))
 have hbel := (Below.set4 (g := w.heap.size) HB16.out (by first | omega | (simp; done) | (simp; omega)) (.bool false) (.slice none 0 0) (.bool false) (.slice none 0 0))
 refine bodyPost_ret (v := .tuple #[.agg #[.bool false, .slice none 0 0, .bool false, .slice none 0 0], .int .i64 3]) (by simp [results, Tryz.results14, go_sem, x20, x21, x22, x23]) rfl ⟨rfl, hbel⟩
theorem pparse_n0 {s : ByteArray} {N D : List UInt8} {w : World} (hm : MaxOk w) (hc : Lib.cut s.data.toList [47] = (N, D, false)) (hln : s.size ≤ 9000 ∧ N.length ≤ 9000 ∧ D.length ≤ 9000) (h7 : (true && (errOf N != 3)) = true) (h8 : (true && (errOf N != 6)) = true) :
  Calls Tryz.prog 14 #[.string s] w fun e w' => ∃ v, e = .returned (.tuple #[v, .int .i64 0]) ∧ (∃ (k : Bool) (A : Option Addr) (l c : Nat) (k' : Bool) (A' : Option Addr) (l' c' : Nat), v = .agg #[.bool k, .slice A l c, .bool k', .slice A' l' c'] ∧ PInt (valZ N) 223 (.agg #[.bool k, .slice A l c]) w' ∧ PInt 1 223 (.agg #[.bool k', .slice A' l' c']) w') ∧ Below w.heap.size w w' := by
 have hmf : ∀ (fn : Fn) (first cap : Array Value) (w : World), (Instr.makeFunc fn first cap).run Tryz.prog w = .ok (.func fn first cap) w := fun _ _ _ _ => rfl
 have HM := Lib.hid hm
 have HC := Lib.hid hc
 have HLN := Lib.hid hln
 have HE7 := Lib.hid h7
 have HE8 := Lib.hid h8
 clear hm hc hln h7 h8
 go_enter Tryz.func14, Tryz.ntmps14
 go_upto_region 1 with (fail)
 change Code.wp Tryz.prog _ _ _ (w.alloc (.cells #[.bool false, .slice none 0 0, .bool false, .slice none 0 0] 27))
 obtain ⟨nb2, na⟩ := new1 w 27 [.bool false, .slice none 0 0, .bool false, .slice none 0 0] lf4
 have nkeep := Keep.ofBelow na
 have nbel := na
 generalize w.alloc (.cells #[.bool false, .slice none 0 0, .bool false, .slice none 0 0] 27) = W1 at *
 clear na
 have b2 := Lib.hid nb2
 clear nb2 nkeep
 have HB2 := Lib.hid nbel
 clear nbel
 obtain ⟨x20, x21, x22, x23, z20, z21, z22, z23, s2⟩ := b2.out.e4
 have szb := HB2.out.size
 go_wp2_with fail
 refine (cut_is (HM.out.up HB2.out) (by have := HLN.out; omega) HC.out).mono ?_
 rintro e W3 ⟨rfl, hb⟩
 replace b2 := hup b2 hb
 have nbel := below_then HB2.out hb HB2.out.size
 have HB4 := Lib.hid nbel
 clear nbel HB2 hb x20 x21 x22 x23 z20 z21 z22 z23 szb s2
 obtain ⟨x20, x21, x22, x23, z20, z21, z22, z23, s2⟩ := b2.out.e4
 have szb := HB4.out.size
 go_upto_region 3 with (fail)
 have q5 := b2.out.lt
 change Code.wp Tryz.prog _ _ _ ((W3.alloc (.cells #[.bool true] 4)).alloc (.cells #[.bool true] 4))
 have nb2 : Bx 27 ((W3.alloc (.cells #[.bool true] 4)).alloc (.cells #[.bool true] 4)) w.heap.size [.bool false, .slice none 0 0, .bool false, .slice none 0 0] := (Bx.alloc (Bx.alloc b2.out (.cells #[.bool true] 4)) (.cells #[.bool true] 4))
 have nb7 := (Bx.alloc (Bx.new 4 W3 [.bool true] (leaf1 (Leaf.bool true))) (.cells #[.bool true] 4))
 have nb8 := (Bx.new 4 (W3.alloc (.cells #[.bool true] 4)) [.bool true] (leaf1 (Leaf.bool true)))
 rw [show (W3.alloc (.cells #[.bool true] 4)).heap.size = W3.heap.size + 1 by simp] at nb8
 have nkeep := (Keep.alloc (Keep.alloc (Keep.refl W3) (.cells #[.bool true] 4)) (.cells #[.bool true] 4))
 have nbel : Below w.heap.size w ((W3.alloc (.cells #[.bool true] 4)).alloc (.cells #[.bool true] 4)) := (Below.alloc (Below.alloc HB4.out (by first | omega | (simp; done) | (simp; omega) | (simp [World.setCell]; done) | (simp [World.setCell]; omega)) (.cells #[.bool true] 4)) (by first | omega | (simp; done) | (simp; omega) | (simp [World.setCell]; done) | (simp [World.setCell]; omega)) (.cells #[.bool true] 4))
 generalize (W3.alloc (.cells #[.bool true] 4)).alloc (.cells #[.bool true] 4) = W6 at *
 clear x20 x21 x22 x23 z20 z21 z22 z23 szb s2 b2
 have b2 := Lib.hid nb2
 have b7 := Lib.hid nb7
 have b8 := Lib.hid nb8
 clear nb2 nb7 nb8 nkeep
 have HB7 := Lib.hid nbel
 clear nbel HB4
 obtain ⟨x20, x21, x22, x23, z20, z21, z22, z23⟩ := b2.out.cz4
 have x70 : W6.cell? ⟨W3.heap.size, 0, none⟩ = some (.bool true) := (b7.out).cell 0
 have z70 : W6.frozen? ⟨W3.heap.size, 0, none⟩ = false := (b7.out).frozen 0
 have x80 : W6.cell? ⟨W3.heap.size + 1, 0, none⟩ = some (.bool true) := (b8.out).cell 0
 have z80 : W6.frozen? ⟨W3.heap.size + 1, 0, none⟩ = false := (b8.out).frozen 0
 have szb := HB7.out.size
 have s2 := b2.out.lt
 have s7 := b7.out.lt
 have s8 := b8.out.lt
 have h78 : Hid (W3.heap.size ≠ W3.heap.size + 1) := by show _ ≠ _; omega
 go_wp2_with fail
 refine (part_any ⟨N.toArray⟩ _ _ _ _ _ b7.out b8.out h78.out (by have := HLN.out; show N.toArray.size ≤ 1000000; rw [List.size_toArray]; omega)).mono ?_
 rintro e W8 ⟨v, rfl, hv, h7n, h8n, hbt⟩
 have hk_ := hbt.keep b7.out b8.out
 replace b2 := Lib.hid (hbt.bx b2.out (by omega) (by omega))
 have nbel := hbt.below HB7.out (by omega) (by omega) HB7.out.size
 clear hbt hk_ b7 b8
 rw [show (true && (errOf (⟨N.toArray⟩ : ByteArray).data.toList != 3)) = true from HE7.out] at h7n
 rw [show (true && (errOf (⟨N.toArray⟩ : ByteArray).data.toList != 6)) = true from HE8.out] at h8n
 have b7 := Lib.hid h7n
 have b8 := Lib.hid h8n
 clear h7n h8n
 have HB9 := Lib.hid nbel
 clear nbel HB7 x20 x21 x22 x23 z20 z21 z22 z23 x70 z70 x80 z80 szb s2 s7 s8
 obtain ⟨x20, x21, x22, x23, z20, z21, z22, z23⟩ := b2.out.cz4
 have x70 : W8.cell? ⟨W3.heap.size, 0, none⟩ = some (.bool true) := (b7.out).cell 0
 have z70 : W8.frozen? ⟨W3.heap.size, 0, none⟩ = false := (b7.out).frozen 0
 have x80 : W8.cell? ⟨W3.heap.size + 1, 0, none⟩ = some (.bool true) := (b8.out).cell 0
 have z80 : W8.frozen? ⟨W3.heap.size + 1, 0, none⟩ = false := (b8.out).frozen 0
 have szb := HB9.out.size
 have s2 := b2.out.lt
 have s7 := b7.out.lt
 have s8 := b8.out.lt
 obtain ⟨k1, A1, l1, c1, rfl⟩ := hv.open
 have HV1 := Lib.hid hv
 clear hv
 go_wp2_with fail
 refine (of_fact (n := 1) (by decide) (by decide)).mono ?_
 rintro e W10 ⟨v, rfl, hv, hb⟩
 replace b2 := hup b2 hb
 replace b7 := hup b7 hb
 replace b8 := hup b8 hb
 replace HV1 := Lib.hid (HV1.out.kept (Keep.ofBelow hb))
 have nbel := below_then HB9.out hb HB9.out.size
 have HB11 := Lib.hid nbel
 clear nbel HB9 hb x20 x21 x22 x23 z20 z21 z22 z23 x70 z70 x80 z80 szb s2 s7 s8
 obtain ⟨x20, x21, x22, x23, z20, z21, z22, z23⟩ := b2.out.cz4
 have x70 : W10.cell? ⟨W3.heap.size, 0, none⟩ = some (.bool true) := (b7.out).cell 0
 have z70 : W10.frozen? ⟨W3.heap.size, 0, none⟩ = false := (b7.out).frozen 0
 have x80 : W10.cell? ⟨W3.heap.size + 1, 0, none⟩ = some (.bool true) := (b8.out).cell 0
 have z80 : W10.frozen? ⟨W3.heap.size + 1, 0, none⟩ = false := (b8.out).frozen 0
 have szb := HB11.out.size
 have s2 := b2.out.lt
 have s7 := b7.out.lt
 have s8 := b8.out.lt
 obtain ⟨k2, A2, l2, c2, rfl⟩ := hv.open
 have HO := Lib.hid hv
 clear hv
 go_upto_region 5 with (fail)
 have q12 := b2.out.lt
 have q13 := b7.out.lt
 have q14 := b8.out.lt
 change Code.wp Tryz.prog _ _ _ ((W10.alloc (.cells #[.bool k1, .slice A1 l1 c1] 25)).alloc (.cells #[.bool k2, .slice A2 l2 c2] 25))
 obtain ⟨nb10, nb11, na⟩ := new2 W10 25 [.bool k1, .slice A1 l1 c1] 25 [.bool k2, .slice A2 l2 c2] lf2 lf2
 have nb2 := b2.out.up na
 have nb7 := b7.out.up na
 have nb8 := b8.out.up na
 have nkeep := Keep.ofBelow na
 have nbel := below_then HB11.out na HB11.out.size
 generalize (W10.alloc (.cells #[.bool k1, .slice A1 l1 c1] 25)).alloc (.cells #[.bool k2, .slice A2 l2 c2] 25) = W15 at *
 clear na x20 x21 x22 x23 z20 z21 z22 z23 x70 z70 x80 z80 szb s2 s7 s8 b2 b7 b8
 have b2 := Lib.hid nb2
 have b7 := Lib.hid nb7
 have b8 := Lib.hid nb8
 have b10 := Lib.hid nb10
 have b11 := Lib.hid nb11
 clear nb2 nb7 nb8 nb10 nb11
 replace HV1 := Lib.hid (HV1.out.kept nkeep)
 replace HO := Lib.hid (HO.out.kept nkeep)
 clear nkeep
 have HB16 := Lib.hid nbel
 clear nbel HB11
 obtain ⟨x20, x21, x22, x23, z20, z21, z22, z23⟩ := b2.out.cz4
 have x70 : W15.cell? ⟨W3.heap.size, 0, none⟩ = some (.bool true) := (b7.out).cell 0
 have z70 : W15.frozen? ⟨W3.heap.size, 0, none⟩ = false := (b7.out).frozen 0
 have x80 : W15.cell? ⟨W3.heap.size + 1, 0, none⟩ = some (.bool true) := (b8.out).cell 0
 have z80 : W15.frozen? ⟨W3.heap.size + 1, 0, none⟩ = false := (b8.out).frozen 0
 obtain ⟨x100, x101, s10⟩ := b10.out.d2
 obtain ⟨x110, x111, s11⟩ := b11.out.d2
 have szb := HB16.out.size
 have s2 := b2.out.lt
 have s7 := b7.out.lt
 have s8 := b8.out.lt
 go_wp2_with fail
 have hkeep := (Keep.set4 (Keep.refl W15) b2.out (Leaf.bool k1) (Leaf.slice A1 l1 c1) (Leaf.bool k2) (Leaf.slice A2 l2 c2))
 have hbel := (Below.set4 (g := w.heap.size) HB16.out (by first | omega | (simp; done) | (simp; omega)) (.bool k1) (.slice A1 l1 c1) (.bool k2) (.slice A2 l2 c2))
 refine bodyPost_ret (v := .tuple #[.agg #[.bool k1, .slice A1 l1 c1, .bool k2, .slice A2 l2 c2], .int .i64 0]) (by simp [results, Tryz.results14, go_sem, x20, x21, x22, x23]) rfl ⟨_, rfl, ⟨_, _, _, _, _, _, _, _, rfl, HV1.out.kept hkeep, (HO.out.kept hkeep).more (by omega)⟩, hbel⟩
theorem pparse_q3 {s : ByteArray} {N D : List UInt8} {c8 : Bool} {w : World} (hm : MaxOk w) (hc : Lib.cut s.data.toList [47] = (N, D, true)) (hln : s.size ≤ 9000 ∧ N.length ≤ 9000 ∧ D.length ≤ 9000) {a7 a8 : Bool} (ha7 : (true && (errOf N != 3)) = a7) (ha8 : (true && (errOf N != 6)) = a8) (h7 : (a7 && (errOf D != 3)) = false) (h8 : (a8 && (errOf D != 6)) = c8) :
  Calls Tryz.prog 14 #[.string s] w fun e w' => e = .returned (.tuple #[.agg #[.bool false, .slice none 0 0, .bool false, .slice none 0 0], .int .i64 3]) ∧ Below w.heap.size w w' := by
 have HA7 := Lib.hid ha7
 have HA8 := Lib.hid ha8
 clear ha7 ha8
 have hmf : ∀ (fn : Fn) (first cap : Array Value) (w : World), (Instr.makeFunc fn first cap).run Tryz.prog w = .ok (.func fn first cap) w := fun _ _ _ _ => rfl
 have HM := Lib.hid hm
 have HC := Lib.hid hc
 have HLN := Lib.hid hln
 have HE7 := Lib.hid h7
 have HE8 := Lib.hid h8
 clear hm hc hln h7 h8
 go_enter Tryz.func14, Tryz.ntmps14
 go_upto_region 1 with (fail)
 change Code.wp Tryz.prog _ _ _ (w.alloc (.cells #[.bool false, .slice none 0 0, .bool false, .slice none 0 0] 27))
 obtain ⟨nb2, na⟩ := new1 w 27 [.bool false, .slice none 0 0, .bool false, .slice none 0 0] lf4
 have nkeep := Keep.ofBelow na
 have nbel := na
 generalize w.alloc (.cells #[.bool false, .slice none 0 0, .bool false, .slice none 0 0] 27) = W1 at *
 clear na
 have b2 := Lib.hid nb2
 clear nb2 nkeep
 have HB2 := Lib.hid nbel
 clear nbel
 obtain ⟨x20, x21, x22, x23, z20, z21, z22, z23, s2⟩ := b2.out.e4
 have szb := HB2.out.size
 go_wp2_with fail
 refine (cut_is (HM.out.up HB2.out) (by have := HLN.out; omega) HC.out).mono ?_
 rintro e W3 ⟨rfl, hb⟩
 replace b2 := hup b2 hb
 have nbel := below_then HB2.out hb HB2.out.size
 have HB4 := Lib.hid nbel
 clear nbel HB2 hb x20 x21 x22 x23 z20 z21 z22 z23 szb s2
 obtain ⟨x20, x21, x22, x23, z20, z21, z22, z23, s2⟩ := b2.out.e4
 have szb := HB4.out.size
 go_upto_region 3 with (fail)
 have q5 := b2.out.lt
 change Code.wp Tryz.prog _ _ _ ((W3.alloc (.cells #[.bool true] 4)).alloc (.cells #[.bool true] 4))
 have nb2 : Bx 27 ((W3.alloc (.cells #[.bool true] 4)).alloc (.cells #[.bool true] 4)) w.heap.size [.bool false, .slice none 0 0, .bool false, .slice none 0 0] := (Bx.alloc (Bx.alloc b2.out (.cells #[.bool true] 4)) (.cells #[.bool true] 4))
 have nb7 := (Bx.alloc (Bx.new 4 W3 [.bool true] (leaf1 (Leaf.bool true))) (.cells #[.bool true] 4))
 have nb8 := (Bx.new 4 (W3.alloc (.cells #[.bool true] 4)) [.bool true] (leaf1 (Leaf.bool true)))
 rw [show (W3.alloc (.cells #[.bool true] 4)).heap.size = W3.heap.size + 1 by simp] at nb8
 have nkeep := (Keep.alloc (Keep.alloc (Keep.refl W3) (.cells #[.bool true] 4)) (.cells #[.bool true] 4))
 have nbel : Below w.heap.size w ((W3.alloc (.cells #[.bool true] 4)).alloc (.cells #[.bool true] 4)) := (Below.alloc (Below.alloc HB4.out (by first | omega | (simp; done) | (simp; omega) | (simp [World.setCell]; done) | (simp [World.setCell]; omega)) (.cells #[.bool true] 4)) (by first | omega | (simp; done) | (simp; omega) | (simp [World.setCell]; done) | (simp [World.setCell]; omega)) (.cells #[.bool true] 4))
 generalize (W3.alloc (.cells #[.bool true] 4)).alloc (.cells #[.bool true] 4) = W6 at *
 clear x20 x21 x22 x23 z20 z21 z22 z23 szb s2 b2
 have b2 := Lib.hid nb2
 have b7 := Lib.hid nb7
 have b8 := Lib.hid nb8
 clear nb2 nb7 nb8 nkeep
 have HB7 := Lib.hid nbel
 clear nbel HB4
 obtain ⟨x20, x21, x22, x23, z20, z21, z22, z23⟩ := b2.out.cz4
 have x70 : W6.cell? ⟨W3.heap.size, 0, none⟩ = some (.bool true) := (b7.out).cell 0
 have z70 : W6.frozen? ⟨W3.heap.size, 0, none⟩ = false := (b7.out).frozen 0
 have x80 : W6.cell? ⟨W3.heap.size + 1, 0, none⟩ = some (.bool true) := (b8.out).cell 0
 have z80 : W6.frozen? ⟨W3.heap.size + 1, 0, none⟩ = false := (b8.out).frozen 0
 have szb := HB7.out.size
 have s2 := b2.out.lt
 have s7 := b7.out.lt
 have s8 := b8.out.lt
 have h78 : Hid (W3.heap.size ≠ W3.heap.size + 1) := by show _ ≠ _; omega
 go_wp2_with fail
 refine (part_any ⟨N.toArray⟩ _ _ _ _ _ b7.out b8.out h78.out (by have := HLN.out; show N.toArray.size ≤ 1000000; rw [List.size_toArray]; omega)).mono ?_
 rintro e W8 ⟨v, rfl, hv, h7n, h8n, hbt⟩
 have hk_ := hbt.keep b7.out b8.out
 replace b2 := Lib.hid (hbt.bx b2.out (by omega) (by omega))
 have nbel := hbt.below HB7.out (by omega) (by omega) HB7.out.size
 clear hbt hk_ b7 b8
 rw [show (true && (errOf (⟨N.toArray⟩ : ByteArray).data.toList != 3)) = a7 from HA7.out] at h7n
 rw [show (true && (errOf (⟨N.toArray⟩ : ByteArray).data.toList != 6)) = a8 from HA8.out] at h8n
 have b7 := Lib.hid h7n
 have b8 := Lib.hid h8n
 clear h7n h8n
 have HB9 := Lib.hid nbel
 clear nbel HB7 x20 x21 x22 x23 z20 z21 z22 z23 x70 z70 x80 z80 szb s2 s7 s8
 obtain ⟨x20, x21, x22, x23, z20, z21, z22, z23⟩ := b2.out.cz4
 have x70 : W8.cell? ⟨W3.heap.size, 0, none⟩ = some (.bool a7) := (b7.out).cell 0
 have z70 : W8.frozen? ⟨W3.heap.size, 0, none⟩ = false := (b7.out).frozen 0
 have x80 : W8.cell? ⟨W3.heap.size + 1, 0, none⟩ = some (.bool a8) := (b8.out).cell 0
 have z80 : W8.frozen? ⟨W3.heap.size + 1, 0, none⟩ = false := (b8.out).frozen 0
 have szb := HB9.out.size
 have s2 := b2.out.lt
 have s7 := b7.out.lt
 have s8 := b8.out.lt
 obtain ⟨k1, A1, l1, c1, rfl⟩ := hv.open
 have HV1 := Lib.hid hv
 clear hv
 go_wp2_with fail
 refine (of_fact (n := 1) (by decide) (by decide)).mono ?_
 rintro e W10 ⟨v, rfl, hv, hb⟩
 replace b2 := hup b2 hb
 replace b7 := hup b7 hb
 replace b8 := hup b8 hb
 replace HV1 := Lib.hid (HV1.out.kept (Keep.ofBelow hb))
 have nbel := below_then HB9.out hb HB9.out.size
 have HB11 := Lib.hid nbel
 clear nbel HB9 hb x20 x21 x22 x23 z20 z21 z22 z23 x70 z70 x80 z80 szb s2 s7 s8
 obtain ⟨x20, x21, x22, x23, z20, z21, z22, z23⟩ := b2.out.cz4
 have x70 : W10.cell? ⟨W3.heap.size, 0, none⟩ = some (.bool a7) := (b7.out).cell 0
 have z70 : W10.frozen? ⟨W3.heap.size, 0, none⟩ = false := (b7.out).frozen 0
 have x80 : W10.cell? ⟨W3.heap.size + 1, 0, none⟩ = some (.bool a8) := (b8.out).cell 0
 have z80 : W10.frozen? ⟨W3.heap.size + 1, 0, none⟩ = false := (b8.out).frozen 0
 have szb := HB11.out.size
 have s2 := b2.out.lt
 have s7 := b7.out.lt
 have s8 := b8.out.lt
 obtain ⟨k2, A2, l2, c2, rfl⟩ := hv.open
 have HO := Lib.hid hv
 clear hv
 go_upto_region 5 with (fail)
 have q12 := b2.out.lt
 have q13 := b7.out.lt
 have q14 := b8.out.lt
 change Code.wp Tryz.prog _ _ _ ((W10.alloc (.cells #[.bool k1, .slice A1 l1 c1] 25)).alloc (.cells #[.bool k2, .slice A2 l2 c2] 25))
 obtain ⟨nb10, nb11, na⟩ := new2 W10 25 [.bool k1, .slice A1 l1 c1] 25 [.bool k2, .slice A2 l2 c2] lf2 lf2
 have nb2 := b2.out.up na
 have nb7 := b7.out.up na
 have nb8 := b8.out.up na
 have nkeep := Keep.ofBelow na
 have nbel := below_then HB11.out na HB11.out.size
 generalize (W10.alloc (.cells #[.bool k1, .slice A1 l1 c1] 25)).alloc (.cells #[.bool k2, .slice A2 l2 c2] 25) = W15 at *
 clear na x20 x21 x22 x23 z20 z21 z22 z23 x70 z70 x80 z80 szb s2 s7 s8 b2 b7 b8
 have b2 := Lib.hid nb2
 have b7 := Lib.hid nb7
 have b8 := Lib.hid nb8
 have b10 := Lib.hid nb10
 have b11 := Lib.hid nb11
 clear nb2 nb7 nb8 nb10 nb11
 replace HV1 := Lib.hid (HV1.out.kept nkeep)
 replace HO := Lib.hid (HO.out.kept nkeep)
 clear nkeep
 have HB16 := Lib.hid nbel
 clear nbel HB11
 obtain ⟨x20, x21, x22, x23, z20, z21, z22, z23⟩ := b2.out.cz4
 have x70 : W15.cell? ⟨W3.heap.size, 0, none⟩ = some (.bool a7) := (b7.out).cell 0
 have z70 : W15.frozen? ⟨W3.heap.size, 0, none⟩ = false := (b7.out).frozen 0
 have x80 : W15.cell? ⟨W3.heap.size + 1, 0, none⟩ = some (.bool a8) := (b8.out).cell 0
 have z80 : W15.frozen? ⟨W3.heap.size + 1, 0, none⟩ = false := (b8.out).frozen 0
 obtain ⟨x100, x101, s10⟩ := b10.out.d2
 obtain ⟨x110, x111, z110, z111, s11⟩ := b11.out.e2
 have szb := HB16.out.size
 have s2 := b2.out.lt
 have s7 := b7.out.lt
 have s8 := b8.out.lt
 go_wp2_with fail
 refine (part_any ⟨D.toArray⟩ _ _ _ _ _ b7.out b8.out h78.out (by have := HLN.out; show D.toArray.size ≤ 1000000; rw [List.size_toArray]; omega)).mono ?_
 rintro e W17 ⟨v, rfl, hv, h7n, h8n, hbt⟩
 have hk_ := hbt.keep b7.out b8.out
 replace b2 := Lib.hid (hbt.bx b2.out (by omega) (by omega))
 replace b10 := Lib.hid (hbt.bx b10.out (by omega) (by omega))
 replace b11 := Lib.hid (hbt.bx b11.out (by omega) (by omega))
 replace HV1 := Lib.hid (HV1.out.kept hk_)
 replace HO := Lib.hid (HO.out.kept hk_)
 have nbel := hbt.below HB16.out (by omega) (by omega) HB16.out.size
 clear hbt hk_ b7 b8
 rw [show (a7 && (errOf (⟨D.toArray⟩ : ByteArray).data.toList != 3)) = false from HE7.out] at h7n
 rw [show (a8 && (errOf (⟨D.toArray⟩ : ByteArray).data.toList != 6)) = c8 from HE8.out] at h8n
 have b7 := Lib.hid h7n
 have b8 := Lib.hid h8n
 clear h7n h8n
 have HB18 := Lib.hid nbel
 clear nbel HB16 x20 x21 x22 x23 z20 z21 z22 z23 x70 z70 x80 z80 x100 x101 x110 x111 z110 z111 szb s2 s7 s8 s10 s11
 obtain ⟨x20, x21, x22, x23, z20, z21, z22, z23⟩ := b2.out.cz4
 have x70 : W17.cell? ⟨W3.heap.size, 0, none⟩ = some (.bool false) := (b7.out).cell 0
 have z70 : W17.frozen? ⟨W3.heap.size, 0, none⟩ = false := (b7.out).frozen 0
 have x80 : W17.cell? ⟨W3.heap.size + 1, 0, none⟩ = some (.bool c8) := (b8.out).cell 0
 have z80 : W17.frozen? ⟨W3.heap.size + 1, 0, none⟩ = false := (b8.out).frozen 0
 obtain ⟨x100, x101, s10⟩ := b10.out.d2
 obtain ⟨x110, x111, z110, z111, s11⟩ := b11.out.e2
 have szb := HB18.out.size
 have s2 := b2.out.lt
 have s7 := b7.out.lt
 have s8 := b8.out.lt
 obtain ⟨k3, A3, l3, c3, rfl⟩ := hv.open
 have HV3 := Lib.hid hv
 clear hv
 go_upto_region 7 with (fail)
 change Code.wp Tryz.prog _ _ _ ((W17.setCell ⟨W10.heap.size + 1, 0, none⟩ (.bool k3)).setCell ⟨W10.heap.size + 1, 1, none⟩ (.slice A3 l3 c3))
 have nb2 : Bx 27 ((W17.setCell ⟨W10.heap.size + 1, 0, none⟩ (.bool k3)).setCell ⟨W10.heap.size + 1, 1, none⟩ (.slice A3 l3 c3)) w.heap.size [.bool false, .slice none 0 0, .bool false, .slice none 0 0] := (Bx.far2 (g' := W10.heap.size + 1) b2.out (by omega) (.bool k3) (.slice A3 l3 c3))
 have nb7 : Bx 4 ((W17.setCell ⟨W10.heap.size + 1, 0, none⟩ (.bool k3)).setCell ⟨W10.heap.size + 1, 1, none⟩ (.slice A3 l3 c3)) W3.heap.size [.bool false] := (Bx.far2 (g' := W10.heap.size + 1) b7.out (by omega) (.bool k3) (.slice A3 l3 c3))
 have nb8 : Bx 4 ((W17.setCell ⟨W10.heap.size + 1, 0, none⟩ (.bool k3)).setCell ⟨W10.heap.size + 1, 1, none⟩ (.slice A3 l3 c3)) (W3.heap.size + 1) [.bool c8] := (Bx.far2 (g' := W10.heap.size + 1) b8.out (by omega) (.bool k3) (.slice A3 l3 c3))
 have nb10 : Bx 25 ((W17.setCell ⟨W10.heap.size + 1, 0, none⟩ (.bool k3)).setCell ⟨W10.heap.size + 1, 1, none⟩ (.slice A3 l3 c3)) W10.heap.size [.bool k1, .slice A1 l1 c1] := (Bx.far2 (g' := W10.heap.size + 1) b10.out (by omega) (.bool k3) (.slice A3 l3 c3))
 have nb11 : Bx 25 ((W17.setCell ⟨W10.heap.size + 1, 0, none⟩ (.bool k3)).setCell ⟨W10.heap.size + 1, 1, none⟩ (.slice A3 l3 c3)) (W10.heap.size + 1) [.bool k3, .slice A3 l3 c3] := (Bx.set2 b11.out (Leaf.bool k3) (Leaf.slice A3 l3 c3))
 have nkeep := (Keep.set2 (Keep.refl W17) b11.out (Leaf.bool k3) (Leaf.slice A3 l3 c3))
 have nbel : Below w.heap.size w ((W17.setCell ⟨W10.heap.size + 1, 0, none⟩ (.bool k3)).setCell ⟨W10.heap.size + 1, 1, none⟩ (.slice A3 l3 c3)) := (Below.set2 (g := W10.heap.size + 1) HB18.out (by first | omega | (simp; done) | (simp; omega)) (.bool k3) (.slice A3 l3 c3))
 generalize (W17.setCell ⟨W10.heap.size + 1, 0, none⟩ (.bool k3)).setCell ⟨W10.heap.size + 1, 1, none⟩ (.slice A3 l3 c3) = W19 at *
 clear x20 x21 x22 x23 z20 z21 z22 z23 x70 z70 x80 z80 x100 x101 x110 x111 z110 z111 szb s2 s7 s8 s10 s11 b2 b7 b8 b10 b11
 have b2 := Lib.hid nb2
 have b7 := Lib.hid nb7
 have b8 := Lib.hid nb8
 have b10 := Lib.hid nb10
 have b11 := Lib.hid nb11
 clear nb2 nb7 nb8 nb10 nb11
 replace HV1 := Lib.hid (HV1.out.kept nkeep)
 replace HO := Lib.hid (HO.out.kept nkeep)
 replace HV3 := Lib.hid (HV3.out.kept nkeep)
 clear nkeep
 have HB20 := Lib.hid nbel
 clear nbel HB18
 obtain ⟨x20, x21, x22, x23, z20, z21, z22, z23⟩ := b2.out.cz4
 have x70 : W19.cell? ⟨W3.heap.size, 0, none⟩ = some (.bool false) := (b7.out).cell 0
 have z70 : W19.frozen? ⟨W3.heap.size, 0, none⟩ = false := (b7.out).frozen 0
 have x80 : W19.cell? ⟨W3.heap.size + 1, 0, none⟩ = some (.bool c8) := (b8.out).cell 0
 have z80 : W19.frozen? ⟨W3.heap.size + 1, 0, none⟩ = false := (b8.out).frozen 0
 obtain ⟨x100, x101, s10⟩ := b10.out.d2
 obtain ⟨x110, x111, z110, z111, s11⟩ := b11.out.e2
 have szb := HB20.out.size
 have s2 := b2.out.lt
 have s7 := b7.out.lt
 have s8 := b8.out.lt
 go_wp2_with fail
 have hkeep := (Keep.set4 (Keep.refl W19) b2.out (Leaf.bool false) (Leaf.slice none 0 0) (Leaf.bool false) (Leaf.slice none 0 0))
 have hbel := (Below.set4 (g := w.heap.size) HB20.out (by first | omega | (simp; done) | (simp; omega)) (.bool false) (.slice none 0 0) (.bool false) (.slice none 0 0))
 refine bodyPost_ret (v := .tuple #[.agg #[.bool false, .slice none 0 0, .bool false, .slice none 0 0], .int .i64 3]) (by simp [results, Tryz.results14, go_sem, x20, x21, x22, x23]) rfl ⟨rfl, hbel⟩
theorem pparse_qlow {s : ByteArray} {N D : List UInt8} {c8 : Bool} {w : World} (hm : MaxOk w) (hc : Lib.cut s.data.toList [47] = (N, D, true)) (hln : s.size ≤ 9000 ∧ N.length ≤ 9000 ∧ D.length ≤ 9000) {a7 a8 : Bool} (ha7 : (true && (errOf N != 3)) = a7) (ha8 : (true && (errOf N != 6)) = a8) (h7 : (a7 && (errOf D != 3)) = true) (h8 : (a8 && (errOf D != 6)) = c8) (hbN : badNum N = false) (hbD : badNum D = false) (hz : N.length ≤ 9000 ∧ D.length ≤ 9000) (hlow : lowB N D = false) :
  Calls Tryz.prog 14 #[.string s] w fun e w' => e = .returned (.tuple #[.agg #[.bool false, .slice none 0 0, .bool false, .slice none 0 0], .int .i64 3]) ∧ Below w.heap.size w w' := by
 have HA7 := Lib.hid ha7
 have HA8 := Lib.hid ha8
 clear ha7 ha8
 have hmf : ∀ (fn : Fn) (first cap : Array Value) (w : World), (Instr.makeFunc fn first cap).run Tryz.prog w = .ok (.func fn first cap) w := fun _ _ _ _ => rfl
 have HM := Lib.hid hm
 have HC := Lib.hid hc
 have HLN := Lib.hid hln
 have HE7 := Lib.hid h7
 have HE8 := Lib.hid h8
 clear hm hc hln h7 h8
 have HLOW := Lib.hid (fun W => low_any N D W hbN hbD hz)
 have HLB := Lib.hid hlow
 clear hbN hbD hz hlow
 go_enter Tryz.func14, Tryz.ntmps14
 go_upto_region 1 with (fail)
 change Code.wp Tryz.prog _ _ _ (w.alloc (.cells #[.bool false, .slice none 0 0, .bool false, .slice none 0 0] 27))
 obtain ⟨nb2, na⟩ := new1 w 27 [.bool false, .slice none 0 0, .bool false, .slice none 0 0] lf4
 have nkeep := Keep.ofBelow na
 have nbel := na
 generalize w.alloc (.cells #[.bool false, .slice none 0 0, .bool false, .slice none 0 0] 27) = W1 at *
 clear na
 have b2 := Lib.hid nb2
 clear nb2 nkeep
 have HB2 := Lib.hid nbel
 clear nbel
 obtain ⟨x20, x21, x22, x23, z20, z21, z22, z23, s2⟩ := b2.out.e4
 have szb := HB2.out.size
 go_wp2_with fail
 refine (cut_is (HM.out.up HB2.out) (by have := HLN.out; omega) HC.out).mono ?_
 rintro e W3 ⟨rfl, hb⟩
 replace b2 := hup b2 hb
 have nbel := below_then HB2.out hb HB2.out.size
 have HB4 := Lib.hid nbel
 clear nbel HB2 hb x20 x21 x22 x23 z20 z21 z22 z23 szb s2
 obtain ⟨x20, x21, x22, x23, z20, z21, z22, z23, s2⟩ := b2.out.e4
 have szb := HB4.out.size
 go_upto_region 3 with (fail)
 have q5 := b2.out.lt
 change Code.wp Tryz.prog _ _ _ ((W3.alloc (.cells #[.bool true] 4)).alloc (.cells #[.bool true] 4))
 have nb2 : Bx 27 ((W3.alloc (.cells #[.bool true] 4)).alloc (.cells #[.bool true] 4)) w.heap.size [.bool false, .slice none 0 0, .bool false, .slice none 0 0] := (Bx.alloc (Bx.alloc b2.out (.cells #[.bool true] 4)) (.cells #[.bool true] 4))
 have nb7 := (Bx.alloc (Bx.new 4 W3 [.bool true] (leaf1 (Leaf.bool true))) (.cells #[.bool true] 4))
 have nb8 := (Bx.new 4 (W3.alloc (.cells #[.bool true] 4)) [.bool true] (leaf1 (Leaf.bool true)))
 rw [show (W3.alloc (.cells #[.bool true] 4)).heap.size = W3.heap.size + 1 by simp] at nb8
 have nkeep := (Keep.alloc (Keep.alloc (Keep.refl W3) (.cells #[.bool true] 4)) (.cells #[.bool true] 4))
 have nbel : Below w.heap.size w ((W3.alloc (.cells #[.bool true] 4)).alloc (.cells #[.bool true] 4)) := (Below.alloc (Below.alloc HB4.out (by first | omega | (simp; done) | (simp; omega) | (simp [World.setCell]; done) | (simp [World.setCell]; omega)) (.cells #[.bool true] 4)) (by first | omega | (simp; done) | (simp; omega) | (simp [World.setCell]; done) | (simp [World.setCell]; omega)) (.cells #[.bool true] 4))
 generalize (W3.alloc (.cells #[.bool true] 4)).alloc (.cells #[.bool true] 4) = W6 at *
 clear x20 x21 x22 x23 z20 z21 z22 z23 szb s2 b2
 have b2 := Lib.hid nb2
 have b7 := Lib.hid nb7
 have b8 := Lib.hid nb8
 clear nb2 nb7 nb8 nkeep
 have HB7 := Lib.hid nbel
 clear nbel HB4
 obtain ⟨x20, x21, x22, x23, z20, z21, z22, z23⟩ := b2.out.cz4
 have x70 : W6.cell? ⟨W3.heap.size, 0, none⟩ = some (.bool true) := (b7.out).cell 0
 have z70 : W6.frozen? ⟨W3.heap.size, 0, none⟩ = false := (b7.out).frozen 0
 have x80 : W6.cell? ⟨W3.heap.size + 1, 0, none⟩ = some (.bool true) := (b8.out).cell 0
 have z80 : W6.frozen? ⟨W3.heap.size + 1, 0, none⟩ = false := (b8.out).frozen 0
 have szb := HB7.out.size
 have s2 := b2.out.lt
 have s7 := b7.out.lt
 have s8 := b8.out.lt
 have h78 : Hid (W3.heap.size ≠ W3.heap.size + 1) := by show _ ≠ _; omega
 go_wp2_with fail
 refine (part_any ⟨N.toArray⟩ _ _ _ _ _ b7.out b8.out h78.out (by have := HLN.out; show N.toArray.size ≤ 1000000; rw [List.size_toArray]; omega)).mono ?_
 rintro e W8 ⟨v, rfl, hv, h7n, h8n, hbt⟩
 have hk_ := hbt.keep b7.out b8.out
 replace b2 := Lib.hid (hbt.bx b2.out (by omega) (by omega))
 have nbel := hbt.below HB7.out (by omega) (by omega) HB7.out.size
 clear hbt hk_ b7 b8
 rw [show (true && (errOf (⟨N.toArray⟩ : ByteArray).data.toList != 3)) = a7 from HA7.out] at h7n
 rw [show (true && (errOf (⟨N.toArray⟩ : ByteArray).data.toList != 6)) = a8 from HA8.out] at h8n
 have b7 := Lib.hid h7n
 have b8 := Lib.hid h8n
 clear h7n h8n
 have HB9 := Lib.hid nbel
 clear nbel HB7 x20 x21 x22 x23 z20 z21 z22 z23 x70 z70 x80 z80 szb s2 s7 s8
 obtain ⟨x20, x21, x22, x23, z20, z21, z22, z23⟩ := b2.out.cz4
 have x70 : W8.cell? ⟨W3.heap.size, 0, none⟩ = some (.bool a7) := (b7.out).cell 0
 have z70 : W8.frozen? ⟨W3.heap.size, 0, none⟩ = false := (b7.out).frozen 0
 have x80 : W8.cell? ⟨W3.heap.size + 1, 0, none⟩ = some (.bool a8) := (b8.out).cell 0
 have z80 : W8.frozen? ⟨W3.heap.size + 1, 0, none⟩ = false := (b8.out).frozen 0
 have szb := HB9.out.size
 have s2 := b2.out.lt
 have s7 := b7.out.lt
 have s8 := b8.out.lt
 obtain ⟨k1, A1, l1, c1, rfl⟩ := hv.open
 have HV1 := Lib.hid hv
 clear hv
 go_wp2_with fail
 refine (of_fact (n := 1) (by decide) (by decide)).mono ?_
 rintro e W10 ⟨v, rfl, hv, hb⟩
 replace b2 := hup b2 hb
 replace b7 := hup b7 hb
 replace b8 := hup b8 hb
 replace HV1 := Lib.hid (HV1.out.kept (Keep.ofBelow hb))
 have nbel := below_then HB9.out hb HB9.out.size
 have HB11 := Lib.hid nbel
 clear nbel HB9 hb x20 x21 x22 x23 z20 z21 z22 z23 x70 z70 x80 z80 szb s2 s7 s8
 obtain ⟨x20, x21, x22, x23, z20, z21, z22, z23⟩ := b2.out.cz4
 have x70 : W10.cell? ⟨W3.heap.size, 0, none⟩ = some (.bool a7) := (b7.out).cell 0
 have z70 : W10.frozen? ⟨W3.heap.size, 0, none⟩ = false := (b7.out).frozen 0
 have x80 : W10.cell? ⟨W3.heap.size + 1, 0, none⟩ = some (.bool a8) := (b8.out).cell 0
 have z80 : W10.frozen? ⟨W3.heap.size + 1, 0, none⟩ = false := (b8.out).frozen 0
 have szb := HB11.out.size
 have s2 := b2.out.lt
 have s7 := b7.out.lt
 have s8 := b8.out.lt
 obtain ⟨k2, A2, l2, c2, rfl⟩ := hv.open
 have HO := Lib.hid hv
 clear hv
 go_upto_region 5 with (fail)
 have q12 := b2.out.lt
 have q13 := b7.out.lt
 have q14 := b8.out.lt
 change Code.wp Tryz.prog _ _ _ ((W10.alloc (.cells #[.bool k1, .slice A1 l1 c1] 25)).alloc (.cells #[.bool k2, .slice A2 l2 c2] 25))
 obtain ⟨nb10, nb11, na⟩ := new2 W10 25 [.bool k1, .slice A1 l1 c1] 25 [.bool k2, .slice A2 l2 c2] lf2 lf2
 have nb2 := b2.out.up na
 have nb7 := b7.out.up na
 have nb8 := b8.out.up na
 have nkeep := Keep.ofBelow na
 have nbel := below_then HB11.out na HB11.out.size
 generalize (W10.alloc (.cells #[.bool k1, .slice A1 l1 c1] 25)).alloc (.cells #[.bool k2, .slice A2 l2 c2] 25) = W15 at *
 clear na x20 x21 x22 x23 z20 z21 z22 z23 x70 z70 x80 z80 szb s2 s7 s8 b2 b7 b8
 have b2 := Lib.hid nb2
 have b7 := Lib.hid nb7
 have b8 := Lib.hid nb8
 have b10 := Lib.hid nb10
 have b11 := Lib.hid nb11
 clear nb2 nb7 nb8 nb10 nb11
 replace HV1 := Lib.hid (HV1.out.kept nkeep)
 replace HO := Lib.hid (HO.out.kept nkeep)
 clear nkeep
 have HB16 := Lib.hid nbel
 clear nbel HB11
 obtain ⟨x20, x21, x22, x23, z20, z21, z22, z23⟩ := b2.out.cz4
 have x70 : W15.cell? ⟨W3.heap.size, 0, none⟩ = some (.bool a7) := (b7.out).cell 0
 have z70 : W15.frozen? ⟨W3.heap.size, 0, none⟩ = false := (b7.out).frozen 0
 have x80 : W15.cell? ⟨W3.heap.size + 1, 0, none⟩ = some (.bool a8) := (b8.out).cell 0
 have z80 : W15.frozen? ⟨W3.heap.size + 1, 0, none⟩ = false := (b8.out).frozen 0
 obtain ⟨x100, x101, s10⟩ := b10.out.d2
 obtain ⟨x110, x111, z110, z111, s11⟩ := b11.out.e2
 have szb := HB16.out.size
 have s2 := b2.out.lt
 have s7 := b7.out.lt
 have s8 := b8.out.lt
 go_wp2_with fail
 refine (part_any ⟨D.toArray⟩ _ _ _ _ _ b7.out b8.out h78.out (by have := HLN.out; show D.toArray.size ≤ 1000000; rw [List.size_toArray]; omega)).mono ?_
 rintro e W17 ⟨v, rfl, hv, h7n, h8n, hbt⟩
 have hk_ := hbt.keep b7.out b8.out
 replace b2 := Lib.hid (hbt.bx b2.out (by omega) (by omega))
 replace b10 := Lib.hid (hbt.bx b10.out (by omega) (by omega))
 replace b11 := Lib.hid (hbt.bx b11.out (by omega) (by omega))
 replace HV1 := Lib.hid (HV1.out.kept hk_)
 replace HO := Lib.hid (HO.out.kept hk_)
 have nbel := hbt.below HB16.out (by omega) (by omega) HB16.out.size
 clear hbt hk_ b7 b8
 rw [show (a7 && (errOf (⟨D.toArray⟩ : ByteArray).data.toList != 3)) = true from HE7.out] at h7n
 rw [show (a8 && (errOf (⟨D.toArray⟩ : ByteArray).data.toList != 6)) = c8 from HE8.out] at h8n
 have b7 := Lib.hid h7n
 have b8 := Lib.hid h8n
 clear h7n h8n
 have HB18 := Lib.hid nbel
 clear nbel HB16 x20 x21 x22 x23 z20 z21 z22 z23 x70 z70 x80 z80 x100 x101 x110 x111 z110 z111 szb s2 s7 s8 s10 s11
 obtain ⟨x20, x21, x22, x23, z20, z21, z22, z23⟩ := b2.out.cz4
 have x70 : W17.cell? ⟨W3.heap.size, 0, none⟩ = some (.bool true) := (b7.out).cell 0
 have z70 : W17.frozen? ⟨W3.heap.size, 0, none⟩ = false := (b7.out).frozen 0
 have x80 : W17.cell? ⟨W3.heap.size + 1, 0, none⟩ = some (.bool c8) := (b8.out).cell 0
 have z80 : W17.frozen? ⟨W3.heap.size + 1, 0, none⟩ = false := (b8.out).frozen 0
 obtain ⟨x100, x101, s10⟩ := b10.out.d2
 obtain ⟨x110, x111, z110, z111, s11⟩ := b11.out.e2
 have szb := HB18.out.size
 have s2 := b2.out.lt
 have s7 := b7.out.lt
 have s8 := b8.out.lt
 obtain ⟨k3, A3, l3, c3, rfl⟩ := hv.open
 have HV3 := Lib.hid hv
 clear hv
 go_upto_region 7 with (fail)
 change Code.wp Tryz.prog _ _ _ ((W17.setCell ⟨W10.heap.size + 1, 0, none⟩ (.bool k3)).setCell ⟨W10.heap.size + 1, 1, none⟩ (.slice A3 l3 c3))
 have nb2 : Bx 27 ((W17.setCell ⟨W10.heap.size + 1, 0, none⟩ (.bool k3)).setCell ⟨W10.heap.size + 1, 1, none⟩ (.slice A3 l3 c3)) w.heap.size [.bool false, .slice none 0 0, .bool false, .slice none 0 0] := (Bx.far2 (g' := W10.heap.size + 1) b2.out (by omega) (.bool k3) (.slice A3 l3 c3))
 have nb7 : Bx 4 ((W17.setCell ⟨W10.heap.size + 1, 0, none⟩ (.bool k3)).setCell ⟨W10.heap.size + 1, 1, none⟩ (.slice A3 l3 c3)) W3.heap.size [.bool true] := (Bx.far2 (g' := W10.heap.size + 1) b7.out (by omega) (.bool k3) (.slice A3 l3 c3))
 have nb8 : Bx 4 ((W17.setCell ⟨W10.heap.size + 1, 0, none⟩ (.bool k3)).setCell ⟨W10.heap.size + 1, 1, none⟩ (.slice A3 l3 c3)) (W3.heap.size + 1) [.bool c8] := (Bx.far2 (g' := W10.heap.size + 1) b8.out (by omega) (.bool k3) (.slice A3 l3 c3))
 have nb10 : Bx 25 ((W17.setCell ⟨W10.heap.size + 1, 0, none⟩ (.bool k3)).setCell ⟨W10.heap.size + 1, 1, none⟩ (.slice A3 l3 c3)) W10.heap.size [.bool k1, .slice A1 l1 c1] := (Bx.far2 (g' := W10.heap.size + 1) b10.out (by omega) (.bool k3) (.slice A3 l3 c3))
 have nb11 : Bx 25 ((W17.setCell ⟨W10.heap.size + 1, 0, none⟩ (.bool k3)).setCell ⟨W10.heap.size + 1, 1, none⟩ (.slice A3 l3 c3)) (W10.heap.size + 1) [.bool k3, .slice A3 l3 c3] := (Bx.set2 b11.out (Leaf.bool k3) (Leaf.slice A3 l3 c3))
 have nkeep := (Keep.set2 (Keep.refl W17) b11.out (Leaf.bool k3) (Leaf.slice A3 l3 c3))
 have nbel : Below w.heap.size w ((W17.setCell ⟨W10.heap.size + 1, 0, none⟩ (.bool k3)).setCell ⟨W10.heap.size + 1, 1, none⟩ (.slice A3 l3 c3)) := (Below.set2 (g := W10.heap.size + 1) HB18.out (by first | omega | (simp; done) | (simp; omega)) (.bool k3) (.slice A3 l3 c3))
 generalize (W17.setCell ⟨W10.heap.size + 1, 0, none⟩ (.bool k3)).setCell ⟨W10.heap.size + 1, 1, none⟩ (.slice A3 l3 c3) = W19 at *
 clear x20 x21 x22 x23 z20 z21 z22 z23 x70 z70 x80 z80 x100 x101 x110 x111 z110 z111 szb s2 s7 s8 s10 s11 b2 b7 b8 b10 b11
 have b2 := Lib.hid nb2
 have b7 := Lib.hid nb7
 have b8 := Lib.hid nb8
 have b10 := Lib.hid nb10
 have b11 := Lib.hid nb11
 clear nb2 nb7 nb8 nb10 nb11
 replace HV1 := Lib.hid (HV1.out.kept nkeep)
 replace HO := Lib.hid (HO.out.kept nkeep)
 replace HV3 := Lib.hid (HV3.out.kept nkeep)
 clear nkeep
 have HB20 := Lib.hid nbel
 clear nbel HB18
 obtain ⟨x20, x21, x22, x23, z20, z21, z22, z23⟩ := b2.out.cz4
 have x70 : W19.cell? ⟨W3.heap.size, 0, none⟩ = some (.bool true) := (b7.out).cell 0
 have z70 : W19.frozen? ⟨W3.heap.size, 0, none⟩ = false := (b7.out).frozen 0
 have x80 : W19.cell? ⟨W3.heap.size + 1, 0, none⟩ = some (.bool c8) := (b8.out).cell 0
 have z80 : W19.frozen? ⟨W3.heap.size + 1, 0, none⟩ = false := (b8.out).frozen 0
 obtain ⟨x100, x101, s10⟩ := b10.out.d2
 obtain ⟨x110, x111, z110, z111, s11⟩ := b11.out.e2
 have szb := HB20.out.size
 have s2 := b2.out.lt
 have s7 := b7.out.lt
 have s8 := b8.out.lt
 go_wp2_with fail
 refine (HLOW.out _).mono ?_
 rintro e W21 ⟨rfl, hb⟩
 replace b2 := hup b2 hb
 replace b7 := hup b7 hb
 replace b8 := hup b8 hb
 replace b10 := hup b10 hb
 replace b11 := hup b11 hb
 replace HV1 := Lib.hid (HV1.out.kept (Keep.ofBelow hb))
 replace HO := Lib.hid (HO.out.kept (Keep.ofBelow hb))
 replace HV3 := Lib.hid (HV3.out.kept (Keep.ofBelow hb))
 have nbel := below_then HB20.out hb HB20.out.size
 have HB22 := Lib.hid nbel
 clear nbel HB20 hb x20 x21 x22 x23 z20 z21 z22 z23 x70 z70 x80 z80 x100 x101 x110 x111 z110 z111 szb s2 s7 s8 s10 s11
 obtain ⟨x20, x21, x22, x23, z20, z21, z22, z23⟩ := b2.out.cz4
 have x70 : W21.cell? ⟨W3.heap.size, 0, none⟩ = some (.bool true) := (b7.out).cell 0
 have z70 : W21.frozen? ⟨W3.heap.size, 0, none⟩ = false := (b7.out).frozen 0
 have x80 : W21.cell? ⟨W3.heap.size + 1, 0, none⟩ = some (.bool c8) := (b8.out).cell 0
 have z80 : W21.frozen? ⟨W3.heap.size + 1, 0, none⟩ = false := (b8.out).frozen 0
 obtain ⟨x100, x101, s10⟩ := b10.out.d2
 obtain ⟨x110, x111, z110, z111, s11⟩ := b11.out.e2
 have szb := HB22.out.size
 have s2 := b2.out.lt
 have s7 := b7.out.lt
 have s8 := b8.out.lt
 rw [HLB.out]
 go_wp2_with fail
 have hkeep := (Keep.set4 (Keep.refl W21) b2.out (Leaf.bool false) (Leaf.slice none 0 0) (Leaf.bool false) (Leaf.slice none 0 0))
 have hbel := (Below.set4 (g := w.heap.size) HB22.out (by first | omega | (simp; done) | (simp; omega)) (.bool false) (.slice none 0 0) (.bool false) (.slice none 0 0))
 refine bodyPost_ret (v := .tuple #[.agg #[.bool false, .slice none 0 0, .bool false, .slice none 0 0], .int .i64 3]) (by simp [results, Tryz.results14, go_sem, x20, x21, x22, x23]) rfl ⟨rfl, hbel⟩
theorem pparse_q0 {s : ByteArray} {N D : List UInt8} {w : World} (hm : MaxOk w) (hc : Lib.cut s.data.toList [47] = (N, D, true)) (hln : s.size ≤ 9000 ∧ N.length ≤ 9000 ∧ D.length ≤ 9000) {a7 a8 : Bool} (ha7 : (true && (errOf N != 3)) = a7) (ha8 : (true && (errOf N != 6)) = a8) (h7 : (a7 && (errOf D != 3)) = true) (h8 : (a8 && (errOf D != 6)) = true) (hbN : badNum N = false) (hbD : badNum D = false) (hz : N.length ≤ 9000 ∧ D.length ≤ 9000) (hlow : lowB N D = true) :
  Calls Tryz.prog 14 #[.string s] w fun e w' => ∃ v, e = .returned (.tuple #[v, .int .i64 0]) ∧ (∃ (k : Bool) (A : Option Addr) (l c : Nat) (k' : Bool) (A' : Option Addr) (l' c' : Nat), v = .agg #[.bool k, .slice A l c, .bool k', .slice A' l' c'] ∧ PInt (valZ N) 223 (.agg #[.bool k, .slice A l c]) w' ∧ PInt (valZ D) 223 (.agg #[.bool k', .slice A' l' c']) w') ∧ Below w.heap.size w w' := by
 have HA7 := Lib.hid ha7
 have HA8 := Lib.hid ha8
 clear ha7 ha8
 have hmf : ∀ (fn : Fn) (first cap : Array Value) (w : World), (Instr.makeFunc fn first cap).run Tryz.prog w = .ok (.func fn first cap) w := fun _ _ _ _ => rfl
 have HM := Lib.hid hm
 have HC := Lib.hid hc
 have HLN := Lib.hid hln
 have HE7 := Lib.hid h7
 have HE8 := Lib.hid h8
 clear hm hc hln h7 h8
 have HLOW := Lib.hid (fun W => low_any N D W hbN hbD hz)
 have HLB := Lib.hid hlow
 clear hbN hbD hz hlow
 go_enter Tryz.func14, Tryz.ntmps14
 go_upto_region 1 with (fail)
 change Code.wp Tryz.prog _ _ _ (w.alloc (.cells #[.bool false, .slice none 0 0, .bool false, .slice none 0 0] 27))
 obtain ⟨nb2, na⟩ := new1 w 27 [.bool false, .slice none 0 0, .bool false, .slice none 0 0] lf4
 have nkeep := Keep.ofBelow na
 have nbel := na
 generalize w.alloc (.cells #[.bool false, .slice none 0 0, .bool false, .slice none 0 0] 27) = W1 at *
 clear na
 have b2 := Lib.hid nb2
 clear nb2 nkeep
 have HB2 := Lib.hid nbel
 clear nbel
 obtain ⟨x20, x21, x22, x23, z20, z21, z22, z23, s2⟩ := b2.out.e4
 have szb := HB2.out.size
 go_wp2_with fail
 refine (cut_is (HM.out.up HB2.out) (by have := HLN.out; omega) HC.out).mono ?_
 rintro e W3 ⟨rfl, hb⟩
 replace b2 := hup b2 hb
 have nbel := below_then HB2.out hb HB2.out.size
 have HB4 := Lib.hid nbel
 clear nbel HB2 hb x20 x21 x22 x23 z20 z21 z22 z23 szb s2
 obtain ⟨x20, x21, x22, x23, z20, z21, z22, z23, s2⟩ := b2.out.e4
 have szb := HB4.out.size
 go_upto_region 3 with (fail)
 have q5 := b2.out.lt
 change Code.wp Tryz.prog _ _ _ ((W3.alloc (.cells #[.bool true] 4)).alloc (.cells #[.bool true] 4))
 have nb2 : Bx 27 ((W3.alloc (.cells #[.bool true] 4)).alloc (.cells #[.bool true] 4)) w.heap.size [.bool false, .slice none 0 0, .bool false, .slice none 0 0] := (Bx.alloc (Bx.alloc b2.out (.cells #[.bool true] 4)) (.cells #[.bool true] 4))
 have nb7 := (Bx.alloc (Bx.new 4 W3 [.bool true] (leaf1 (Leaf.bool true))) (.cells #[.bool true] 4))
 have nb8 := (Bx.new 4 (W3.alloc (.cells #[.bool true] 4)) [.bool true] (leaf1 (Leaf.bool true)))
 rw [show (W3.alloc (.cells #[.bool true] 4)).heap.size = W3.heap.size + 1 by simp] at nb8
 have nkeep := (Keep.alloc (Keep.alloc (Keep.refl W3) (.cells #[.bool true] 4)) (.cells #[.bool true] 4))
 have nbel : Below w.heap.size w ((W3.alloc (.cells #[.bool true] 4)).alloc (.cells #[.bool true] 4)) := (Below.alloc (Below.alloc HB4.out (by first | omega | (simp; done) | (simp; omega) | (simp [World.setCell]; done) | (simp [World.setCell]; omega)) (.cells #[.bool true] 4)) (by first | omega | (simp; done) | (simp; omega) | (simp [World.setCell]; done) | (simp [World.setCell]; omega)) (.cells #[.bool true] 4))
 generalize (W3.alloc (.cells #[.bool true] 4)).alloc (.cells #[.bool true] 4) = W6 at *
 clear x20 x21 x22 x23 z20 z21 z22 z23 szb s2 b2
 have b2 := Lib.hid nb2
 have b7 := Lib.hid nb7
 have b8 := Lib.hid nb8
 clear nb2 nb7 nb8 nkeep
 have HB7 := Lib.hid nbel
 clear nbel HB4
 obtain ⟨x20, x21, x22, x23, z20, z21, z22, z23⟩ := b2.out.cz4
 have x70 : W6.cell? ⟨W3.heap.size, 0, none⟩ = some (.bool true) := (b7.out).cell 0
 have z70 : W6.frozen? ⟨W3.heap.size, 0, none⟩ = false := (b7.out).frozen 0
 have x80 : W6.cell? ⟨W3.heap.size + 1, 0, none⟩ = some (.bool true) := (b8.out).cell 0
 have z80 : W6.frozen? ⟨W3.heap.size + 1, 0, none⟩ = false := (b8.out).frozen 0
 have szb := HB7.out.size
 have s2 := b2.out.lt
 have s7 := b7.out.lt
 have s8 := b8.out.lt
 have h78 : Hid (W3.heap.size ≠ W3.heap.size + 1) := by show _ ≠ _; omega
 go_wp2_with fail
 refine (part_any ⟨N.toArray⟩ _ _ _ _ _ b7.out b8.out h78.out (by have := HLN.out; show N.toArray.size ≤ 1000000; rw [List.size_toArray]; omega)).mono ?_
 rintro e W8 ⟨v, rfl, hv, h7n, h8n, hbt⟩
 have hk_ := hbt.keep b7.out b8.out
 replace b2 := Lib.hid (hbt.bx b2.out (by omega) (by omega))
 have nbel := hbt.below HB7.out (by omega) (by omega) HB7.out.size
 clear hbt hk_ b7 b8
 rw [show (true && (errOf (⟨N.toArray⟩ : ByteArray).data.toList != 3)) = a7 from HA7.out] at h7n
 rw [show (true && (errOf (⟨N.toArray⟩ : ByteArray).data.toList != 6)) = a8 from HA8.out] at h8n
 have b7 := Lib.hid h7n
 have b8 := Lib.hid h8n
 clear h7n h8n
 have HB9 := Lib.hid nbel
 clear nbel HB7 x20 x21 x22 x23 z20 z21 z22 z23 x70 z70 x80 z80 szb s2 s7 s8
 obtain ⟨x20, x21, x22, x23, z20, z21, z22, z23⟩ := b2.out.cz4
 have x70 : W8.cell? ⟨W3.heap.size, 0, none⟩ = some (.bool a7) := (b7.out).cell 0
 have z70 : W8.frozen? ⟨W3.heap.size, 0, none⟩ = false := (b7.out).frozen 0
 have x80 : W8.cell? ⟨W3.heap.size + 1, 0, none⟩ = some (.bool a8) := (b8.out).cell 0
 have z80 : W8.frozen? ⟨W3.heap.size + 1, 0, none⟩ = false := (b8.out).frozen 0
 have szb := HB9.out.size
 have s2 := b2.out.lt
 have s7 := b7.out.lt
 have s8 := b8.out.lt
 obtain ⟨k1, A1, l1, c1, rfl⟩ := hv.open
 have HV1 := Lib.hid hv
 clear hv
 go_wp2_with fail
 refine (of_fact (n := 1) (by decide) (by decide)).mono ?_
 rintro e W10 ⟨v, rfl, hv, hb⟩
 replace b2 := hup b2 hb
 replace b7 := hup b7 hb
 replace b8 := hup b8 hb
 replace HV1 := Lib.hid (HV1.out.kept (Keep.ofBelow hb))
 have nbel := below_then HB9.out hb HB9.out.size
 have HB11 := Lib.hid nbel
 clear nbel HB9 hb x20 x21 x22 x23 z20 z21 z22 z23 x70 z70 x80 z80 szb s2 s7 s8
 obtain ⟨x20, x21, x22, x23, z20, z21, z22, z23⟩ := b2.out.cz4
 have x70 : W10.cell? ⟨W3.heap.size, 0, none⟩ = some (.bool a7) := (b7.out).cell 0
 have z70 : W10.frozen? ⟨W3.heap.size, 0, none⟩ = false := (b7.out).frozen 0
 have x80 : W10.cell? ⟨W3.heap.size + 1, 0, none⟩ = some (.bool a8) := (b8.out).cell 0
 have z80 : W10.frozen? ⟨W3.heap.size + 1, 0, none⟩ = false := (b8.out).frozen 0
 have szb := HB11.out.size
 have s2 := b2.out.lt
 have s7 := b7.out.lt
 have s8 := b8.out.lt
 obtain ⟨k2, A2, l2, c2, rfl⟩ := hv.open
 have HO := Lib.hid hv
 clear hv
 go_upto_region 5 with (fail)
 have q12 := b2.out.lt
 have q13 := b7.out.lt
 have q14 := b8.out.lt
 change Code.wp Tryz.prog _ _ _ ((W10.alloc (.cells #[.bool k1, .slice A1 l1 c1] 25)).alloc (.cells #[.bool k2, .slice A2 l2 c2] 25))
 obtain ⟨nb10, nb11, na⟩ := new2 W10 25 [.bool k1, .slice A1 l1 c1] 25 [.bool k2, .slice A2 l2 c2] lf2 lf2
 have nb2 := b2.out.up na
 have nb7 := b7.out.up na
 have nb8 := b8.out.up na
 have nkeep := Keep.ofBelow na
 have nbel := below_then HB11.out na HB11.out.size
 generalize (W10.alloc (.cells #[.bool k1, .slice A1 l1 c1] 25)).alloc (.cells #[.bool k2, .slice A2 l2 c2] 25) = W15 at *
 clear na x20 x21 x22 x23 z20 z21 z22 z23 x70 z70 x80 z80 szb s2 s7 s8 b2 b7 b8
 have b2 := Lib.hid nb2
 have b7 := Lib.hid nb7
 have b8 := Lib.hid nb8
 have b10 := Lib.hid nb10
 have b11 := Lib.hid nb11
 clear nb2 nb7 nb8 nb10 nb11
 replace HV1 := Lib.hid (HV1.out.kept nkeep)
 replace HO := Lib.hid (HO.out.kept nkeep)
 clear nkeep
 have HB16 := Lib.hid nbel
 clear nbel HB11
 obtain ⟨x20, x21, x22, x23, z20, z21, z22, z23⟩ := b2.out.cz4
 have x70 : W15.cell? ⟨W3.heap.size, 0, none⟩ = some (.bool a7) := (b7.out).cell 0
 have z70 : W15.frozen? ⟨W3.heap.size, 0, none⟩ = false := (b7.out).frozen 0
 have x80 : W15.cell? ⟨W3.heap.size + 1, 0, none⟩ = some (.bool a8) := (b8.out).cell 0
 have z80 : W15.frozen? ⟨W3.heap.size + 1, 0, none⟩ = false := (b8.out).frozen 0
 obtain ⟨x100, x101, s10⟩ := b10.out.d2
 obtain ⟨x110, x111, z110, z111, s11⟩ := b11.out.e2
 have szb := HB16.out.size
 have s2 := b2.out.lt
 have s7 := b7.out.lt
 have s8 := b8.out.lt
 go_wp2_with fail
 refine (part_any ⟨D.toArray⟩ _ _ _ _ _ b7.out b8.out h78.out (by have := HLN.out; show D.toArray.size ≤ 1000000; rw [List.size_toArray]; omega)).mono ?_
 rintro e W17 ⟨v, rfl, hv, h7n, h8n, hbt⟩
 have hk_ := hbt.keep b7.out b8.out
 replace b2 := Lib.hid (hbt.bx b2.out (by omega) (by omega))
 replace b10 := Lib.hid (hbt.bx b10.out (by omega) (by omega))
 replace b11 := Lib.hid (hbt.bx b11.out (by omega) (by omega))
 replace HV1 := Lib.hid (HV1.out.kept hk_)
 replace HO := Lib.hid (HO.out.kept hk_)
 have nbel := hbt.below HB16.out (by omega) (by omega) HB16.out.size
 clear hbt hk_ b7 b8
 rw [show (a7 && (errOf (⟨D.toArray⟩ : ByteArray).data.toList != 3)) = true from HE7.out] at h7n
 rw [show (a8 && (errOf (⟨D.toArray⟩ : ByteArray).data.toList != 6)) = true from HE8.out] at h8n
 have b7 := Lib.hid h7n
 have b8 := Lib.hid h8n
 clear h7n h8n
 have HB18 := Lib.hid nbel
 clear nbel HB16 x20 x21 x22 x23 z20 z21 z22 z23 x70 z70 x80 z80 x100 x101 x110 x111 z110 z111 szb s2 s7 s8 s10 s11
 obtain ⟨x20, x21, x22, x23, z20, z21, z22, z23⟩ := b2.out.cz4
 have x70 : W17.cell? ⟨W3.heap.size, 0, none⟩ = some (.bool true) := (b7.out).cell 0
 have z70 : W17.frozen? ⟨W3.heap.size, 0, none⟩ = false := (b7.out).frozen 0
 have x80 : W17.cell? ⟨W3.heap.size + 1, 0, none⟩ = some (.bool true) := (b8.out).cell 0
 have z80 : W17.frozen? ⟨W3.heap.size + 1, 0, none⟩ = false := (b8.out).frozen 0
 obtain ⟨x100, x101, s10⟩ := b10.out.d2
 obtain ⟨x110, x111, z110, z111, s11⟩ := b11.out.e2
 have szb := HB18.out.size
 have s2 := b2.out.lt
 have s7 := b7.out.lt
 have s8 := b8.out.lt
 obtain ⟨k3, A3, l3, c3, rfl⟩ := hv.open
 have HV3 := Lib.hid hv
 clear hv
 go_upto_region 7 with (fail)
 change Code.wp Tryz.prog _ _ _ ((W17.setCell ⟨W10.heap.size + 1, 0, none⟩ (.bool k3)).setCell ⟨W10.heap.size + 1, 1, none⟩ (.slice A3 l3 c3))
 have nb2 : Bx 27 ((W17.setCell ⟨W10.heap.size + 1, 0, none⟩ (.bool k3)).setCell ⟨W10.heap.size + 1, 1, none⟩ (.slice A3 l3 c3)) w.heap.size [.bool false, .slice none 0 0, .bool false, .slice none 0 0] := (Bx.far2 (g' := W10.heap.size + 1) b2.out (by omega) (.bool k3) (.slice A3 l3 c3))
 have nb7 : Bx 4 ((W17.setCell ⟨W10.heap.size + 1, 0, none⟩ (.bool k3)).setCell ⟨W10.heap.size + 1, 1, none⟩ (.slice A3 l3 c3)) W3.heap.size [.bool true] := (Bx.far2 (g' := W10.heap.size + 1) b7.out (by omega) (.bool k3) (.slice A3 l3 c3))
 have nb8 : Bx 4 ((W17.setCell ⟨W10.heap.size + 1, 0, none⟩ (.bool k3)).setCell ⟨W10.heap.size + 1, 1, none⟩ (.slice A3 l3 c3)) (W3.heap.size + 1) [.bool true] := (Bx.far2 (g' := W10.heap.size + 1) b8.out (by omega) (.bool k3) (.slice A3 l3 c3))
 have nb10 : Bx 25 ((W17.setCell ⟨W10.heap.size + 1, 0, none⟩ (.bool k3)).setCell ⟨W10.heap.size + 1, 1, none⟩ (.slice A3 l3 c3)) W10.heap.size [.bool k1, .slice A1 l1 c1] := (Bx.far2 (g' := W10.heap.size + 1) b10.out (by omega) (.bool k3) (.slice A3 l3 c3))
 have nb11 : Bx 25 ((W17.setCell ⟨W10.heap.size + 1, 0, none⟩ (.bool k3)).setCell ⟨W10.heap.size + 1, 1, none⟩ (.slice A3 l3 c3)) (W10.heap.size + 1) [.bool k3, .slice A3 l3 c3] := (Bx.set2 b11.out (Leaf.bool k3) (Leaf.slice A3 l3 c3))
 have nkeep := (Keep.set2 (Keep.refl W17) b11.out (Leaf.bool k3) (Leaf.slice A3 l3 c3))
 have nbel : Below w.heap.size w ((W17.setCell ⟨W10.heap.size + 1, 0, none⟩ (.bool k3)).setCell ⟨W10.heap.size + 1, 1, none⟩ (.slice A3 l3 c3)) := (Below.set2 (g := W10.heap.size + 1) HB18.out (by first | omega | (simp; done) | (simp; omega)) (.bool k3) (.slice A3 l3 c3))
 generalize (W17.setCell ⟨W10.heap.size + 1, 0, none⟩ (.bool k3)).setCell ⟨W10.heap.size + 1, 1, none⟩ (.slice A3 l3 c3) = W19 at *
 clear x20 x21 x22 x23 z20 z21 z22 z23 x70 z70 x80 z80 x100 x101 x110 x111 z110 z111 szb s2 s7 s8 s10 s11 b2 b7 b8 b10 b11
 have b2 := Lib.hid nb2
 have b7 := Lib.hid nb7
 have b8 := Lib.hid nb8
 have b10 := Lib.hid nb10
 have b11 := Lib.hid nb11
 clear nb2 nb7 nb8 nb10 nb11
 replace HV1 := Lib.hid (HV1.out.kept nkeep)
 replace HO := Lib.hid (HO.out.kept nkeep)
 replace HV3 := Lib.hid (HV3.out.kept nkeep)
 clear nkeep
 have HB20 := Lib.hid nbel
 clear nbel HB18
 obtain ⟨x20, x21, x22, x23, z20, z21, z22, z23⟩ := b2.out.cz4
 have x70 : W19.cell? ⟨W3.heap.size, 0, none⟩ = some (.bool true) := (b7.out).cell 0
 have z70 : W19.frozen? ⟨W3.heap.size, 0, none⟩ = false := (b7.out).frozen 0
 have x80 : W19.cell? ⟨W3.heap.size + 1, 0, none⟩ = some (.bool true) := (b8.out).cell 0
 have z80 : W19.frozen? ⟨W3.heap.size + 1, 0, none⟩ = false := (b8.out).frozen 0
 obtain ⟨x100, x101, s10⟩ := b10.out.d2
 obtain ⟨x110, x111, z110, z111, s11⟩ := b11.out.e2
 have szb := HB20.out.size
 have s2 := b2.out.lt
 have s7 := b7.out.lt
 have s8 := b8.out.lt
 go_wp2_with fail
 refine (HLOW.out _).mono ?_
 rintro e W21 ⟨rfl, hb⟩
 replace b2 := hup b2 hb
 replace b7 := hup b7 hb
 replace b8 := hup b8 hb
 replace b10 := hup b10 hb
 replace b11 := hup b11 hb
 replace HV1 := Lib.hid (HV1.out.kept (Keep.ofBelow hb))
 replace HO := Lib.hid (HO.out.kept (Keep.ofBelow hb))
 replace HV3 := Lib.hid (HV3.out.kept (Keep.ofBelow hb))
 have nbel := below_then HB20.out hb HB20.out.size
 have HB22 := Lib.hid nbel
 clear nbel HB20 hb x20 x21 x22 x23 z20 z21 z22 z23 x70 z70 x80 z80 x100 x101 x110 x111 z110 z111 szb s2 s7 s8 s10 s11
 obtain ⟨x20, x21, x22, x23, z20, z21, z22, z23⟩ := b2.out.cz4
 have x70 : W21.cell? ⟨W3.heap.size, 0, none⟩ = some (.bool true) := (b7.out).cell 0
 have z70 : W21.frozen? ⟨W3.heap.size, 0, none⟩ = false := (b7.out).frozen 0
 have x80 : W21.cell? ⟨W3.heap.size + 1, 0, none⟩ = some (.bool true) := (b8.out).cell 0
 have z80 : W21.frozen? ⟨W3.heap.size + 1, 0, none⟩ = false := (b8.out).frozen 0
 obtain ⟨x100, x101, s10⟩ := b10.out.d2
 obtain ⟨x110, x111, z110, z111, s11⟩ := b11.out.e2
 have szb := HB22.out.size
 have s2 := b2.out.lt
 have s7 := b7.out.lt
 have s8 := b8.out.lt
 rw [HLB.out]
 go_wp2_with fail
 have hkeep := (Keep.set4 (Keep.refl W21) b2.out (Leaf.bool k1) (Leaf.slice A1 l1 c1) (Leaf.bool k3) (Leaf.slice A3 l3 c3))
 have hbel := (Below.set4 (g := w.heap.size) HB22.out (by first | omega | (simp; done) | (simp; omega)) (.bool k1) (.slice A1 l1 c1) (.bool k3) (.slice A3 l3 c3))
 refine bodyPost_ret (v := .tuple #[.agg #[.bool k1, .slice A1 l1 c1, .bool k3, .slice A3 l3 c3], .int .i64 0]) (by simp [results, Tryz.results14, go_sem, x20, x21, x22, x23]) rfl ⟨_, rfl, ⟨_, _, _, _, _, _, _, _, rfl, HV1.out.kept hkeep, HV3.out.kept hkeep⟩, hbel⟩
def rpartsFL (n : Nat) (g : Nat) : List (Nat × AS.Fact) := [(8, AS.Fact.is (.pointer (some ⟨g, 0, none⟩))), (9, AS.Fact.ref (0) n), (10, AS.Fact.ref (1) 5)]
set_option maxRecDepth 20000 in
set_option maxHeartbeats 3200000 in
theorem rparts_fact {x : Rat} {n : Nat} {v : Value} {w : World} (h : RRat x n v w) (hn : 5 ≤ n) :
  Calls Tryz.prog 68 #[v] w fun e w' => ∃ (k : Bool) (A : Option Addr) (l c : Nat) (k' : Bool) (A' : Option Addr) (l' c' : Nat), e = .returned (.tuple #[.agg #[.bool k, .slice A l c], .agg #[.bool k', .slice A' l' c']]) ∧ PRef x.num n (.agg #[.bool k, .slice A l c]) w' ∧ PRef x.den n (.agg #[.bool k', .slice A' l' c']) w' ∧ Below w.heap.size w w' := by
 obtain ⟨k, A, l, c, k', A', l', c', rfl⟩ := h.open
 obtain ⟨p, q, h1, h2, h3⟩ := h.parts
 have H1 := Lib.hid h1
 have H2 := Lib.hid h2
 clear h h1 h2
 go_enter Tryz.func68, Tryz.ntmps68
 go_upto_region 1 with (fail)
 change Code.wp Tryz.prog _ _ _ (((w.alloc (.cells #[.bool k, .slice A l c, .bool k', .slice A' l' c'] 35)).alloc (.cells #[.bool false, .slice none 0 0] 33)).alloc (.cells #[.bool false, .slice none 0 0] 33))
 obtain ⟨nb1, nb2, nb3, na⟩ := new3 w 35 [.bool k, .slice A l c, .bool k', .slice A' l' c'] 33 [.bool false, .slice none 0 0] 33 [.bool false, .slice none 0 0] lf4 lf2 lf2
 have nkeep := Keep.ofBelow na
 have nbel := na
 generalize ((w.alloc (.cells #[.bool k, .slice A l c, .bool k', .slice A' l' c'] 35)).alloc (.cells #[.bool false, .slice none 0 0] 33)).alloc (.cells #[.bool false, .slice none 0 0] 33) = W1 at *
 clear na
 have b1 := Lib.hid nb1
 have b2 := Lib.hid nb2
 have b3 := Lib.hid nb3
 clear nb1 nb2 nb3
 replace H1 := Lib.hid (H1.out.kept nkeep)
 replace H2 := Lib.hid (H2.out.kept nkeep)
 clear nkeep
 have HB2 := Lib.hid nbel
 clear nbel
 obtain ⟨x1_0, x1_1, x1_2, x1_3, s1⟩ := b1.out.d4
 obtain ⟨x2_0, x2_1, z2_0, z2_1, s2⟩ := b2.out.e2
 obtain ⟨x3_0, x3_1, z3_0, z3_1, s3⟩ := b3.out.e2
 have szb := HB2.out.size
 rcases h3 with ⟨rfl, rfl⟩ | ⟨rfl, rfl, rfl⟩
 ·have hc : cmpI (x.den : Int) 0 = 1 := by unfold cmpI; have := x.den_pos; rw [if_neg (by omega), if_neg (by omega)]
  go_wp2_with fail
  refine (rsign_is H2.out hc).mono ?_
  rintro e W3 ⟨rfl, hb⟩
  replace b1 := hup b1 hb
  replace b2 := hup b2 hb
  replace b3 := hup b3 hb
  replace H1 := Lib.hid (H1.out.kept (Keep.ofBelow hb))
  replace H2 := Lib.hid (H2.out.kept (Keep.ofBelow hb))
  have nbel := below_then HB2.out hb HB2.out.size
  have HB4 := Lib.hid nbel
  clear nbel HB2 hb x1_0 x1_1 x1_2 x1_3 x2_0 x2_1 z2_0 z2_1 x3_0 x3_1 z3_0 z3_1 szb s1 s2 s3
  obtain ⟨x1_0, x1_1, x1_2, x1_3, s1⟩ := b1.out.d4
  obtain ⟨x2_0, x2_1, z2_0, z2_1, s2⟩ := b2.out.e2
  obtain ⟨x3_0, x3_1, z3_0, z3_1, s3⟩ := b3.out.e2
  have szb := HB4.out.size
  go_wp2
  go_region
  go_wp2
  have hkeep := (Keep.drew (Keep.set (Keep.set (Keep.set2 (Keep.refl W3) b2.out (Leaf.bool k) (Leaf.slice A l c)) (Bx.far2 (g' := w.heap.size + 1) b3.out (by omega) (.bool k) (.slice A l c)) 0 (Leaf.bool k')) (Bx.set (Bx.far2 (g' := w.heap.size + 1) b3.out (by omega) (.bool k) (.slice A l c)) 0 (Leaf.bool k')) 1 (Leaf.slice A' l' c')))
  have hbel := (below_drew (Below.setCell (p := ⟨w.heap.size + 1 + 1, 1, none⟩) (Below.setCell (p := ⟨w.heap.size + 1 + 1, 0, none⟩) (Below.set2 (g := w.heap.size + 1) HB4.out (by first | omega | (simp; done) | (simp; omega)) (.bool k) (.slice A l c)) (by first | omega | (simp; done) | (simp; omega)) (.bool k')) (by first | omega | (simp; done) | (simp; omega)) (.slice A' l' c')))
  refine bodyPost_ret (v := .tuple #[.agg #[.bool k, .slice A l c], .agg #[.bool k', .slice A' l' c']]) (by simp [results, Tryz.results68, go_sem, x2_0, x2_1, x3_0, x3_1]) rfl ⟨_, _, _, _, _, _, _, _, rfl, H1.out.kept hkeep, H2.out.kept hkeep, hbel⟩
 ·go_wp2_with fail
  refine (rsign_is H2.out (c := 0) (by decide)).mono ?_
  rintro e W3 ⟨rfl, hb⟩
  replace b1 := hup b1 hb
  replace b2 := hup b2 hb
  replace b3 := hup b3 hb
  replace H1 := Lib.hid (H1.out.kept (Keep.ofBelow hb))
  replace H2 := Lib.hid (H2.out.kept (Keep.ofBelow hb))
  have nbel := below_then HB2.out hb HB2.out.size
  have HB4 := Lib.hid nbel
  clear nbel HB2 hb x1_0 x1_1 x1_2 x1_3 x2_0 x2_1 z2_0 z2_1 x3_0 x3_1 z3_0 z3_1 szb s1 s2 s3
  obtain ⟨x1_0, x1_1, x1_2, x1_3, s1⟩ := b1.out.d4
  obtain ⟨x2_0, x2_1, z2_0, z2_1, s2⟩ := b2.out.e2
  obtain ⟨x3_0, x3_1, z3_0, z3_1, s3⟩ := b3.out.e2
  have szb := HB4.out.size
  go_upto_region 2 with (fail)
  refine AS.region_facts (rpartsFL n w.heap.size) (JRes2 w W3 33 33 (w.heap.size + 1) (w.heap.size + 1 + 1) [(35, w.heap.size, [.bool k, .slice A l c, .bool k', .slice A' l' c'])]) [[], [8], [], [9], [10]] [3, 4] [[], [9], [9, 10]] [2, 0, 2, 2, 2] [] (fun u => by simp only [rpartsFL, AS.temps, List.map_cons, List.map_nil, fillL, List.setIfInBounds_toArray, List.set_cons_zero, List.set_cons_succ]; rfl) (by kernel_rfl) (by kernel_rfl) (JRes2.st w W3 33 33 (w.heap.size + 1) (w.heap.size + 1 + 1) [(35, w.heap.size, [.bool k, .slice A l c, .bool k', .slice A' l' c'])]) (below_drew (Below.refl _ _)) ?_ ?_
  ·refine AS.sc rfl rfl rfl ?_ ?_
   ·intro k_ u w_ hk hJ hF K hK
    clear hF
    go_simp
    exact hK.out _ _ (Below.refl _ _) (rfl) trivial
   refine AS.sc rfl rfl rfl ?_ ?_
   ·intro k_ u w_ hk hJ hF K hK
    have h8 : u 8 = .pointer (some ⟨w.heap.size, 0, none⟩) := AS.facts_get hF 8 (by simp)
    clear hF
    simp only [h8] at hK ⊢
    clear h8
    obtain rfl : k_ = 0 := Nat.le_zero.1 hk
    have hJ0 : Below W3.heap.size W3 w_ := hJ
    obtain ⟨y0, y1, y2, y3⟩ := ((b1.out).up hJ0).c4
    go_simp
    exact hK.out _ _ (Below.refl _ _) ((H1.out).kept (Keep.ofBelow hJ0)) trivial
   refine AS.sc rfl rfl rfl ?_ ?_
   ·intro k_ u w_ hk hJ hF K hK
    clear hF
    go_simp
    refine (rof_fact (n := 1) (by decide) (by decide)).mono ?_
    rintro e w' ⟨v, rfl, hv, hb⟩
    exact hK.out _ _ hb (hv) trivial
   refine AS.ss rfl rfl ?_ ?_
   ·intro u w_ hJ hAp hF K hK
    have h9 : PRef (0) n (u 9) w_ := AS.facts_get hF 9 (by simp)
    clear hF
    obtain ⟨k1, A1, l1, c1, e_⟩ := h9.open
    have hJ0 : Below W3.heap.size W3 w_ := hJ
    have bx := (b2.out).up hJ0
    have hbel := below_then HB4.out hJ0 HB4.out.size
    have bx2 := (b3.out).up hJ0
    have ob1 := (b1.out).up hJ0
    have y0 := bx.cell 0
    have z0 := bx.frozen 0
    have y1 := bx.cell 1
    have z1 := bx.frozen 1
    simp only [List.getElem?_cons_zero, List.getElem?_cons_succ] at y0 y1
    have hob2 : ∀ b_ ∈ ([(35, w.heap.size, [.bool k, .slice A l c, .bool k', .slice A' l' c'])] : List (TypeId × Nat × List Value)), Bx b_.1 ((w_.setCell ⟨w.heap.size + 1, 0, none⟩ (.bool k1)).setCell ⟨w.heap.size + 1, 1, none⟩ (.slice A1 l1 c1)) b_.2.1 b_.2.2 := by
     intro b_ hb_
     simp only [List.mem_cons, List.not_mem_nil, or_false] at hb_
     rcases hb_ with rfl
     ·exact (Bx.far2 (g' := w.heap.size + 1) ob1 (show w.heap.size + 1 ≠ w.heap.size by omega) (.bool k1) (.slice A1 l1 c1))
    simp only [e_] at hK ⊢
    go_simp
    exact hK.out undef _ ⟨⟨(Below.setCell (p := ⟨w.heap.size + 1, 1, none⟩) (Below.setCell (p := ⟨w.heap.size + 1, 0, none⟩) hbel (by first | omega | (simp; done) | (simp; omega)) (.bool k1)) (by first | omega | (simp; done) | (simp; omega)) (.slice A1 l1 c1)), (by simp only [setCell_size]; first | exact hsz | exact Nat.le_trans HB4.out.size hJ0.size)⟩, hob2, ⟨[.bool k1, .slice A1 l1 c1], by simp [e_], (Bx.set2 bx (Leaf.bool k1) (Leaf.slice A1 l1 c1))⟩, _, _, (Bx.far2 (g' := w.heap.size + 1) bx2 (by omega) (.bool k1) (.slice A1 l1 c1))⟩ (Keep.set2 (Keep.refl w_) bx (Leaf.bool k1) (Leaf.slice A1 l1 c1))
   refine AS.ss rfl rfl ?_ ?_
   ·intro u w_ hJ hAp hF K hK
    have h10 : PRef (1) 5 (u 10) w_ := AS.facts_get hF 10 (by simp)
    clear hF
    obtain ⟨k1, A1, l1, c1, e_⟩ := h10.open
    obtain ⟨⟨hbel, hsz⟩, hob, ⟨vs, hvs, bx1⟩, x_, y_, bx⟩ := hJ
    have ob1 := hob (35, w.heap.size, [.bool k, .slice A l c, .bool k', .slice A' l' c']) (by simp)
    clear hob
    have y0 := bx.cell 0
    have z0 := bx.frozen 0
    have y1 := bx.cell 1
    have z1 := bx.frozen 1
    simp only [List.getElem?_cons_zero, List.getElem?_cons_succ] at y0 y1
    have hob2 : ∀ b_ ∈ ([(35, w.heap.size, [.bool k, .slice A l c, .bool k', .slice A' l' c'])] : List (TypeId × Nat × List Value)), Bx b_.1 ((w_.setCell ⟨w.heap.size + 1 + 1, 0, none⟩ (.bool k1)).setCell ⟨w.heap.size + 1 + 1, 1, none⟩ (.slice A1 l1 c1)) b_.2.1 b_.2.2 := by
     intro b_ hb_
     simp only [List.mem_cons, List.not_mem_nil, or_false] at hb_
     rcases hb_ with rfl
     ·exact (Bx.far2 (g' := w.heap.size + 1 + 1) ob1 (show w.heap.size + 1 + 1 ≠ w.heap.size by omega) (.bool k1) (.slice A1 l1 c1))
    simp only [e_] at hK ⊢
    go_simp
    exact hK.out undef _ ⟨⟨(Below.setCell (p := ⟨w.heap.size + 1 + 1, 1, none⟩) (Below.setCell (p := ⟨w.heap.size + 1 + 1, 0, none⟩) hbel (by first | omega | (simp; done) | (simp; omega)) (.bool k1)) (by first | omega | (simp; done) | (simp; omega)) (.slice A1 l1 c1)), (by simp only [setCell_size]; first | exact hsz | exact Nat.le_trans HB4.out.size hJ0.size)⟩, hob2, vs, [.bool k1, .slice A1 l1 c1], by simp [e_, List.cons.inj hvs], (Bx.far (g' := w.heap.size + 1 + 1) (Bx.far (g' := w.heap.size + 1 + 1) bx1 (by omega) 0 (.bool k1)) (by omega) 1 (.slice A1 l1 c1)), (Bx.set2 bx (Leaf.bool k1) (Leaf.slice A1 l1 c1))⟩ (Keep.set2 (Keep.refl w_) bx (Leaf.bool k1) (Leaf.slice A1 l1 c1))
   exact AS.StepsOk.nil
  ·intro u W5 hJ9 hF
   have h9 : PRef (0) n (u 9) W5 := AS.facts_get hF 9 (by simp [rpartsFL, AS.temps])
   have h10 : PRef (1) 5 (u 10) W5 := AS.facts_get hF 10 (by simp [rpartsFL, AS.temps])
   clear hF
   obtain ⟨⟨hbel, -⟩, -, vs, vs2, hvs, hbx, hbx2⟩ := hJ9
   obtain ⟨ka, Aa, la, ca, ea⟩ := h9.open
   obtain ⟨kb, Ab, lb, cb, eb⟩ := h10.open
   rw [ea] at h9
   rw [eb] at h10
   obtain rfl : vs = [.bool ka, .slice Aa la ca] := by
    have e1 := (List.cons.inj hvs).1
    rw [show u 9 = _ from ea] at e1
    have e2 := congrArg Array.toList (Value.agg.inj e1)
    simpa using e2.symm
   obtain rfl : vs2 = [.bool kb, .slice Ab lb cb] := by
    have e1 := (List.cons.inj (List.cons.inj hvs).2).1
    rw [show u 10 = _ from eb] at e1
    have e2 := congrArg Array.toList (Value.agg.inj e1)
    simpa using e2.symm
   have y0 := hbx.cell 0
   have z0 := hbx2.cell 0
   have y1 := hbx.cell 1
   have z1 := hbx2.cell 1
   simp only [List.getElem?_cons_zero, List.getElem?_cons_succ] at y0 y1 z0 z1
   go_wp2_with fail
   refine bodyPost_ret (v := .tuple #[.agg #[.bool ka, .slice Aa la ca], .agg #[.bool kb, .slice Ab lb cb]]) (by simp [results, Tryz.results68, go_sem, y0, y1, z0, z1]) rfl ⟨_, _, _, _, _, _, _, _, rfl, h9, h10.more hn, hbel⟩
theorem decDig_pos : ∀ (u : Nat), Lib.decDigits u ≠ [] := by
 intro u
 rw [Lib.decDigits]
 split <;> simp
theorem ofNat_dig {a b : Nat} (ha : a < 10) (hb : b < 10) (h : UInt8.ofNat (48 + a) = UInt8.ofNat (48 + b)) : a = b := by
 have := congrArg UInt8.toNat h
 simp at this
 omega
theorem decDig_inj : ∀ (u v : Nat), Lib.decDigits u = Lib.decDigits v → u = v := by
 intro u
 induction u using Nat.strongRecOn with
 | _ u ih =>
  intro v h
  rw [Lib.decDigits, Lib.decDigits.eq_def v] at h
  split at h
  ·rename_i hu
   split at h
   ·rename_i hv
    exact ofNat_dig hu hv (List.cons.inj h).1
   ·exfalso
    have h1 := congrArg List.length h
    have h2 := List.length_pos_iff.2 (decDig_pos (v / 10))
    rw [List.length_append, List.length_singleton, List.length_singleton] at h1
    omega
  ·rename_i hu
   split at h
   ·exfalso
    have h1 := congrArg List.length h
    have h2 := List.length_pos_iff.2 (decDig_pos (u / 10))
    rw [List.length_append, List.length_singleton, List.length_singleton] at h1
    omega
   ·obtain ⟨h1, h2⟩ := List.append_inj' h rfl
    have h3 := ih (u / 10) (by omega) _ h1
    have h4 := ofNat_dig (by omega) (by omega) (List.cons.inj h2).1
    omega
theorem decDig_ge : ∀ (u : Nat), ∀ c ∈ Lib.decDigits u, c ≠ 45 := by
 intro u
 induction u using Nat.strongRecOn with
 | _ u ih =>
  intro c hc
  rw [Lib.decDigits] at hc
  have hd : ∀ a : Nat, a < 10 → UInt8.ofNat (48 + a) ≠ 45 := by
   intro a ha h
   have := congrArg UInt8.toNat h
   simp at this
   omega
  split at hc
  ·rename_i hu
   rw [List.mem_singleton.1 hc]; exact hd u hu
  ·rcases List.mem_append.1 hc with h | h
   ·exact ih (u / 10) (by omega) c h
   ·rw [List.mem_singleton.1 h]; exact hd _ (by omega)
theorem decZ_inj {a b : Int} (h : decZ a = decZ b) : a = b := by
 unfold decZ decI at h
 have hh : ∀ (u v : Nat), [45] ++ Lib.decDigits u ≠ [] ++ Lib.decDigits v := by
  intro u v h
  have : (45 : UInt8) ∈ Lib.decDigits v := by
   have h2 : (45 : UInt8) ∈ [45] ++ Lib.decDigits u := by simp
   rw [h] at h2
   simpa using h2
  exact decDig_ge v _ this rfl
 by_cases ha : a < 0 <;> by_cases hb : b < 0
 ·simp [ha, hb] at h
  have := decDig_inj _ _ h
  omega
 ·simp only [ha, hb, decide_true, decide_false, Bool.false_eq_true, if_true, if_false] at h
  exact absurd h (hh _ _)
 ·simp only [ha, hb, decide_true, decide_false, Bool.false_eq_true, if_true, if_false] at h
  exact absurd h.symm (hh _ _)
 ·simp [ha, hb] at h
  have := decDig_inj _ _ h
  omega
set_option maxHeartbeats 3200000
set_option maxRecDepth 20000
theorem rtext_is {z : Int} {n : Nat} {a : Value} {w : World} {T : List UInt8} (h1 : PRef z n a w) (hn : n ≤ 1000000) (hT : decZ z = T) :
  Calls Tryz.prog 44 #[a] w fun e w' => e = .returned (.string ⟨T.toArray⟩) ∧ Below w.heap.size w w' := hT ▸ rtext_fact h1 hn
theorem rratText_int {x : Rat} {n : Nat} {v : Value} {w : World} (h : RRat x n v w) (hn5 : 5 ≤ n) (hn : n ≤ 10000) (hd : x.den = 1) (hT : decZ (x.den : Int) = [49]) :
  Calls Tryz.prog 64 #[v] w fun e w' => e = .returned (.string ⟨(ratText x).toArray⟩) ∧ Below w.heap.size w w' := by
 obtain ⟨k, A, l, c, k', A', l', c', rfl⟩ := h.open
 have H1 := Lib.hid h
 have HTT := Lib.hid hT
 clear h hT
 go_enter Tryz.func64, Tryz.ntmps64
 go_upto_region 1 with (fail)
 change Code.wp Tryz.prog _ _ _ (w.alloc (.cells #[.bool k, .slice A l c, .bool k', .slice A' l' c'] 35))
 obtain ⟨nb1, na⟩ := new1 w 35 [.bool k, .slice A l c, .bool k', .slice A' l' c'] lf4
 have nkeep := Keep.ofBelow na
 have nbel := na
 generalize w.alloc (.cells #[.bool k, .slice A l c, .bool k', .slice A' l' c'] 35) = W1 at *
 clear na
 have b1 := Lib.hid nb1
 clear nb1
 replace H1 := Lib.hid (H1.out.kept nkeep)
 clear nkeep
 have HB2 := Lib.hid nbel
 clear nbel
 obtain ⟨x10, x11, x12, x13, s1⟩ := b1.out.d4
 have szb := HB2.out.size
 go_wp2_with fail
 refine (rparts_fact H1.out hn5).mono ?_
 rintro e W3 ⟨k1, A1, l1, c1, j1, B1, o1, e1, rfl, ha_, hc_, hb⟩
 replace b1 := hup b1 hb
 replace H1 := Lib.hid (H1.out.kept (Keep.ofBelow hb))
 have nbel := below_then HB2.out hb HB2.out.size
 have HB4 := Lib.hid nbel
 clear nbel HB2 hb x10 x11 x12 x13 szb s1
 obtain ⟨x10, x11, x12, x13, s1⟩ := b1.out.d4
 have szb := HB4.out.size
 have HA := Lib.hid ha_
 have HB := Lib.hid hc_
 clear ha_ hc_
 go_upto_region 2 with (fail)
 have q5 := b1.out.lt
 change Code.wp Tryz.prog _ _ _ ((W3.alloc (.cells #[.bool k1, .slice A1 l1 c1] 33)).alloc (.cells #[.bool j1, .slice B1 o1 e1] 33))
 obtain ⟨nb3, nb4, na⟩ := new2 W3 33 [.bool k1, .slice A1 l1 c1] 33 [.bool j1, .slice B1 o1 e1] lf2 lf2
 have nb1 := b1.out.up na
 have nkeep := Keep.ofBelow na
 have nbel := below_then HB4.out na HB4.out.size
 generalize (W3.alloc (.cells #[.bool k1, .slice A1 l1 c1] 33)).alloc (.cells #[.bool j1, .slice B1 o1 e1] 33) = W6 at *
 clear na x10 x11 x12 x13 szb s1 b1
 have b1 := Lib.hid nb1
 have b3 := Lib.hid nb3
 have b4 := Lib.hid nb4
 clear nb1 nb3 nb4
 replace H1 := Lib.hid (H1.out.kept nkeep)
 replace HA := Lib.hid (HA.out.kept nkeep)
 replace HB := Lib.hid (HB.out.kept nkeep)
 clear nkeep
 have HB7 := Lib.hid nbel
 clear nbel HB4
 obtain ⟨x10, x11, x12, x13, s1⟩ := b1.out.d4
 obtain ⟨x30, x31, s3⟩ := b3.out.d2
 obtain ⟨x40, x41, s4⟩ := b4.out.d2
 have szb := HB7.out.size
 go_wp2_with fail
 refine (rtext_is HB.out (by omega) HTT.out).mono ?_
 rintro e W8 ⟨rfl, hb⟩
 replace b1 := hup b1 hb
 replace b3 := hup b3 hb
 replace b4 := hup b4 hb
 replace H1 := Lib.hid (H1.out.kept (Keep.ofBelow hb))
 replace HA := Lib.hid (HA.out.kept (Keep.ofBelow hb))
 replace HB := Lib.hid (HB.out.kept (Keep.ofBelow hb))
 have nbel := below_then HB7.out hb HB7.out.size
 have HB9 := Lib.hid nbel
 clear nbel HB7 hb x10 x11 x12 x13 x30 x31 x40 x41 szb s1 s3 s4
 obtain ⟨x10, x11, x12, x13, s1⟩ := b1.out.d4
 obtain ⟨x30, x31, s3⟩ := b3.out.d2
 obtain ⟨x40, x41, s4⟩ := b4.out.d2
 have szb := HB9.out.size
 go_wp2_with fail
 refine (rtext_fact HA.out (by omega)).mono ?_
 rintro e W10 ⟨rfl, hb⟩
 replace b1 := hup b1 hb
 replace b3 := hup b3 hb
 replace b4 := hup b4 hb
 replace H1 := Lib.hid (H1.out.kept (Keep.ofBelow hb))
 replace HA := Lib.hid (HA.out.kept (Keep.ofBelow hb))
 replace HB := Lib.hid (HB.out.kept (Keep.ofBelow hb))
 have nbel := below_then HB9.out hb HB9.out.size
 have HB11 := Lib.hid nbel
 clear nbel HB9 hb x10 x11 x12 x13 x30 x31 x40 x41 szb s1 s3 s4
 obtain ⟨x10, x11, x12, x13, s1⟩ := b1.out.d4
 obtain ⟨x30, x31, s3⟩ := b3.out.d2
 obtain ⟨x40, x41, s4⟩ := b4.out.d2
 have szb := HB11.out.size
 go_wp2_with fail
 have hkeep := (Keep.refl W10)
 have hbel := HB11.out
 refine bodyPost_ret (v := .string ⟨(decZ x.num).toArray⟩) (by simp [results, Tryz.results64, go_sem]) rfl ⟨by unfold ratText; rw [if_pos hd], hbel⟩
def rtextFL3 (x : Rat) (n : Nat) : List (Nat × AS.Fact) := [(15, AS.Fact.ref (x.num) n), (16, AS.Fact.is (.string ⟨(decZ (x.num)).toArray⟩)), (17, AS.Fact.is (.string ⟨(decZ x.num ++ [47]).toArray⟩)), (18, AS.Fact.ref ((x.den : Int)) n), (19, AS.Fact.is (.string ⟨(decZ ((x.den : Int))).toArray⟩)), (20, AS.Fact.is (.string ⟨(decZ x.num ++ 47 :: decZ (x.den : Int)).toArray⟩)), (2, AS.Fact.is (.string ⟨(decZ x.num ++ 47 :: decZ (x.den : Int)).toArray⟩))]
theorem rratText_quo {x : Rat} {n : Nat} {v : Value} {w : World} (h : RRat x n v w) (hn5 : 5 ≤ n) (hn : n ≤ 10000) (hd : x.den ≠ 1) {T : List UInt8} (hT : decZ (x.den : Int) = T) (hne : (T == [49]) = false) :
  Calls Tryz.prog 64 #[v] w fun e w' => e = .returned (.string ⟨(ratText x).toArray⟩) ∧ Below w.heap.size w w' := by
 obtain ⟨k, A, l, c, k', A', l', c', rfl⟩ := h.open
 have H1 := Lib.hid h
 have HTT := Lib.hid hT
 clear h hT
 go_enter Tryz.func64, Tryz.ntmps64
 go_upto_region 1 with (fail)
 change Code.wp Tryz.prog _ _ _ (w.alloc (.cells #[.bool k, .slice A l c, .bool k', .slice A' l' c'] 35))
 obtain ⟨nb1, na⟩ := new1 w 35 [.bool k, .slice A l c, .bool k', .slice A' l' c'] lf4
 have nkeep := Keep.ofBelow na
 have nbel := na
 generalize w.alloc (.cells #[.bool k, .slice A l c, .bool k', .slice A' l' c'] 35) = W1 at *
 clear na
 have b1 := Lib.hid nb1
 clear nb1
 replace H1 := Lib.hid (H1.out.kept nkeep)
 clear nkeep
 have HB2 := Lib.hid nbel
 clear nbel
 obtain ⟨x10, x11, x12, x13, s1⟩ := b1.out.d4
 have szb := HB2.out.size
 go_wp2_with fail
 refine (rparts_fact H1.out hn5).mono ?_
 rintro e W3 ⟨k1, A1, l1, c1, j1, B1, o1, e1, rfl, ha_, hc_, hb⟩
 replace b1 := hup b1 hb
 replace H1 := Lib.hid (H1.out.kept (Keep.ofBelow hb))
 have nbel := below_then HB2.out hb HB2.out.size
 have HB4 := Lib.hid nbel
 clear nbel HB2 hb x10 x11 x12 x13 szb s1
 obtain ⟨x10, x11, x12, x13, s1⟩ := b1.out.d4
 have szb := HB4.out.size
 have HA := Lib.hid ha_
 have HB := Lib.hid hc_
 clear ha_ hc_
 go_upto_region 2 with (fail)
 have q5 := b1.out.lt
 change Code.wp Tryz.prog _ _ _ ((W3.alloc (.cells #[.bool k1, .slice A1 l1 c1] 33)).alloc (.cells #[.bool j1, .slice B1 o1 e1] 33))
 obtain ⟨nb3, nb4, na⟩ := new2 W3 33 [.bool k1, .slice A1 l1 c1] 33 [.bool j1, .slice B1 o1 e1] lf2 lf2
 have nb1 := b1.out.up na
 have nkeep := Keep.ofBelow na
 have nbel := below_then HB4.out na HB4.out.size
 generalize (W3.alloc (.cells #[.bool k1, .slice A1 l1 c1] 33)).alloc (.cells #[.bool j1, .slice B1 o1 e1] 33) = W6 at *
 clear na x10 x11 x12 x13 szb s1 b1
 have b1 := Lib.hid nb1
 have b3 := Lib.hid nb3
 have b4 := Lib.hid nb4
 clear nb1 nb3 nb4
 replace H1 := Lib.hid (H1.out.kept nkeep)
 replace HA := Lib.hid (HA.out.kept nkeep)
 replace HB := Lib.hid (HB.out.kept nkeep)
 clear nkeep
 have HB7 := Lib.hid nbel
 clear nbel HB4
 obtain ⟨x10, x11, x12, x13, s1⟩ := b1.out.d4
 obtain ⟨x30, x31, s3⟩ := b3.out.d2
 obtain ⟨x40, x41, s4⟩ := b4.out.d2
 have szb := HB7.out.size
 go_wp2_with fail
 refine (rtext_is HB.out (by omega) HTT.out).mono ?_
 rintro e W8 ⟨rfl, hb⟩
 replace b1 := hup b1 hb
 replace b3 := hup b3 hb
 replace b4 := hup b4 hb
 replace H1 := Lib.hid (H1.out.kept (Keep.ofBelow hb))
 replace HA := Lib.hid (HA.out.kept (Keep.ofBelow hb))
 replace HB := Lib.hid (HB.out.kept (Keep.ofBelow hb))
 have nbel := below_then HB7.out hb HB7.out.size
 have HB9 := Lib.hid nbel
 clear nbel HB7 hb x10 x11 x12 x13 x30 x31 x40 x41 szb s1 s3 s4
 obtain ⟨x10, x11, x12, x13, s1⟩ := b1.out.d4
 obtain ⟨x30, x31, s3⟩ := b3.out.d2
 obtain ⟨x40, x41, s4⟩ := b4.out.d2
 have szb := HB9.out.size
 have HL1 := Lib.hid (decZ_lenR HA.out)
 have HL2 := Lib.hid (decZ_lenR HB.out)
 go_upto_region 4 with (fail)
 refine AS.region_facts (rtextFL3 x n) (JNo W8) [[], [15], [16], [], [18], [17, 19], [20]] [] [[]] [0, 0, 0, 0, 0, 0, 0] [] (fun u => by simp only [rtextFL3, AS.temps, List.map_cons, List.map_nil, fillL, List.setIfInBounds_toArray, List.set_cons_zero, List.set_cons_succ]; rfl) (by kernel_rfl) (by kernel_rfl) (JNo.st W8) (below_drew (Below.refl _ _)) ?_ ?_
 ·refine AS.sc rfl rfl rfl ?_ ?_
  ·intro k_ u w_ hk hJ hF K hK
   clear hF
   obtain rfl : k_ = 0 := Nat.le_zero.1 hk
   have hJ0 : Below W8.heap.size W8 w_ := hJ
   obtain ⟨y0, y1⟩ := ((b3.out).up hJ0).c2
   go_simp
   exact hK.out _ _ (Below.refl _ _) ((HA.out).kept (Keep.ofBelow hJ0)) trivial
  refine AS.sc rfl rfl rfl ?_ ?_
  ·intro k_ u w_ hk hJ hF K hK
   have h15 : PRef (x.num) n (u 15) w_ := AS.facts_get hF 15 (by simp)
   clear hF
   go_simp
   refine (rtext_fact h15 (by omega)).mono ?_
   rintro e w' ⟨rfl, hb⟩
   exact hK.out _ _ hb (rfl) trivial
  refine AS.sc rfl rfl rfl ?_ ?_
  ·intro k_ u w_ hk hJ hF K hK
   have h16 : u 16 = .string ⟨(decZ (x.num)).toArray⟩ := AS.facts_get hF 16 (by simp)
   clear hF
   simp only [h16] at hK ⊢
   clear h16
   have hz1 := run_string_add_lists (P := Tryz.prog) w_ (decZ x.num) [47] (by have := HL1.out; omega) (by simp)
   go_simp
   exact hK.out _ _ (Below.refl _ _) (rfl) trivial
  refine AS.sc rfl rfl rfl ?_ ?_
  ·intro k_ u w_ hk hJ hF K hK
   clear hF
   obtain rfl : k_ = 0 := Nat.le_zero.1 hk
   have hJ0 : Below W8.heap.size W8 w_ := hJ
   obtain ⟨y0, y1⟩ := ((b4.out).up hJ0).c2
   go_simp
   exact hK.out _ _ (Below.refl _ _) ((HB.out).kept (Keep.ofBelow hJ0)) trivial
  refine AS.sc rfl rfl rfl ?_ ?_
  ·intro k_ u w_ hk hJ hF K hK
   have h18 : PRef ((x.den : Int)) n (u 18) w_ := AS.facts_get hF 18 (by simp)
   clear hF
   go_simp
   refine (rtext_fact h18 (by omega)).mono ?_
   rintro e w' ⟨rfl, hb⟩
   exact hK.out _ _ hb (rfl) trivial
  refine AS.sc rfl rfl rfl ?_ ?_
  ·intro k_ u w_ hk hJ hF K hK
   have h17 : u 17 = .string ⟨(decZ x.num ++ [47]).toArray⟩ := AS.facts_get hF 17 (by simp)
   have h19 : u 19 = .string ⟨(decZ ((x.den : Int))).toArray⟩ := AS.facts_get hF 19 (by simp)
   clear hF
   simp only [h17, h19] at hK ⊢
   clear h17 h19
   have hz1 := run_string_add_lists (P := Tryz.prog) w_ (decZ x.num ++ [47]) (decZ (x.den : Int)) (by have := HL1.out; rw [List.length_append]; simp; omega) (by have := HL2.out; omega)
   go_simp
   exact hK.out _ _ (Below.refl _ _) (rfl) trivial
  refine AS.sc rfl rfl rfl ?_ ?_
  ·intro k_ u w_ hk hJ hF K hK
   have h20 : u 20 = .string ⟨(decZ x.num ++ 47 :: decZ (x.den : Int)).toArray⟩ := AS.facts_get hF 20 (by simp)
   clear hF
   simp only [h20] at hK ⊢
   clear h20
   go_simp
   exact hK.out _ _ (Below.refl _ _) (rfl) trivial
  exact AS.StepsOk.nil
 ·intro u W10 hJ9 hF
  have h2 : u 2 = .string ⟨(decZ x.num ++ 47 :: decZ (x.den : Int)).toArray⟩ := AS.facts_get hF 2 (by simp [rtextFL3, AS.temps])
  clear hF
  rw [show u 2 = _ from h2]
  clear h2
  replace b1 := hup b1 hJ9
  replace b3 := hup b3 hJ9
  replace b4 := hup b4 hJ9
  replace H1 := Lib.hid (H1.out.kept (Keep.ofBelow hJ9))
  replace HA := Lib.hid (HA.out.kept (Keep.ofBelow hJ9))
  replace HB := Lib.hid (HB.out.kept (Keep.ofBelow hJ9))
  have nbel := below_then HB9.out hJ9 HB9.out.size
  have HB11 := Lib.hid nbel
  clear nbel HB9 hJ9 x10 x11 x12 x13 x30 x31 x40 x41 szb s1 s3 s4
  obtain ⟨x10, x11, x12, x13, s1⟩ := b1.out.d4
  obtain ⟨x30, x31, s3⟩ := b3.out.d2
  obtain ⟨x40, x41, s4⟩ := b4.out.d2
  have szb := HB11.out.size
  go_wp2_with fail
  have hkeep := (Keep.refl W10)
  have hbel := HB11.out
  refine bodyPost_ret (v := .string ⟨(decZ x.num ++ 47 :: decZ (x.den : Int)).toArray⟩) (by simp [results, Tryz.results64, go_sem]) rfl ⟨by unfold ratText; rw [if_neg hd], hbel⟩
theorem rratText_fact {x : Rat} {n : Nat} {v : Value} {w : World} (h : RRat x n v w) (hn5 : 5 ≤ n) (hn : n ≤ 10000) :
  Calls Tryz.prog 64 #[v] w fun e w' => e = .returned (.string ⟨(ratText x).toArray⟩) ∧ Below w.heap.size w w' := by
 have h1 : decZ 1 = [49] := by decide +kernel
 by_cases hd : x.den = 1
 ·exact rratText_int h hn5 hn hd (by rw [hd]; exact h1)
 ·refine rratText_quo h hn5 hn hd rfl ?_
  simp only [beq_eq_false_iff_ne, ne_eq]
  intro h2
  rw [← h1] at h2
  have := decZ_inj h2
  omega
end Go.Proofs.YtgihmikeapbpkaaGreatDoor
