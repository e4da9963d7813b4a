/- Contracts of the functions that the statements reach, part 6: what was proved of each, callees first. -/
import Derived.Test.YtodapfhnbgoanaaGreatDoorZK5
namespace Go.Proofs.YtodapfhnbgoanaaGreatDoor
open Go.RowKit
open AS (Keep NoInt)
theorem quo_fact {x y : Int} {n m : Nat} {a b : Value} {w : World} (h1 : PInt x n a w) (h2 : PInt y m b w) (hn : n ≤ 380000) (hm : m ≤ 380000) (hy : y ≠ 0) :
  Calls Tryz.prog 54 #[a, b] w fun e w' => ∃ (k : Bool) (A : Option Addr) (l c : Nat) (k' : Bool) (A' : Option Addr) (l' c' : Nat), e = .returned (.tuple #[.agg #[.bool k, .slice A l c], .agg #[.bool k', .slice A' l' c'], .int .i64 0]) ∧
   PInt (Int.tdiv x y) (n + 1) (.agg #[.bool k, .slice A l c]) w' ∧ PInt (Int.tmod x y) (n + 1) (.agg #[.bool k', .slice A' l' c']) w' ∧ Below w.heap.size w w' := by
 obtain ⟨k, A, c, L, rfl, i1, rfl, l1⟩ := h1
 obtain ⟨k2, A2, c2, L2, rfl, i2, rfl, l2⟩ := h2
 have hpos : 0 < List.length L2 := by
  rcases Nat.eq_zero_or_pos (List.length L2) with h | h
  ·exfalso; apply hy; unfold zI; rw [val9_nil h]; simp
  ·exact h
 refine (quoRem_pos k k2 A A2 c c2 L L2 w (by omega) (by omega) hpos i1 i2).mono ?_
 rintro e w' ⟨k5, A5, c5, Q, k6, A6, c6, R, rfl, hi5, hi6, hz5, hz6, hl5, hl6, hb⟩
 exact ⟨_, _, _, _, _, _, _, _, rfl, ⟨k5, A5, c5, Q, rfl, hi5, hz5, by omega⟩, ⟨k6, A6, c6, R, rfl, hi6, hz6, by omega⟩, hb⟩
set_option maxRecDepth 20000 in
set_option maxHeartbeats 3200000 in
theorem red_fact {p q : Int} {n : Nat} {k : Bool} {A : Option Addr} {l c : Nat} {k' : Bool} {A' : Option Addr} {l' c' : Nat} {w : World} (h1 : PInt p n (.agg #[.bool k, .slice A l c]) w) (h2 : PInt q n (.agg #[.bool k', .slice A' l' c']) w) (hn : n ≤ 100000) (hq : q ≠ 0) :
  Calls Tryz.prog 33 #[.agg #[.bool k, .slice A l c, .bool k', .slice A' l' c']] w fun e w' => ∃ v, e = .returned v ∧ PRat (Rat.divInt p q) (n + 1) v w' ∧ Below w.heap.size w w' := by
 have H1 := Lib.hid h1
 have H2 := Lib.hid h2
 clear h1 h2
 go_enter Tryz.func33, Tryz.ntmps33
 go_upto_region 1 with (fail)
 change Code.wp Tryz.prog _ _ _ ((w.alloc (.cells #[.bool k, .slice A l c, .bool k', .slice A' l' c'] 27)).alloc (.cells #[.bool false, .slice none 0 0, .bool false, .slice none 0 0] 27))
 obtain ⟨nb1, nb2, na⟩ := new2 w 27 [.bool k, .slice A l c, .bool k', .slice A' l' c'] 27 [.bool false, .slice none 0 0, .bool false, .slice none 0 0] lf4 lf4
 have nkeep := Keep.ofBelow na
 have nbel := na
 generalize (w.alloc (.cells #[.bool k, .slice A l c, .bool k', .slice A' l' c'] 27)).alloc (.cells #[.bool false, .slice none 0 0, .bool false, .slice none 0 0] 27) = W1 at *
 clear na
 have b1 := Lib.hid nb1
 have b2 := Lib.hid nb2
 clear nb1 nb2
 replace H1 := Lib.hid (H1.out.kept nkeep)
 replace H2 := Lib.hid (H2.out.kept nkeep)
 clear nkeep
 have HB2 := Lib.hid nbel
 clear nbel
 obtain ⟨x10, x11, x12, x13, s1⟩ := b1.out.d4
 obtain ⟨x20, x21, x22, x23, s2⟩ := b2.out.d4
 have szb := HB2.out.size
 go_wp2_with fail
 refine (gcd_fact H1.out H2.out (by omega) (by omega)).mono ?_
 rintro e W3 ⟨v1, rfl, hv1, hb⟩
 replace b1 := hup b1 hb
 replace b2 := hup b2 hb
 replace H1 := Lib.hid (H1.out.kept (Keep.ofBelow hb))
 replace H2 := Lib.hid (H2.out.kept (Keep.ofBelow hb))
 have nbel := below_then HB2.out hb HB2.out.size
 have HB4 := Lib.hid nbel
 clear nbel HB2 hb x10 x11 x12 x13 x20 x21 x22 x23 szb s1 s2
 obtain ⟨x10, x11, x12, x13, s1⟩ := b1.out.d4
 obtain ⟨x20, x21, x22, x23, s2⟩ := b2.out.d4
 have szb := HB4.out.size
 obtain ⟨k1, A1, l1, c1, rfl⟩ := hv1.open
 have HV1 := Lib.hid hv1
 clear hv1
 go_upto_region 2 with (fail)
 have q5 := b1.out.lt
 have q6 := b2.out.lt
 change Code.wp Tryz.prog _ _ _ (W3.alloc (.cells #[.bool k1, .slice A1 l1 c1] 25))
 obtain ⟨nb3, na⟩ := new1 W3 25 [.bool k1, .slice A1 l1 c1] lf2
 have nb1 := b1.out.up na
 have nb2 := b2.out.up na
 have nkeep := Keep.ofBelow na
 have nbel := below_then HB4.out na HB4.out.size
 generalize W3.alloc (.cells #[.bool k1, .slice A1 l1 c1] 25) = W7 at *
 clear na x10 x11 x12 x13 x20 x21 x22 x23 szb s1 s2 b1 b2
 have b1 := Lib.hid nb1
 have b2 := Lib.hid nb2
 have b3 := Lib.hid nb3
 clear nb1 nb2 nb3
 replace H1 := Lib.hid (H1.out.kept nkeep)
 replace H2 := Lib.hid (H2.out.kept nkeep)
 replace HV1 := Lib.hid (HV1.out.kept nkeep)
 clear nkeep
 have HB8 := Lib.hid nbel
 clear nbel HB4
 obtain ⟨x10, x11, x12, x13, s1⟩ := b1.out.d4
 obtain ⟨x20, x21, x22, x23, s2⟩ := b2.out.d4
 obtain ⟨x30, x31, s3⟩ := b3.out.d2
 have szb := HB8.out.size
 rcases Int.lt_trichotomy q 0 with hlt | hlt | hlt
 ·have hc : cmpI q 0 = -1 := by unfold cmpI; rw [if_pos hlt]
  have hne : -(Int.gcd p q : Int) ≠ 0 := by have := Int.gcd_ne_zero_right (a := p) hq; omega
  go_wp2_with fail
  refine (sign_is H2.out hc).mono ?_
  rintro e W9 ⟨rfl, hb⟩
  replace b1 := hup b1 hb
  replace b2 := hup b2 hb
  replace b3 := hup b3 hb
  replace H1 := Lib.hid (H1.out.kept (Keep.ofBelow hb))
  replace H2 := Lib.hid (H2.out.kept (Keep.ofBelow hb))
  replace HV1 := Lib.hid (HV1.out.kept (Keep.ofBelow hb))
  have nbel := below_then HB8.out hb HB8.out.size
  have HB10 := Lib.hid nbel
  clear nbel HB8 hb x10 x11 x12 x13 x20 x21 x22 x23 x30 x31 szb s1 s2 s3
  obtain ⟨x10, x11, x12, x13, s1⟩ := b1.out.d4
  obtain ⟨x20, x21, x22, x23, s2⟩ := b2.out.d4
  obtain ⟨x30, x31, z30, z31, s3⟩ := b3.out.e2
  have szb := HB10.out.size
  go_wp2_with fail
  refine (neg_fact HV1.out (by omega)).mono ?_
  rintro e W11 ⟨v2, rfl, hv2, hb⟩
  replace b1 := hup b1 hb
  replace b2 := hup b2 hb
  replace b3 := hup b3 hb
  replace H1 := Lib.hid (H1.out.kept (Keep.ofBelow hb))
  replace H2 := Lib.hid (H2.out.kept (Keep.ofBelow hb))
  replace HV1 := Lib.hid (HV1.out.kept (Keep.ofBelow hb))
  have nbel := below_then HB10.out hb HB10.out.size
  have HB12 := Lib.hid nbel
  clear nbel HB10 hb x10 x11 x12 x13 x20 x21 x22 x23 x30 x31 z30 z31 szb s1 s2 s3
  obtain ⟨x10, x11, x12, x13, s1⟩ := b1.out.d4
  obtain ⟨x20, x21, x22, x23, s2⟩ := b2.out.d4
  obtain ⟨x30, x31, z30, z31, s3⟩ := b3.out.e2
  have szb := HB12.out.size
  obtain ⟨k2, A2, l2, c2, rfl⟩ := hv2.open
  have HV2 := Lib.hid hv2
  clear hv2
  go_upto_region 4 with (fail)
  change Code.wp Tryz.prog _ _ _ ((W11.setCell ⟨W3.heap.size, 0, none⟩ (.bool k2)).setCell ⟨W3.heap.size, 1, none⟩ (.slice A2 l2 c2))
  have nb1 : Bx 27 ((W11.setCell ⟨W3.heap.size, 0, none⟩ (.bool k2)).setCell ⟨W3.heap.size, 1, none⟩ (.slice A2 l2 c2)) w.heap.size [.bool k, .slice A l c, .bool k', .slice A' l' c'] := (Bx.far2 (g' := W3.heap.size) b1.out (by omega) (.bool k2) (.slice A2 l2 c2))
  have nb2 : Bx 27 ((W11.setCell ⟨W3.heap.size, 0, none⟩ (.bool k2)).setCell ⟨W3.heap.size, 1, none⟩ (.slice A2 l2 c2)) (w.heap.size + 1) [.bool false, .slice none 0 0, .bool false, .slice none 0 0] := (Bx.far2 (g' := W3.heap.size) b2.out (by omega) (.bool k2) (.slice A2 l2 c2))
  have nb3 : Bx 25 ((W11.setCell ⟨W3.heap.size, 0, none⟩ (.bool k2)).setCell ⟨W3.heap.size, 1, none⟩ (.slice A2 l2 c2)) W3.heap.size [.bool k2, .slice A2 l2 c2] := (Bx.set2 b3.out (Leaf.bool k2) (Leaf.slice A2 l2 c2))
  have nkeep := (Keep.set2 (Keep.refl W11) b3.out (Leaf.bool k2) (Leaf.slice A2 l2 c2))
  have nbel : Below w.heap.size w ((W11.setCell ⟨W3.heap.size, 0, none⟩ (.bool k2)).setCell ⟨W3.heap.size, 1, none⟩ (.slice A2 l2 c2)) := (Below.set2 (g := W3.heap.size) HB12.out (by first | omega | (simp; done) | (simp; omega)) (.bool k2) (.slice A2 l2 c2))
  generalize (W11.setCell ⟨W3.heap.size, 0, none⟩ (.bool k2)).setCell ⟨W3.heap.size, 1, none⟩ (.slice A2 l2 c2) = W13 at *
  clear x10 x11 x12 x13 x20 x21 x22 x23 x30 x31 z30 z31 szb s1 s2 s3 b1 b2 b3
  have b1 := Lib.hid nb1
  have b2 := Lib.hid nb2
  have b3 := Lib.hid nb3
  clear nb1 nb2 nb3
  replace H1 := Lib.hid (H1.out.kept nkeep)
  replace H2 := Lib.hid (H2.out.kept nkeep)
  replace HV1 := Lib.hid (HV1.out.kept nkeep)
  replace HV2 := Lib.hid (HV2.out.kept nkeep)
  clear nkeep
  have HB14 := Lib.hid nbel
  clear nbel HB12
  obtain ⟨x10, x11, x12, x13, s1⟩ := b1.out.d4
  obtain ⟨x20, x21, x22, x23, s2⟩ := b2.out.d4
  obtain ⟨x30, x31, z30, z31, s3⟩ := b3.out.e2
  have szb := HB14.out.size
  go_wp2_with fail
  refine (quo_fact H1.out HV2.out (by omega) (by omega) hne).mono ?_
  rintro e W15 ⟨k3, A3, l3, c3, k4, A4, l4, c4, rfl, hv3, hv4, hb⟩
  replace b1 := hup b1 hb
  replace b2 := hup b2 hb
  replace b3 := hup b3 hb
  replace H1 := Lib.hid (H1.out.kept (Keep.ofBelow hb))
  replace H2 := Lib.hid (H2.out.kept (Keep.ofBelow hb))
  replace HV1 := Lib.hid (HV1.out.kept (Keep.ofBelow hb))
  replace HV2 := Lib.hid (HV2.out.kept (Keep.ofBelow hb))
  have nbel := below_then HB14.out hb HB14.out.size
  have HB16 := Lib.hid nbel
  clear nbel HB14 hb x10 x11 x12 x13 x20 x21 x22 x23 x30 x31 z30 z31 szb s1 s2 s3
  obtain ⟨x10, x11, x12, x13, s1⟩ := b1.out.d4
  obtain ⟨x20, x21, x22, x23, s2⟩ := b2.out.d4
  obtain ⟨x30, x31, z30, z31, s3⟩ := b3.out.e2
  have szb := HB16.out.size
  have HV3 := Lib.hid hv3
  clear hv3 hv4
  go_upto_region 5 with (fail)
  have q17 := b1.out.lt
  have q18 := b2.out.lt
  have q19 := b3.out.lt
  change Code.wp Tryz.prog _ _ _ ((W15.alloc (.cells #[.bool k3, .slice A3 l3 c3] 25)).alloc (.cells #[.bool k4, .slice A4 l4 c4] 25))
  obtain ⟨nb4, nb5, na⟩ := new2 W15 25 [.bool k3, .slice A3 l3 c3] 25 [.bool k4, .slice A4 l4 c4] lf2 lf2
  have nb1 := b1.out.up na
  have nb2 := b2.out.up na
  have nb3 := b3.out.up na
  have nkeep := Keep.ofBelow na
  have nbel := below_then HB16.out na HB16.out.size
  generalize (W15.alloc (.cells #[.bool k3, .slice A3 l3 c3] 25)).alloc (.cells #[.bool k4, .slice A4 l4 c4] 25) = W20 at *
  clear na x10 x11 x12 x13 x20 x21 x22 x23 x30 x31 z30 z31 szb s1 s2 s3 b1 b2 b3
  have b1 := Lib.hid nb1
  have b2 := Lib.hid nb2
  have b3 := Lib.hid nb3
  have b4 := Lib.hid nb4
  have b5 := Lib.hid nb5
  clear nb1 nb2 nb3 nb4 nb5
  replace H1 := Lib.hid (H1.out.kept nkeep)
  replace H2 := Lib.hid (H2.out.kept nkeep)
  replace HV1 := Lib.hid (HV1.out.kept nkeep)
  replace HV2 := Lib.hid (HV2.out.kept nkeep)
  replace HV3 := Lib.hid (HV3.out.kept nkeep)
  clear nkeep
  have HB21 := Lib.hid nbel
  clear nbel HB16
  obtain ⟨x10, x11, x12, x13, s1⟩ := b1.out.d4
  obtain ⟨x20, x21, x22, x23, s2⟩ := b2.out.d4
  obtain ⟨x30, x31, z30, z31, s3⟩ := b3.out.e2
  obtain ⟨x40, x41, s4⟩ := b4.out.d2
  obtain ⟨x50, x51, s5⟩ := b5.out.d2
  have szb := HB21.out.size
  go_wp2_with fail
  refine (quo_fact H2.out HV2.out (by omega) (by omega) hne).mono ?_
  rintro e W22 ⟨k5, A5, l5, c5, k6, A6, l6, c6, rfl, hv5, hv6, hb⟩
  replace b1 := hup b1 hb
  replace b2 := hup b2 hb
  replace b3 := hup b3 hb
  replace b4 := hup b4 hb
  replace b5 := hup b5 hb
  replace H1 := Lib.hid (H1.out.kept (Keep.ofBelow hb))
  replace H2 := Lib.hid (H2.out.kept (Keep.ofBelow hb))
  replace HV1 := Lib.hid (HV1.out.kept (Keep.ofBelow hb))
  replace HV2 := Lib.hid (HV2.out.kept (Keep.ofBelow hb))
  replace HV3 := Lib.hid (HV3.out.kept (Keep.ofBelow hb))
  have nbel := below_then HB21.out hb HB21.out.size
  have HB23 := Lib.hid nbel
  clear nbel HB21 hb x10 x11 x12 x13 x20 x21 x22 x23 x30 x31 z30 z31 x40 x41 x50 x51 szb s1 s2 s3 s4 s5
  obtain ⟨x10, x11, x12, x13, s1⟩ := b1.out.d4
  obtain ⟨x20, x21, x22, x23, s2⟩ := b2.out.d4
  obtain ⟨x30, x31, z30, z31, s3⟩ := b3.out.e2
  obtain ⟨x40, x41, s4⟩ := b4.out.d2
  obtain ⟨x50, x51, s5⟩ := b5.out.d2
  have szb := HB23.out.size
  have HV5 := Lib.hid hv5
  clear hv5 hv6
  go_upto_region 6 with (fail)
  have q24 := b1.out.lt
  have q25 := b2.out.lt
  have q26 := b3.out.lt
  have q27 := b4.out.lt
  have q28 := b5.out.lt
  change Code.wp Tryz.prog _ _ _ ((W22.alloc (.cells #[.bool k5, .slice A5 l5 c5] 25)).alloc (.cells #[.bool k6, .slice A6 l6 c6] 25))
  obtain ⟨nb7, nb8, na⟩ := new2 W22 25 [.bool k5, .slice A5 l5 c5] 25 [.bool k6, .slice A6 l6 c6] lf2 lf2
  have nb1 := b1.out.up na
  have nb2 := b2.out.up na
  have nb3 := b3.out.up na
  have nb4 := b4.out.up na
  have nb5 := b5.out.up na
  have nkeep := Keep.ofBelow na
  have nbel := below_then HB23.out na HB23.out.size
  generalize (W22.alloc (.cells #[.bool k5, .slice A5 l5 c5] 25)).alloc (.cells #[.bool k6, .slice A6 l6 c6] 25) = W29 at *
  clear na x10 x11 x12 x13 x20 x21 x22 x23 x30 x31 z30 z31 x40 x41 x50 x51 szb s1 s2 s3 s4 s5 b1 b2 b3 b4 b5
  have b1 := Lib.hid nb1
  have b2 := Lib.hid nb2
  have b3 := Lib.hid nb3
  have b4 := Lib.hid nb4
  have b5 := Lib.hid nb5
  have b7 := Lib.hid nb7
  have b8 := Lib.hid nb8
  clear nb1 nb2 nb3 nb4 nb5 nb7 nb8
  replace H1 := Lib.hid (H1.out.kept nkeep)
  replace H2 := Lib.hid (H2.out.kept nkeep)
  replace HV1 := Lib.hid (HV1.out.kept nkeep)
  replace HV2 := Lib.hid (HV2.out.kept nkeep)
  replace HV3 := Lib.hid (HV3.out.kept nkeep)
  replace HV5 := Lib.hid (HV5.out.kept nkeep)
  clear nkeep
  have HB30 := Lib.hid nbel
  clear nbel HB23
  obtain ⟨x10, x11, x12, x13, s1⟩ := b1.out.d4
  obtain ⟨x20, x21, x22, x23, z20, z21, z22, z23, s2⟩ := b2.out.e4
  obtain ⟨x30, x31, z30, z31, s3⟩ := b3.out.e2
  obtain ⟨x40, x41, s4⟩ := b4.out.d2
  obtain ⟨x50, x51, s5⟩ := b5.out.d2
  obtain ⟨x70, x71, s7⟩ := b7.out.d2
  obtain ⟨x80, x81, s8⟩ := b8.out.d2
  have szb := HB30.out.size
  go_wp2_with fail
  have hkeep := (Keep.set4 (Keep.refl W29) b2.out (Leaf.bool k3) (Leaf.slice A3 l3 c3) (Leaf.bool k5) (Leaf.slice A5 l5 c5))
  have hbel := (Below.set4 (g := w.heap.size + 1) HB30.out (by first | omega | (simp; done) | (simp; omega)) (.bool k3) (.slice A3 l3 c3) (.bool k5) (.slice A5 l5 c5))
  refine bodyPost_ret (v := .agg #[.bool k3, .slice A3 l3 c3, .bool k5, .slice A5 l5 c5]) (by simp [results, Tryz.results33, go_sem, x20, x21, x22, x23]) rfl ⟨_, rfl, PRat.mk (HV3.out.kept hkeep) (HV5.out.kept hkeep) (by rw [← red_num hq]; unfold divr; rw [if_pos (by omega)]) (by rw [← red_den hq]; unfold divr; rw [if_pos (by omega)]), hbel⟩
 ·exact absurd hlt hq
 ·have hc : cmpI q 0 = 1 := by unfold cmpI; rw [if_neg (by omega), if_neg (by omega)]
  have hne : (Int.gcd p q : Int) ≠ 0 := by have := Int.gcd_ne_zero_right (a := p) hq; omega
  go_wp2_with fail
  refine (sign_is H2.out hc).mono ?_
  rintro e W9 ⟨rfl, hb⟩
  replace b1 := hup b1 hb
  replace b2 := hup b2 hb
  replace b3 := hup b3 hb
  replace H1 := Lib.hid (H1.out.kept (Keep.ofBelow hb))
  replace H2 := Lib.hid (H2.out.kept (Keep.ofBelow hb))
  replace HV1 := Lib.hid (HV1.out.kept (Keep.ofBelow hb))
  have nbel := below_then HB8.out hb HB8.out.size
  have HB10 := Lib.hid nbel
  clear nbel HB8 hb x10 x11 x12 x13 x20 x21 x22 x23 x30 x31 szb s1 s2 s3
  obtain ⟨x10, x11, x12, x13, s1⟩ := b1.out.d4
  obtain ⟨x20, x21, x22, x23, s2⟩ := b2.out.d4
  obtain ⟨x30, x31, z30, z31, s3⟩ := b3.out.e2
  have szb := HB10.out.size
  go_wp2_with fail
  refine (quo_fact H1.out HV1.out (by omega) (by omega) hne).mono ?_
  rintro e W11 ⟨k3, A3, l3, c3, k4, A4, l4, c4, rfl, hv3, hv4, hb⟩
  replace b1 := hup b1 hb
  replace b2 := hup b2 hb
  replace b3 := hup b3 hb
  replace H1 := Lib.hid (H1.out.kept (Keep.ofBelow hb))
  replace H2 := Lib.hid (H2.out.kept (Keep.ofBelow hb))
  replace HV1 := Lib.hid (HV1.out.kept (Keep.ofBelow hb))
  have nbel := below_then HB10.out hb HB10.out.size
  have HB12 := Lib.hid nbel
  clear nbel HB10 hb x10 x11 x12 x13 x20 x21 x22 x23 x30 x31 z30 z31 szb s1 s2 s3
  obtain ⟨x10, x11, x12, x13, s1⟩ := b1.out.d4
  obtain ⟨x20, x21, x22, x23, s2⟩ := b2.out.d4
  obtain ⟨x30, x31, z30, z31, s3⟩ := b3.out.e2
  have szb := HB12.out.size
  have HV3 := Lib.hid hv3
  clear hv3 hv4
  go_upto_region 5 with (fail)
  have q13 := b1.out.lt
  have q14 := b2.out.lt
  have q15 := b3.out.lt
  change Code.wp Tryz.prog _ _ _ ((W11.alloc (.cells #[.bool k3, .slice A3 l3 c3] 25)).alloc (.cells #[.bool k4, .slice A4 l4 c4] 25))
  obtain ⟨nb4, nb5, na⟩ := new2 W11 25 [.bool k3, .slice A3 l3 c3] 25 [.bool k4, .slice A4 l4 c4] lf2 lf2
  have nb1 := b1.out.up na
  have nb2 := b2.out.up na
  have nb3 := b3.out.up na
  have nkeep := Keep.ofBelow na
  have nbel := below_then HB12.out na HB12.out.size
  generalize (W11.alloc (.cells #[.bool k3, .slice A3 l3 c3] 25)).alloc (.cells #[.bool k4, .slice A4 l4 c4] 25) = W16 at *
  clear na x10 x11 x12 x13 x20 x21 x22 x23 x30 x31 z30 z31 szb s1 s2 s3 b1 b2 b3
  have b1 := Lib.hid nb1
  have b2 := Lib.hid nb2
  have b3 := Lib.hid nb3
  have b4 := Lib.hid nb4
  have b5 := Lib.hid nb5
  clear nb1 nb2 nb3 nb4 nb5
  replace H1 := Lib.hid (H1.out.kept nkeep)
  replace H2 := Lib.hid (H2.out.kept nkeep)
  replace HV1 := Lib.hid (HV1.out.kept nkeep)
  replace HV3 := Lib.hid (HV3.out.kept nkeep)
  clear nkeep
  have HB17 := Lib.hid nbel
  clear nbel HB12
  obtain ⟨x10, x11, x12, x13, s1⟩ := b1.out.d4
  obtain ⟨x20, x21, x22, x23, s2⟩ := b2.out.d4
  obtain ⟨x30, x31, z30, z31, s3⟩ := b3.out.e2
  obtain ⟨x40, x41, s4⟩ := b4.out.d2
  obtain ⟨x50, x51, s5⟩ := b5.out.d2
  have szb := HB17.out.size
  go_wp2_with fail
  refine (quo_fact H2.out HV1.out (by omega) (by omega) hne).mono ?_
  rintro e W18 ⟨k5, A5, l5, c5, k6, A6, l6, c6, rfl, hv5, hv6, hb⟩
  replace b1 := hup b1 hb
  replace b2 := hup b2 hb
  replace b3 := hup b3 hb
  replace b4 := hup b4 hb
  replace b5 := hup b5 hb
  replace H1 := Lib.hid (H1.out.kept (Keep.ofBelow hb))
  replace H2 := Lib.hid (H2.out.kept (Keep.ofBelow hb))
  replace HV1 := Lib.hid (HV1.out.kept (Keep.ofBelow hb))
  replace HV3 := Lib.hid (HV3.out.kept (Keep.ofBelow hb))
  have nbel := below_then HB17.out hb HB17.out.size
  have HB19 := Lib.hid nbel
  clear nbel HB17 hb x10 x11 x12 x13 x20 x21 x22 x23 x30 x31 z30 z31 x40 x41 x50 x51 szb s1 s2 s3 s4 s5
  obtain ⟨x10, x11, x12, x13, s1⟩ := b1.out.d4
  obtain ⟨x20, x21, x22, x23, s2⟩ := b2.out.d4
  obtain ⟨x30, x31, z30, z31, s3⟩ := b3.out.e2
  obtain ⟨x40, x41, s4⟩ := b4.out.d2
  obtain ⟨x50, x51, s5⟩ := b5.out.d2
  have szb := HB19.out.size
  have HV5 := Lib.hid hv5
  clear hv5 hv6
  go_upto_region 6 with (fail)
  have q20 := b1.out.lt
  have q21 := b2.out.lt
  have q22 := b3.out.lt
  have q23 := b4.out.lt
  have q24 := b5.out.lt
  change Code.wp Tryz.prog _ _ _ ((W18.alloc (.cells #[.bool k5, .slice A5 l5 c5] 25)).alloc (.cells #[.bool k6, .slice A6 l6 c6] 25))
  obtain ⟨nb7, nb8, na⟩ := new2 W18 25 [.bool k5, .slice A5 l5 c5] 25 [.bool k6, .slice A6 l6 c6] lf2 lf2
  have nb1 := b1.out.up na
  have nb2 := b2.out.up na
  have nb3 := b3.out.up na
  have nb4 := b4.out.up na
  have nb5 := b5.out.up na
  have nkeep := Keep.ofBelow na
  have nbel := below_then HB19.out na HB19.out.size
  generalize (W18.alloc (.cells #[.bool k5, .slice A5 l5 c5] 25)).alloc (.cells #[.bool k6, .slice A6 l6 c6] 25) = W25 at *
  clear na x10 x11 x12 x13 x20 x21 x22 x23 x30 x31 z30 z31 x40 x41 x50 x51 szb s1 s2 s3 s4 s5 b1 b2 b3 b4 b5
  have b1 := Lib.hid nb1
  have b2 := Lib.hid nb2
  have b3 := Lib.hid nb3
  have b4 := Lib.hid nb4
  have b5 := Lib.hid nb5
  have b7 := Lib.hid nb7
  have b8 := Lib.hid nb8
  clear nb1 nb2 nb3 nb4 nb5 nb7 nb8
  replace H1 := Lib.hid (H1.out.kept nkeep)
  replace H2 := Lib.hid (H2.out.kept nkeep)
  replace HV1 := Lib.hid (HV1.out.kept nkeep)
  replace HV3 := Lib.hid (HV3.out.kept nkeep)
  replace HV5 := Lib.hid (HV5.out.kept nkeep)
  clear nkeep
  have HB26 := Lib.hid nbel
  clear nbel HB19
  obtain ⟨x10, x11, x12, x13, s1⟩ := b1.out.d4
  obtain ⟨x20, x21, x22, x23, z20, z21, z22, z23, s2⟩ := b2.out.e4
  obtain ⟨x30, x31, z30, z31, s3⟩ := b3.out.e2
  obtain ⟨x40, x41, s4⟩ := b4.out.d2
  obtain ⟨x50, x51, s5⟩ := b5.out.d2
  obtain ⟨x70, x71, s7⟩ := b7.out.d2
  obtain ⟨x80, x81, s8⟩ := b8.out.d2
  have szb := HB26.out.size
  go_wp2_with fail
  have hkeep := (Keep.set4 (Keep.refl W25) b2.out (Leaf.bool k3) (Leaf.slice A3 l3 c3) (Leaf.bool k5) (Leaf.slice A5 l5 c5))
  have hbel := (Below.set4 (g := w.heap.size + 1) HB26.out (by first | omega | (simp; done) | (simp; omega)) (.bool k3) (.slice A3 l3 c3) (.bool k5) (.slice A5 l5 c5))
  refine bodyPost_ret (v := .agg #[.bool k3, .slice A3 l3 c3, .bool k5, .slice A5 l5 c5]) (by simp [results, Tryz.results33, go_sem, x20, x21, x22, x23]) rfl ⟨_, rfl, PRat.mk (HV3.out.kept hkeep) (HV5.out.kept hkeep) (by rw [← red_num hq]; unfold divr; rw [if_neg (by omega)]) (by rw [← red_den hq]; unfold divr; rw [if_neg (by omega)]), hbel⟩
def remZ (x y : Int) : Int := if y = 0 then 0 else Int.tmod x y
def errZ (y : Int) : Int := if y = 0 then 10 else 0
def QrPost (x y : Int) (l : Nat) (w : World) (e : Ending) (w' : World) : Prop := ∃ k1 A1 c1 Q k2 A2 c2 R, e = .returned (.tuple #[.agg #[.bool k1, .slice A1 (List.length Q) c1], .agg #[.bool k2, .slice A2 (List.length R) c2], .int .i64 (errZ y)]) ∧
 IntR w' w'.heap.size k1 A1 c1 Q ∧ IntR w' w'.heap.size k2 A2 c2 R ∧ zI k1 Q = Int.tdiv x y ∧ zI k2 R = remZ x y ∧ List.length Q ≤ l ∧ List.length R ≤ l + 1 ∧ Below w.heap.size w w'
theorem quoRem_all (n m : Bool) (A A' : Option Addr) (c c' : Nat) (L M : List Nat) (w : World) (hl : L.length ≤ 100000) (hml : M.length ≤ 100000) (hL : IntR w w.heap.size n A c L) (hM : IntR w w.heap.size m A' c' M) :
  Calls Tryz.prog 54 #[.agg #[.bool n, .slice A L.length c], .agg #[.bool m, .slice A' M.length c']] w (QrPost (zI n L) (zI m M) L.length w) := by
 rcases Nat.eq_zero_or_pos M.length with h0 | h0
 ·have : M = [] := List.eq_nil_of_length_eq_zero h0
  subst this
  have hm : m = false := by
   cases m
   ·rfl
   ·exact absurd rfl (hM.sgn rfl)
  subst hm
  have hz : zI false [] = 0 := rfl
  refine (quoRem_zero n false A A' c c' L w).mono fun e w' ⟨he, hb⟩ => ?_
  refine ⟨false, none, 0, [], false, none, 0, [], ?_, IntR.zero _ _ _ _, IntR.zero _ _ _ _, ?_, ?_, Nat.zero_le _, Nat.zero_le _, hb⟩
  ·rw [he, hz]; rfl
  ·rw [hz, Int.tdiv_zero]
  ·rw [hz]; rfl
 ·have hy : zI m M ≠ 0 := by
   have := canon_pos hM.canon h0
   unfold zI
   cases m <;> simp only [Bool.false_eq_true, if_false, if_true] <;> omega
  refine (quoRem_pos n m A A' c c' L M w (by omega) (by omega) h0 hL hM).mono fun e w' ⟨k1, A1, c1, Q, k2, A2, c2, R, he, h1, h2, h3, h4, h5, h6, h7⟩ => ?_
  refine ⟨k1, A1, c1, Q, k2, A2, c2, R, ?_, h1, h2, h3, ?_, h5, h6, h7⟩
  ·rw [he, errZ, if_neg hy]
  ·rw [h4, remZ, if_neg hy]
def decZ (z : Int) : List UInt8 := decI (decide (z < 0)) z.natAbs
theorem decZ_I {w : World} {B : Nat} {n : Bool} {A : Option Addr} {c : Nat} {L : List Nat} (h : IntR w B n A c L) : decI n (val9 L) = decZ (zI n L) := by
 have h1 : n = true → 0 < val9 L := fun h0 => Nat.pos_of_ne_zero (canon_pos h.canon (List.length_pos_iff.2 (h.sgn h0)))
 unfold decZ
 rw [zI_natAbs]
 congr 1
 unfold zI
 cases n
 ·symm; simp
 ·have := h1 rfl
  symm; simp; omega
theorem decZ_R {w : World} {B : Nat} {n : Bool} {A : Option Addr} {c : Nat} {L : List Nat} (h : RefR w B n A c L) : decI n (val4 L) = decZ (zR n L) := by
 have h1 : n = true → 0 < val4 L := fun h0 => Nat.pos_of_ne_zero (ref_pos h (List.length_pos_iff.2 (h.sgn h0)))
 unfold decZ
 have h2 : (zR n L).natAbs = val4 L := by unfold zR; split <;> simp
 rw [h2]
 congr 1
 unfold zR
 cases n
 ·symm; simp
 ·have := h1 rfl
  symm; simp; omega
theorem text_fact {z : Int} {n : Nat} {a : Value} {w : World} (h1 : PInt z n a w) (hn : n ≤ 100000) (ht : Tab w.heap.size w) :
  Calls Tryz.prog 26 #[a] w fun e w' => e = .returned (.string ⟨(decZ z).toArray⟩) ∧ Below w.heap.size w w' := by
 obtain ⟨k, A, c, L, rfl, i1, rfl, l1⟩ := h1
 have h := text_any k A c L w (by omega) i1.canon i1.sgn i1.row ht
 rw [show decI k (valB 1000000000 L) = decZ (zI k L) from decZ_I i1] at h
 exact h
theorem rtext_fact {z : Int} {n : Nat} {a : Value} {w : World} (h1 : PRef z n a w) (hn : n ≤ 1000000) :
  Calls Tryz.prog 44 #[a] w fun e w' => e = .returned (.string ⟨(decZ z).toArray⟩) ∧ Below w.heap.size w w' := by
 obtain ⟨k, A, c, L, rfl, i1, rfl, l1⟩ := h1
 have h := rtext_any k A c L w (by omega) i1
 rw [show decI k (valB 10000 L) = decZ (zR k L) from decZ_R i1] at h
 exact h
theorem of_fact {n : Int} {w : World} (h1 : -9223372036854775808 ≤ n) (h2 : n ≤ 9223372036854775807) :
  Calls Tryz.prog 16 #[.int .i64 n] w fun e w' => ∃ v, e = .returned v ∧ PInt n 3 v w' ∧ Below w.heap.size w w' := by
 refine (of_any n w h1 h2).mono ?_
 rintro e w' ⟨k, A, c, rfl, hi, hz, hb⟩
 exact ⟨_, rfl, ⟨k, A, c, _, rfl, hi, hz, limbsN_len _ (by omega)⟩, hb⟩
theorem rsign_fact {x : Int} {n : Nat} {a : Value} {w : World} (h1 : PRef x n a w) :
  Calls Tryz.prog 19 #[a] w fun e w' => e = .returned (.int .i64 (cmpI x 0)) ∧ Below w.heap.size w w' := by
 obtain ⟨k, A, c, L, rfl, i1, rfl, l1⟩ := h1
 have h : sgnI k L = cmpI (zR k L) 0 := by
  have h2 := fun h0 => ref_pos i1 h0
  unfold sgnI zR cmpI
  cases k
  ·rcases Nat.eq_zero_or_pos L.length with h0 | h0
   ·have : L = [] := List.eq_nil_of_length_eq_zero h0
    subst this; simp [val4, valB]
   ·have h3 : valB 10000 L ≠ 0 := h2 h0
    have h4 : ¬ ((val4 L : Int) < 0) := by omega
    have h5 : ¬ ((val4 L : Int) = 0) := by show ¬ ((valB 10000 L : Int) = 0); omega
    simp only [Bool.false_eq_true, if_false]
    rw [if_neg (by omega), if_neg h4, if_neg h5]
  ·have h3 : valB 10000 L ≠ 0 := h2 (List.length_pos_iff.2 (i1.sgn rfl))
   have h4 : -(val4 L : Int) < 0 := by show -(valB 10000 L : Int) < 0; omega
   simp only [if_true]
   rw [if_pos h4]
 rw [← h]
 exact rsign_any k A c L w i1.sgn
theorem rsign_is {x c : Int} {n : Nat} {a : Value} {w : World} (h1 : PRef x n a w) (hc : cmpI x 0 = c) :
  Calls Tryz.prog 19 #[a] w fun e w' => e = .returned (.int .i64 c) ∧ Below w.heap.size w w' := hc ▸ rsign_fact h1
theorem rneg_fact {x : Int} {n : Nat} {a : Value} {w : World} (h1 : PRef x n a w) (hn : n ≤ 500000) :
  Calls Tryz.prog 72 #[a] w fun e w' => ∃ v, e = .returned v ∧ PRef (-x) n v w' ∧ Below w.heap.size w w' := by
 obtain ⟨k, A, c, L, rfl, i1, rfl, l1⟩ := h1
 refine (rneg_any k A c L w (by omega) i1).mono ?_
 rintro e w' ⟨q, B, d, rfl, hi, hz, hb⟩
 exact ⟨_, rfl, ⟨q, B, d, L, rfl, hi, hz, by omega⟩, hb⟩
theorem rmul_fact {x y : Int} {n m : Nat} {a b : Value} {w : World} (h1 : PRef x n a w) (h2 : PRef y m b w) (hn : n ≤ 500000) (hm : m ≤ 500000) :
  Calls Tryz.prog 70 #[a, b] w fun e w' => ∃ v, e = .returned v ∧ PRef (x * y) (n + m) v w' ∧ Below w.heap.size w w' := by
 obtain ⟨k, A, c, L, rfl, i1, rfl, l1⟩ := h1
 obtain ⟨k', A', c', M, rfl, i2, rfl, l2⟩ := h2
 refine (rmulI_any k k' A A' c c' L M w (by omega) (by omega) i1 i2).mono ?_
 rintro e w' ⟨q, B, d, R, rfl, hi, hz, hl, hb⟩
 exact ⟨_, rfl, ⟨q, B, d, R, rfl, hi, hz, by omega⟩, hb⟩
theorem radd_fact {x y : Int} {n m : Nat} {a b : Value} {w : World} (h1 : PRef x n a w) (h2 : PRef y m b w) (hn : n ≤ 500000) (hm : m ≤ 500000) :
  Calls Tryz.prog 71 #[a, b] w fun e w' => ∃ v, e = .returned v ∧ PRef (x + y) (n + m + 1) v w' ∧ Below w.heap.size w w' := by
 obtain ⟨k, A, c, L, rfl, i1, rfl, l1⟩ := h1
 obtain ⟨k', A', c', M, rfl, i2, rfl, l2⟩ := h2
 refine (raddI_any k k' A A' c c' L M w (by omega) (by omega) i1 i2).mono ?_
 rintro e w' ⟨q, B, d, R, rfl, hi, hz, hl, hb⟩
 exact ⟨_, rfl, ⟨q, B, d, R, rfl, hi, hz, by omega⟩, hb⟩
theorem rquo_fact {x y : Int} {n m : Nat} {a b : Value} {w : World} (h1 : PRef x n a w) (h2 : PRef y m b w) (hn : n ≤ 100000) (hm : m ≤ 100000) (hy : y ≠ 0) :
  Calls Tryz.prog 73 #[a, b] w fun e w' => ∃ (k : Bool) (A : Option Addr) (l c : Nat) (k' : Bool) (A' : Option Addr) (l' c' : Nat), e = .returned (.tuple #[.agg #[.bool k, .slice A l c], .agg #[.bool k', .slice A' l' c'], .int .i64 0]) ∧
   PRef (Int.tdiv x y) n (.agg #[.bool k, .slice A l c]) w' ∧ Below w.heap.size w w' := by
 obtain ⟨k, A, c, L, rfl, i1, rfl, l1⟩ := h1
 obtain ⟨k2, A2, c2, L2, rfl, i2, rfl, l2⟩ := h2
 have hpos : 0 < List.length L2 := by
  rcases Nat.eq_zero_or_pos (List.length L2) with h | h
  ·exfalso; apply hy; unfold zR; rw [List.eq_nil_of_length_eq_zero h]; simp [val4, valB]
  ·exact h
 refine (rquoRem_pos k k2 A A2 c c2 L L2 w (by omega) (by omega) hpos i1 i2).mono ?_
 rintro e w' ⟨k5, A5, c5, Q, k6, A6, c6, R, rfl, hi5, hi6, hz5, hz6, hl5, hl6, hb⟩
 exact ⟨_, _, _, _, _, _, _, _, rfl, ⟨k5, A5, c5, Q, rfl, hi5, hz5, by omega⟩, hb⟩
theorem decLen : ∀ (n u : Nat), u < 10 ^ (n + 1) → (Lib.decDigits u).length ≤ n + 1 := by
 intro n
 induction n with
 | zero =>
  intro u h
  rw [Lib.decDigits, dif_pos (by simpa using h)]
  simp
 | succ n ih =>
  intro u h
  rw [Lib.decDigits]
  split
  ·simp
  ·have h2 := ih (u / 10) (by rw [Nat.pow_succ] at h; omega)
   rw [List.length_append]
   simp only [List.length_cons, List.length_nil]
   omega
theorem decZ_len {z : Int} {n : Nat} {a : Value} {w : World} (h : PInt z n a w) : (decZ z).length ≤ 9 * n + 2 := by
 obtain ⟨k, A, c, L, rfl, i1, rfl, l1⟩ := h
 rw [← decZ_I i1]
 have h1 := valB_lt (b := 1000000000) i1.canon.lim
 have h2 : (Lib.decDigits (val9 L)).length ≤ 9 * L.length + 1 := by
  refine decLen _ _ (Nat.lt_of_lt_of_le h1 ?_)
  rw [show (1000000000 : Nat) = 10 ^ 9 from rfl, ← Nat.pow_mul]
  exact Nat.pow_le_pow_right (by decide) (by omega)
 unfold decI
 rw [List.length_append]
 split <;> simp <;> omega
theorem decZ_lenR {z : Int} {n : Nat} {a : Value} {w : World} (h : PRef z n a w) : (decZ z).length ≤ 4 * n + 2 := by
 obtain ⟨k, A, c, L, rfl, i1, rfl, l1⟩ := h
 rw [← decZ_R i1]
 have h1 := valB_lt (b := 10000) i1.lim
 have h2 : (Lib.decDigits (val4 L)).length ≤ 4 * L.length + 1 := by
  refine decLen _ _ (Nat.lt_of_lt_of_le h1 ?_)
  rw [show (10000 : Nat) = 10 ^ 4 from rfl, ← Nat.pow_mul]
  exact Nat.pow_le_pow_right (by decide) (by omega)
 unfold decI
 rw [List.length_append]
 split <;> simp <;> omega
theorem PInt.zero (n : Nat) (w : World) : PInt 0 n (.agg #[.bool false, .slice none 0 0]) w := ⟨false, none, 0, [], rfl, IntR.zero _ _ _ _, rfl, Nat.zero_le _⟩
theorem PRat.zero (n : Nat) (w : World) : PRat 0 n (.agg #[.bool false, .slice none 0 0, .bool false, .slice none 0 0]) w := ⟨0, 0, _, _, _, _, _, _, _, _, rfl, PInt.zero n w, PInt.zero n w, .inr ⟨rfl, rfl, rfl⟩⟩
def Pair (p q : Int) (n : Nat) (v : Value) (w : World) : Prop := ∃ (k : Bool) (A : Option Addr) (l c : Nat) (k' : Bool) (A' : Option Addr) (l' c' : Nat), v = .agg #[.bool k, .slice A l c, .bool k', .slice A' l' c'] ∧ PInt p n (.agg #[.bool k, .slice A l c]) w ∧ PInt q n (.agg #[.bool k', .slice A' l' c']) w
def AS.Fact.pair (p q : Int) (n : Nat) : AS.Fact := ⟨Pair p q n, fun _ _ _ hk ⟨k, A, l, c, k', A', l', c', e, h1, h2⟩ => ⟨k, A, l, c, k', A', l', c', e, h1.kept hk, h2.kept hk⟩⟩
theorem red_pair {p q : Int} {n : Nat} {a : Value} {w : World} (h : Pair p q n a w) (hn : n ≤ 100000) (hq : q ≠ 0) :
  Calls Tryz.prog 33 #[a] w fun e w' => ∃ v, e = .returned v ∧ PRat (Rat.divInt p q) (n + 1) v w' ∧ Below w.heap.size w w' := by
 obtain ⟨k, A, l, c, k', A', l', c', rfl, h1, h2⟩ := h
 exact red_fact h1 h2 hn hq
theorem den_ne (x : Rat) : (x.den : Int) ≠ 0 := by have := x.den_pos; omega
theorem mul_ne {a b : Int} (ha : a ≠ 0) (hb : b ≠ 0) : a * b ≠ 0 := fun h => by rcases Int.mul_eq_zero.1 h with h | h <;> contradiction
set_option maxHeartbeats 3200000
set_option maxRecDepth 20000
theorem new_fact {p q : Int} {n : Nat} {k : Bool} {A : Option Addr} {l c : Nat} {k' : Bool} {A' : Option Addr} {l' c' : Nat} {w : World} (h1 : PInt p n (.agg #[.bool k, .slice A l c]) w) (h2 : PInt q n (.agg #[.bool k', .slice A' l' c']) w) (hn : n ≤ 100000) (hq : q ≠ 0) :
  Calls Tryz.prog 27 #[.agg #[.bool k, .slice A l c], .agg #[.bool k', .slice A' l' c']] w fun e w' => ∃ v, e = .returned (.tuple #[v, .int .i64 0]) ∧ PRat (Rat.divInt p q) (n + 1) v w' ∧ Below w.heap.size w w' := by
 have H1 := Lib.hid h1
 have H2 := Lib.hid h2
 clear h1 h2
 go_enter Tryz.func27, Tryz.ntmps27
 go_upto_region 1 with (fail)
 change Code.wp Tryz.prog _ _ _ (((w.alloc (.cells #[.bool k, .slice A l c] 25)).alloc (.cells #[.bool k', .slice A' l' c'] 25)).alloc (.cells #[.bool false, .slice none 0 0, .bool false, .slice none 0 0] 27))
 obtain ⟨nb2, nb3, nb4, na⟩ := new3 w 25 [.bool k, .slice A l c] 25 [.bool k', .slice A' l' c'] 27 [.bool false, .slice none 0 0, .bool false, .slice none 0 0] lf2 lf2 lf4
 have nkeep := Keep.ofBelow na
 have nbel := na
 generalize ((w.alloc (.cells #[.bool k, .slice A l c] 25)).alloc (.cells #[.bool k', .slice A' l' c'] 25)).alloc (.cells #[.bool false, .slice none 0 0, .bool false, .slice none 0 0] 27) = W1 at *
 clear na
 have b2 := Lib.hid nb2
 have b3 := Lib.hid nb3
 have b4 := Lib.hid nb4
 clear nb2 nb3 nb4
 replace H1 := Lib.hid (H1.out.kept nkeep)
 replace H2 := Lib.hid (H2.out.kept nkeep)
 clear nkeep
 have HB2 := Lib.hid nbel
 clear nbel
 obtain ⟨x20, x21, s2⟩ := b2.out.d2
 obtain ⟨x30, x31, s3⟩ := b3.out.d2
 obtain ⟨x40, x41, x42, x43, z40, z41, z42, z43, s4⟩ := b4.out.e4
 have szb := HB2.out.size
 rcases Int.lt_trichotomy q 0 with hlt | hlt | hlt
 ·have hc : cmpI q 0 = -1 := by unfold cmpI; rw [if_pos hlt]
  go_wp2_with fail
  refine (sign_is H2.out hc).mono ?_
  rintro e W3 ⟨rfl, hb⟩
  replace b2 := hup b2 hb
  replace b3 := hup b3 hb
  replace b4 := hup b4 hb
  replace H1 := Lib.hid (H1.out.kept (Keep.ofBelow hb))
  replace H2 := Lib.hid (H2.out.kept (Keep.ofBelow hb))
  have nbel := below_then HB2.out hb HB2.out.size
  have HB4 := Lib.hid nbel
  clear nbel HB2 hb x20 x21 x30 x31 x40 x41 x42 x43 z40 z41 z42 z43 szb s2 s3 s4
  obtain ⟨x20, x21, s2⟩ := b2.out.d2
  obtain ⟨x30, x31, s3⟩ := b3.out.d2
  obtain ⟨x40, x41, x42, x43, z40, z41, z42, z43, s4⟩ := b4.out.e4
  have szb := HB4.out.size
  go_wp2_with fail
  refine (red_fact H1.out H2.out hn hq).mono ?_
  rintro e W5 ⟨v, rfl, hv, hb⟩
  replace b2 := hup b2 hb
  replace b3 := hup b3 hb
  replace b4 := hup b4 hb
  replace H1 := Lib.hid (H1.out.kept (Keep.ofBelow hb))
  replace H2 := Lib.hid (H2.out.kept (Keep.ofBelow hb))
  have nbel := below_then HB4.out hb HB4.out.size
  have HB6 := Lib.hid nbel
  clear nbel HB4 hb x20 x21 x30 x31 x40 x41 x42 x43 z40 z41 z42 z43 szb s2 s3 s4
  obtain ⟨x20, x21, s2⟩ := b2.out.d2
  obtain ⟨x30, x31, s3⟩ := b3.out.d2
  obtain ⟨x40, x41, x42, x43, z40, z41, z42, z43, s4⟩ := b4.out.e4
  have szb := HB6.out.size
  obtain ⟨k1, A1, l1, c1, k2, A2, l2, c2, rfl⟩ := hv.open
  have HV := Lib.hid hv
  clear hv
  go_wp2_with fail
  have hkeep := (Keep.set4 (Keep.refl W5) b4.out (Leaf.bool k1) (Leaf.slice A1 l1 c1) (Leaf.bool k2) (Leaf.slice A2 l2 c2))
  have hbel := (Below.set4 (g := w.heap.size + 1 + 1) HB6.out (by first | omega | (simp; done) | (simp; omega)) (.bool k1) (.slice A1 l1 c1) (.bool k2) (.slice A2 l2 c2))
  refine bodyPost_ret (v := .tuple #[.agg #[.bool k1, .slice A1 l1 c1, .bool k2, .slice A2 l2 c2], .int .i64 0]) (by simp [results, Tryz.results27, go_sem, x40, x41, x42, x43]) rfl ⟨_, rfl, HV.out.kept hkeep, hbel⟩
 ·exact absurd hlt hq
 ·have hc : cmpI q 0 = 1 := by unfold cmpI; rw [if_neg (by omega), if_neg (by omega)]
  go_wp2_with fail
  refine (sign_is H2.out hc).mono ?_
  rintro e W3 ⟨rfl, hb⟩
  replace b2 := hup b2 hb
  replace b3 := hup b3 hb
  replace b4 := hup b4 hb
  replace H1 := Lib.hid (H1.out.kept (Keep.ofBelow hb))
  replace H2 := Lib.hid (H2.out.kept (Keep.ofBelow hb))
  have nbel := below_then HB2.out hb HB2.out.size
  have HB4 := Lib.hid nbel
  clear nbel HB2 hb x20 x21 x30 x31 x40 x41 x42 x43 z40 z41 z42 z43 szb s2 s3 s4
  obtain ⟨x20, x21, s2⟩ := b2.out.d2
  obtain ⟨x30, x31, s3⟩ := b3.out.d2
  obtain ⟨x40, x41, x42, x43, z40, z41, z42, z43, s4⟩ := b4.out.e4
  have szb := HB4.out.size
  go_wp2_with fail
  refine (red_fact H1.out H2.out hn hq).mono ?_
  rintro e W5 ⟨v, rfl, hv, hb⟩
  replace b2 := hup b2 hb
  replace b3 := hup b3 hb
  replace b4 := hup b4 hb
  replace H1 := Lib.hid (H1.out.kept (Keep.ofBelow hb))
  replace H2 := Lib.hid (H2.out.kept (Keep.ofBelow hb))
  have nbel := below_then HB4.out hb HB4.out.size
  have HB6 := Lib.hid nbel
  clear nbel HB4 hb x20 x21 x30 x31 x40 x41 x42 x43 z40 z41 z42 z43 szb s2 s3 s4
  obtain ⟨x20, x21, s2⟩ := b2.out.d2
  obtain ⟨x30, x31, s3⟩ := b3.out.d2
  obtain ⟨x40, x41, x42, x43, z40, z41, z42, z43, s4⟩ := b4.out.e4
  have szb := HB6.out.size
  obtain ⟨k1, A1, l1, c1, k2, A2, l2, c2, rfl⟩ := hv.open
  have HV := Lib.hid hv
  clear hv
  go_wp2_with fail
  have hkeep := (Keep.set4 (Keep.refl W5) b4.out (Leaf.bool k1) (Leaf.slice A1 l1 c1) (Leaf.bool k2) (Leaf.slice A2 l2 c2))
  have hbel := (Below.set4 (g := w.heap.size + 1 + 1) HB6.out (by first | omega | (simp; done) | (simp; omega)) (.bool k1) (.slice A1 l1 c1) (.bool k2) (.slice A2 l2 c2))
  refine bodyPost_ret (v := .tuple #[.agg #[.bool k1, .slice A1 l1 c1, .bool k2, .slice A2 l2 c2], .int .i64 0]) (by simp [results, Tryz.results27, go_sem, x40, x41, x42, x43]) rfl ⟨_, rfl, HV.out.kept hkeep, hbel⟩
set_option maxHeartbeats 3200000
set_option maxRecDepth 20000
theorem ofq_fact {a b : Int} {w : World} (ha : -9223372036854775808 ≤ a) (ha' : a ≤ 9223372036854775807) (hb1 : -9223372036854775808 ≤ b) (hb' : b ≤ 9223372036854775807) (hq : b ≠ 0) :
  Calls Tryz.prog 10 #[.int .i64 a, .int .i64 b] w fun e w' => ∃ v, e = .returned (.tuple #[v, .int .i64 0]) ∧ PRat (Rat.divInt a b) 4 v w' ∧ Below w.heap.size w w' := by
 have HA : Hid (-9223372036854775808 ≤ a ∧ a ≤ 9223372036854775807) := ⟨ha, ha'⟩
 clear ha ha'
 have HB : Hid (-9223372036854775808 ≤ b ∧ b ≤ 9223372036854775807) := ⟨hb1, hb'⟩
 clear hb1 hb'
 go_enter Tryz.func10, Tryz.ntmps10
 go_upto_region 1 with (fail)
 change Code.wp Tryz.prog _ _ _ (w.alloc (.cells #[.bool false, .slice none 0 0, .bool false, .slice none 0 0] 27))
 obtain ⟨nb4, na⟩ := new1 w 27 [.bool false, .slice none 0 0, .bool false, .slice none 0 0] lf4
 have nkeep := Keep.ofBelow na
 have nbel := na
 generalize w.alloc (.cells #[.bool false, .slice none 0 0, .bool false, .slice none 0 0] 27) = W1 at *
 clear na
 have b4 := Lib.hid nb4
 clear nb4 nkeep
 have HB2 := Lib.hid nbel
 clear nbel
 obtain ⟨x40, x41, x42, x43, z40, z41, z42, z43, s4⟩ := b4.out.e4
 have szb := HB2.out.size
 go_wp2_with fail
 refine (of_fact HA.out.1 HA.out.2).mono ?_
 rintro e W3 ⟨v, rfl, hv, hb⟩
 replace b4 := hup b4 hb
 have nbel := below_then HB2.out hb HB2.out.size
 have HB4 := Lib.hid nbel
 clear nbel HB2 hb x40 x41 x42 x43 z40 z41 z42 z43 szb s4
 obtain ⟨x40, x41, x42, x43, z40, z41, z42, z43, s4⟩ := b4.out.e4
 have szb := HB4.out.size
 obtain ⟨k1, A1, l1, c1, rfl⟩ := hv.open
 have HV := Lib.hid hv
 clear hv
 go_wp2_with fail
 refine (of_fact HB.out.1 HB.out.2).mono ?_
 rintro e W5 ⟨v, rfl, hv, hb⟩
 replace b4 := hup b4 hb
 replace HV := Lib.hid (HV.out.kept (Keep.ofBelow hb))
 have nbel := below_then HB4.out hb HB4.out.size
 have HB6 := Lib.hid nbel
 clear nbel HB4 hb x40 x41 x42 x43 z40 z41 z42 z43 szb s4
 obtain ⟨x40, x41, x42, x43, z40, z41, z42, z43, s4⟩ := b4.out.e4
 have szb := HB6.out.size
 obtain ⟨k2, A2, l2, c2, rfl⟩ := hv.open
 have HU := Lib.hid hv
 clear hv
 go_wp2_with fail
 refine (new_fact HV.out HU.out (by omega) hq).mono ?_
 rintro e W7 ⟨v, rfl, hv, hb⟩
 replace b4 := hup b4 hb
 replace HV := Lib.hid (HV.out.kept (Keep.ofBelow hb))
 replace HU := Lib.hid (HU.out.kept (Keep.ofBelow hb))
 have nbel := below_then HB6.out hb HB6.out.size
 have HB8 := Lib.hid nbel
 clear nbel HB6 hb x40 x41 x42 x43 z40 z41 z42 z43 szb s4
 obtain ⟨x40, x41, x42, x43, z40, z41, z42, z43, s4⟩ := b4.out.e4
 have szb := HB8.out.size
 obtain ⟨k3, A3, l3, c3, k4, A4, l4, c4, rfl⟩ := hv.open
 have HR := Lib.hid hv
 clear hv
 go_wp2_with fail
 have hkeep := (Keep.set4 (Keep.refl W7) b4.out (Leaf.bool k3) (Leaf.slice A3 l3 c3) (Leaf.bool k4) (Leaf.slice A4 l4 c4))
 have hbel := (Below.set4 (g := w.heap.size) HB8.out (by first | omega | (simp; done) | (simp; omega)) (.bool k3) (.slice A3 l3 c3) (.bool k4) (.slice A4 l4 c4))
 refine bodyPost_ret (v := .tuple #[.agg #[.bool k3, .slice A3 l3 c3, .bool k4, .slice A4 l4 c4], .int .i64 0]) (by simp [results, Tryz.results10, go_sem, x40, x41, x42, x43]) rfl ⟨_, rfl, HR.out.kept hkeep, hbel⟩
set_option maxRecDepth 20000 in
set_option maxHeartbeats 3200000 in
theorem terms_fact {x : Rat} {n : Nat} {v : Value} {w : World} (h : PRat x n v w) (hn : 3 ≤ n) :
  Calls Tryz.prog 24 #[v] w fun e w' => ∃ (k : Bool) (A : Option Addr) (l c : Nat) (k' : Bool) (A' : Option Addr) (l' c' : Nat), e = .returned (.tuple #[.agg #[.bool k, .slice A l c], .agg #[.bool k', .slice A' l' c']]) ∧ PInt x.num n (.agg #[.bool k, .slice A l c]) w' ∧ PInt x.den n (.agg #[.bool k', .slice A' l' c']) w' ∧ Below w.heap.size w w' := by
 obtain ⟨k, A, l, c, k', A', l', c', rfl⟩ := h.open
 obtain ⟨p, q, h1, h2, h3⟩ := h.parts
 have H1 := Lib.hid h1
 have H2 := Lib.hid h2
 clear h h1 h2
 go_enter Tryz.func24, Tryz.ntmps24
 go_upto_region 1 with (fail)
 change Code.wp Tryz.prog _ _ _ (((w.alloc (.cells #[.bool k, .slice A l c, .bool k', .slice A' l' c'] 27)).alloc (.cells #[.bool false, .slice none 0 0] 25)).alloc (.cells #[.bool false, .slice none 0 0] 25))
 obtain ⟨nb1, nb2, nb3, na⟩ := new3 w 27 [.bool k, .slice A l c, .bool k', .slice A' l' c'] 25 [.bool false, .slice none 0 0] 25 [.bool false, .slice none 0 0] lf4 lf2 lf2
 have nkeep := Keep.ofBelow na
 have nbel := na
 generalize ((w.alloc (.cells #[.bool k, .slice A l c, .bool k', .slice A' l' c'] 27)).alloc (.cells #[.bool false, .slice none 0 0] 25)).alloc (.cells #[.bool false, .slice none 0 0] 25) = W1 at *
 clear na
 have b1 := Lib.hid nb1
 have b2 := Lib.hid nb2
 have b3 := Lib.hid nb3
 clear nb1 nb2 nb3
 replace H1 := Lib.hid (H1.out.kept nkeep)
 replace H2 := Lib.hid (H2.out.kept nkeep)
 clear nkeep
 have HB2 := Lib.hid nbel
 clear nbel
 obtain ⟨x10, x11, x12, x13, s1⟩ := b1.out.d4
 obtain ⟨x20, x21, z20, z21, s2⟩ := b2.out.e2
 obtain ⟨x30, x31, z30, z31, s3⟩ := b3.out.e2
 have szb := HB2.out.size
 rcases h3 with ⟨rfl, rfl⟩ | ⟨rfl, rfl, rfl⟩
 ·have hc : cmpI (x.den : Int) 0 = 1 := by unfold cmpI; have := x.den_pos; rw [if_neg (by omega), if_neg (by omega)]
  go_wp2_with fail
  refine (sign_is H2.out hc).mono ?_
  rintro e W3 ⟨rfl, hb⟩
  replace b1 := hup b1 hb
  replace b2 := hup b2 hb
  replace b3 := hup b3 hb
  replace H1 := Lib.hid (H1.out.kept (Keep.ofBelow hb))
  replace H2 := Lib.hid (H2.out.kept (Keep.ofBelow hb))
  have nbel := below_then HB2.out hb HB2.out.size
  have HB4 := Lib.hid nbel
  clear nbel HB2 hb x10 x11 x12 x13 x20 x21 z20 z21 x30 x31 z30 z31 szb s1 s2 s3
  obtain ⟨x10, x11, x12, x13, s1⟩ := b1.out.d4
  obtain ⟨x20, x21, z20, z21, s2⟩ := b2.out.e2
  obtain ⟨x30, x31, z30, z31, s3⟩ := b3.out.e2
  have szb := HB4.out.size
  go_wp2
  go_region
  go_wp2
  have hkeep := (Keep.drew (Keep.set (Keep.set (Keep.set2 (Keep.refl W3) b2.out (Leaf.bool k) (Leaf.slice A l c)) (Bx.far2 (g' := w.heap.size + 1) b3.out (by omega) (.bool k) (.slice A l c)) 0 (Leaf.bool k')) (Bx.set (Bx.far2 (g' := w.heap.size + 1) b3.out (by omega) (.bool k) (.slice A l c)) 0 (Leaf.bool k')) 1 (Leaf.slice A' l' c')))
  have hbel := (below_drew (Below.setCell (p := ⟨w.heap.size + 1 + 1, 1, none⟩) (Below.setCell (p := ⟨w.heap.size + 1 + 1, 0, none⟩) (Below.set2 (g := w.heap.size + 1) HB4.out (by first | omega | (simp; done) | (simp; omega)) (.bool k) (.slice A l c)) (by first | omega | (simp; done) | (simp; omega)) (.bool k')) (by first | omega | (simp; done) | (simp; omega)) (.slice A' l' c')))
  refine bodyPost_ret (v := .tuple #[.agg #[.bool k, .slice A l c], .agg #[.bool k', .slice A' l' c']]) (by simp [results, Tryz.results24, go_sem, x20, x21, x30, x31]) rfl ⟨_, _, _, _, _, _, _, _, rfl, H1.out.kept hkeep, H2.out.kept hkeep, hbel⟩
 ·go_wp2_with fail
  refine (sign_is H2.out (c := 0) (by decide)).mono ?_
  rintro e W3 ⟨rfl, hb⟩
  replace b1 := hup b1 hb
  replace b2 := hup b2 hb
  replace b3 := hup b3 hb
  replace H1 := Lib.hid (H1.out.kept (Keep.ofBelow hb))
  replace H2 := Lib.hid (H2.out.kept (Keep.ofBelow hb))
  have nbel := below_then HB2.out hb HB2.out.size
  have HB4 := Lib.hid nbel
  clear nbel HB2 hb x10 x11 x12 x13 x20 x21 z20 z21 x30 x31 z30 z31 szb s1 s2 s3
  obtain ⟨x10, x11, x12, x13, s1⟩ := b1.out.d4
  obtain ⟨x20, x21, z20, z21, s2⟩ := b2.out.e2
  obtain ⟨x30, x31, z30, z31, s3⟩ := b3.out.e2
  have szb := HB4.out.size
  go_wp2_with fail
  refine (of_fact (n := 1) (by decide) (by decide)).mono ?_
  rintro e W5 ⟨v, rfl, hv, hb⟩
  replace b1 := hup b1 hb
  replace b2 := hup b2 hb
  replace b3 := hup b3 hb
  replace H1 := Lib.hid (H1.out.kept (Keep.ofBelow hb))
  replace H2 := Lib.hid (H2.out.kept (Keep.ofBelow hb))
  have nbel := below_then HB4.out hb HB4.out.size
  have HB6 := Lib.hid nbel
  clear nbel HB4 hb x10 x11 x12 x13 x20 x21 z20 z21 x30 x31 z30 z31 szb s1 s2 s3
  obtain ⟨x10, x11, x12, x13, s1⟩ := b1.out.d4
  obtain ⟨x20, x21, z20, z21, s2⟩ := b2.out.e2
  obtain ⟨x30, x31, z30, z31, s3⟩ := b3.out.e2
  have szb := HB6.out.size
  obtain ⟨k1, A1, l1, c1, rfl⟩ := hv.open
  have HV := Lib.hid hv
  clear hv
  go_wp2_with fail
  have hkeep := (Keep.set (Keep.set (Keep.set2 (Keep.refl W5) b2.out (Leaf.bool false) (Leaf.slice none 0 0)) (Bx.far2 (g' := w.heap.size + 1) b3.out (by omega) (.bool false) (.slice none 0 0)) 0 (Leaf.bool k1)) (Bx.set (Bx.far2 (g' := w.heap.size + 1) b3.out (by omega) (.bool false) (.slice none 0 0)) 0 (Leaf.bool k1)) 1 (Leaf.slice A1 l1 c1))
  have hbel := (Below.setCell (p := ⟨w.heap.size + 1 + 1, 1, none⟩) (Below.setCell (p := ⟨w.heap.size + 1 + 1, 0, none⟩) (Below.set2 (g := w.heap.size + 1) HB6.out (by first | omega | (simp; done) | (simp; omega)) (.bool false) (.slice none 0 0)) (by first | omega | (simp; done) | (simp; omega)) (.bool k1)) (by first | omega | (simp; done) | (simp; omega)) (.slice A1 l1 c1))
  refine bodyPost_ret (v := .tuple #[.agg #[.bool false, .slice none 0 0], .agg #[.bool k1, .slice A1 l1 c1]]) (by simp [results, Tryz.results24, go_sem, x20, x21, x30, x31]) rfl ⟨_, _, _, _, _, _, _, _, rfl, PInt.zero _ _, (HV.out.kept hkeep).more hn, hbel⟩
def ratAddFL (x y : Rat) (n : Nat) : List (Nat × AS.Fact) := [(19, AS.Fact.int (x.num) n), (20, AS.Fact.int ((y.den : Int)) n), (21, AS.Fact.int ((x.num) * ((y.den : Int))) (n + n)), (22, AS.Fact.int (y.num) n), (23, AS.Fact.int ((x.den : Int)) n), (24, AS.Fact.int ((y.num) * ((x.den : Int))) (n + n)), (25, AS.Fact.int (((x.num) * ((y.den : Int))) + ((y.num) * ((x.den : Int)))) (((n + n) + (n + n)) + 1)), (26, AS.Fact.int ((x.den : Int)) n), (27, AS.Fact.int ((y.den : Int)) n), (28, AS.Fact.int (((x.den : Int)) * ((y.den : Int))) (n + n)), (29, AS.Fact.pair (x.num * (y.den : Int) + y.num * (x.den : Int)) ((x.den : Int) * (y.den : Int)) (4 * n + 1)), (30, AS.Fact.rat (x + y) (4 * n + 2))]
set_option maxRecDepth 20000 in
set_option maxHeartbeats 3200000 in
theorem ratAdd_fact {x y : Rat} {n : Nat} {v v2 : Value} {w : World} (h : PRat x n v w) (h2 : PRat y n v2 w) (hn3 : 3 ≤ n) (hn : n ≤ 10000) :
  Calls Tryz.prog 12 #[v, v2] w fun e w' => ∃ v, e = .returned v ∧ PRat (x + y) (4 * n + 2) v w' ∧ Below w.heap.size w w' := by
 obtain ⟨k, A, l, c, k', A', l', c', rfl⟩ := h.open
 obtain ⟨r, E, m, d, r', E', m', d', rfl⟩ := h2.open
 have H1 := Lib.hid h
 have H2 := Lib.hid h2
 clear h h2
 go_enter Tryz.func12, Tryz.ntmps12
 go_upto_region 1 with (fail)
 change Code.wp Tryz.prog _ _ _ (((w.alloc (.cells #[.bool k, .slice A l c, .bool k', .slice A' l' c'] 27)).alloc (.cells #[.bool r, .slice E m d, .bool r', .slice E' m' d'] 27)).alloc (.cells #[.bool false, .slice none 0 0, .bool false, .slice none 0 0] 27))
 obtain ⟨nb2, nb3, nb4, na⟩ := new3 w 27 [.bool k, .slice A l c, .bool k', .slice A' l' c'] 27 [.bool r, .slice E m d, .bool r', .slice E' m' d'] 27 [.bool false, .slice none 0 0, .bool false, .slice none 0 0] lf4 lf4 lf4
 have nkeep := Keep.ofBelow na
 have nbel := na
 generalize ((w.alloc (.cells #[.bool k, .slice A l c, .bool k', .slice A' l' c'] 27)).alloc (.cells #[.bool r, .slice E m d, .bool r', .slice E' m' d'] 27)).alloc (.cells #[.bool false, .slice none 0 0, .bool false, .slice none 0 0] 27) = W1 at *
 clear na
 have b2 := Lib.hid nb2
 have b3 := Lib.hid nb3
 have b4 := Lib.hid nb4
 clear nb2 nb3 nb4
 replace H1 := Lib.hid (H1.out.kept nkeep)
 replace H2 := Lib.hid (H2.out.kept nkeep)
 clear nkeep
 have HB2 := Lib.hid nbel
 clear nbel
 obtain ⟨x2_0, x2_1, x2_2, x2_3, s2⟩ := b2.out.d4
 obtain ⟨x3_0, x3_1, x3_2, x3_3, s3⟩ := b3.out.d4
 obtain ⟨x4_0, x4_1, x4_2, x4_3, s4⟩ := b4.out.d4
 have szb := HB2.out.size
 go_wp2_with fail
 refine (terms_fact H1.out hn3).mono ?_
 rintro e W3 ⟨k1, A1, l1, c1, j1, B1, o1, e1, rfl, ha_, hc_, hb⟩
 replace b2 := hup b2 hb
 replace b3 := hup b3 hb
 replace b4 := hup b4 hb
 replace H1 := Lib.hid (H1.out.kept (Keep.ofBelow hb))
 replace H2 := Lib.hid (H2.out.kept (Keep.ofBelow hb))
 have nbel := below_then HB2.out hb HB2.out.size
 have HB4 := Lib.hid nbel
 clear nbel HB2 hb x2_0 x2_1 x2_2 x2_3 x3_0 x3_1 x3_2 x3_3 x4_0 x4_1 x4_2 x4_3 szb s2 s3 s4
 obtain ⟨x2_0, x2_1, x2_2, x2_3, s2⟩ := b2.out.d4
 obtain ⟨x3_0, x3_1, x3_2, x3_3, s3⟩ := b3.out.d4
 obtain ⟨x4_0, x4_1, x4_2, x4_3, s4⟩ := b4.out.d4
 have szb := HB4.out.size
 have HA := Lib.hid ha_
 have HB := Lib.hid hc_
 clear ha_ hc_
 go_upto_region 2 with (fail)
 have q5 := b2.out.lt
 have q6 := b3.out.lt
 have q7 := b4.out.lt
 change Code.wp Tryz.prog _ _ _ ((W3.alloc (.cells #[.bool k1, .slice A1 l1 c1] 25)).alloc (.cells #[.bool j1, .slice B1 o1 e1] 25))
 obtain ⟨nb5, nb6, na⟩ := new2 W3 25 [.bool k1, .slice A1 l1 c1] 25 [.bool j1, .slice B1 o1 e1] lf2 lf2
 have nb2 := b2.out.up na
 have nb3 := b3.out.up na
 have nb4 := b4.out.up na
 have nkeep := Keep.ofBelow na
 have nbel := below_then HB4.out na HB4.out.size
 generalize (W3.alloc (.cells #[.bool k1, .slice A1 l1 c1] 25)).alloc (.cells #[.bool j1, .slice B1 o1 e1] 25) = W8 at *
 clear na x2_0 x2_1 x2_2 x2_3 x3_0 x3_1 x3_2 x3_3 x4_0 x4_1 x4_2 x4_3 szb s2 s3 s4 b2 b3 b4
 have b2 := Lib.hid nb2
 have b3 := Lib.hid nb3
 have b4 := Lib.hid nb4
 have b5 := Lib.hid nb5
 have b6 := Lib.hid nb6
 clear nb2 nb3 nb4 nb5 nb6
 replace H1 := Lib.hid (H1.out.kept nkeep)
 replace H2 := Lib.hid (H2.out.kept nkeep)
 replace HA := Lib.hid (HA.out.kept nkeep)
 replace HB := Lib.hid (HB.out.kept nkeep)
 clear nkeep
 have HB9 := Lib.hid nbel
 clear nbel HB4
 obtain ⟨x2_0, x2_1, x2_2, x2_3, s2⟩ := b2.out.d4
 obtain ⟨x3_0, x3_1, x3_2, x3_3, s3⟩ := b3.out.d4
 obtain ⟨x4_0, x4_1, x4_2, x4_3, s4⟩ := b4.out.d4
 obtain ⟨x5_0, x5_1, s5⟩ := b5.out.d2
 obtain ⟨x6_0, x6_1, s6⟩ := b6.out.d2
 have szb := HB9.out.size
 go_wp2_with fail
 refine (terms_fact H2.out hn3).mono ?_
 rintro e W10 ⟨k2, A2, l2, c2, j2, B2, o2, e2, rfl, ha_, hc_, hb⟩
 replace b2 := hup b2 hb
 replace b3 := hup b3 hb
 replace b4 := hup b4 hb
 replace b5 := hup b5 hb
 replace b6 := hup b6 hb
 replace H1 := Lib.hid (H1.out.kept (Keep.ofBelow hb))
 replace H2 := Lib.hid (H2.out.kept (Keep.ofBelow hb))
 replace HA := Lib.hid (HA.out.kept (Keep.ofBelow hb))
 replace HB := Lib.hid (HB.out.kept (Keep.ofBelow hb))
 have nbel := below_then HB9.out hb HB9.out.size
 have HB11 := Lib.hid nbel
 clear nbel HB9 hb x2_0 x2_1 x2_2 x2_3 x3_0 x3_1 x3_2 x3_3 x4_0 x4_1 x4_2 x4_3 x5_0 x5_1 x6_0 x6_1 szb s2 s3 s4 s5 s6
 obtain ⟨x2_0, x2_1, x2_2, x2_3, s2⟩ := b2.out.d4
 obtain ⟨x3_0, x3_1, x3_2, x3_3, s3⟩ := b3.out.d4
 obtain ⟨x4_0, x4_1, x4_2, x4_3, s4⟩ := b4.out.d4
 obtain ⟨x5_0, x5_1, s5⟩ := b5.out.d2
 obtain ⟨x6_0, x6_1, s6⟩ := b6.out.d2
 have szb := HB11.out.size
 have HC := Lib.hid ha_
 have HD := Lib.hid hc_
 clear ha_ hc_
 go_upto_region 3 with (fail)
 have q12 := b2.out.lt
 have q13 := b3.out.lt
 have q14 := b4.out.lt
 have q15 := b5.out.lt
 have q16 := b6.out.lt
 change Code.wp Tryz.prog _ _ _ ((W10.alloc (.cells #[.bool k2, .slice A2 l2 c2] 25)).alloc (.cells #[.bool j2, .slice B2 o2 e2] 25))
 obtain ⟨nb7, nb8, na⟩ := new2 W10 25 [.bool k2, .slice A2 l2 c2] 25 [.bool j2, .slice B2 o2 e2] lf2 lf2
 have nb2 := b2.out.up na
 have nb3 := b3.out.up na
 have nb4 := b4.out.up na
 have nb5 := b5.out.up na
 have nb6 := b6.out.up na
 have nkeep := Keep.ofBelow na
 have nbel := below_then HB11.out na HB11.out.size
 generalize (W10.alloc (.cells #[.bool k2, .slice A2 l2 c2] 25)).alloc (.cells #[.bool j2, .slice B2 o2 e2] 25) = W17 at *
 clear na x2_0 x2_1 x2_2 x2_3 x3_0 x3_1 x3_2 x3_3 x4_0 x4_1 x4_2 x4_3 x5_0 x5_1 x6_0 x6_1 szb s2 s3 s4 s5 s6 b2 b3 b4 b5 b6
 have b2 := Lib.hid nb2
 have b3 := Lib.hid nb3
 have b4 := Lib.hid nb4
 have b5 := Lib.hid nb5
 have b6 := Lib.hid nb6
 have b7 := Lib.hid nb7
 have b8 := Lib.hid nb8
 clear nb2 nb3 nb4 nb5 nb6 nb7 nb8
 replace H1 := Lib.hid (H1.out.kept nkeep)
 replace H2 := Lib.hid (H2.out.kept nkeep)
 replace HA := Lib.hid (HA.out.kept nkeep)
 replace HB := Lib.hid (HB.out.kept nkeep)
 replace HC := Lib.hid (HC.out.kept nkeep)
 replace HD := Lib.hid (HD.out.kept nkeep)
 clear nkeep
 have HB18 := Lib.hid nbel
 clear nbel HB11
 obtain ⟨x2_0, x2_1, x2_2, x2_3, s2⟩ := b2.out.d4
 obtain ⟨x3_0, x3_1, x3_2, x3_3, s3⟩ := b3.out.d4
 obtain ⟨x4_0, x4_1, x4_2, x4_3, s4⟩ := b4.out.d4
 obtain ⟨x5_0, x5_1, s5⟩ := b5.out.d2
 obtain ⟨x6_0, x6_1, s6⟩ := b6.out.d2
 obtain ⟨x7_0, x7_1, s7⟩ := b7.out.d2
 obtain ⟨x8_0, x8_1, s8⟩ := b8.out.d2
 have szb := HB18.out.size
 refine AS.region_facts (ratAddFL x y n) (JRes w W17 27 (w.heap.size + 1 + 1)) [[], [], [19, 20], [], [], [22, 23], [21, 24], [], [], [26, 27], [25, 28], [29], [30]] [12] [[], [30]] [0, 0, 1, 0, 0, 1, 1, 0, 0, 1, 1, 1, 1] [] (fun u => by simp only [ratAddFL, AS.temps, List.map_cons, List.map_nil, fillL, List.setIfInBounds_toArray, List.set_cons_zero, List.set_cons_succ]; rfl) (by kernel_rfl) (by kernel_rfl) (JRes.st w W17 27 (w.heap.size + 1 + 1)) (below_drew (Below.refl _ _)) ?_ ?_
 ·refine AS.sc rfl rfl rfl ?_ ?_
  ·intro k_ u w_ hk hJ hF K hK
   clear hF
   obtain rfl : k_ = 0 := Nat.le_zero.1 hk
   have hJ0 : Below W17.heap.size W17 w_ := hJ
   obtain ⟨y0, y1⟩ := ((b5.out).up hJ0).c2
   go_simp
   exact hK.out _ _ (Below.refl _ _) ((HA.out).kept (Keep.ofBelow hJ0)) trivial
  refine AS.sc rfl rfl rfl ?_ ?_
  ·intro k_ u w_ hk hJ hF K hK
   clear hF
   obtain rfl : k_ = 0 := Nat.le_zero.1 hk
   have hJ0 : Below W17.heap.size W17 w_ := hJ
   obtain ⟨y0, y1⟩ := ((b8.out).up hJ0).c2
   go_simp
   exact hK.out _ _ (Below.refl _ _) ((HD.out).kept (Keep.ofBelow hJ0)) trivial
  refine AS.sc rfl rfl rfl ?_ ?_
  ·intro k_ u w_ hk hJ hF K hK
   have h19 : PInt (x.num) n (u 19) w_ := AS.facts_get hF 19 (by simp)
   have h20 : PInt ((y.den : Int)) n (u 20) w_ := AS.facts_get hF 20 (by simp)
   clear hF
   go_simp
   refine (mul_fact h19 h20 (by omega) (by omega)).mono ?_
   rintro e w' ⟨v, rfl, hv, hb⟩
   exact hK.out _ _ hb (hv) trivial
  refine AS.sc rfl rfl rfl ?_ ?_
  ·intro k_ u w_ hk hJ hF K hK
   clear hF
   obtain rfl : k_ = 0 := Nat.le_zero.1 hk
   have hJ0 : Below W17.heap.size W17 w_ := hJ
   obtain ⟨y0, y1⟩ := ((b7.out).up hJ0).c2
   go_simp
   exact hK.out _ _ (Below.refl _ _) ((HC.out).kept (Keep.ofBelow hJ0)) trivial
  refine AS.sc rfl rfl rfl ?_ ?_
  ·intro k_ u w_ hk hJ hF K hK
   clear hF
   obtain rfl : k_ = 0 := Nat.le_zero.1 hk
   have hJ0 : Below W17.heap.size W17 w_ := hJ
   obtain ⟨y0, y1⟩ := ((b6.out).up hJ0).c2
   go_simp
   exact hK.out _ _ (Below.refl _ _) ((HB.out).kept (Keep.ofBelow hJ0)) trivial
  refine AS.sc rfl rfl rfl ?_ ?_
  ·intro k_ u w_ hk hJ hF K hK
   have h22 : PInt (y.num) n (u 22) w_ := AS.facts_get hF 22 (by simp)
   have h23 : PInt ((x.den : Int)) n (u 23) w_ := AS.facts_get hF 23 (by simp)
   clear hF
   go_simp
   refine (mul_fact h22 h23 (by omega) (by omega)).mono ?_
   rintro e w' ⟨v, rfl, hv, hb⟩
   exact hK.out _ _ hb (hv) trivial
  refine AS.sc rfl rfl rfl ?_ ?_
  ·intro k_ u w_ hk hJ hF K hK
   have h21 : PInt ((x.num) * ((y.den : Int))) (n + n) (u 21) w_ := AS.facts_get hF 21 (by simp)
   have h24 : PInt ((y.num) * ((x.den : Int))) (n + n) (u 24) w_ := AS.facts_get hF 24 (by simp)
   clear hF
   go_simp
   refine (add_fact h21 h24 (by omega) (by omega)).mono ?_
   rintro e w' ⟨v, rfl, hv, hb⟩
   exact hK.out _ _ hb (hv) trivial
  refine AS.sc rfl rfl rfl ?_ ?_
  ·intro k_ u w_ hk hJ hF K hK
   clear hF
   obtain rfl : k_ = 0 := Nat.le_zero.1 hk
   have hJ0 : Below W17.heap.size W17 w_ := hJ
   obtain ⟨y0, y1⟩ := ((b6.out).up hJ0).c2
   go_simp
   exact hK.out _ _ (Below.refl _ _) ((HB.out).kept (Keep.ofBelow hJ0)) trivial
  refine AS.sc rfl rfl rfl ?_ ?_
  ·intro k_ u w_ hk hJ hF K hK
   clear hF
   obtain rfl : k_ = 0 := Nat.le_zero.1 hk
   have hJ0 : Below W17.heap.size W17 w_ := hJ
   obtain ⟨y0, y1⟩ := ((b8.out).up hJ0).c2
   go_simp
   exact hK.out _ _ (Below.refl _ _) ((HD.out).kept (Keep.ofBelow hJ0)) trivial
  refine AS.sc rfl rfl rfl ?_ ?_
  ·intro k_ u w_ hk hJ hF K hK
   have h26 : PInt ((x.den : Int)) n (u 26) w_ := AS.facts_get hF 26 (by simp)
   have h27 : PInt ((y.den : Int)) n (u 27) w_ := AS.facts_get hF 27 (by simp)
   clear hF
   go_simp
   refine (mul_fact h26 h27 (by omega) (by omega)).mono ?_
   rintro e w' ⟨v, rfl, hv, hb⟩
   exact hK.out _ _ hb (hv) trivial
  refine AS.sc rfl rfl rfl ?_ ?_
  ·intro k_ u w_ hk hJ hF K hK
   have h25 : PInt (((x.num) * ((y.den : Int))) + ((y.num) * ((x.den : Int)))) (((n + n) + (n + n)) + 1) (u 25) w_ := AS.facts_get hF 25 (by simp)
   have h28 : PInt (((x.den : Int)) * ((y.den : Int))) (n + n) (u 28) w_ := AS.facts_get hF 28 (by simp)
   clear hF
   obtain ⟨ka, Aa, la, ca, ea⟩ := h25.open
   obtain ⟨kb, Ab, lb, cb, eb⟩ := h28.open
   rw [ea] at h25
   rw [eb] at h28
   simp only [ea, eb] at hK ⊢
   go_simp
   exact hK.out _ _ (Below.refl _ _) (⟨ka, Aa, la, ca, kb, Ab, lb, cb, rfl, h25.more (by omega), h28.more (by omega)⟩) trivial
  refine AS.sc rfl rfl rfl ?_ ?_
  ·intro k_ u w_ hk hJ hF K hK
   have h29 : Pair (x.num * (y.den : Int) + y.num * (x.den : Int)) ((x.den : Int) * (y.den : Int)) (4 * n + 1) (u 29) w_ := AS.facts_get hF 29 (by simp)
   clear hF
   go_simp
   refine (red_pair h29 (by omega) (mul_ne (den_ne x) (den_ne y))).mono ?_
   rintro e w' ⟨v, rfl, hv, hb⟩
   exact hK.out _ _ hb (by rw [add_terms] at hv; exact hv) trivial
  refine AS.ss rfl rfl ?_ ?_
  ·intro u w_ hJ hAp hF K hK
   have h30 : PRat (x + y) (4 * n + 2) (u 30) w_ := AS.facts_get hF 30 (by simp)
   clear hF
   obtain ⟨k1, A1, l1, c1, k2, A2, l2, c2, e_⟩ := h30.open
   have hJ0 : Below W17.heap.size W17 w_ := hJ
   have bx := (b4.out).up hJ0
   have hbel := below_then HB18.out hJ0 HB18.out.size
   have y0 := bx.cell 0
   have z0 := bx.frozen 0
   have y1 := bx.cell 1
   have z1 := bx.frozen 1
   have y2 := bx.cell 2
   have z2 := bx.frozen 2
   have y3 := bx.cell 3
   have z3 := bx.frozen 3
   simp only [List.getElem?_cons_zero, List.getElem?_cons_succ] at y0 y1 y2 y3
   simp only [e_] at hK ⊢
   go_simp
   exact hK.out undef _ ⟨⟨(Below.setCell (p := ⟨w.heap.size + 1 + 1, 3, none⟩) (Below.setCell (p := ⟨w.heap.size + 1 + 1, 2, none⟩) (Below.set2 (g := w.heap.size + 1 + 1) hbel (by first | omega | (simp; done) | (simp; omega)) (.bool k1) (.slice A1 l1 c1)) (by first | omega | (simp; done) | (simp; omega)) (.bool k2)) (by first | omega | (simp; done) | (simp; omega)) (.slice A2 l2 c2)), (by simp only [setCell_size]; first | exact hsz | exact Nat.le_trans HB18.out.size hJ0.size)⟩, [.bool k1, .slice A1 l1 c1, .bool k2, .slice A2 l2 c2], by simp [e_], (Bx.set4 bx (Leaf.bool k1) (Leaf.slice A1 l1 c1) (Leaf.bool k2) (Leaf.slice A2 l2 c2))⟩ (Keep.set4 (Keep.refl w_) bx (Leaf.bool k1) (Leaf.slice A1 l1 c1) (Leaf.bool k2) (Leaf.slice A2 l2 c2))
  exact AS.StepsOk.nil
 ·intro u W19 hJ9 hF
  have h30 : PRat (x + y) (4 * n + 2) (u 30) W19 := AS.facts_get hF 30 (by simp [ratAddFL, AS.temps])
  clear hF
  obtain ⟨⟨hbel, -⟩, vs, hvs, hbx⟩ := hJ9
  obtain ⟨ka, Aa, la, ca, kb, Ab, lb, cb, ea⟩ := h30.open
  rw [ea] at h30
  obtain rfl : vs = [.bool ka, .slice Aa la ca, .bool kb, .slice Ab lb cb] := by
   have e1 := (List.cons.inj hvs).1
   rw [show u 30 = _ from ea] at e1
   have e2 := congrArg Array.toList (Value.agg.inj e1)
   simpa using e2.symm
  have y0 := hbx.cell 0
  have y1 := hbx.cell 1
  have y2 := hbx.cell 2
  have y3 := hbx.cell 3
  simp only [List.getElem?_cons_zero, List.getElem?_cons_succ] at y0 y1 y2 y3
  go_wp2_with fail
  refine bodyPost_ret (v := .agg #[.bool ka, .slice Aa la ca, .bool kb, .slice Ab lb cb]) (by simp [results, Tryz.results12, go_sem, y0, y1, y2, y3]) rfl ⟨_, rfl, h30, hbel⟩
set_option maxHeartbeats 3200000
set_option maxRecDepth 20000
def nearFLN (a b : Int) (n : Nat) (W20 : World) : List (Nat × AS.Fact) := [(18, AS.Fact.int (a) n), (19, AS.Fact.int (2) 3), (20, AS.Fact.int ((a) * (2)) (n + 3)), (21, AS.Fact.int (-b) n), (22, AS.Fact.int (((a) * (2)) + (-b)) (((n + 3) + n) + 1)), (23, AS.Fact.int (b) n), (24, AS.Fact.int (2) 3), (25, AS.Fact.int ((b) * (2)) (n + 3)), (26, AS.Fact.quo (Int.tdiv ((a) * (2) + (-b)) ((b) * (2))) (Int.tmod ((a) * (2) + (-b)) ((b) * (2))) (2 * n + 5)), (17, AS.Fact.quo (Int.tdiv ((a) * (2) + (-b)) ((b) * (2))) (Int.tmod ((a) * (2) + (-b)) ((b) * (2))) (2 * n + 5)), (27, AS.Fact.int (Int.tdiv ((a) * (2) + (-b)) ((b) * (2))) (2 * n + 5)), (28, AS.Fact.int (Int.tmod ((a) * (2) + (-b)) ((b) * (2))) (2 * n + 5)), (29, AS.Fact.is (.int .i64 0)), (7, AS.Fact.isBox 25 W20.heap.size), (8, AS.Fact.isBox 25 W20.heap.size), (9, AS.Fact.is (.int .i64 0))]
theorem near_neg {a b : Int} {n : Nat} {k : Bool} {A : Option Addr} {l c : Nat} {k' : Bool} {A' : Option Addr} {l' c' : Nat} {w : World} (h : PInt a n (.agg #[.bool k, .slice A l c]) w) (h2 : PInt b n (.agg #[.bool k', .slice A' l' c']) w) (hn : n ≤ 90000) (hbp : 0 < b) (hc : cmpI a 0 = -1) (ha : a < 0) :
  Calls Tryz.prog 30 #[.agg #[.bool k, .slice A l c], .agg #[.bool k', .slice A' l' c']] w fun e w' => ∃ v, e = .returned v ∧ PInt (rndI a b) (2 * n + 5) v w' ∧ Below w.heap.size w w' := by
 have HBP := Lib.hid hbp
 have H1 := Lib.hid h
 have H2 := Lib.hid h2
 clear h h2
 go_enter Tryz.func30, Tryz.ntmps30
 go_upto_region 1 with (fail)
 change Code.wp Tryz.prog _ _ _ (((w.alloc (.cells #[.bool k, .slice A l c] 25)).alloc (.cells #[.bool k', .slice A' l' c'] 25)).alloc (.cells #[.bool false, .slice none 0 0] 25))
 obtain ⟨nb2, nb3, nb4, na⟩ := new3 w 25 [.bool k, .slice A l c] 25 [.bool k', .slice A' l' c'] 25 [.bool false, .slice none 0 0] lf2 lf2 lf2
 have nkeep := Keep.ofBelow na
 have nbel := na
 generalize ((w.alloc (.cells #[.bool k, .slice A l c] 25)).alloc (.cells #[.bool k', .slice A' l' c'] 25)).alloc (.cells #[.bool false, .slice none 0 0] 25) = W1 at *
 clear na
 have b2 := Lib.hid nb2
 have b3 := Lib.hid nb3
 have b4 := Lib.hid nb4
 clear nb2 nb3 nb4
 replace H1 := Lib.hid (H1.out.kept nkeep)
 replace H2 := Lib.hid (H2.out.kept nkeep)
 clear nkeep
 have HB2 := Lib.hid nbel
 clear nbel
 obtain ⟨x2_0, x2_1, s2⟩ := b2.out.d2
 obtain ⟨x3_0, x3_1, s3⟩ := b3.out.d2
 obtain ⟨x4_0, x4_1, s4⟩ := b4.out.d2
 have szb := HB2.out.size
 go_upto_region 2 with (fail)
 have q3 := b2.out.lt
 have q4 := b3.out.lt
 have q5 := b4.out.lt
 change Code.wp Tryz.prog _ _ _ (W1.alloc (.cells #[.bool k', .slice A' l' c'] 25))
 obtain ⟨nb5, na⟩ := new1 W1 25 [.bool k', .slice A' l' c'] lf2
 have nb2 := b2.out.up na
 have nb3 := b3.out.up na
 have nb4 := b4.out.up na
 have nkeep := Keep.ofBelow na
 have nbel := below_then HB2.out na HB2.out.size
 generalize W1.alloc (.cells #[.bool k', .slice A' l' c'] 25) = W6 at *
 clear na x2_0 x2_1 x3_0 x3_1 x4_0 x4_1 szb s2 s3 s4 b2 b3 b4
 have b2 := Lib.hid nb2
 have b3 := Lib.hid nb3
 have b4 := Lib.hid nb4
 have b5 := Lib.hid nb5
 clear nb2 nb3 nb4 nb5
 replace H1 := Lib.hid (H1.out.kept nkeep)
 replace H2 := Lib.hid (H2.out.kept nkeep)
 clear nkeep
 have HB7 := Lib.hid nbel
 clear nbel HB2
 obtain ⟨x2_0, x2_1, s2⟩ := b2.out.d2
 obtain ⟨x3_0, x3_1, s3⟩ := b3.out.d2
 obtain ⟨x4_0, x4_1, s4⟩ := b4.out.d2
 obtain ⟨x5_0, x5_1, z5_0, z5_1, s5⟩ := b5.out.e2
 have szb := HB7.out.size
 go_wp2_with fail
 refine (sign_is H1.out hc).mono ?_
 rintro e W8 ⟨rfl, hb⟩
 replace b2 := hup b2 hb
 replace b3 := hup b3 hb
 replace b4 := hup b4 hb
 replace b5 := hup b5 hb
 replace H1 := Lib.hid (H1.out.kept (Keep.ofBelow hb))
 replace H2 := Lib.hid (H2.out.kept (Keep.ofBelow hb))
 have nbel := below_then HB7.out hb HB7.out.size
 have HB9 := Lib.hid nbel
 clear nbel HB7 hb x2_0 x2_1 x3_0 x3_1 x4_0 x4_1 x5_0 x5_1 z5_0 z5_1 szb s2 s3 s4 s5
 obtain ⟨x2_0, x2_1, s2⟩ := b2.out.d2
 obtain ⟨x3_0, x3_1, s3⟩ := b3.out.d2
 obtain ⟨x4_0, x4_1, s4⟩ := b4.out.d2
 obtain ⟨x5_0, x5_1, z5_0, z5_1, s5⟩ := b5.out.e2
 have szb := HB9.out.size
 go_wp2_with fail
 refine (neg_fact H2.out (by omega)).mono ?_
 rintro e W10 ⟨v2, rfl, hv2, hb⟩
 replace b2 := hup b2 hb
 replace b3 := hup b3 hb
 replace b4 := hup b4 hb
 replace b5 := hup b5 hb
 replace H1 := Lib.hid (H1.out.kept (Keep.ofBelow hb))
 replace H2 := Lib.hid (H2.out.kept (Keep.ofBelow hb))
 have nbel := below_then HB9.out hb HB9.out.size
 have HB11 := Lib.hid nbel
 clear nbel HB9 hb x2_0 x2_1 x3_0 x3_1 x4_0 x4_1 x5_0 x5_1 z5_0 z5_1 szb s2 s3 s4 s5
 obtain ⟨x2_0, x2_1, s2⟩ := b2.out.d2
 obtain ⟨x3_0, x3_1, s3⟩ := b3.out.d2
 obtain ⟨x4_0, x4_1, s4⟩ := b4.out.d2
 obtain ⟨x5_0, x5_1, z5_0, z5_1, s5⟩ := b5.out.e2
 have szb := HB11.out.size
 obtain ⟨k2, A2, l2, c2, rfl⟩ := hv2.open
 have HH := Lib.hid hv2
 clear hv2
 go_upto_region 4 with (fail)
 change Code.wp Tryz.prog _ _ _ ((W10.setCell ⟨W1.heap.size, 0, none⟩ (.bool k2)).setCell ⟨W1.heap.size, 1, none⟩ (.slice A2 l2 c2))
 have nb2 : Bx 25 ((W10.setCell ⟨W1.heap.size, 0, none⟩ (.bool k2)).setCell ⟨W1.heap.size, 1, none⟩ (.slice A2 l2 c2)) w.heap.size [.bool k, .slice A l c] := (Bx.far2 (g' := W1.heap.size) b2.out (by omega) (.bool k2) (.slice A2 l2 c2))
 have nb3 : Bx 25 ((W10.setCell ⟨W1.heap.size, 0, none⟩ (.bool k2)).setCell ⟨W1.heap.size, 1, none⟩ (.slice A2 l2 c2)) (w.heap.size + 1) [.bool k', .slice A' l' c'] := (Bx.far2 (g' := W1.heap.size) b3.out (by omega) (.bool k2) (.slice A2 l2 c2))
 have nb4 : Bx 25 ((W10.setCell ⟨W1.heap.size, 0, none⟩ (.bool k2)).setCell ⟨W1.heap.size, 1, none⟩ (.slice A2 l2 c2)) (w.heap.size + 1 + 1) [.bool false, .slice none 0 0] := (Bx.far2 (g' := W1.heap.size) b4.out (by omega) (.bool k2) (.slice A2 l2 c2))
 have nb5 : Bx 25 ((W10.setCell ⟨W1.heap.size, 0, none⟩ (.bool k2)).setCell ⟨W1.heap.size, 1, none⟩ (.slice A2 l2 c2)) W1.heap.size [.bool k2, .slice A2 l2 c2] := (Bx.set2 b5.out (Leaf.bool k2) (Leaf.slice A2 l2 c2))
 have nkeep := (Keep.set2 (Keep.refl W10) b5.out (Leaf.bool k2) (Leaf.slice A2 l2 c2))
 have nbel : Below w.heap.size w ((W10.setCell ⟨W1.heap.size, 0, none⟩ (.bool k2)).setCell ⟨W1.heap.size, 1, none⟩ (.slice A2 l2 c2)) := (Below.set2 (g := W1.heap.size) HB11.out (by first | omega | (simp; done) | (simp; omega)) (.bool k2) (.slice A2 l2 c2))
 generalize (W10.setCell ⟨W1.heap.size, 0, none⟩ (.bool k2)).setCell ⟨W1.heap.size, 1, none⟩ (.slice A2 l2 c2) = W12 at *
 clear x2_0 x2_1 x3_0 x3_1 x4_0 x4_1 x5_0 x5_1 z5_0 z5_1 szb s2 s3 s4 s5 b2 b3 b4 b5
 have b2 := Lib.hid nb2
 have b3 := Lib.hid nb3
 have b4 := Lib.hid nb4
 have b5 := Lib.hid nb5
 clear nb2 nb3 nb4 nb5
 replace H1 := Lib.hid (H1.out.kept nkeep)
 replace H2 := Lib.hid (H2.out.kept nkeep)
 replace HH := Lib.hid (HH.out.kept nkeep)
 clear nkeep
 have HB13 := Lib.hid nbel
 clear nbel HB11
 obtain ⟨x2_0, x2_1, s2⟩ := b2.out.d2
 obtain ⟨x3_0, x3_1, s3⟩ := b3.out.d2
 obtain ⟨x4_0, x4_1, s4⟩ := b4.out.d2
 obtain ⟨x5_0, x5_1, z5_0, z5_1, s5⟩ := b5.out.e2
 have szb := HB13.out.size
 go_wp2_with fail
 refine (of_fact (n := 2) (by decide) (by decide)).mono ?_
 rintro e W14 ⟨v2, rfl, hv2, hb⟩
 replace b2 := hup b2 hb
 replace b3 := hup b3 hb
 replace b4 := hup b4 hb
 replace b5 := hup b5 hb
 replace H1 := Lib.hid (H1.out.kept (Keep.ofBelow hb))
 replace H2 := Lib.hid (H2.out.kept (Keep.ofBelow hb))
 replace HH := Lib.hid (HH.out.kept (Keep.ofBelow hb))
 have nbel := below_then HB13.out hb HB13.out.size
 have HB15 := Lib.hid nbel
 clear nbel HB13 hb x2_0 x2_1 x3_0 x3_1 x4_0 x4_1 x5_0 x5_1 z5_0 z5_1 szb s2 s3 s4 s5
 obtain ⟨x2_0, x2_1, s2⟩ := b2.out.d2
 obtain ⟨x3_0, x3_1, s3⟩ := b3.out.d2
 obtain ⟨x4_0, x4_1, s4⟩ := b4.out.d2
 obtain ⟨x5_0, x5_1, z5_0, z5_1, s5⟩ := b5.out.e2
 have szb := HB15.out.size
 obtain ⟨k3, A3, l3, c3, rfl⟩ := hv2.open
 have HO := Lib.hid hv2
 clear hv2
 go_upto_region 5 with (fail)
 have q16 := b2.out.lt
 have q17 := b3.out.lt
 have q18 := b4.out.lt
 have q19 := b5.out.lt
 change Code.wp Tryz.prog _ _ _ (W14.alloc (.cells #[.bool k3, .slice A3 l3 c3] 25))
 obtain ⟨nb6, na⟩ := new1 W14 25 [.bool k3, .slice A3 l3 c3] lf2
 have nb2 := b2.out.up na
 have nb3 := b3.out.up na
 have nb4 := b4.out.up na
 have nb5 := b5.out.up na
 have nkeep := Keep.ofBelow na
 have nbel := below_then HB15.out na HB15.out.size
 generalize W14.alloc (.cells #[.bool k3, .slice A3 l3 c3] 25) = W20 at *
 clear na x2_0 x2_1 x3_0 x3_1 x4_0 x4_1 x5_0 x5_1 z5_0 z5_1 szb s2 s3 s4 s5 b2 b3 b4 b5
 have b2 := Lib.hid nb2
 have b3 := Lib.hid nb3
 have b4 := Lib.hid nb4
 have b5 := Lib.hid nb5
 have b6 := Lib.hid nb6
 clear nb2 nb3 nb4 nb5 nb6
 replace H1 := Lib.hid (H1.out.kept nkeep)
 replace H2 := Lib.hid (H2.out.kept nkeep)
 replace HH := Lib.hid (HH.out.kept nkeep)
 replace HO := Lib.hid (HO.out.kept nkeep)
 clear nkeep
 have HB21 := Lib.hid nbel
 clear nbel HB15
 obtain ⟨x2_0, x2_1, s2⟩ := b2.out.d2
 obtain ⟨x3_0, x3_1, s3⟩ := b3.out.d2
 obtain ⟨x4_0, x4_1, s4⟩ := b4.out.d2
 obtain ⟨x5_0, x5_1, z5_0, z5_1, s5⟩ := b5.out.e2
 obtain ⟨x6_0, x6_1, s6⟩ := b6.out.d2
 have szb := HB21.out.size
 refine AS.region_facts (nearFLN a b n W20) (JFst W20 25) [[], [], [18, 19], [], [20, 21], [], [], [23, 24], [22, 25], [26], [17], [17], [17], [], [], [27, 7], [28, 8], [29]] [15, 16] [[], [27, 7], [27, 7]] [0, 0, 2, 0, 2, 0, 0, 2, 2, 2, 2, 2, 2, 0, 0, 2, 2, 2] [7, 8] (fun u => by simp only [nearFLN, AS.temps, List.map_cons, List.map_nil, fillL, List.setIfInBounds_toArray, List.set_cons_zero, List.set_cons_succ]; rfl) (by kernel_rfl) (by kernel_rfl) (JFst.st W20 25) (below_drew (Below.refl _ _)) ?_ ?_
 ·refine AS.sc rfl rfl rfl ?_ ?_
  ·intro k_ u w_ hk hJ hF K hK
   clear hF
   obtain rfl : k_ = 0 := Nat.le_zero.1 hk
   have hJ0 : Below W20.heap.size W20 w_ := hJ
   obtain ⟨y0, y1⟩ := ((b2.out).up hJ0).c2
   go_simp
   exact hK.out _ _ (Below.refl _ _) ((H1.out).kept (Keep.ofBelow hJ0)) trivial
  refine AS.sc rfl rfl rfl ?_ ?_
  ·intro k_ u w_ hk hJ hF K hK
   clear hF
   obtain rfl : k_ = 0 := Nat.le_zero.1 hk
   have hJ0 : Below W20.heap.size W20 w_ := hJ
   obtain ⟨y0, y1⟩ := ((b6.out).up hJ0).c2
   go_simp
   exact hK.out _ _ (Below.refl _ _) ((HO.out).kept (Keep.ofBelow hJ0)) trivial
  refine AS.sc rfl rfl rfl ?_ ?_
  ·intro k_ u w_ hk hJ hF K hK
   have h18 : PInt (a) n (u 18) w_ := AS.facts_get hF 18 (by simp)
   have h19 : PInt (2) 3 (u 19) w_ := AS.facts_get hF 19 (by simp)
   clear hF
   go_simp
   refine (mul_fact h18 h19 (by omega) (by omega)).mono ?_
   rintro e w' ⟨v, rfl, hv, hb⟩
   exact hK.out _ _ hb (hv) trivial
  refine AS.sc rfl rfl rfl ?_ ?_
  ·intro k_ u w_ hk hJ hF K hK
   clear hF
   obtain rfl : k_ = 0 := Nat.le_zero.1 hk
   have hJ0 : Below W20.heap.size W20 w_ := hJ
   obtain ⟨y0, y1⟩ := ((b5.out).up hJ0).c2
   go_simp
   exact hK.out _ _ (Below.refl _ _) ((HH.out).kept (Keep.ofBelow hJ0)) trivial
  refine AS.sc rfl rfl rfl ?_ ?_
  ·intro k_ u w_ hk hJ hF K hK
   have h20 : PInt ((a) * (2)) (n + 3) (u 20) w_ := AS.facts_get hF 20 (by simp)
   have h21 : PInt (-b) n (u 21) w_ := AS.facts_get hF 21 (by simp)
   clear hF
   go_simp
   refine (add_fact h20 h21 (by omega) (by omega)).mono ?_
   rintro e w' ⟨v, rfl, hv, hb⟩
   exact hK.out _ _ hb (hv) trivial
  refine AS.sc rfl rfl rfl ?_ ?_
  ·intro k_ u w_ hk hJ hF K hK
   clear hF
   obtain rfl : k_ = 0 := Nat.le_zero.1 hk
   have hJ0 : Below W20.heap.size W20 w_ := hJ
   obtain ⟨y0, y1⟩ := ((b3.out).up hJ0).c2
   go_simp
   exact hK.out _ _ (Below.refl _ _) ((H2.out).kept (Keep.ofBelow hJ0)) trivial
  refine AS.sc rfl rfl rfl ?_ ?_
  ·intro k_ u w_ hk hJ hF K hK
   clear hF
   obtain rfl : k_ = 0 := Nat.le_zero.1 hk
   have hJ0 : Below W20.heap.size W20 w_ := hJ
   obtain ⟨y0, y1⟩ := ((b6.out).up hJ0).c2
   go_simp
   exact hK.out _ _ (Below.refl _ _) ((HO.out).kept (Keep.ofBelow hJ0)) trivial
  refine AS.sc rfl rfl rfl ?_ ?_
  ·intro k_ u w_ hk hJ hF K hK
   have h23 : PInt (b) n (u 23) w_ := AS.facts_get hF 23 (by simp)
   have h24 : PInt (2) 3 (u 24) w_ := AS.facts_get hF 24 (by simp)
   clear hF
   go_simp
   refine (mul_fact h23 h24 (by omega) (by omega)).mono ?_
   rintro e w' ⟨v, rfl, hv, hb⟩
   exact hK.out _ _ hb (hv) trivial
  refine AS.sc rfl rfl rfl ?_ ?_
  ·intro k_ u w_ hk hJ hF K hK
   have h22 : PInt (((a) * (2)) + (-b)) (((n + 3) + n) + 1) (u 22) w_ := AS.facts_get hF 22 (by simp)
   have h25 : PInt ((b) * (2)) (n + 3) (u 25) w_ := AS.facts_get hF 25 (by simp)
   clear hF
   go_simp
   refine (quo_fact h22 h25 (by omega) (by omega) (by omega)).mono ?_
   rintro e w' ⟨k7, A7, l7, c7, k8, A8, l8, c8, rfl, hq, hr, hb⟩
   exact hK.out _ _ hb (⟨_, _, rfl, hq.more (by omega), hr.more (by omega)⟩) trivial
  refine AS.sc rfl rfl rfl ?_ ?_
  ·intro k_ u w_ hk hJ hF K hK
   have h26 : QuoP (Int.tdiv ((a) * (2) + (-b)) ((b) * (2))) (Int.tmod ((a) * (2) + (-b)) ((b) * (2))) (2 * n + 5) (u 26) w_ := AS.facts_get hF 26 (by simp)
   clear hF
   go_simp
   exact hK.out _ _ (Below.refl _ _) (h26) trivial
  refine AS.sc rfl rfl rfl ?_ ?_
  ·intro k_ u w_ hk hJ hF K hK
   have h17 : QuoP (Int.tdiv ((a) * (2) + (-b)) ((b) * (2))) (Int.tmod ((a) * (2) + (-b)) ((b) * (2))) (2 * n + 5) (u 17) w_ := AS.facts_get hF 17 (by simp)
   clear hF
   obtain ⟨qa, qb, e0, hqa, hqb⟩ := h17
   simp only [e0] at hK ⊢
   go_simp
   exact hK.out _ _ (Below.refl _ _) (hqa) trivial
  refine AS.sc rfl rfl rfl ?_ ?_
  ·intro k_ u w_ hk hJ hF K hK
   have h17 : QuoP (Int.tdiv ((a) * (2) + (-b)) ((b) * (2))) (Int.tmod ((a) * (2) + (-b)) ((b) * (2))) (2 * n + 5) (u 17) w_ := AS.facts_get hF 17 (by simp)
   clear hF
   obtain ⟨qa, qb, e0, hqa, hqb⟩ := h17
   simp only [e0] at hK ⊢
   go_simp
   exact hK.out _ _ (Below.refl _ _) (hqb) trivial
  refine AS.sc rfl rfl rfl ?_ ?_
  ·intro k_ u w_ hk hJ hF K hK
   have h17 : QuoP (Int.tdiv ((a) * (2) + (-b)) ((b) * (2))) (Int.tmod ((a) * (2) + (-b)) ((b) * (2))) (2 * n + 5) (u 17) w_ := AS.facts_get hF 17 (by simp)
   clear hF
   obtain ⟨qa, qb, e0, hqa, hqb⟩ := h17
   simp only [e0] at hK ⊢
   go_simp
   exact hK.out _ _ (Below.refl _ _) (rfl) trivial
  refine AS.sc rfl rfl rfl ?_ ?_
  ·intro k_ u w_ hk hJ hF K hK
   clear hF
   obtain rfl : k_ = 0 := Nat.le_zero.1 hk
   have hJ0 : Below W20.heap.size W20 w_ := hJ
   go_simp
   exact hK.out _ _ (below_alloc_new _) (IsBox.new _ hJ0.size) ⟨rfl, by simp⟩
  refine AS.sc rfl rfl rfl ?_ ?_
  ·intro k_ u w_ hk hJ hF K hK
   clear hF
   obtain rfl : k_ = 0 := Nat.le_zero.1 hk
   have hJ0 : Below W20.heap.size W20 w_ := hJ
   go_simp
   exact hK.out _ _ (below_alloc_new _) (IsBox.new _ hJ0.size) ⟨rfl, by simp⟩
  refine AS.ss rfl rfl ?_ ?_
  ·intro u w_ hJ hAp hF K hK
   have h27 : PInt (Int.tdiv ((a) * (2) + (-b)) ((b) * (2))) (2 * n + 5) (u 27) w_ := AS.facts_get hF 27 (by simp)
   have h7 : IsBox 25 W20.heap.size (u 7) w_ := AS.facts_get hF 7 (by simp)
   clear hF
   obtain ⟨g, x_, y_, eg, hgB, bx⟩ := h7
   obtain ⟨k1, A1, l1, c1, e_⟩ := h27.open
   have y0 := bx.cell 0
   have y1 := bx.cell 1
   have z0 := bx.frozen 0
   have z1 := bx.frozen 1
   simp only [List.getElem?_cons_zero, List.getElem?_cons_succ] at y0 y1
   have hbel : Below W20.heap.size W20 w_ := hJ
   simp only [e_, eg] at hK ⊢
   go_simp
   exact hK.out undef _ ⟨(Below.setCell (p := ⟨g, 1, none⟩) (Below.setCell (p := ⟨g, 0, none⟩) hbel hgB (.bool k1)) hgB (.slice A1 l1 c1)), g, [.bool k1, .slice A1 l1 c1], by simp [e_, eg], hgB, (Bx.set2 bx (Leaf.bool k1) (Leaf.slice A1 l1 c1))⟩ (Keep.set2 (Keep.refl w_) bx (Leaf.bool k1) (Leaf.slice A1 l1 c1))
  refine AS.ss rfl rfl ?_ ?_
  ·intro u w_ hJ hAp hF K hK
   have h28 : PInt (Int.tmod ((a) * (2) + (-b)) ((b) * (2))) (2 * n + 5) (u 28) w_ := AS.facts_get hF 28 (by simp)
   have h8 : IsBox 25 W20.heap.size (u 8) w_ := AS.facts_get hF 8 (by simp)
   clear hF
   obtain ⟨g, x_, y_, eg, hgB, bx⟩ := h8
   obtain ⟨k1, A1, l1, c1, e_⟩ := h28.open
   have y0 := bx.cell 0
   have y1 := bx.cell 1
   have z0 := bx.frozen 0
   have z1 := bx.frozen 1
   simp only [List.getElem?_cons_zero, List.getElem?_cons_succ] at y0 y1
   obtain ⟨hbel, g2, vs, hvs, hg2, bx2⟩ := hJ
   have e7 : u 7 = .pointer (some ⟨g2, 0, none⟩) := (List.cons.inj (List.cons.inj hvs).2).1
   have hne : g ≠ g2 := by
    intro h
    refine hAp 7 (by simp) 8 (by simp) (by decide) ?_
    rw [e7, eg, h]
   clear e7
   simp only [e_, eg] at hK ⊢
   go_simp
   exact hK.out undef _ ⟨(Below.setCell (p := ⟨g, 1, none⟩) (Below.setCell (p := ⟨g, 0, none⟩) hbel hgB (.bool k1)) hgB (.slice A1 l1 c1)), g2, vs, hvs, hg2, Bx.far (Bx.far bx2 hne 0 (.bool k1)) hne 1 (.slice A1 l1 c1)⟩ (Keep.set2 (Keep.refl w_) bx (Leaf.bool k1) (Leaf.slice A1 l1 c1))
  refine AS.sc rfl rfl rfl ?_ ?_
  ·intro k_ u w_ hk hJ hF K hK
   have h29 : u 29 = .int .i64 0 := AS.facts_get hF 29 (by simp)
   clear hF
   simp only [h29] at hK ⊢
   clear h29
   go_simp
   exact hK.out _ _ (Below.refl _ _) (rfl) trivial
  exact AS.StepsOk.nil
 ·intro u W22 hJ9 hF
  have h27 : PInt (Int.tdiv ((a) * (2) + (-b)) ((b) * (2))) (2 * n + 5) (u 27) W22 := AS.facts_get hF 27 (by simp [nearFLN, AS.temps])
  clear hF
  obtain ⟨hbel, g, vs, hvs, hgB, bx⟩ := hJ9
  obtain ⟨ka, Aa, la, ca, ea⟩ := h27.open
  rw [ea] at h27
  have e7 : u 7 = .pointer (some ⟨g, 0, none⟩) := (List.cons.inj (List.cons.inj hvs).2).1
  obtain rfl : vs = [.bool ka, .slice Aa la ca] := by
   have e1 := (List.cons.inj hvs).1
   rw [show u 27 = _ from ea] at e1
   have e2 := congrArg Array.toList (Value.agg.inj e1)
   simpa using e2.symm
  clear hvs
  have HQ := Lib.hid h27
  have b7 := Lib.hid bx
  clear h27 bx
  rw [show u 7 = _ from e7]
  clear e7
  replace b2 := hup b2 hbel
  replace b3 := hup b3 hbel
  replace b4 := hup b4 hbel
  replace b5 := hup b5 hbel
  replace b6 := hup b6 hbel
  replace H1 := Lib.hid (H1.out.kept (Keep.ofBelow hbel))
  replace H2 := Lib.hid (H2.out.kept (Keep.ofBelow hbel))
  replace HH := Lib.hid (HH.out.kept (Keep.ofBelow hbel))
  replace HO := Lib.hid (HO.out.kept (Keep.ofBelow hbel))
  have nbel := below_then HB21.out hbel HB21.out.size
  have HB23 := Lib.hid nbel
  clear nbel HB21 hbel x2_0 x2_1 x3_0 x3_1 x4_0 x4_1 x5_0 x5_1 z5_0 z5_1 x6_0 x6_1 szb s2 s3 s4 s5 s6
  obtain ⟨x2_0, x2_1, s2⟩ := b2.out.d2
  obtain ⟨x3_0, x3_1, s3⟩ := b3.out.d2
  obtain ⟨x4_0, x4_1, z4_0, z4_1, s4⟩ := b4.out.e2
  obtain ⟨x5_0, x5_1, z5_0, z5_1, s5⟩ := b5.out.e2
  obtain ⟨x6_0, x6_1, s6⟩ := b6.out.d2
  obtain ⟨x7_0, x7_1, s7⟩ := b7.out.d2
  have szb := HB23.out.size
  go_wp2_with fail
  have hkeep := (Keep.set2 (Keep.refl W22) b4.out (Leaf.bool ka) (Leaf.slice Aa la ca))
  have hbel := (Below.set2 (g := w.heap.size + 1 + 1) HB23.out (by first | omega | (simp; done) | (simp; omega)) (.bool ka) (.slice Aa la ca))
  refine bodyPost_ret (v := .agg #[.bool ka, .slice Aa la ca]) (by simp [results, Tryz.results30, go_sem, x4_0, x4_1]) rfl ⟨_, rfl, by rw [← near_eq a b HBP.out, if_pos (by omega)]; exact HQ.out.kept hkeep, hbel⟩
def nearFLP (a b : Int) (n : Nat) (W16 : World) : List (Nat × AS.Fact) := [(18, AS.Fact.int (a) n), (19, AS.Fact.int (2) 3), (20, AS.Fact.int ((a) * (2)) (n + 3)), (21, AS.Fact.int (b) n), (22, AS.Fact.int (((a) * (2)) + (b)) (((n + 3) + n) + 1)), (23, AS.Fact.int (b) n), (24, AS.Fact.int (2) 3), (25, AS.Fact.int ((b) * (2)) (n + 3)), (26, AS.Fact.quo (Int.tdiv ((a) * (2) + (b)) ((b) * (2))) (Int.tmod ((a) * (2) + (b)) ((b) * (2))) (2 * n + 5)), (17, AS.Fact.quo (Int.tdiv ((a) * (2) + (b)) ((b) * (2))) (Int.tmod ((a) * (2) + (b)) ((b) * (2))) (2 * n + 5)), (27, AS.Fact.int (Int.tdiv ((a) * (2) + (b)) ((b) * (2))) (2 * n + 5)), (28, AS.Fact.int (Int.tmod ((a) * (2) + (b)) ((b) * (2))) (2 * n + 5)), (29, AS.Fact.is (.int .i64 0)), (7, AS.Fact.isBox 25 W16.heap.size), (8, AS.Fact.isBox 25 W16.heap.size), (9, AS.Fact.is (.int .i64 0))]
theorem near_pos {a b : Int} {n : Nat} {k : Bool} {A : Option Addr} {l c : Nat} {k' : Bool} {A' : Option Addr} {l' c' : Nat} {w : World} (h : PInt a n (.agg #[.bool k, .slice A l c]) w) (h2 : PInt b n (.agg #[.bool k', .slice A' l' c']) w) (hn : n ≤ 90000) (hbp : 0 < b) (cc : Int) (hcc : decide (cc < 0) = false) (hc : cmpI a 0 = cc) (ha : 0 ≤ a) :
  Calls Tryz.prog 30 #[.agg #[.bool k, .slice A l c], .agg #[.bool k', .slice A' l' c']] w fun e w' => ∃ v, e = .returned v ∧ PInt (rndI a b) (2 * n + 5) v w' ∧ Below w.heap.size w w' := by
 have HBP := Lib.hid hbp
 have H1 := Lib.hid h
 have H2 := Lib.hid h2
 clear h h2
 go_enter Tryz.func30, Tryz.ntmps30
 go_upto_region 1 with (fail)
 change Code.wp Tryz.prog _ _ _ (((w.alloc (.cells #[.bool k, .slice A l c] 25)).alloc (.cells #[.bool k', .slice A' l' c'] 25)).alloc (.cells #[.bool false, .slice none 0 0] 25))
 obtain ⟨nb2, nb3, nb4, na⟩ := new3 w 25 [.bool k, .slice A l c] 25 [.bool k', .slice A' l' c'] 25 [.bool false, .slice none 0 0] lf2 lf2 lf2
 have nkeep := Keep.ofBelow na
 have nbel := na
 generalize ((w.alloc (.cells #[.bool k, .slice A l c] 25)).alloc (.cells #[.bool k', .slice A' l' c'] 25)).alloc (.cells #[.bool false, .slice none 0 0] 25) = W1 at *
 clear na
 have b2 := Lib.hid nb2
 have b3 := Lib.hid nb3
 have b4 := Lib.hid nb4
 clear nb2 nb3 nb4
 replace H1 := Lib.hid (H1.out.kept nkeep)
 replace H2 := Lib.hid (H2.out.kept nkeep)
 clear nkeep
 have HB2 := Lib.hid nbel
 clear nbel
 obtain ⟨x2_0, x2_1, s2⟩ := b2.out.d2
 obtain ⟨x3_0, x3_1, s3⟩ := b3.out.d2
 obtain ⟨x4_0, x4_1, s4⟩ := b4.out.d2
 have szb := HB2.out.size
 go_upto_region 2 with (fail)
 have q3 := b2.out.lt
 have q4 := b3.out.lt
 have q5 := b4.out.lt
 change Code.wp Tryz.prog _ _ _ (W1.alloc (.cells #[.bool k', .slice A' l' c'] 25))
 obtain ⟨nb5, na⟩ := new1 W1 25 [.bool k', .slice A' l' c'] lf2
 have nb2 := b2.out.up na
 have nb3 := b3.out.up na
 have nb4 := b4.out.up na
 have nkeep := Keep.ofBelow na
 have nbel := below_then HB2.out na HB2.out.size
 generalize W1.alloc (.cells #[.bool k', .slice A' l' c'] 25) = W6 at *
 clear na x2_0 x2_1 x3_0 x3_1 x4_0 x4_1 szb s2 s3 s4 b2 b3 b4
 have b2 := Lib.hid nb2
 have b3 := Lib.hid nb3
 have b4 := Lib.hid nb4
 have b5 := Lib.hid nb5
 clear nb2 nb3 nb4 nb5
 replace H1 := Lib.hid (H1.out.kept nkeep)
 replace H2 := Lib.hid (H2.out.kept nkeep)
 clear nkeep
 have HB7 := Lib.hid nbel
 clear nbel HB2
 obtain ⟨x2_0, x2_1, s2⟩ := b2.out.d2
 obtain ⟨x3_0, x3_1, s3⟩ := b3.out.d2
 obtain ⟨x4_0, x4_1, s4⟩ := b4.out.d2
 obtain ⟨x5_0, x5_1, z5_0, z5_1, s5⟩ := b5.out.e2
 have szb := HB7.out.size
 go_wp2_with fail
 refine (sign_is H1.out hc).mono ?_
 rintro e W8 ⟨rfl, hb⟩
 replace b2 := hup b2 hb
 replace b3 := hup b3 hb
 replace b4 := hup b4 hb
 replace b5 := hup b5 hb
 replace H1 := Lib.hid (H1.out.kept (Keep.ofBelow hb))
 replace H2 := Lib.hid (H2.out.kept (Keep.ofBelow hb))
 have nbel := below_then HB7.out hb HB7.out.size
 have HB9 := Lib.hid nbel
 clear nbel HB7 hb x2_0 x2_1 x3_0 x3_1 x4_0 x4_1 x5_0 x5_1 z5_0 z5_1 szb s2 s3 s4 s5
 obtain ⟨x2_0, x2_1, s2⟩ := b2.out.d2
 obtain ⟨x3_0, x3_1, s3⟩ := b3.out.d2
 obtain ⟨x4_0, x4_1, s4⟩ := b4.out.d2
 obtain ⟨x5_0, x5_1, z5_0, z5_1, s5⟩ := b5.out.e2
 have szb := HB9.out.size
 go_wp2_with fail
 refine (of_fact (n := 2) (by decide) (by decide)).mono ?_
 rintro e W10 ⟨v2, rfl, hv2, hb⟩
 replace b2 := hup b2 hb
 replace b3 := hup b3 hb
 replace b4 := hup b4 hb
 replace b5 := hup b5 hb
 replace H1 := Lib.hid (H1.out.kept (Keep.ofBelow hb))
 replace H2 := Lib.hid (H2.out.kept (Keep.ofBelow hb))
 have nbel := below_then HB9.out hb HB9.out.size
 have HB11 := Lib.hid nbel
 clear nbel HB9 hb x2_0 x2_1 x3_0 x3_1 x4_0 x4_1 x5_0 x5_1 z5_0 z5_1 szb s2 s3 s4 s5
 obtain ⟨x2_0, x2_1, s2⟩ := b2.out.d2
 obtain ⟨x3_0, x3_1, s3⟩ := b3.out.d2
 obtain ⟨x4_0, x4_1, s4⟩ := b4.out.d2
 obtain ⟨x5_0, x5_1, z5_0, z5_1, s5⟩ := b5.out.e2
 have szb := HB11.out.size
 obtain ⟨k3, A3, l3, c3, rfl⟩ := hv2.open
 have HO := Lib.hid hv2
 clear hv2
 go_upto_region 5 with (fail)
 have q12 := b2.out.lt
 have q13 := b3.out.lt
 have q14 := b4.out.lt
 have q15 := b5.out.lt
 change Code.wp Tryz.prog _ _ _ (W10.alloc (.cells #[.bool k3, .slice A3 l3 c3] 25))
 obtain ⟨nb6, na⟩ := new1 W10 25 [.bool k3, .slice A3 l3 c3] lf2
 have nb2 := b2.out.up na
 have nb3 := b3.out.up na
 have nb4 := b4.out.up na
 have nb5 := b5.out.up na
 have nkeep := Keep.ofBelow na
 have nbel := below_then HB11.out na HB11.out.size
 generalize W10.alloc (.cells #[.bool k3, .slice A3 l3 c3] 25) = W16 at *
 clear na x2_0 x2_1 x3_0 x3_1 x4_0 x4_1 x5_0 x5_1 z5_0 z5_1 szb s2 s3 s4 s5 b2 b3 b4 b5
 have b2 := Lib.hid nb2
 have b3 := Lib.hid nb3
 have b4 := Lib.hid nb4
 have b5 := Lib.hid nb5
 have b6 := Lib.hid nb6
 clear nb2 nb3 nb4 nb5 nb6
 replace H1 := Lib.hid (H1.out.kept nkeep)
 replace H2 := Lib.hid (H2.out.kept nkeep)
 replace HO := Lib.hid (HO.out.kept nkeep)
 clear nkeep
 have HB17 := Lib.hid nbel
 clear nbel HB11
 obtain ⟨x2_0, x2_1, s2⟩ := b2.out.d2
 obtain ⟨x3_0, x3_1, s3⟩ := b3.out.d2
 obtain ⟨x4_0, x4_1, s4⟩ := b4.out.d2
 obtain ⟨x5_0, x5_1, z5_0, z5_1, s5⟩ := b5.out.e2
 obtain ⟨x6_0, x6_1, s6⟩ := b6.out.d2
 have szb := HB17.out.size
 refine AS.region_facts (nearFLP a b n W16) (JFst W16 25) [[], [], [18, 19], [], [20, 21], [], [], [23, 24], [22, 25], [26], [17], [17], [17], [], [], [27, 7], [28, 8], [29]] [15, 16] [[], [27, 7], [27, 7]] [0, 0, 2, 0, 2, 0, 0, 2, 2, 2, 2, 2, 2, 0, 0, 2, 2, 2] [7, 8] (fun u => by simp only [nearFLP, AS.temps, List.map_cons, List.map_nil, fillL, List.setIfInBounds_toArray, List.set_cons_zero, List.set_cons_succ]; rfl) (by kernel_rfl) (by kernel_rfl) (JFst.st W16 25) (below_drew (Below.refl _ _)) ?_ ?_
 ·refine AS.sc rfl rfl rfl ?_ ?_
  ·intro k_ u w_ hk hJ hF K hK
   clear hF
   obtain rfl : k_ = 0 := Nat.le_zero.1 hk
   have hJ0 : Below W16.heap.size W16 w_ := hJ
   obtain ⟨y0, y1⟩ := ((b2.out).up hJ0).c2
   go_simp
   exact hK.out _ _ (Below.refl _ _) ((H1.out).kept (Keep.ofBelow hJ0)) trivial
  refine AS.sc rfl rfl rfl ?_ ?_
  ·intro k_ u w_ hk hJ hF K hK
   clear hF
   obtain rfl : k_ = 0 := Nat.le_zero.1 hk
   have hJ0 : Below W16.heap.size W16 w_ := hJ
   obtain ⟨y0, y1⟩ := ((b6.out).up hJ0).c2
   go_simp
   exact hK.out _ _ (Below.refl _ _) ((HO.out).kept (Keep.ofBelow hJ0)) trivial
  refine AS.sc rfl rfl rfl ?_ ?_
  ·intro k_ u w_ hk hJ hF K hK
   have h18 : PInt (a) n (u 18) w_ := AS.facts_get hF 18 (by simp)
   have h19 : PInt (2) 3 (u 19) w_ := AS.facts_get hF 19 (by simp)
   clear hF
   go_simp
   refine (mul_fact h18 h19 (by omega) (by omega)).mono ?_
   rintro e w' ⟨v, rfl, hv, hb⟩
   exact hK.out _ _ hb (hv) trivial
  refine AS.sc rfl rfl rfl ?_ ?_
  ·intro k_ u w_ hk hJ hF K hK
   clear hF
   obtain rfl : k_ = 0 := Nat.le_zero.1 hk
   have hJ0 : Below W16.heap.size W16 w_ := hJ
   obtain ⟨y0, y1⟩ := ((b5.out).up hJ0).c2
   go_simp
   exact hK.out _ _ (Below.refl _ _) ((H2.out).kept (Keep.ofBelow hJ0)) trivial
  refine AS.sc rfl rfl rfl ?_ ?_
  ·intro k_ u w_ hk hJ hF K hK
   have h20 : PInt ((a) * (2)) (n + 3) (u 20) w_ := AS.facts_get hF 20 (by simp)
   have h21 : PInt (b) n (u 21) w_ := AS.facts_get hF 21 (by simp)
   clear hF
   go_simp
   refine (add_fact h20 h21 (by omega) (by omega)).mono ?_
   rintro e w' ⟨v, rfl, hv, hb⟩
   exact hK.out _ _ hb (hv) trivial
  refine AS.sc rfl rfl rfl ?_ ?_
  ·intro k_ u w_ hk hJ hF K hK
   clear hF
   obtain rfl : k_ = 0 := Nat.le_zero.1 hk
   have hJ0 : Below W16.heap.size W16 w_ := hJ
   obtain ⟨y0, y1⟩ := ((b3.out).up hJ0).c2
   go_simp
   exact hK.out _ _ (Below.refl _ _) ((H2.out).kept (Keep.ofBelow hJ0)) trivial
  refine AS.sc rfl rfl rfl ?_ ?_
  ·intro k_ u w_ hk hJ hF K hK
   clear hF
   obtain rfl : k_ = 0 := Nat.le_zero.1 hk
   have hJ0 : Below W16.heap.size W16 w_ := hJ
   obtain ⟨y0, y1⟩ := ((b6.out).up hJ0).c2
   go_simp
   exact hK.out _ _ (Below.refl _ _) ((HO.out).kept (Keep.ofBelow hJ0)) trivial
  refine AS.sc rfl rfl rfl ?_ ?_
  ·intro k_ u w_ hk hJ hF K hK
   have h23 : PInt (b) n (u 23) w_ := AS.facts_get hF 23 (by simp)
   have h24 : PInt (2) 3 (u 24) w_ := AS.facts_get hF 24 (by simp)
   clear hF
   go_simp
   refine (mul_fact h23 h24 (by omega) (by omega)).mono ?_
   rintro e w' ⟨v, rfl, hv, hb⟩
   exact hK.out _ _ hb (hv) trivial
  refine AS.sc rfl rfl rfl ?_ ?_
  ·intro k_ u w_ hk hJ hF K hK
   have h22 : PInt (((a) * (2)) + (b)) (((n + 3) + n) + 1) (u 22) w_ := AS.facts_get hF 22 (by simp)
   have h25 : PInt ((b) * (2)) (n + 3) (u 25) w_ := AS.facts_get hF 25 (by simp)
   clear hF
   go_simp
   refine (quo_fact h22 h25 (by omega) (by omega) (by omega)).mono ?_
   rintro e w' ⟨k7, A7, l7, c7, k8, A8, l8, c8, rfl, hq, hr, hb⟩
   exact hK.out _ _ hb (⟨_, _, rfl, hq.more (by omega), hr.more (by omega)⟩) trivial
  refine AS.sc rfl rfl rfl ?_ ?_
  ·intro k_ u w_ hk hJ hF K hK
   have h26 : QuoP (Int.tdiv ((a) * (2) + (b)) ((b) * (2))) (Int.tmod ((a) * (2) + (b)) ((b) * (2))) (2 * n + 5) (u 26) w_ := AS.facts_get hF 26 (by simp)
   clear hF
   go_simp
   exact hK.out _ _ (Below.refl _ _) (h26) trivial
  refine AS.sc rfl rfl rfl ?_ ?_
  ·intro k_ u w_ hk hJ hF K hK
   have h17 : QuoP (Int.tdiv ((a) * (2) + (b)) ((b) * (2))) (Int.tmod ((a) * (2) + (b)) ((b) * (2))) (2 * n + 5) (u 17) w_ := AS.facts_get hF 17 (by simp)
   clear hF
   obtain ⟨qa, qb, e0, hqa, hqb⟩ := h17
   simp only [e0] at hK ⊢
   go_simp
   exact hK.out _ _ (Below.refl _ _) (hqa) trivial
  refine AS.sc rfl rfl rfl ?_ ?_
  ·intro k_ u w_ hk hJ hF K hK
   have h17 : QuoP (Int.tdiv ((a) * (2) + (b)) ((b) * (2))) (Int.tmod ((a) * (2) + (b)) ((b) * (2))) (2 * n + 5) (u 17) w_ := AS.facts_get hF 17 (by simp)
   clear hF
   obtain ⟨qa, qb, e0, hqa, hqb⟩ := h17
   simp only [e0] at hK ⊢
   go_simp
   exact hK.out _ _ (Below.refl _ _) (hqb) trivial
  refine AS.sc rfl rfl rfl ?_ ?_
  ·intro k_ u w_ hk hJ hF K hK
   have h17 : QuoP (Int.tdiv ((a) * (2) + (b)) ((b) * (2))) (Int.tmod ((a) * (2) + (b)) ((b) * (2))) (2 * n + 5) (u 17) w_ := AS.facts_get hF 17 (by simp)
   clear hF
   obtain ⟨qa, qb, e0, hqa, hqb⟩ := h17
   simp only [e0] at hK ⊢
   go_simp
   exact hK.out _ _ (Below.refl _ _) (rfl) trivial
  refine AS.sc rfl rfl rfl ?_ ?_
  ·intro k_ u w_ hk hJ hF K hK
   clear hF
   obtain rfl : k_ = 0 := Nat.le_zero.1 hk
   have hJ0 : Below W16.heap.size W16 w_ := hJ
   go_simp
   exact hK.out _ _ (below_alloc_new _) (IsBox.new _ hJ0.size) ⟨rfl, by simp⟩
  refine AS.sc rfl rfl rfl ?_ ?_
  ·intro k_ u w_ hk hJ hF K hK
   clear hF
   obtain rfl : k_ = 0 := Nat.le_zero.1 hk
   have hJ0 : Below W16.heap.size W16 w_ := hJ
   go_simp
   exact hK.out _ _ (below_alloc_new _) (IsBox.new _ hJ0.size) ⟨rfl, by simp⟩
  refine AS.ss rfl rfl ?_ ?_
  ·intro u w_ hJ hAp hF K hK
   have h27 : PInt (Int.tdiv ((a) * (2) + (b)) ((b) * (2))) (2 * n + 5) (u 27) w_ := AS.facts_get hF 27 (by simp)
   have h7 : IsBox 25 W16.heap.size (u 7) w_ := AS.facts_get hF 7 (by simp)
   clear hF
   obtain ⟨g, x_, y_, eg, hgB, bx⟩ := h7
   obtain ⟨k1, A1, l1, c1, e_⟩ := h27.open
   have y0 := bx.cell 0
   have y1 := bx.cell 1
   have z0 := bx.frozen 0
   have z1 := bx.frozen 1
   simp only [List.getElem?_cons_zero, List.getElem?_cons_succ] at y0 y1
   have hbel : Below W16.heap.size W16 w_ := hJ
   simp only [e_, eg] at hK ⊢
   go_simp
   exact hK.out undef _ ⟨(Below.setCell (p := ⟨g, 1, none⟩) (Below.setCell (p := ⟨g, 0, none⟩) hbel hgB (.bool k1)) hgB (.slice A1 l1 c1)), g, [.bool k1, .slice A1 l1 c1], by simp [e_, eg], hgB, (Bx.set2 bx (Leaf.bool k1) (Leaf.slice A1 l1 c1))⟩ (Keep.set2 (Keep.refl w_) bx (Leaf.bool k1) (Leaf.slice A1 l1 c1))
  refine AS.ss rfl rfl ?_ ?_
  ·intro u w_ hJ hAp hF K hK
   have h28 : PInt (Int.tmod ((a) * (2) + (b)) ((b) * (2))) (2 * n + 5) (u 28) w_ := AS.facts_get hF 28 (by simp)
   have h8 : IsBox 25 W16.heap.size (u 8) w_ := AS.facts_get hF 8 (by simp)
   clear hF
   obtain ⟨g, x_, y_, eg, hgB, bx⟩ := h8
   obtain ⟨k1, A1, l1, c1, e_⟩ := h28.open
   have y0 := bx.cell 0
   have y1 := bx.cell 1
   have z0 := bx.frozen 0
   have z1 := bx.frozen 1
   simp only [List.getElem?_cons_zero, List.getElem?_cons_succ] at y0 y1
   obtain ⟨hbel, g2, vs, hvs, hg2, bx2⟩ := hJ
   have e7 : u 7 = .pointer (some ⟨g2, 0, none⟩) := (List.cons.inj (List.cons.inj hvs).2).1
   have hne : g ≠ g2 := by
    intro h
    refine hAp 7 (by simp) 8 (by simp) (by decide) ?_
    rw [e7, eg, h]
   clear e7
   simp only [e_, eg] at hK ⊢
   go_simp
   exact hK.out undef _ ⟨(Below.setCell (p := ⟨g, 1, none⟩) (Below.setCell (p := ⟨g, 0, none⟩) hbel hgB (.bool k1)) hgB (.slice A1 l1 c1)), g2, vs, hvs, hg2, Bx.far (Bx.far bx2 hne 0 (.bool k1)) hne 1 (.slice A1 l1 c1)⟩ (Keep.set2 (Keep.refl w_) bx (Leaf.bool k1) (Leaf.slice A1 l1 c1))
  refine AS.sc rfl rfl rfl ?_ ?_
  ·intro k_ u w_ hk hJ hF K hK
   have h29 : u 29 = .int .i64 0 := AS.facts_get hF 29 (by simp)
   clear hF
   simp only [h29] at hK ⊢
   clear h29
   go_simp
   exact hK.out _ _ (Below.refl _ _) (rfl) trivial
  exact AS.StepsOk.nil
 ·intro u W18 hJ9 hF
  have h27 : PInt (Int.tdiv ((a) * (2) + (b)) ((b) * (2))) (2 * n + 5) (u 27) W18 := AS.facts_get hF 27 (by simp [nearFLP, AS.temps])
  clear hF
  obtain ⟨hbel, g, vs, hvs, hgB, bx⟩ := hJ9
  obtain ⟨ka, Aa, la, ca, ea⟩ := h27.open
  rw [ea] at h27
  have e7 : u 7 = .pointer (some ⟨g, 0, none⟩) := (List.cons.inj (List.cons.inj hvs).2).1
  obtain rfl : vs = [.bool ka, .slice Aa la ca] := by
   have e1 := (List.cons.inj hvs).1
   rw [show u 27 = _ from ea] at e1
   have e2 := congrArg Array.toList (Value.agg.inj e1)
   simpa using e2.symm
  clear hvs
  have HQ := Lib.hid h27
  have b7 := Lib.hid bx
  clear h27 bx
  rw [show u 7 = _ from e7]
  clear e7
  replace b2 := hup b2 hbel
  replace b3 := hup b3 hbel
  replace b4 := hup b4 hbel
  replace b5 := hup b5 hbel
  replace b6 := hup b6 hbel
  replace H1 := Lib.hid (H1.out.kept (Keep.ofBelow hbel))
  replace H2 := Lib.hid (H2.out.kept (Keep.ofBelow hbel))
  replace HO := Lib.hid (HO.out.kept (Keep.ofBelow hbel))
  have nbel := below_then HB17.out hbel HB17.out.size
  have HB19 := Lib.hid nbel
  clear nbel HB17 hbel x2_0 x2_1 x3_0 x3_1 x4_0 x4_1 x5_0 x5_1 z5_0 z5_1 x6_0 x6_1 szb s2 s3 s4 s5 s6
  obtain ⟨x2_0, x2_1, s2⟩ := b2.out.d2
  obtain ⟨x3_0, x3_1, s3⟩ := b3.out.d2
  obtain ⟨x4_0, x4_1, z4_0, z4_1, s4⟩ := b4.out.e2
  obtain ⟨x5_0, x5_1, z5_0, z5_1, s5⟩ := b5.out.e2
  obtain ⟨x6_0, x6_1, s6⟩ := b6.out.d2
  obtain ⟨x7_0, x7_1, s7⟩ := b7.out.d2
  have szb := HB19.out.size
  go_wp2_with fail
  have hkeep := (Keep.set2 (Keep.refl W18) b4.out (Leaf.bool ka) (Leaf.slice Aa la ca))
  have hbel := (Below.set2 (g := w.heap.size + 1 + 1) HB19.out (by first | omega | (simp; done) | (simp; omega)) (.bool ka) (.slice Aa la ca))
  refine bodyPost_ret (v := .agg #[.bool ka, .slice Aa la ca]) (by simp [results, Tryz.results30, go_sem, x4_0, x4_1]) rfl ⟨_, rfl, by rw [← near_eq a b HBP.out, if_neg (by omega)]; exact HQ.out.kept hkeep, hbel⟩
theorem near_fact {a b : Int} {n : Nat} {v v2 : Value} {w : World} (h : PInt a n v w) (h2 : PInt b n v2 w) (hn : n ≤ 90000) (hbp : 0 < b) :
  Calls Tryz.prog 30 #[v, v2] w fun e w' => ∃ v, e = .returned v ∧ PInt (rndI a b) (2 * n + 5) v w' ∧ Below w.heap.size w w' := by
 obtain ⟨k, A, l, c, rfl⟩ := h.open
 obtain ⟨k', A', l', c', rfl⟩ := h2.open
 rcases Int.lt_trichotomy a 0 with ha | ha | ha
 ·exact near_neg h h2 hn hbp (by unfold cmpI; rw [if_pos ha]) ha
 ·exact near_pos h h2 hn hbp 0 (by decide) (by subst ha; rfl) (by omega)
 ·exact near_pos h h2 hn hbp 1 (by decide) (by unfold cmpI; rw [if_neg (by omega), if_neg (by omega)]) (by omega)
set_option maxHeartbeats 3200000
set_option maxRecDepth 20000
def amt (n : Int) : Bool := decide (-1000000000000 ≤ n) && decide (n ≤ 1000000000000)
theorem isAmount_fact (n : Int) (w : World) : Calls Tryz.prog 28 #[.int .i64 n] w fun e w' => e = .returned (.bool (amt n)) ∧ Below w.heap.size w w' := by
 unfold amt
 by_cases h1 : (-1000000000000 : Int) ≤ n
 ·by_cases h2 : n ≤ 1000000000000
  ·rw [decide_eq_true h1, decide_eq_true h2]
   go_enter Tryz.func28, Tryz.ntmps28
   go_wp2
   go_ret
   exact ⟨rfl, Below.refl _ _⟩
  ·rw [decide_eq_true h1, decide_eq_false h2]
   have h3 : decide (n ≤ 1000000000000) = false := decide_eq_false h2
   clear h2
   go_enter Tryz.func28, Tryz.ntmps28
   go_wp2
   go_ret
   exact ⟨rfl, Below.refl _ _⟩
 ·rw [decide_eq_false h1]
  have h3 : decide ((-1000000000000 : Int) ≤ n) = false := decide_eq_false h1
  clear h1
  go_enter Tryz.func28, Tryz.ntmps28
  go_wp2
  go_ret
  exact ⟨rfl, Below.refl _ _⟩
theorem isAmount_is {n : Int} {b : Bool} (hn : amt n = b) (w : World) : Calls Tryz.prog 28 #[.int .i64 n] w fun e w' => e = .returned (.bool b) ∧ Below w.heap.size w w' := hn ▸ isAmount_fact n w
theorem small_is {z zz : Int} {bb : Bool} {n : Nat} {a : Value} {w : World} (h1 : PInt z n a w) (hn : n ≤ 100000) (hz : smN z = zz) (hb : smB z = bb) :
  Calls Tryz.prog 29 #[a] w fun e w' => e = .returned (.tuple #[.int .i64 zz, .bool bb]) ∧ Below w.heap.size w w' := by
 subst hz hb
 exact small_fact h1 hn
theorem scale_arg {a : Int} {x : Rat} {n : Nat} {v : Value} {w : World} (h : PRat x n v w) (_hn3 : 3 ≤ n) (_hn : n ≤ 10000) (ham : amt a = false) :
  Calls Tryz.prog 11 #[.int .i64 a, v] w fun e w' => e = .returned (.tuple #[.int .i64 0, .int .i64 1]) ∧ Below w.heap.size w w' := by
 obtain ⟨k, A, l, c, k', A', l', c', rfl⟩ := h.open
 have H1 := Lib.hid h
 have HAM := Lib.hid ham
 clear h ham
 go_enter Tryz.func11, Tryz.ntmps11
 go_upto_region 1 with (fail)
 change Code.wp Tryz.prog _ _ _ (w.alloc (.cells #[.bool k, .slice A l c, .bool k', .slice A' l' c'] 27))
 obtain ⟨nb3, na⟩ := new1 w 27 [.bool k, .slice A l c, .bool k', .slice A' l' c'] lf4
 have nkeep := Keep.ofBelow na
 have nbel := na
 generalize w.alloc (.cells #[.bool k, .slice A l c, .bool k', .slice A' l' c'] 27) = W1 at *
 clear na
 have b3 := Lib.hid nb3
 clear nb3
 replace H1 := Lib.hid (H1.out.kept nkeep)
 clear nkeep
 have HB2 := Lib.hid nbel
 clear nbel
 obtain ⟨x30, x31, x32, x33, s3⟩ := b3.out.d4
 have szb := HB2.out.size
 go_wp2_with fail
 refine (isAmount_is HAM.out _).mono ?_
 rintro e W3 ⟨rfl, hb⟩
 replace b3 := hup b3 hb
 replace H1 := Lib.hid (H1.out.kept (Keep.ofBelow hb))
 have nbel := below_then HB2.out hb HB2.out.size
 have HB4 := Lib.hid nbel
 clear nbel HB2 hb x30 x31 x32 x33 szb s3
 obtain ⟨x30, x31, x32, x33, s3⟩ := b3.out.d4
 have szb := HB4.out.size
 go_wp2_with fail
 have hkeep := (Keep.refl W3)
 have hbel := HB4.out
 refine bodyPost_ret (v := .tuple #[.int .i64 0, .int .i64 1]) (by simp [results, Tryz.results11, go_sem]) rfl ⟨rfl, hbel⟩
def scaleFL (a zz : Int) (bb : Bool) (x : Rat) (n : Nat) : List (Nat × AS.Fact) := [(19, AS.Fact.is (.int .i64 a)), (20, AS.Fact.int (a) 3), (21, AS.Fact.int (x.num) n), (22, AS.Fact.int ((a) * (x.num)) (3 + n)), (23, AS.Fact.int ((x.den : Int)) n), (24, AS.Fact.int (rndI ((a) * (x.num)) (x.den : Int)) (2 * (n + 3) + 5)), (25, AS.Fact.is (.tuple #[.int .i64 zz, .bool bb])), (18, AS.Fact.is (.tuple #[.int .i64 zz, .bool bb])), (26, AS.Fact.is (.int .i64 zz)), (27, AS.Fact.is (.bool bb)), (8, AS.Fact.is (.int .i64 zz)), (9, AS.Fact.is (.bool bb))]
theorem scale_ok {a : Int} {x : Rat} {n : Nat} {v : Value} {w : World} (h : PRat x n v w) (hn3 : 3 ≤ n) (hn : n ≤ 10000) {zz : Int} {bb : Bool} (ham : amt a = true) (har : -9223372036854775808 ≤ a ∧ a ≤ 9223372036854775807) (hz : smN (rndI (a * x.num) (x.den : Int)) = zz ∧ smB (rndI (a * x.num) (x.den : Int)) = bb) (hbb : bb = true) (hza : amt zz = true) :
  Calls Tryz.prog 11 #[.int .i64 a, v] w fun e w' => e = .returned (.tuple #[.int .i64 zz, .int .i64 0]) ∧ Below w.heap.size w w' := by
 have HR := Lib.hid har
 have HZ := Lib.hid hz
 have HBB := Lib.hid hbb
 clear har hz hbb
 have HZA := Lib.hid hza
 clear hza
 obtain ⟨k, A, l, c, k', A', l', c', rfl⟩ := h.open
 have H1 := Lib.hid h
 have HAM := Lib.hid ham
 clear h ham
 go_enter Tryz.func11, Tryz.ntmps11
 go_upto_region 1 with (fail)
 change Code.wp Tryz.prog _ _ _ (w.alloc (.cells #[.bool k, .slice A l c, .bool k', .slice A' l' c'] 27))
 obtain ⟨nb3, na⟩ := new1 w 27 [.bool k, .slice A l c, .bool k', .slice A' l' c'] lf4
 have nkeep := Keep.ofBelow na
 have nbel := na
 generalize w.alloc (.cells #[.bool k, .slice A l c, .bool k', .slice A' l' c'] 27) = W1 at *
 clear na
 have b3 := Lib.hid nb3
 clear nb3
 replace H1 := Lib.hid (H1.out.kept nkeep)
 clear nkeep
 have HB2 := Lib.hid nbel
 clear nbel
 obtain ⟨x30, x31, x32, x33, s3⟩ := b3.out.d4
 have szb := HB2.out.size
 go_wp2_with fail
 refine (isAmount_is HAM.out _).mono ?_
 rintro e W3 ⟨rfl, hb⟩
 replace b3 := hup b3 hb
 replace H1 := Lib.hid (H1.out.kept (Keep.ofBelow hb))
 have nbel := below_then HB2.out hb HB2.out.size
 have HB4 := Lib.hid nbel
 clear nbel HB2 hb x30 x31 x32 x33 szb s3
 obtain ⟨x30, x31, x32, x33, s3⟩ := b3.out.d4
 have szb := HB4.out.size
 go_wp2_with fail
 refine (terms_fact H1.out hn3).mono ?_
 rintro e W5 ⟨k1, A1, l1, c1, j1, B1, o1, e1, rfl, ha_, hc_, hb⟩
 replace b3 := hup b3 hb
 replace H1 := Lib.hid (H1.out.kept (Keep.ofBelow hb))
 have nbel := below_then HB4.out hb HB4.out.size
 have HB6 := Lib.hid nbel
 clear nbel HB4 hb x30 x31 x32 x33 szb s3
 obtain ⟨x30, x31, x32, x33, s3⟩ := b3.out.d4
 have szb := HB6.out.size
 have HA := Lib.hid ha_
 have HB := Lib.hid hc_
 clear ha_ hc_
 go_upto_region 4 with (fail)
 have q7 := b3.out.lt
 change Code.wp Tryz.prog _ _ _ ((W5.alloc (.cells #[.bool k1, .slice A1 l1 c1] 25)).alloc (.cells #[.bool j1, .slice B1 o1 e1] 25))
 obtain ⟨nb6, nb7, na⟩ := new2 W5 25 [.bool k1, .slice A1 l1 c1] 25 [.bool j1, .slice B1 o1 e1] lf2 lf2
 have nb3 := b3.out.up na
 have nkeep := Keep.ofBelow na
 have nbel := below_then HB6.out na HB6.out.size
 generalize (W5.alloc (.cells #[.bool k1, .slice A1 l1 c1] 25)).alloc (.cells #[.bool j1, .slice B1 o1 e1] 25) = W8 at *
 clear na x30 x31 x32 x33 szb s3 b3
 have b3 := Lib.hid nb3
 have b6 := Lib.hid nb6
 have b7 := Lib.hid nb7
 clear nb3 nb6 nb7
 replace H1 := Lib.hid (H1.out.kept nkeep)
 replace HA := Lib.hid (HA.out.kept nkeep)
 replace HB := Lib.hid (HB.out.kept nkeep)
 clear nkeep
 have HB9 := Lib.hid nbel
 clear nbel HB6
 obtain ⟨x30, x31, x32, x33, s3⟩ := b3.out.d4
 obtain ⟨x60, x61, s6⟩ := b6.out.d2
 obtain ⟨x70, x71, s7⟩ := b7.out.d2
 have szb := HB9.out.size
 refine AS.region_facts (scaleFL a zz bb x n) (JNo W8) [[], [19], [], [20, 21], [], [22, 23], [24], [25], [18], [18], [26], [27]] [] [[]] [0, 0, 0, 0, 0, 0, 0, 0, 0, 0, 0, 0] [] (fun u => by simp only [scaleFL, AS.temps, List.map_cons, List.map_nil, fillL, List.setIfInBounds_toArray, List.set_cons_zero, List.set_cons_succ]; rfl) (by kernel_rfl) (by kernel_rfl) (JNo.st W8) (below_drew (Below.refl _ _)) ?_ ?_
 ·refine AS.sc rfl rfl rfl ?_ ?_
  ·intro k_ u w_ hk hJ hF K hK
   clear hF
   go_simp
   exact hK.out _ _ (Below.refl _ _) (rfl) trivial
  refine AS.sc rfl rfl rfl ?_ ?_
  ·intro k_ u w_ hk hJ hF K hK
   have h19 : u 19 = .int .i64 a := AS.facts_get hF 19 (by simp)
   clear hF
   simp only [h19] at hK ⊢
   clear h19
   go_simp
   refine (of_fact (n := a) HR.out.1 HR.out.2).mono ?_
   rintro e w' ⟨v, rfl, hv, hb⟩
   exact hK.out _ _ hb (hv) trivial
  refine AS.sc rfl rfl rfl ?_ ?_
  ·intro k_ u w_ hk hJ hF K hK
   clear hF
   obtain rfl : k_ = 0 := Nat.le_zero.1 hk
   have hJ0 : Below W8.heap.size W8 w_ := hJ
   obtain ⟨y0, y1⟩ := ((b6.out).up hJ0).c2
   go_simp
   exact hK.out _ _ (Below.refl _ _) ((HA.out).kept (Keep.ofBelow hJ0)) trivial
  refine AS.sc rfl rfl rfl ?_ ?_
  ·intro k_ u w_ hk hJ hF K hK
   have h20 : PInt (a) 3 (u 20) w_ := AS.facts_get hF 20 (by simp)
   have h21 : PInt (x.num) n (u 21) w_ := AS.facts_get hF 21 (by simp)
   clear hF
   go_simp
   refine (mul_fact h20 h21 (by omega) (by omega)).mono ?_
   rintro e w' ⟨v, rfl, hv, hb⟩
   exact hK.out _ _ hb (hv) trivial
  refine AS.sc rfl rfl rfl ?_ ?_
  ·intro k_ u w_ hk hJ hF K hK
   clear hF
   obtain rfl : k_ = 0 := Nat.le_zero.1 hk
   have hJ0 : Below W8.heap.size W8 w_ := hJ
   obtain ⟨y0, y1⟩ := ((b7.out).up hJ0).c2
   go_simp
   exact hK.out _ _ (Below.refl _ _) ((HB.out).kept (Keep.ofBelow hJ0)) trivial
  refine AS.sc rfl rfl rfl ?_ ?_
  ·intro k_ u w_ hk hJ hF K hK
   have h22 : PInt ((a) * (x.num)) (3 + n) (u 22) w_ := AS.facts_get hF 22 (by simp)
   have h23 : PInt ((x.den : Int)) n (u 23) w_ := AS.facts_get hF 23 (by simp)
   clear hF
   go_simp
   refine (near_fact (n := n + 3) (h22.more (by omega)) (h23.more (by omega)) (by omega) (Int.natCast_pos.2 x.den_pos)).mono ?_
   rintro e w' ⟨v, rfl, hv, hb⟩
   exact hK.out _ _ hb (hv) trivial
  refine AS.sc rfl rfl rfl ?_ ?_
  ·intro k_ u w_ hk hJ hF K hK
   have h24 : PInt (rndI ((a) * (x.num)) (x.den : Int)) (2 * (n + 3) + 5) (u 24) w_ := AS.facts_get hF 24 (by simp)
   clear hF
   go_simp
   refine (small_is h24 (by omega) HZ.out.1 HZ.out.2).mono ?_
   rintro e w' ⟨rfl, hb⟩
   exact hK.out _ _ hb (rfl) trivial
  refine AS.sc rfl rfl rfl ?_ ?_
  ·intro k_ u w_ hk hJ hF K hK
   have h25 : u 25 = .tuple #[.int .i64 zz, .bool bb] := AS.facts_get hF 25 (by simp)
   clear hF
   simp only [h25] at hK ⊢
   clear h25
   go_simp
   exact hK.out _ _ (Below.refl _ _) (rfl) trivial
  refine AS.sc rfl rfl rfl ?_ ?_
  ·intro k_ u w_ hk hJ hF K hK
   have h18 : u 18 = .tuple #[.int .i64 zz, .bool bb] := AS.facts_get hF 18 (by simp)
   clear hF
   simp only [h18] at hK ⊢
   clear h18
   go_simp
   exact hK.out _ _ (Below.refl _ _) (rfl) trivial
  refine AS.sc rfl rfl rfl ?_ ?_
  ·intro k_ u w_ hk hJ hF K hK
   have h18 : u 18 = .tuple #[.int .i64 zz, .bool bb] := AS.facts_get hF 18 (by simp)
   clear hF
   simp only [h18] at hK ⊢
   clear h18
   go_simp
   exact hK.out _ _ (Below.refl _ _) (rfl) trivial
  refine AS.sc rfl rfl rfl ?_ ?_
  ·intro k_ u w_ hk hJ hF K hK
   have h26 : u 26 = .int .i64 zz := AS.facts_get hF 26 (by simp)
   clear hF
   simp only [h26] at hK ⊢
   clear h26
   go_simp
   exact hK.out _ _ (Below.refl _ _) (rfl) trivial
  refine AS.sc rfl rfl rfl ?_ ?_
  ·intro k_ u w_ hk hJ hF K hK
   have h27 : u 27 = .bool bb := AS.facts_get hF 27 (by simp)
   clear hF
   simp only [h27] at hK ⊢
   clear h27
   go_simp
   exact hK.out _ _ (Below.refl _ _) (rfl) trivial
  exact AS.StepsOk.nil
 ·intro u W10 hJ9 hF
  have h8 : u 8 = .int .i64 zz := AS.facts_get hF 8 (by simp [scaleFL, AS.temps])
  have h9 : u 9 = .bool bb := AS.facts_get hF 9 (by simp [scaleFL, AS.temps])
  clear hF
  rw [show u 8 = _ from h8, show u 9 = _ from h9]
  clear h8 h9
  replace b3 := hup b3 hJ9
  replace b6 := hup b6 hJ9
  replace b7 := hup b7 hJ9
  replace H1 := Lib.hid (H1.out.kept (Keep.ofBelow hJ9))
  replace HA := Lib.hid (HA.out.kept (Keep.ofBelow hJ9))
  replace HB := Lib.hid (HB.out.kept (Keep.ofBelow hJ9))
  have nbel := below_then HB9.out hJ9 HB9.out.size
  have HB11 := Lib.hid nbel
  clear nbel HB9 hJ9 x30 x31 x32 x33 x60 x61 x70 x71 szb s3 s6 s7
  obtain ⟨x30, x31, x32, x33, s3⟩ := b3.out.d4
  obtain ⟨x60, x61, s6⟩ := b6.out.d2
  obtain ⟨x70, x71, s7⟩ := b7.out.d2
  have szb := HB11.out.size
  obtain rfl : bb = true := HBB.out
  go_wp2_with fail
  refine (isAmount_is HZA.out _).mono ?_
  rintro e W12 ⟨rfl, hb⟩
  replace b3 := hup b3 hb
  replace b6 := hup b6 hb
  replace b7 := hup b7 hb
  replace H1 := Lib.hid (H1.out.kept (Keep.ofBelow hb))
  replace HA := Lib.hid (HA.out.kept (Keep.ofBelow hb))
  replace HB := Lib.hid (HB.out.kept (Keep.ofBelow hb))
  have nbel := below_then HB11.out hb HB11.out.size
  have HB13 := Lib.hid nbel
  clear nbel HB11 hb x30 x31 x32 x33 x60 x61 x70 x71 szb s3 s6 s7
  obtain ⟨x30, x31, x32, x33, s3⟩ := b3.out.d4
  obtain ⟨x60, x61, s6⟩ := b6.out.d2
  obtain ⟨x70, x71, s7⟩ := b7.out.d2
  have szb := HB13.out.size
  go_wp2_with fail
  have hkeep := (Keep.refl W12)
  have hbel := HB13.out
  refine bodyPost_ret (v := .tuple #[.int .i64 zz, .int .i64 0]) (by simp [results, Tryz.results11, go_sem]) rfl ⟨rfl, hbel⟩
theorem scale_big {a : Int} {x : Rat} {n : Nat} {v : Value} {w : World} (h : PRat x n v w) (hn3 : 3 ≤ n) (hn : n ≤ 10000) {zz : Int} {bb : Bool} (ham : amt a = true) (har : -9223372036854775808 ≤ a ∧ a ≤ 9223372036854775807) (hz : smN (rndI (a * x.num) (x.den : Int)) = zz ∧ smB (rndI (a * x.num) (x.den : Int)) = bb) (hbb : bb = true) (hza : amt zz = false) :
  Calls Tryz.prog 11 #[.int .i64 a, v] w fun e w' => e = .returned (.tuple #[.int .i64 0, .int .i64 2]) ∧ Below w.heap.size w w' := by
 have HR := Lib.hid har
 have HZ := Lib.hid hz
 have HBB := Lib.hid hbb
 clear har hz hbb
 have HZA := Lib.hid hza
 clear hza
 obtain ⟨k, A, l, c, k', A', l', c', rfl⟩ := h.open
 have H1 := Lib.hid h
 have HAM := Lib.hid ham
 clear h ham
 go_enter Tryz.func11, Tryz.ntmps11
 go_upto_region 1 with (fail)
 change Code.wp Tryz.prog _ _ _ (w.alloc (.cells #[.bool k, .slice A l c, .bool k', .slice A' l' c'] 27))
 obtain ⟨nb3, na⟩ := new1 w 27 [.bool k, .slice A l c, .bool k', .slice A' l' c'] lf4
 have nkeep := Keep.ofBelow na
 have nbel := na
 generalize w.alloc (.cells #[.bool k, .slice A l c, .bool k', .slice A' l' c'] 27) = W1 at *
 clear na
 have b3 := Lib.hid nb3
 clear nb3
 replace H1 := Lib.hid (H1.out.kept nkeep)
 clear nkeep
 have HB2 := Lib.hid nbel
 clear nbel
 obtain ⟨x30, x31, x32, x33, s3⟩ := b3.out.d4
 have szb := HB2.out.size
 go_wp2_with fail
 refine (isAmount_is HAM.out _).mono ?_
 rintro e W3 ⟨rfl, hb⟩
 replace b3 := hup b3 hb
 replace H1 := Lib.hid (H1.out.kept (Keep.ofBelow hb))
 have nbel := below_then HB2.out hb HB2.out.size
 have HB4 := Lib.hid nbel
 clear nbel HB2 hb x30 x31 x32 x33 szb s3
 obtain ⟨x30, x31, x32, x33, s3⟩ := b3.out.d4
 have szb := HB4.out.size
 go_wp2_with fail
 refine (terms_fact H1.out hn3).mono ?_
 rintro e W5 ⟨k1, A1, l1, c1, j1, B1, o1, e1, rfl, ha_, hc_, hb⟩
 replace b3 := hup b3 hb
 replace H1 := Lib.hid (H1.out.kept (Keep.ofBelow hb))
 have nbel := below_then HB4.out hb HB4.out.size
 have HB6 := Lib.hid nbel
 clear nbel HB4 hb x30 x31 x32 x33 szb s3
 obtain ⟨x30, x31, x32, x33, s3⟩ := b3.out.d4
 have szb := HB6.out.size
 have HA := Lib.hid ha_
 have HB := Lib.hid hc_
 clear ha_ hc_
 go_upto_region 4 with (fail)
 have q7 := b3.out.lt
 change Code.wp Tryz.prog _ _ _ ((W5.alloc (.cells #[.bool k1, .slice A1 l1 c1] 25)).alloc (.cells #[.bool j1, .slice B1 o1 e1] 25))
 obtain ⟨nb6, nb7, na⟩ := new2 W5 25 [.bool k1, .slice A1 l1 c1] 25 [.bool j1, .slice B1 o1 e1] lf2 lf2
 have nb3 := b3.out.up na
 have nkeep := Keep.ofBelow na
 have nbel := below_then HB6.out na HB6.out.size
 generalize (W5.alloc (.cells #[.bool k1, .slice A1 l1 c1] 25)).alloc (.cells #[.bool j1, .slice B1 o1 e1] 25) = W8 at *
 clear na x30 x31 x32 x33 szb s3 b3
 have b3 := Lib.hid nb3
 have b6 := Lib.hid nb6
 have b7 := Lib.hid nb7
 clear nb3 nb6 nb7
 replace H1 := Lib.hid (H1.out.kept nkeep)
 replace HA := Lib.hid (HA.out.kept nkeep)
 replace HB := Lib.hid (HB.out.kept nkeep)
 clear nkeep
 have HB9 := Lib.hid nbel
 clear nbel HB6
 obtain ⟨x30, x31, x32, x33, s3⟩ := b3.out.d4
 obtain ⟨x60, x61, s6⟩ := b6.out.d2
 obtain ⟨x70, x71, s7⟩ := b7.out.d2
 have szb := HB9.out.size
 refine AS.region_facts (scaleFL a zz bb x n) (JNo W8) [[], [19], [], [20, 21], [], [22, 23], [24], [25], [18], [18], [26], [27]] [] [[]] [0, 0, 0, 0, 0, 0, 0, 0, 0, 0, 0, 0] [] (fun u => by simp only [scaleFL, AS.temps, List.map_cons, List.map_nil, fillL, List.setIfInBounds_toArray, List.set_cons_zero, List.set_cons_succ]; rfl) (by kernel_rfl) (by kernel_rfl) (JNo.st W8) (below_drew (Below.refl _ _)) ?_ ?_
 ·refine AS.sc rfl rfl rfl ?_ ?_
  ·intro k_ u w_ hk hJ hF K hK
   clear hF
   go_simp
   exact hK.out _ _ (Below.refl _ _) (rfl) trivial
  refine AS.sc rfl rfl rfl ?_ ?_
  ·intro k_ u w_ hk hJ hF K hK
   have h19 : u 19 = .int .i64 a := AS.facts_get hF 19 (by simp)
   clear hF
   simp only [h19] at hK ⊢
   clear h19
   go_simp
   refine (of_fact (n := a) HR.out.1 HR.out.2).mono ?_
   rintro e w' ⟨v, rfl, hv, hb⟩
   exact hK.out _ _ hb (hv) trivial
  refine AS.sc rfl rfl rfl ?_ ?_
  ·intro k_ u w_ hk hJ hF K hK
   clear hF
   obtain rfl : k_ = 0 := Nat.le_zero.1 hk
   have hJ0 : Below W8.heap.size W8 w_ := hJ
   obtain ⟨y0, y1⟩ := ((b6.out).up hJ0).c2
   go_simp
   exact hK.out _ _ (Below.refl _ _) ((HA.out).kept (Keep.ofBelow hJ0)) trivial
  refine AS.sc rfl rfl rfl ?_ ?_
  ·intro k_ u w_ hk hJ hF K hK
   have h20 : PInt (a) 3 (u 20) w_ := AS.facts_get hF 20 (by simp)
   have h21 : PInt (x.num) n (u 21) w_ := AS.facts_get hF 21 (by simp)
   clear hF
   go_simp
   refine (mul_fact h20 h21 (by omega) (by omega)).mono ?_
   rintro e w' ⟨v, rfl, hv, hb⟩
   exact hK.out _ _ hb (hv) trivial
  refine AS.sc rfl rfl rfl ?_ ?_
  ·intro k_ u w_ hk hJ hF K hK
   clear hF
   obtain rfl : k_ = 0 := Nat.le_zero.1 hk
   have hJ0 : Below W8.heap.size W8 w_ := hJ
   obtain ⟨y0, y1⟩ := ((b7.out).up hJ0).c2
   go_simp
   exact hK.out _ _ (Below.refl _ _) ((HB.out).kept (Keep.ofBelow hJ0)) trivial
  refine AS.sc rfl rfl rfl ?_ ?_
  ·intro k_ u w_ hk hJ hF K hK
   have h22 : PInt ((a) * (x.num)) (3 + n) (u 22) w_ := AS.facts_get hF 22 (by simp)
   have h23 : PInt ((x.den : Int)) n (u 23) w_ := AS.facts_get hF 23 (by simp)
   clear hF
   go_simp
   refine (near_fact (n := n + 3) (h22.more (by omega)) (h23.more (by omega)) (by omega) (Int.natCast_pos.2 x.den_pos)).mono ?_
   rintro e w' ⟨v, rfl, hv, hb⟩
   exact hK.out _ _ hb (hv) trivial
  refine AS.sc rfl rfl rfl ?_ ?_
  ·intro k_ u w_ hk hJ hF K hK
   have h24 : PInt (rndI ((a) * (x.num)) (x.den : Int)) (2 * (n + 3) + 5) (u 24) w_ := AS.facts_get hF 24 (by simp)
   clear hF
   go_simp
   refine (small_is h24 (by omega) HZ.out.1 HZ.out.2).mono ?_
   rintro e w' ⟨rfl, hb⟩
   exact hK.out _ _ hb (rfl) trivial
  refine AS.sc rfl rfl rfl ?_ ?_
  ·intro k_ u w_ hk hJ hF K hK
   have h25 : u 25 = .tuple #[.int .i64 zz, .bool bb] := AS.facts_get hF 25 (by simp)
   clear hF
   simp only [h25] at hK ⊢
   clear h25
   go_simp
   exact hK.out _ _ (Below.refl _ _) (rfl) trivial
  refine AS.sc rfl rfl rfl ?_ ?_
  ·intro k_ u w_ hk hJ hF K hK
   have h18 : u 18 = .tuple #[.int .i64 zz, .bool bb] := AS.facts_get hF 18 (by simp)
   clear hF
   simp only [h18] at hK ⊢
   clear h18
   go_simp
   exact hK.out _ _ (Below.refl _ _) (rfl) trivial
  refine AS.sc rfl rfl rfl ?_ ?_
  ·intro k_ u w_ hk hJ hF K hK
   have h18 : u 18 = .tuple #[.int .i64 zz, .bool bb] := AS.facts_get hF 18 (by simp)
   clear hF
   simp only [h18] at hK ⊢
   clear h18
   go_simp
   exact hK.out _ _ (Below.refl _ _) (rfl) trivial
  refine AS.sc rfl rfl rfl ?_ ?_
  ·intro k_ u w_ hk hJ hF K hK
   have h26 : u 26 = .int .i64 zz := AS.facts_get hF 26 (by simp)
   clear hF
   simp only [h26] at hK ⊢
   clear h26
   go_simp
   exact hK.out _ _ (Below.refl _ _) (rfl) trivial
  refine AS.sc rfl rfl rfl ?_ ?_
  ·intro k_ u w_ hk hJ hF K hK
   have h27 : u 27 = .bool bb := AS.facts_get hF 27 (by simp)
   clear hF
   simp only [h27] at hK ⊢
   clear h27
   go_simp
   exact hK.out _ _ (Below.refl _ _) (rfl) trivial
  exact AS.StepsOk.nil
 ·intro u W10 hJ9 hF
  have h8 : u 8 = .int .i64 zz := AS.facts_get hF 8 (by simp [scaleFL, AS.temps])
  have h9 : u 9 = .bool bb := AS.facts_get hF 9 (by simp [scaleFL, AS.temps])
  clear hF
  rw [show u 8 = _ from h8, show u 9 = _ from h9]
  clear h8 h9
  replace b3 := hup b3 hJ9
  replace b6 := hup b6 hJ9
  replace b7 := hup b7 hJ9
  replace H1 := Lib.hid (H1.out.kept (Keep.ofBelow hJ9))
  replace HA := Lib.hid (HA.out.kept (Keep.ofBelow hJ9))
  replace HB := Lib.hid (HB.out.kept (Keep.ofBelow hJ9))
  have nbel := below_then HB9.out hJ9 HB9.out.size
  have HB11 := Lib.hid nbel
  clear nbel HB9 hJ9 x30 x31 x32 x33 x60 x61 x70 x71 szb s3 s6 s7
  obtain ⟨x30, x31, x32, x33, s3⟩ := b3.out.d4
  obtain ⟨x60, x61, s6⟩ := b6.out.d2
  obtain ⟨x70, x71, s7⟩ := b7.out.d2
  have szb := HB11.out.size
  obtain rfl : bb = true := HBB.out
  go_wp2_with fail
  refine (isAmount_is HZA.out _).mono ?_
  rintro e W12 ⟨rfl, hb⟩
  replace b3 := hup b3 hb
  replace b6 := hup b6 hb
  replace b7 := hup b7 hb
  replace H1 := Lib.hid (H1.out.kept (Keep.ofBelow hb))
  replace HA := Lib.hid (HA.out.kept (Keep.ofBelow hb))
  replace HB := Lib.hid (HB.out.kept (Keep.ofBelow hb))
  have nbel := below_then HB11.out hb HB11.out.size
  have HB13 := Lib.hid nbel
  clear nbel HB11 hb x30 x31 x32 x33 x60 x61 x70 x71 szb s3 s6 s7
  obtain ⟨x30, x31, x32, x33, s3⟩ := b3.out.d4
  obtain ⟨x60, x61, s6⟩ := b6.out.d2
  obtain ⟨x70, x71, s7⟩ := b7.out.d2
  have szb := HB13.out.size
  go_wp2_with fail
  have hkeep := (Keep.refl W12)
  have hbel := HB13.out
  refine bodyPost_ret (v := .tuple #[.int .i64 0, .int .i64 2]) (by simp [results, Tryz.results11, go_sem]) rfl ⟨rfl, hbel⟩
theorem scale_not {a : Int} {x : Rat} {n : Nat} {v : Value} {w : World} (h : PRat x n v w) (hn3 : 3 ≤ n) (hn : n ≤ 10000) {zz : Int} {bb : Bool} (ham : amt a = true) (har : -9223372036854775808 ≤ a ∧ a ≤ 9223372036854775807) (hz : smN (rndI (a * x.num) (x.den : Int)) = zz ∧ smB (rndI (a * x.num) (x.den : Int)) = bb) (hbb : bb = false) :
  Calls Tryz.prog 11 #[.int .i64 a, v] w fun e w' => e = .returned (.tuple #[.int .i64 0, .int .i64 2]) ∧ Below w.heap.size w w' := by
 have HR := Lib.hid har
 have HZ := Lib.hid hz
 have HBB := Lib.hid hbb
 clear har hz hbb
 obtain ⟨k, A, l, c, k', A', l', c', rfl⟩ := h.open
 have H1 := Lib.hid h
 have HAM := Lib.hid ham
 clear h ham
 go_enter Tryz.func11, Tryz.ntmps11
 go_upto_region 1 with (fail)
 change Code.wp Tryz.prog _ _ _ (w.alloc (.cells #[.bool k, .slice A l c, .bool k', .slice A' l' c'] 27))
 obtain ⟨nb3, na⟩ := new1 w 27 [.bool k, .slice A l c, .bool k', .slice A' l' c'] lf4
 have nkeep := Keep.ofBelow na
 have nbel := na
 generalize w.alloc (.cells #[.bool k, .slice A l c, .bool k', .slice A' l' c'] 27) = W1 at *
 clear na
 have b3 := Lib.hid nb3
 clear nb3
 replace H1 := Lib.hid (H1.out.kept nkeep)
 clear nkeep
 have HB2 := Lib.hid nbel
 clear nbel
 obtain ⟨x30, x31, x32, x33, s3⟩ := b3.out.d4
 have szb := HB2.out.size
 go_wp2_with fail
 refine (isAmount_is HAM.out _).mono ?_
 rintro e W3 ⟨rfl, hb⟩
 replace b3 := hup b3 hb
 replace H1 := Lib.hid (H1.out.kept (Keep.ofBelow hb))
 have nbel := below_then HB2.out hb HB2.out.size
 have HB4 := Lib.hid nbel
 clear nbel HB2 hb x30 x31 x32 x33 szb s3
 obtain ⟨x30, x31, x32, x33, s3⟩ := b3.out.d4
 have szb := HB4.out.size
 go_wp2_with fail
 refine (terms_fact H1.out hn3).mono ?_
 rintro e W5 ⟨k1, A1, l1, c1, j1, B1, o1, e1, rfl, ha_, hc_, hb⟩
 replace b3 := hup b3 hb
 replace H1 := Lib.hid (H1.out.kept (Keep.ofBelow hb))
 have nbel := below_then HB4.out hb HB4.out.size
 have HB6 := Lib.hid nbel
 clear nbel HB4 hb x30 x31 x32 x33 szb s3
 obtain ⟨x30, x31, x32, x33, s3⟩ := b3.out.d4
 have szb := HB6.out.size
 have HA := Lib.hid ha_
 have HB := Lib.hid hc_
 clear ha_ hc_
 go_upto_region 4 with (fail)
 have q7 := b3.out.lt
 change Code.wp Tryz.prog _ _ _ ((W5.alloc (.cells #[.bool k1, .slice A1 l1 c1] 25)).alloc (.cells #[.bool j1, .slice B1 o1 e1] 25))
 obtain ⟨nb6, nb7, na⟩ := new2 W5 25 [.bool k1, .slice A1 l1 c1] 25 [.bool j1, .slice B1 o1 e1] lf2 lf2
 have nb3 := b3.out.up na
 have nkeep := Keep.ofBelow na
 have nbel := below_then HB6.out na HB6.out.size
 generalize (W5.alloc (.cells #[.bool k1, .slice A1 l1 c1] 25)).alloc (.cells #[.bool j1, .slice B1 o1 e1] 25) = W8 at *
 clear na x30 x31 x32 x33 szb s3 b3
 have b3 := Lib.hid nb3
 have b6 := Lib.hid nb6
 have b7 := Lib.hid nb7
 clear nb3 nb6 nb7
 replace H1 := Lib.hid (H1.out.kept nkeep)
 replace HA := Lib.hid (HA.out.kept nkeep)
 replace HB := Lib.hid (HB.out.kept nkeep)
 clear nkeep
 have HB9 := Lib.hid nbel
 clear nbel HB6
 obtain ⟨x30, x31, x32, x33, s3⟩ := b3.out.d4
 obtain ⟨x60, x61, s6⟩ := b6.out.d2
 obtain ⟨x70, x71, s7⟩ := b7.out.d2
 have szb := HB9.out.size
 refine AS.region_facts (scaleFL a zz bb x n) (JNo W8) [[], [19], [], [20, 21], [], [22, 23], [24], [25], [18], [18], [26], [27]] [] [[]] [0, 0, 0, 0, 0, 0, 0, 0, 0, 0, 0, 0] [] (fun u => by simp only [scaleFL, AS.temps, List.map_cons, List.map_nil, fillL, List.setIfInBounds_toArray, List.set_cons_zero, List.set_cons_succ]; rfl) (by kernel_rfl) (by kernel_rfl) (JNo.st W8) (below_drew (Below.refl _ _)) ?_ ?_
 ·refine AS.sc rfl rfl rfl ?_ ?_
  ·intro k_ u w_ hk hJ hF K hK
   clear hF
   go_simp
   exact hK.out _ _ (Below.refl _ _) (rfl) trivial
  refine AS.sc rfl rfl rfl ?_ ?_
  ·intro k_ u w_ hk hJ hF K hK
   have h19 : u 19 = .int .i64 a := AS.facts_get hF 19 (by simp)
   clear hF
   simp only [h19] at hK ⊢
   clear h19
   go_simp
   refine (of_fact (n := a) HR.out.1 HR.out.2).mono ?_
   rintro e w' ⟨v, rfl, hv, hb⟩
   exact hK.out _ _ hb (hv) trivial
  refine AS.sc rfl rfl rfl ?_ ?_
  ·intro k_ u w_ hk hJ hF K hK
   clear hF
   obtain rfl : k_ = 0 := Nat.le_zero.1 hk
   have hJ0 : Below W8.heap.size W8 w_ := hJ
   obtain ⟨y0, y1⟩ := ((b6.out).up hJ0).c2
   go_simp
   exact hK.out _ _ (Below.refl _ _) ((HA.out).kept (Keep.ofBelow hJ0)) trivial
  refine AS.sc rfl rfl rfl ?_ ?_
  ·intro k_ u w_ hk hJ hF K hK
   have h20 : PInt (a) 3 (u 20) w_ := AS.facts_get hF 20 (by simp)
   have h21 : PInt (x.num) n (u 21) w_ := AS.facts_get hF 21 (by simp)
   clear hF
   go_simp
   refine (mul_fact h20 h21 (by omega) (by omega)).mono ?_
   rintro e w' ⟨v, rfl, hv, hb⟩
   exact hK.out _ _ hb (hv) trivial
  refine AS.sc rfl rfl rfl ?_ ?_
  ·intro k_ u w_ hk hJ hF K hK
   clear hF
   obtain rfl : k_ = 0 := Nat.le_zero.1 hk
   have hJ0 : Below W8.heap.size W8 w_ := hJ
   obtain ⟨y0, y1⟩ := ((b7.out).up hJ0).c2
   go_simp
   exact hK.out _ _ (Below.refl _ _) ((HB.out).kept (Keep.ofBelow hJ0)) trivial
  refine AS.sc rfl rfl rfl ?_ ?_
  ·intro k_ u w_ hk hJ hF K hK
   have h22 : PInt ((a) * (x.num)) (3 + n) (u 22) w_ := AS.facts_get hF 22 (by simp)
   have h23 : PInt ((x.den : Int)) n (u 23) w_ := AS.facts_get hF 23 (by simp)
   clear hF
   go_simp
   refine (near_fact (n := n + 3) (h22.more (by omega)) (h23.more (by omega)) (by omega) (Int.natCast_pos.2 x.den_pos)).mono ?_
   rintro e w' ⟨v, rfl, hv, hb⟩
   exact hK.out _ _ hb (hv) trivial
  refine AS.sc rfl rfl rfl ?_ ?_
  ·intro k_ u w_ hk hJ hF K hK
   have h24 : PInt (rndI ((a) * (x.num)) (x.den : Int)) (2 * (n + 3) + 5) (u 24) w_ := AS.facts_get hF 24 (by simp)
   clear hF
   go_simp
   refine (small_is h24 (by omega) HZ.out.1 HZ.out.2).mono ?_
   rintro e w' ⟨rfl, hb⟩
   exact hK.out _ _ hb (rfl) trivial
  refine AS.sc rfl rfl rfl ?_ ?_
  ·intro k_ u w_ hk hJ hF K hK
   have h25 : u 25 = .tuple #[.int .i64 zz, .bool bb] := AS.facts_get hF 25 (by simp)
   clear hF
   simp only [h25] at hK ⊢
   clear h25
   go_simp
   exact hK.out _ _ (Below.refl _ _) (rfl) trivial
  refine AS.sc rfl rfl rfl ?_ ?_
  ·intro k_ u w_ hk hJ hF K hK
   have h18 : u 18 = .tuple #[.int .i64 zz, .bool bb] := AS.facts_get hF 18 (by simp)
   clear hF
   simp only [h18] at hK ⊢
   clear h18
   go_simp
   exact hK.out _ _ (Below.refl _ _) (rfl) trivial
  refine AS.sc rfl rfl rfl ?_ ?_
  ·intro k_ u w_ hk hJ hF K hK
   have h18 : u 18 = .tuple #[.int .i64 zz, .bool bb] := AS.facts_get hF 18 (by simp)
   clear hF
   simp only [h18] at hK ⊢
   clear h18
   go_simp
   exact hK.out _ _ (Below.refl _ _) (rfl) trivial
  refine AS.sc rfl rfl rfl ?_ ?_
  ·intro k_ u w_ hk hJ hF K hK
   have h26 : u 26 = .int .i64 zz := AS.facts_get hF 26 (by simp)
   clear hF
   simp only [h26] at hK ⊢
   clear h26
   go_simp
   exact hK.out _ _ (Below.refl _ _) (rfl) trivial
  refine AS.sc rfl rfl rfl ?_ ?_
  ·intro k_ u w_ hk hJ hF K hK
   have h27 : u 27 = .bool bb := AS.facts_get hF 27 (by simp)
   clear hF
   simp only [h27] at hK ⊢
   clear h27
   go_simp
   exact hK.out _ _ (Below.refl _ _) (rfl) trivial
  exact AS.StepsOk.nil
 ·intro u W10 hJ9 hF
  have h8 : u 8 = .int .i64 zz := AS.facts_get hF 8 (by simp [scaleFL, AS.temps])
  have h9 : u 9 = .bool bb := AS.facts_get hF 9 (by simp [scaleFL, AS.temps])
  clear hF
  rw [show u 8 = _ from h8, show u 9 = _ from h9]
  clear h8 h9
  replace b3 := hup b3 hJ9
  replace b6 := hup b6 hJ9
  replace b7 := hup b7 hJ9
  replace H1 := Lib.hid (H1.out.kept (Keep.ofBelow hJ9))
  replace HA := Lib.hid (HA.out.kept (Keep.ofBelow hJ9))
  replace HB := Lib.hid (HB.out.kept (Keep.ofBelow hJ9))
  have nbel := below_then HB9.out hJ9 HB9.out.size
  have HB11 := Lib.hid nbel
  clear nbel HB9 hJ9 x30 x31 x32 x33 x60 x61 x70 x71 szb s3 s6 s7
  obtain ⟨x30, x31, x32, x33, s3⟩ := b3.out.d4
  obtain ⟨x60, x61, s6⟩ := b6.out.d2
  obtain ⟨x70, x71, s7⟩ := b7.out.d2
  have szb := HB11.out.size
  obtain rfl : bb = false := HBB.out
  go_wp2_with fail
  have hkeep := (Keep.refl W10)
  have hbel := HB11.out
  refine bodyPost_ret (v := .tuple #[.int .i64 0, .int .i64 2]) (by simp [results, Tryz.results11, go_sem]) rfl ⟨rfl, hbel⟩
def scaleN (a : Int) (x : Rat) : Int := if amt a && amt (rndQ ((a : Rat) * x)) then rndQ ((a : Rat) * x) else 0
def scaleE (a : Int) (x : Rat) : Int := if amt a then (if amt (rndQ ((a : Rat) * x)) then 0 else 2) else 1
theorem scale_rnd (a : Int) (x : Rat) : rndI (a * x.num) (x.den : Int) = rndQ ((a : Rat) * x) := by
 rw [← rndQ_divInt _ _ (Int.natCast_pos.2 x.den_pos)]
 congr 1
 have h := mul_terms (a : Rat) x
 rw [← h]
 simp
theorem amt_range {a : Int} (h : amt a = true) : -1000000000000 ≤ a ∧ a ≤ 1000000000000 := by unfold amt at h; simpa using h
theorem ratScale_fact {a : Int} {x : Rat} {n : Nat} {v : Value} {w : World} (h : PRat x n v w) (hn3 : 3 ≤ n) (hn : n ≤ 10000) :
  Calls Tryz.prog 11 #[.int .i64 a, v] w fun e w' => e = .returned (.tuple #[.int .i64 (scaleN a x), .int .i64 (scaleE a x)]) ∧ Below w.heap.size w w' := by
 cases ham : amt a with
 | false =>
  have e1 : scaleN a x = 0 := by unfold scaleN; rw [ham]; rfl
  have e2 : scaleE a x = 1 := by unfold scaleE; rw [ham]; rfl
  rw [e1, e2]
  exact scale_arg h hn3 hn ham
 | true =>
  have har := amt_range ham
  have hz := scale_rnd a x
  cases hzm : amt (rndQ ((a : Rat) * x)) with
  | true =>
   have hr := amt_range hzm
   have e1 : scaleN a x = rndQ ((a : Rat) * x) := by unfold scaleN; rw [ham, hzm]; rfl
   have e2 : scaleE a x = 0 := by unfold scaleE; rw [ham, hzm]; rfl
   rw [e1, e2]
   have hb : smB (rndQ ((a : Rat) * x)) = true := by unfold smB; simp; omega
   exact scale_ok h hn3 hn ham (by omega) ⟨by rw [hz]; unfold smN; rw [if_pos hb], by rw [hz]; exact hb⟩ rfl hzm
  | false =>
   have e1 : scaleN a x = 0 := by unfold scaleN; rw [ham, hzm]; rfl
   have e2 : scaleE a x = 2 := by unfold scaleE; rw [ham, hzm]; rfl
   rw [e1, e2]
   cases hb : smB (rndQ ((a : Rat) * x)) with
   | true => exact scale_big h hn3 hn ham (by omega) ⟨by rw [hz]; unfold smN; rw [if_pos hb], by rw [hz]; exact hb⟩ rfl hzm
   | false => exact scale_not h hn3 hn ham (by omega) ⟨rfl, by rw [hz]; exact hb⟩ rfl
end Go.Proofs.YtodapfhnbgoanaaGreatDoor
