/- Contracts of the functions that the statements reach, part 8: what was proved of each, callees first. -/
import Derived.Test.YtgihmikeapbpkaaGreatDoorK7
namespace Go.Proofs.YtgihmikeapbpkaaGreatDoor
open Go.RowKit
open AS (Keep NoInt)
set_option maxHeartbeats 3200000
set_option maxRecDepth 20000
def shY (y z : Nat) : Nat := if y = 0 then 0 else z % y
theorem quoAll_fact {x y : Nat} {n m : Nat} {a b : Value} {w : World} (h1 : PInt (x : Int) n a w) (h2 : PInt (y : Int) m b w) (hn : n ≤ 90000) (hm : m ≤ 90000) :
  Calls Tryz.prog 114 #[a, b] w fun e w' => ∃ (k : Bool) (A : Option Addr) (l c : Nat) (k' : Bool) (A' : Option Addr) (l' c' : Nat) (er : Int), e = .returned (.tuple #[.agg #[.bool k, .slice A l c], .agg #[.bool k', .slice A' l' c'], .int .i64 er]) ∧
   PInt ((shY y x : Nat) : Int) (n + 1) (.agg #[.bool k', .slice A' l' c']) w' ∧ Below w.heap.size w w' := by
 obtain ⟨k, A, c, L, rfl, i1, e1, l1⟩ := h1
 obtain ⟨k2, A2, c2, L2, rfl, i2, e2, l2⟩ := h2
 refine (quoRem_all k k2 A A2 c c2 L L2 w (by omega) (by omega) i1 i2).mono ?_
 rintro e w' ⟨k5, A5, c5, Q, k6, A6, c6, R, rfl, hi5, hi6, hz5, hz6, hl5, hl6, hb⟩
 refine ⟨_, _, _, _, _, _, _, _, _, rfl, ⟨k6, A6, c6, R, rfl, hi6, ?_, by omega⟩, hb⟩
 rw [hz6, e1, e2]
 unfold remZ shY
 by_cases h : y = 0
 ·subst h; simp
 ·rw [if_neg (by omega), if_neg h]
  exact (Int.ofNat_tmod x y).symm
theorem shrink2_op {z y n m gy : Nat} {k : Bool} {A : Option Addr} {l c : Nat} {k' : Bool} {A' : Option Addr} {l' c' : Nat} {w : World} (h : PInt (z : Int) n (.agg #[.bool k, .slice A l c]) w) (hy : PInt (y : Int) m (.agg #[.bool k', .slice A' l' c']) w) (hby : Bx 25 w gy [.bool k', .slice A' l' c']) (hn : n ≤ 90000) (hm : m ≤ 90000) :
  Calls Tryz.prog 147 #[.agg #[.bool k, .slice A l c], .pointer (some ⟨gy, 0, none⟩)] w fun e w' => ∃ v, e = .returned v ∧ PInt ((shY y z : Nat) : Int) (n + 1) v w' ∧ Below w.heap.size w w' := by
 have H1 := Lib.hid h
 have HY := Lib.hid hy
 have b1 := Lib.hid hby
 have hgy := hby.lt
 clear h hy hby
 go_enter Tryz.func147, Tryz.ntmps147
 go_upto_region 1 with (fail)
 have q1 := b1.out.lt
 change Code.wp Tryz.prog _ _ _ ((w.alloc (.cells #[.bool k, .slice A l c] 25)).alloc (.cells #[.bool false, .slice none 0 0] 25))
 obtain ⟨nb2, nb3, na⟩ := new2 w 25 [.bool k, .slice A l c] 25 [.bool false, .slice none 0 0] lf2 lf2
 have nb1 := b1.out.up na
 have nkeep := Keep.ofBelow na
 have nbel := na
 generalize (w.alloc (.cells #[.bool k, .slice A l c] 25)).alloc (.cells #[.bool false, .slice none 0 0] 25) = W2 at *
 clear na b1
 have b1 := Lib.hid nb1
 have b2 := Lib.hid nb2
 have b3 := Lib.hid nb3
 clear nb1 nb2 nb3
 replace H1 := Lib.hid (H1.out.kept nkeep)
 replace HY := Lib.hid (HY.out.kept nkeep)
 clear nkeep
 have HB3 := Lib.hid nbel
 clear nbel
 obtain ⟨x1_0, x1_1, s1⟩ := b1.out.d2
 obtain ⟨x2_0, x2_1, s2⟩ := b2.out.d2
 obtain ⟨x3_0, x3_1, z3_0, z3_1, s3⟩ := b3.out.e2
 have szb := HB3.out.size
 go_wp2_with fail
 refine (quoAll_fact H1.out HY.out (by omega) (by omega)).mono ?_
 rintro e W4 ⟨k1, A1, l1, c1, k2, A2, l2, c2, er, rfl, hv, hb⟩
 replace b1 := hup b1 hb
 replace b2 := hup b2 hb
 replace b3 := hup b3 hb
 replace H1 := Lib.hid (H1.out.kept (Keep.ofBelow hb))
 replace HY := Lib.hid (HY.out.kept (Keep.ofBelow hb))
 have nbel := below_then HB3.out hb HB3.out.size
 have HB5 := Lib.hid nbel
 clear nbel HB3 hb x1_0 x1_1 x2_0 x2_1 x3_0 x3_1 z3_0 z3_1 szb s1 s2 s3
 obtain ⟨x1_0, x1_1, s1⟩ := b1.out.d2
 obtain ⟨x2_0, x2_1, s2⟩ := b2.out.d2
 obtain ⟨x3_0, x3_1, z3_0, z3_1, s3⟩ := b3.out.e2
 have szb := HB5.out.size
 have HV := Lib.hid hv
 clear hv
 go_upto_region 2 with (fail)
 have q6 := b1.out.lt
 have q7 := b2.out.lt
 have q8 := b3.out.lt
 change Code.wp Tryz.prog _ _ _ ((W4.alloc (.cells #[.bool k1, .slice A1 l1 c1] 25)).alloc (.cells #[.bool k2, .slice A2 l2 c2] 25))
 obtain ⟨nb4, nb5, na⟩ := new2 W4 25 [.bool k1, .slice A1 l1 c1] 25 [.bool k2, .slice A2 l2 c2] lf2 lf2
 have nb1 := b1.out.up na
 have nb2 := b2.out.up na
 have nb3 := b3.out.up na
 have nkeep := Keep.ofBelow na
 have nbel := below_then HB5.out na HB5.out.size
 generalize (W4.alloc (.cells #[.bool k1, .slice A1 l1 c1] 25)).alloc (.cells #[.bool k2, .slice A2 l2 c2] 25) = W9 at *
 clear na x1_0 x1_1 x2_0 x2_1 x3_0 x3_1 z3_0 z3_1 szb s1 s2 s3 b1 b2 b3
 have b1 := Lib.hid nb1
 have b2 := Lib.hid nb2
 have b3 := Lib.hid nb3
 have b4 := Lib.hid nb4
 have b5 := Lib.hid nb5
 clear nb1 nb2 nb3 nb4 nb5
 replace H1 := Lib.hid (H1.out.kept nkeep)
 replace HY := Lib.hid (HY.out.kept nkeep)
 replace HV := Lib.hid (HV.out.kept nkeep)
 clear nkeep
 have HB10 := Lib.hid nbel
 clear nbel HB5
 obtain ⟨x1_0, x1_1, s1⟩ := b1.out.d2
 obtain ⟨x2_0, x2_1, s2⟩ := b2.out.d2
 obtain ⟨x3_0, x3_1, z3_0, z3_1, s3⟩ := b3.out.e2
 obtain ⟨x4_0, x4_1, s4⟩ := b4.out.d2
 obtain ⟨x5_0, x5_1, s5⟩ := b5.out.d2
 have szb := HB10.out.size
 go_wp2_with fail
 have hkeep := (Keep.set2 (Keep.refl W9) b3.out (Leaf.bool k2) (Leaf.slice A2 l2 c2))
 have hbel := (Below.set2 (g := w.heap.size + 1) HB10.out (by first | omega | (simp; done) | (simp; omega)) (.bool k2) (.slice A2 l2 c2))
 refine bodyPost_ret (v := .agg #[.bool k2, .slice A2 l2 c2]) (by simp [results, Tryz.results147, go_sem, x3_0, x3_1]) rfl ⟨_, rfl, HV.out.kept hkeep, hbel⟩
theorem shrink2_fact {z : Int} {y z' n m gy : Nat} {a : Value} {k' : Bool} {A' : Option Addr} {l' c' : Nat} {w : World} (h : PInt z n a w) (hz : z = (z' : Int)) (hy : PInt (y : Int) m (.agg #[.bool k', .slice A' l' c']) w) (hby : Bx 25 w gy [.bool k', .slice A' l' c']) (hn : n ≤ 90000) (hm : m ≤ 90000) :
  Calls Tryz.prog 147 #[a, .pointer (some ⟨gy, 0, none⟩)] w fun e w' => ∃ v, e = .returned v ∧ PInt ((shY y z' : Nat) : Int) (n + 1) v w' ∧ Below w.heap.size w w' := by
 subst hz
 obtain ⟨k, A, l, c, rfl⟩ := h.open
 exact shrink2_op h hy hby hn hm
def read2FL (t : ByteArray) (m X n : Nat) (y gy : Nat) : List (Nat × AS.Fact) := [(19, AS.Fact.is (.func (.func 147) #[] #[.pointer (some ⟨gy, 0, none⟩)])), (20, AS.Fact.int ((X : Int)) n), (21, AS.Fact.int (((10 ^ m : Nat) : Int)) 223), (22, AS.Fact.int (((X : Int)) * (((10 ^ m : Nat) : Int))) (n + 223)), (23, AS.Fact.is (.string t)), (24, AS.Fact.is (.int .i64 (m : Int))), (25, AS.Fact.is (.string (t.extract 0 m))), (26, AS.Fact.int (((numOf (t.extract 0 m).data.toList : Nat) : Int)) 223), (27, AS.Fact.int ((((X : Int)) * (((10 ^ m : Nat) : Int))) + (((numOf (t.extract 0 m).data.toList : Nat) : Int))) (((n + 223) + 223) + 1)), (28, AS.Fact.int (((shY y (X * 10 ^ m + numOf (t.extract 0 m).data.toList) : Nat) : Int)) (n + 223 + 223 + 1 + 1))]
theorem read2_any (s : ByteArray) (w : World) (hd : AllDig s.data.toList) (hl : s.size ≤ 10000) {y my gy : Nat} {ky : Bool} {Ay : Option Addr} {ly cy : Nat} (hy : PInt (y : Int) my (.agg #[.bool ky, .slice Ay ly cy]) w) (hby : Bx 25 w gy [.bool ky, .slice Ay ly cy]) (hmy : my ≤ 90000) :
  Calls Tryz.prog 145 #[.string s, .func (.func 147) #[] #[.pointer (some ⟨gy, 0, none⟩)]] w fun e w' => ∃ v, e = .returned v ∧ PInt (readL (shY y) 0 s.data.toList) (s.size + 500) v w' ∧ Below w.heap.size w w' := by
 have HY := Lib.hid hy
 have BY := Lib.hid hby
 have HMY := Lib.hid hmy
 clear hy hby hmy
 have HDG := Lib.hid hd
 have HSL := Lib.hid hl
 clear hd hl
 go_enter Tryz.func145, Tryz.ntmps145
 go_wp2
 have nb4 := (Bx.new 25 w [.bool false, .slice none 0 0] lf2).alloc (.cells #[.bool false, .slice none 0 0] 25)
 have nb5 := Bx.new 25 (w.alloc (.cells #[.bool false, .slice none 0 0] 25)) [.bool false, .slice none 0 0] lf2
 rw [show (w.alloc (.cells #[.bool false, .slice none 0 0] 25)).heap.size = w.heap.size + 1 by simp] at nb5
 have nbel := below_a2 w (.cells #[.bool false, .slice none 0 0] 25) (.cells #[.bool false, .slice none 0 0] 25)
 change Code.wp Tryz.prog _ _ _ ((w.alloc (.cells #[.bool false, .slice none 0 0] 25)).alloc (.cells #[.bool false, .slice none 0 0] 25))
 generalize (w.alloc (.cells #[.bool false, .slice none 0 0] 25)).alloc (.cells #[.bool false, .slice none 0 0] 25) = W0 at *
 have B4 := Lib.hid nb4
 have B5 := Lib.hid nb5
 have HB := Lib.hid nbel
 clear nb4 nb5 nbel
 go_loopw [0] (fun v wr => ∃ t : ByteArray, v = .string t ∧ Hid (AllDig t.data.toList ∧ t.size ≤ s.size) ∧ Hid (Below w.heap.size w wr) ∧ Hid (Bx 25 wr w.heap.size [.bool false, .slice none 0 0]) ∧ ∃ (k : Bool) (A : Option Addr) (l c X n : Nat), Hid (Bx 25 wr (w.heap.size + 1) [.bool k, .slice A l c]) ∧ Hid (PInt (X : Int) n (.agg #[.bool k, .slice A l c]) wr) ∧ Hid (readL (shY y) X t.data.toList = readL (shY y) 0 s.data.toList) ∧ Hid (n + t.size ≤ s.size ∨ t.size = 0 ∧ n ≤ s.size + 500)) (fun v _ => match v with | .string t => t.size | _ => 0)
 case atStart => exact ⟨s, rfl, ⟨HDG.out, Nat.le_refl _⟩, HB.out, B4.out, false, none, 0, 0, 0, 0, B5.out, PInt.zero 0 _, rfl, .inl (by show 0 + s.size ≤ s.size; omega)⟩
 case round =>
  obtain ⟨t, rfl, hdt, hbl, b4, k, A, l, c, X, n, b5, HX, hrd, hbn⟩ := hrel
  clear B4 B5 HB
  rcases Nat.eq_zero_or_pos t.size with h0 | h0
  ·have hd0 : decide ((0 : Int) < ((t.size : Nat) : Int)) = false := by simp [h0]
   have ht0 : t.data.toList = [] := by rw [← List.length_eq_zero_iff]; rw [size_list]; exact h0
   have y0 := b5.out.cell 0
   have y1 := b5.out.cell 1
   have x0 := b4.out.cell 0
   have x1 := b4.out.cell 1
   have z0 := b4.out.frozen 0
   have z1 := b4.out.frozen 1
   simp only [List.getElem?_cons_zero, List.getElem?_cons_succ] at y0 y1 x0 x1
   go_wp2
   have hkeep := Keep.set (Keep.set (Keep.refl wr) b4.out 0 (Leaf.bool k)) (Bx.set b4.out 0 (Leaf.bool k)) 1 (Leaf.slice A l c)
   have hbel := (hbl.out.setCell (p := ⟨w.heap.size, 0, none⟩) (Nat.le_refl _) (.bool k)).setCell (p := ⟨w.heap.size, 1, none⟩) (Nat.le_refl _) (.slice A l c)
   have hx : PInt (readL (shY y) 0 s.data.toList) (s.size + 500) (.agg #[.bool k, .slice A l c]) wr := by
    rw [← hrd.out, ht0, readL_nil]; exact HX.out.more (by have := hbn.out; omega)
   refine bodyPost_ret (v := .agg #[.bool k, .slice A l c]) (by simp [results, Tryz.results145, go_sem, x0, x1]) rfl ⟨_, rfl, hx.kept hkeep, hbel⟩
  ·have hp : ((0 : Int) < ((t.size : Nat) : Int)) := by omega
   have hne : t.data.toList ≠ [] := by intro h; rw [← List.length_eq_zero_iff, size_list] at h; omega
   have hmn : min ((t.size : Nat) : Int) 1000 = ((min t.size 1000 : Nat) : Int) := by omega
   have HST := Lib.hid (readL_step (shY y) X hne)
   obtain ⟨m, hm⟩ : ∃ m, min t.size 1000 = m := ⟨_, rfl⟩
   rw [hm] at hmn
   have HMN := Lib.hid hm
   clear hm
   have hm1 : m ≤ 1000 := by rw [← HMN.out]; omega
   have hm2 : m ≤ t.size := by rw [← HMN.out]; omega
   have hz1 := fun wx => run_string_add_lists (P := Tryz.prog) wx [49] (List.replicate m 48) (by simp) (by simp; omega)
   have hpt := Lib.hid (fun W => readPart_any (⟨(49 :: List.replicate m 48).toArray⟩ : ByteArray) W (tenL_dig m) (by show (49 :: List.replicate m 48).toArray.size ≤ 2000; simp; omega))
   obtain ⟨x4_0, x4_1, s4⟩ := b4.out.d2
   obtain ⟨x5_0, x5_1, z5_0, z5_1, s5⟩ := b5.out.e2
   have szb := hbl.out.size
   go_wp2_with fail
   refine (rep_fact m wr (by omega)).mono ?_
   rintro e W1 ⟨rfl, hb⟩
   replace b4 := hup b4 hb
   replace b5 := hup b5 hb
   replace HX := Lib.hid (HX.out.kept (Keep.ofBelow hb))
   have nbel := below_then hbl.out hb hbl.out.size
   have HB2 := Lib.hid nbel
   clear nbel hbl hb x4_0 x4_1 x5_0 x5_1 z5_0 z5_1 szb s4 s5
   obtain ⟨x4_0, x4_1, s4⟩ := b4.out.d2
   obtain ⟨x5_0, x5_1, z5_0, z5_1, s5⟩ := b5.out.e2
   have szb := HB2.out.size
   go_wp2_with fail
   refine (hpt.out _).mono ?_
   rintro e W3 ⟨v, rfl, hv, hb⟩
   replace b4 := hup b4 hb
   replace b5 := hup b5 hb
   replace HX := Lib.hid (HX.out.kept (Keep.ofBelow hb))
   have nbel := below_then HB2.out hb HB2.out.size
   have HB4 := Lib.hid nbel
   clear nbel HB2 hb x4_0 x4_1 x5_0 x5_1 z5_0 z5_1 szb s4 s5
   obtain ⟨x4_0, x4_1, s4⟩ := b4.out.d2
   obtain ⟨x5_0, x5_1, z5_0, z5_1, s5⟩ := b5.out.e2
   have szb := HB4.out.size
   obtain ⟨k1, A1, l1, c1, rfl⟩ := hv.open
   have HP := Lib.hid hv
   clear hv
   go_upto_region 5 with (fail)
   have q5 := b4.out.lt
   have q6 := b5.out.lt
   change Code.wp Tryz.prog _ _ _ (W3.alloc (.cells #[.bool k1, .slice A1 l1 c1] 25))
   obtain ⟨nb7, na⟩ := new1 W3 25 [.bool k1, .slice A1 l1 c1] lf2
   have nb4 := b4.out.up na
   have nb5 := b5.out.up na
   have nkeep := Keep.ofBelow na
   have nbel := below_then HB4.out na HB4.out.size
   generalize W3.alloc (.cells #[.bool k1, .slice A1 l1 c1] 25) = W7 at *
   clear na x4_0 x4_1 x5_0 x5_1 z5_0 z5_1 szb s4 s5 b4 b5
   have b4 := Lib.hid nb4
   have b5 := Lib.hid nb5
   have b7 := Lib.hid nb7
   clear nb4 nb5 nb7
   replace HX := Lib.hid (HX.out.kept nkeep)
   replace HP := Lib.hid (HP.out.kept nkeep)
   clear nkeep
   have HB8 := Lib.hid nbel
   clear nbel HB4
   obtain ⟨x4_0, x4_1, s4⟩ := b4.out.d2
   obtain ⟨x5_0, x5_1, z5_0, z5_1, s5⟩ := b5.out.e2
   obtain ⟨x7_0, x7_1, s7⟩ := b7.out.d2
   have szb := HB8.out.size
   rw [show numOf (⟨(49 :: List.replicate m 48).toArray⟩ : ByteArray).data.toList = 10 ^ m from tenL_num m] at HP
   have hdx : AllDig (t.extract 0 m).data.toList := fun c hc => hdt.out.1 c (by rw [Lib.extract_data] at hc; exact List.mem_of_mem_take (by simpa using hc))
   have hlx : (t.extract 0 m).size ≤ 2000 := by rw [show (t.extract 0 m).size = min m t.size by simp]; omega
   have hnb : n ≤ 20000 := by have h8 := hbn.out; have h9 := HSL.out; have h10 := hdt.out.2; omega
   have HRP := Lib.hid (fun Wx => readPart_any (t.extract 0 m) Wx hdx hlx)
   clear hdx hlx
   refine AS.region_facts (read2FL t m X n y gy) (JOne w W7 25 w.heap.size [.bool false, .slice none 0 0] (w.heap.size + 1)) [[], [], [], [20, 21], [], [], [23, 24], [25], [22, 26], [27, 19], [28]] [10] [[], [28]] [1, 0, 0, 1, 1, 1, 1, 1, 1, 0, 1] [] (fun u => by simp only [read2FL, AS.temps, List.map_cons, List.map_nil, fillL, List.setIfInBounds_toArray, List.set_cons_zero, List.set_cons_succ]; rfl) (by kernel_rfl) (by kernel_rfl) (JOne.st w W7 25 w.heap.size [.bool false, .slice none 0 0] (w.heap.size + 1)) (below_drew (Below.refl _ _)) ?_ ?_
   ·refine AS.sc rfl rfl rfl ?_ ?_
    ·intro k_ u w_ hk hJ hF K hK
     clear hF
     go_simp
     exact hK.out _ _ (Below.refl _ _) (rfl) trivial
    refine AS.sc rfl rfl rfl ?_ ?_
    ·intro k_ u w_ hk hJ hF K hK
     clear hF
     obtain rfl : k_ = 0 := Nat.le_zero.1 hk
     have hJ0 : Below W7.heap.size W7 w_ := hJ
     obtain ⟨y0, y1⟩ := ((b5.out).up hJ0).c2
     go_simp
     exact hK.out _ _ (Below.refl _ _) ((HX.out).kept (Keep.ofBelow hJ0)) trivial
    refine AS.sc rfl rfl rfl ?_ ?_
    ·intro k_ u w_ hk hJ hF K hK
     clear hF
     obtain rfl : k_ = 0 := Nat.le_zero.1 hk
     have hJ0 : Below W7.heap.size W7 w_ := hJ
     obtain ⟨y0, y1⟩ := ((b7.out).up hJ0).c2
     go_simp
     exact hK.out _ _ (Below.refl _ _) ((HP.out).kept (Keep.ofBelow hJ0)) trivial
    refine AS.sc rfl rfl rfl ?_ ?_
    ·intro k_ u w_ hk hJ hF K hK
     have h20 : PInt ((X : Int)) n (u 20) w_ := AS.facts_get hF 20 (by simp)
     have h21 : PInt (((10 ^ m : Nat) : Int)) 223 (u 21) w_ := AS.facts_get hF 21 (by simp)
     clear hF
     go_simp
     refine (mul_fact h20 h21 (by omega) (by omega)).mono ?_
     rintro e w' ⟨v, rfl, hv, hb⟩
     exact hK.out _ _ hb (hv) trivial
    refine AS.sc rfl rfl rfl ?_ ?_
    ·intro k_ u w_ hk hJ hF K hK
     clear hF
     go_simp
     exact hK.out _ _ (Below.refl _ _) (rfl) trivial
    refine AS.sc rfl rfl rfl ?_ ?_
    ·intro k_ u w_ hk hJ hF K hK
     clear hF
     go_simp
     exact hK.out _ _ (Below.refl _ _) (rfl) trivial
    refine AS.sc rfl rfl rfl ?_ ?_
    ·intro k_ u w_ hk hJ hF K hK
     have h23 : u 23 = .string t := AS.facts_get hF 23 (by simp)
     have h24 : u 24 = .int .i64 (m : Int) := AS.facts_get hF 24 (by simp)
     clear hF
     simp only [h23, h24] at hK ⊢
     clear h23 h24
     go_simp
     exact hK.out _ _ (Below.refl _ _) (rfl) trivial
    refine AS.sc rfl rfl rfl ?_ ?_
    ·intro k_ u w_ hk hJ hF K hK
     have h25 : u 25 = .string (t.extract 0 m) := AS.facts_get hF 25 (by simp)
     clear hF
     simp only [h25] at hK ⊢
     clear h25
     go_simp
     refine (HRP.out _).mono ?_
     rintro e w' ⟨v, rfl, hv, hb⟩
     exact hK.out _ _ hb (hv) trivial
    refine AS.sc rfl rfl rfl ?_ ?_
    ·intro k_ u w_ hk hJ hF K hK
     have h22 : PInt (((X : Int)) * (((10 ^ m : Nat) : Int))) (n + 223) (u 22) w_ := AS.facts_get hF 22 (by simp)
     have h26 : PInt (((numOf (t.extract 0 m).data.toList : Nat) : Int)) 223 (u 26) w_ := AS.facts_get hF 26 (by simp)
     clear hF
     go_simp
     refine (add_fact h22 h26 (by omega) (by omega)).mono ?_
     rintro e w' ⟨v, rfl, hv, hb⟩
     exact hK.out _ _ hb (hv) trivial
    refine AS.sc rfl rfl rfl ?_ ?_
    ·intro k_ u w_ hk hJ hF K hK
     have h27 : PInt ((((X : Int)) * (((10 ^ m : Nat) : Int))) + (((numOf (t.extract 0 m).data.toList : Nat) : Int))) (((n + 223) + 223) + 1) (u 27) w_ := AS.facts_get hF 27 (by simp)
     have h19 : u 19 = .func (.func 147) #[] #[.pointer (some ⟨gy, 0, none⟩)] := AS.facts_get hF 19 (by simp)
     clear hF
     simp only [h19] at hK ⊢
     clear h19
     obtain rfl : k_ = 0 := Nat.le_zero.1 hk
     have hJ0 : Below W7.heap.size W7 w_ := hJ
     have hyw := below_then HB8.out hJ0 HB8.out.size
     go_simp
     refine (shrink2_fact h27 (read_cast _ _ _) (HY.out.up hyw) (BY.out.up hyw) (by omega) HMY.out).mono ?_
     rintro e w' ⟨v, rfl, hv, hb⟩
     exact hK.out _ _ hb (hv) trivial
    refine AS.ss rfl rfl ?_ ?_
    ·intro u w_ hJ hAp hF K hK
     have h28 : PInt (((shY y (X * 10 ^ m + numOf (t.extract 0 m).data.toList) : Nat) : Int)) (n + 223 + 223 + 1 + 1) (u 28) w_ := AS.facts_get hF 28 (by simp)
     clear hF
     obtain ⟨k2, A2, l2, c2, e_⟩ := h28.open
     have hJ0 : Below W7.heap.size W7 w_ := hJ
     have bx := b5.out.up hJ0
     have ob4 := b4.out.up hJ0
     have hbel := below_then HB8.out hJ0 HB8.out.size
     have hsz : w.heap.size ≤ w_.heap.size := hbel.size
     have y0 := bx.cell 0
     have y1 := bx.cell 1
     have z0 := bx.frozen 0
     have z1 := bx.frozen 1
     simp only [List.getElem?_cons_zero, List.getElem?_cons_succ] at y0 y1
     simp only [e_] at hK ⊢
     go_simp
     exact hK.out undef _ ⟨⟨(hbel.setCell (p := ⟨w.heap.size + 1, 0, none⟩) (Nat.le_succ _) (.bool k2)).setCell (p := ⟨w.heap.size + 1, 1, none⟩) (Nat.le_succ _) (.slice A2 l2 c2), by simp only [setCell_size]; exact hsz⟩, Bx.far (Bx.far ob4 (by omega) 0 (.bool k2)) (by omega) 1 (.slice A2 l2 c2), [.bool k2, .slice A2 l2 c2], by simp [e_], Bx.set (Bx.set bx 0 (Leaf.bool k2)) 1 (Leaf.slice A2 l2 c2)⟩ (Keep.set2 (Keep.refl w_) bx (Leaf.bool k2) (Leaf.slice A2 l2 c2))
    exact AS.StepsOk.nil
   ·intro u W9 hJ9 hF
    have h28 : PInt (((shY y (X * 10 ^ m + numOf (t.extract 0 m).data.toList) : Nat) : Int)) (n + 223 + 223 + 1 + 1) (u 28) W9 := AS.facts_get hF 28 (by simp [read2FL, AS.temps])
    clear hF
    obtain ⟨⟨hbel, hsz⟩, hb4, vs, hvs, hb5⟩ := hJ9
    obtain ⟨k3, A3, l3, c3, ea⟩ := h28.open
    rw [ea] at h28
    obtain rfl : vs = [.bool k3, .slice A3 l3 c3] := by
     have e1 := (List.cons.inj hvs).1
     rw [show u 28 = _ from ea] at e1
     have e2 := congrArg Array.toList (Value.agg.inj e1)
     simpa using e2.symm
    have H4 := Lib.hid hb4
    have H5 := Lib.hid hb5
    have HX2 := Lib.hid h28
    have HBL := Lib.hid hbel
    clear hvs hb4 hb5 h28 hbel
    go_wp2
    have hsx : (t.extract m t.size).size = t.size - m := by simp
    refine ⟨⟨t.extract m t.size, rfl, ⟨fun c hc => hdt.out.1 c (by rw [Lib.extract_to_end] at hc; exact List.mem_of_mem_drop hc), ?_⟩, HBL.out, H4.out, k3, A3, l3, c3, _, _, H5.out, HX2.out, ?_, ?_⟩, ?_⟩
    ·have := hdt.out.2; omega
    ·show readL (shY y) _ (t.extract m t.size).data.toList = _
     rw [Lib.extract_to_end, ← hrd.out, HST.out]
     have e1 : min t.data.toList.length 1000 = m := by rw [size_list]; exact HMN.out
     rw [e1]
     have e2 : (t.extract 0 m).data.toList = t.data.toList.take m := by rw [Lib.extract_data]; simp
     rw [e2]
    ·show _ + (t.extract m t.size).size ≤ s.size ∨ (t.extract m t.size).size = 0 ∧ _ ≤ s.size + 500
     rw [hsx]
     have h8 := hbn.out
     have h9 := HMN.out
     have h10 := hdt.out.2
     omega
    ·show (t.extract m t.size).size < t.size
     have h9 := HMN.out
     omega
set_option maxHeartbeats 3200000
set_option maxRecDepth 20000
theorem numOf_from (x : Nat) (l : List UInt8) : l.foldl (fun n c => 10 * n + (c.toNat - 48)) x = x * 10 ^ l.length + numOf l := by
 induction l generalizing x with
 | nil => simp [numOf]
 | cons c r ih =>
  unfold numOf
  rw [List.foldl_cons, List.foldl_cons, ih, ih (10 * 0 + (c.toNat - 48)), List.length_cons, Nat.pow_succ]
  simp only [Nat.mul_zero, Nat.zero_add]
  rw [Nat.add_mul, Nat.add_assoc, Nat.mul_comm 10 x, Nat.mul_assoc, Nat.mul_comm 10]
theorem numOf_app (l m : List UInt8) : numOf (l ++ m) = numOf l * 10 ^ m.length + numOf m := by
 rw [show numOf (l ++ m) = m.foldl (fun n c => 10 * n + (c.toNat - 48)) (numOf l) by unfold numOf; rw [List.foldl_append]]
 exact numOf_from _ _
theorem take_num (x n : Nat) (l : List UInt8) (h : n ≤ l.length) : (x * 10 ^ n + numOf (l.take n)) * 10 ^ (l.drop n).length + numOf (l.drop n) = x * 10 ^ l.length + numOf l := by
 have h1 := numOf_app (l.take n) (l.drop n)
 rw [List.take_append_drop] at h1
 rw [h1, Nat.add_mul, Nat.mul_assoc, ← Nat.pow_add, List.length_drop, Nat.add_sub_cancel' h]
 omega
theorem readL_from (x : Nat) (l : List UInt8) : readL id x l = x * 10 ^ l.length + numOf l := by
 induction hn : l.length using Nat.strongRecOn generalizing x l with
 | _ n ih =>
  by_cases h : l = []
  ·subst h; rw [readL_nil]; simp at hn; subst hn; simp [numOf]
  ·have hp := List.length_pos_iff.2 h
   rw [readL_step _ _ h, ih (l.drop (min l.length 1000)).length (by rw [List.length_drop]; omega) _ _ rfl]
   have := take_num x (min l.length 1000) l (Nat.min_le_left _ _)
   rw [← hn]
   exact this
theorem readL_id (l : List UInt8) : readL id 0 l = numOf l := by rw [readL_from]; simp
theorem shY_lin (y a k b : Nat) : shY y (shY y a * k + b) = shY y (a * k + b) := by
 unfold shY
 by_cases h : y = 0
 ·simp [h]
 ·simp only [h, if_false]
  rw [Nat.add_mod, Nat.mul_mod, Nat.mod_mod, ← Nat.mul_mod, ← Nat.add_mod]
theorem readL_mod (y : Nat) (x : Nat) (l : List UInt8) (h : l ≠ []) : readL (shY y) x l = shY y (x * 10 ^ l.length + numOf l) := by
 induction hn : l.length using Nat.strongRecOn generalizing x l with
 | _ n ih =>
  have hp := List.length_pos_iff.2 h
  rw [readL_step _ _ h]
  by_cases hd : l.drop (min l.length 1000) = []
  ·have hk : min l.length 1000 = l.length := by rw [List.drop_eq_nil_iff] at hd; omega
   rw [hk, List.drop_length, readL_nil, List.take_length, hn]
  ·rw [ih (l.drop (min l.length 1000)).length (by rw [List.length_drop]; omega) _ _ hd rfl, shY_lin, take_num x _ l (Nat.min_le_left _ _), hn]
def eq1 (g : Nat) : Bool := decide (g = 1)
theorem cmp_eq1 (g : Nat) : (cmpI (g : Int) 1 == 0) = eq1 g := by
 unfold cmpI eq1
 by_cases h : g = 1
 ·subst h; rfl
 ·by_cases h2 : (g : Int) < 1
  ·rw [if_pos h2]; simp [h]
  ·rw [if_neg h2, if_neg (by omega)]; simp [h]
theorem cop_ge (s t : ByteArray) (w : World) (ha : AllDig s.data.toList) (hb0 : AllDig t.data.toList) (hz : t.size ≤ s.size ∧ s.size ≤ 9000 ∧ t.size ≤ 9000) :
  Calls Tryz.prog 107 #[.string s, .string t] w fun e w' => e = .returned (.bool (eq1 (Nat.gcd (readL (shY (numOf t.data.toList)) 0 s.data.toList) (numOf t.data.toList)))) ∧ Below w.heap.size w w' := by
 have hmf : ∀ (fn : Fn) (first cap : Array Value) (w : World), (Instr.makeFunc fn first cap).run Tryz.prog w = .ok (.func fn first cap) w := fun _ _ _ _ => rfl
 have HA := Lib.hid ha
 have HB := Lib.hid hb0
 have HZ := Lib.hid hz
 clear ha hb0 hz
 have hlt : ¬ (s.size < t.size) := by have := HZ.out.1; omega
 have hlt2 := decide_eq_false hlt
 clear hlt
 go_enter Tryz.func107, Tryz.ntmps107
 go_wp2_with fail
 refine (read1_any t _ HB.out (by have := HZ.out; omega)).mono ?_
 rintro e W1 ⟨v, rfl, hv, hb⟩
 have nbel := hb
 have HB2 := Lib.hid nbel
 clear nbel hb
 have szb := HB2.out.size
 obtain ⟨k1, A1, l1, c1, rfl⟩ := hv.open
 rw [readL_id] at hv
 have HY := Lib.hid hv
 clear hv
 go_upto_region 4 with (fail)
 change Code.wp Tryz.prog _ _ _ (W1.alloc (.cells #[.bool k1, .slice A1 l1 c1] 25))
 obtain ⟨nb5, na⟩ := new1 W1 25 [.bool k1, .slice A1 l1 c1] lf2
 have nkeep := Keep.ofBelow na
 have nbel := below_then HB2.out na HB2.out.size
 generalize W1.alloc (.cells #[.bool k1, .slice A1 l1 c1] 25) = W3 at *
 clear na szb
 have b5 := Lib.hid nb5
 clear nb5
 replace HY := Lib.hid (HY.out.kept nkeep)
 clear nkeep
 have HB4 := Lib.hid nbel
 clear nbel HB2
 obtain ⟨x50, x51, s5⟩ := b5.out.d2
 have szb := HB4.out.size
 go_wp2_with fail
 refine (read2_any s _ HA.out (by have := HZ.out; omega) HY.out b5.out (by have := HZ.out; omega)).mono ?_
 rintro e W5 ⟨v, rfl, hv, hb⟩
 replace b5 := hup b5 hb
 replace HY := Lib.hid (HY.out.kept (Keep.ofBelow hb))
 have nbel := below_then HB4.out hb HB4.out.size
 have HB6 := Lib.hid nbel
 clear nbel HB4 hb x50 x51 szb s5
 obtain ⟨x50, x51, s5⟩ := b5.out.d2
 have szb := HB6.out.size
 obtain ⟨k2, A2, l2, c2, rfl⟩ := hv.open
 have HX := Lib.hid hv
 clear hv
 go_upto_region 5 with (fail)
 have q7 := b5.out.lt
 change Code.wp Tryz.prog _ _ _ (W5.alloc (.cells #[.bool k2, .slice A2 l2 c2] 25))
 obtain ⟨nb6, na⟩ := new1 W5 25 [.bool k2, .slice A2 l2 c2] lf2
 have nb5 := b5.out.up na
 have nkeep := Keep.ofBelow na
 have nbel := below_then HB6.out na HB6.out.size
 generalize W5.alloc (.cells #[.bool k2, .slice A2 l2 c2] 25) = W8 at *
 clear na x50 x51 szb s5 b5
 have b5 := Lib.hid nb5
 have b6 := Lib.hid nb6
 clear nb5 nb6
 replace HY := Lib.hid (HY.out.kept nkeep)
 replace HX := Lib.hid (HX.out.kept nkeep)
 clear nkeep
 have HB9 := Lib.hid nbel
 clear nbel HB6
 obtain ⟨x50, x51, s5⟩ := b5.out.d2
 obtain ⟨x60, x61, s6⟩ := b6.out.d2
 have szb := HB9.out.size
 go_wp2_with fail
 refine (gcd_fact HX.out HY.out (by have := HZ.out; omega) (by have := HZ.out; omega)).mono ?_
 rintro e W10 ⟨v, rfl, hv, hb⟩
 replace b5 := hup b5 hb
 replace b6 := hup b6 hb
 replace HY := Lib.hid (HY.out.kept (Keep.ofBelow hb))
 replace HX := Lib.hid (HX.out.kept (Keep.ofBelow hb))
 have nbel := below_then HB9.out hb HB9.out.size
 have HB11 := Lib.hid nbel
 clear nbel HB9 hb x50 x51 x60 x61 szb s5 s6
 obtain ⟨x50, x51, s5⟩ := b5.out.d2
 obtain ⟨x60, x61, s6⟩ := b6.out.d2
 have szb := HB11.out.size
 obtain ⟨k3, A3, l3, c3, rfl⟩ := hv.open
 rw [Int.gcd_natCast_natCast] at hv
 have HG := Lib.hid hv
 clear hv
 go_wp2_with fail
 refine (of_fact (n := 1) (by decide) (by decide)).mono ?_
 rintro e W12 ⟨v, rfl, hv, hb⟩
 replace b5 := hup b5 hb
 replace b6 := hup b6 hb
 replace HY := Lib.hid (HY.out.kept (Keep.ofBelow hb))
 replace HX := Lib.hid (HX.out.kept (Keep.ofBelow hb))
 replace HG := Lib.hid (HG.out.kept (Keep.ofBelow hb))
 have nbel := below_then HB11.out hb HB11.out.size
 have HB13 := Lib.hid nbel
 clear nbel HB11 hb x50 x51 x60 x61 szb s5 s6
 obtain ⟨x50, x51, s5⟩ := b5.out.d2
 obtain ⟨x60, x61, s6⟩ := b6.out.d2
 have szb := HB13.out.size
 obtain ⟨k4, A4, l4, c4, rfl⟩ := hv.open
 have HO := Lib.hid hv
 clear hv
 go_wp2_with fail
 refine (cmp_fact HG.out HO.out (by have := HZ.out; omega) (by omega)).mono ?_
 rintro e W14 ⟨rfl, hb⟩
 replace b5 := hup b5 hb
 replace b6 := hup b6 hb
 replace HY := Lib.hid (HY.out.kept (Keep.ofBelow hb))
 replace HX := Lib.hid (HX.out.kept (Keep.ofBelow hb))
 replace HG := Lib.hid (HG.out.kept (Keep.ofBelow hb))
 replace HO := Lib.hid (HO.out.kept (Keep.ofBelow hb))
 have nbel := below_then HB13.out hb HB13.out.size
 have HB15 := Lib.hid nbel
 clear nbel HB13 hb x50 x51 x60 x61 szb s5 s6
 obtain ⟨x50, x51, s5⟩ := b5.out.d2
 obtain ⟨x60, x61, s6⟩ := b6.out.d2
 have szb := HB15.out.size
 go_wp2_with fail
 have hbel := HB15.out
 refine bodyPost_ret (v := .bool (eq1 (Nat.gcd (readL (shY (numOf t.data.toList)) 0 s.data.toList) (numOf t.data.toList)))) (by simp [results, Tryz.results107, go_sem, cmp_eq1]) rfl ⟨rfl, hbel⟩
theorem cop_lt (s t : ByteArray) (w : World) (ha : AllDig s.data.toList) (hb0 : AllDig t.data.toList) (hz : s.size < t.size ∧ s.size ≤ 9000 ∧ t.size ≤ 9000) :
  Calls Tryz.prog 107 #[.string s, .string t] w fun e w' => e = .returned (.bool (eq1 (Nat.gcd (readL (shY (numOf s.data.toList)) 0 t.data.toList) (numOf s.data.toList)))) ∧ Below w.heap.size w w' := by
 have hmf : ∀ (fn : Fn) (first cap : Array Value) (w : World), (Instr.makeFunc fn first cap).run Tryz.prog w = .ok (.func fn first cap) w := fun _ _ _ _ => rfl
 have HA := Lib.hid ha
 have HB := Lib.hid hb0
 have HZ := Lib.hid hz
 clear ha hb0 hz
 have hlt : (s.size : Int) < (t.size : Int) := by have := HZ.out.1; omega
 go_enter Tryz.func107, Tryz.ntmps107
 go_wp2_with fail
 refine (read1_any s _ HA.out (by have := HZ.out; omega)).mono ?_
 rintro e W1 ⟨v, rfl, hv, hb⟩
 have nbel := hb
 have HB2 := Lib.hid nbel
 clear nbel hb
 have szb := HB2.out.size
 obtain ⟨k1, A1, l1, c1, rfl⟩ := hv.open
 rw [readL_id] at hv
 have HY := Lib.hid hv
 clear hv
 go_upto_region 4 with (fail)
 change Code.wp Tryz.prog _ _ _ (W1.alloc (.cells #[.bool k1, .slice A1 l1 c1] 25))
 obtain ⟨nb5, na⟩ := new1 W1 25 [.bool k1, .slice A1 l1 c1] lf2
 have nkeep := Keep.ofBelow na
 have nbel := below_then HB2.out na HB2.out.size
 generalize W1.alloc (.cells #[.bool k1, .slice A1 l1 c1] 25) = W3 at *
 clear na szb
 have b5 := Lib.hid nb5
 clear nb5
 replace HY := Lib.hid (HY.out.kept nkeep)
 clear nkeep
 have HB4 := Lib.hid nbel
 clear nbel HB2
 obtain ⟨x50, x51, s5⟩ := b5.out.d2
 have szb := HB4.out.size
 go_wp2_with fail
 refine (read2_any t _ HB.out (by have := HZ.out; omega) HY.out b5.out (by have := HZ.out; omega)).mono ?_
 rintro e W5 ⟨v, rfl, hv, hb⟩
 replace b5 := hup b5 hb
 replace HY := Lib.hid (HY.out.kept (Keep.ofBelow hb))
 have nbel := below_then HB4.out hb HB4.out.size
 have HB6 := Lib.hid nbel
 clear nbel HB4 hb x50 x51 szb s5
 obtain ⟨x50, x51, s5⟩ := b5.out.d2
 have szb := HB6.out.size
 obtain ⟨k2, A2, l2, c2, rfl⟩ := hv.open
 have HX := Lib.hid hv
 clear hv
 go_upto_region 5 with (fail)
 have q7 := b5.out.lt
 change Code.wp Tryz.prog _ _ _ (W5.alloc (.cells #[.bool k2, .slice A2 l2 c2] 25))
 obtain ⟨nb6, na⟩ := new1 W5 25 [.bool k2, .slice A2 l2 c2] lf2
 have nb5 := b5.out.up na
 have nkeep := Keep.ofBelow na
 have nbel := below_then HB6.out na HB6.out.size
 generalize W5.alloc (.cells #[.bool k2, .slice A2 l2 c2] 25) = W8 at *
 clear na x50 x51 szb s5 b5
 have b5 := Lib.hid nb5
 have b6 := Lib.hid nb6
 clear nb5 nb6
 replace HY := Lib.hid (HY.out.kept nkeep)
 replace HX := Lib.hid (HX.out.kept nkeep)
 clear nkeep
 have HB9 := Lib.hid nbel
 clear nbel HB6
 obtain ⟨x50, x51, s5⟩ := b5.out.d2
 obtain ⟨x60, x61, s6⟩ := b6.out.d2
 have szb := HB9.out.size
 go_wp2_with fail
 refine (gcd_fact HX.out HY.out (by have := HZ.out; omega) (by have := HZ.out; omega)).mono ?_
 rintro e W10 ⟨v, rfl, hv, hb⟩
 replace b5 := hup b5 hb
 replace b6 := hup b6 hb
 replace HY := Lib.hid (HY.out.kept (Keep.ofBelow hb))
 replace HX := Lib.hid (HX.out.kept (Keep.ofBelow hb))
 have nbel := below_then HB9.out hb HB9.out.size
 have HB11 := Lib.hid nbel
 clear nbel HB9 hb x50 x51 x60 x61 szb s5 s6
 obtain ⟨x50, x51, s5⟩ := b5.out.d2
 obtain ⟨x60, x61, s6⟩ := b6.out.d2
 have szb := HB11.out.size
 obtain ⟨k3, A3, l3, c3, rfl⟩ := hv.open
 rw [Int.gcd_natCast_natCast] at hv
 have HG := Lib.hid hv
 clear hv
 go_wp2_with fail
 refine (of_fact (n := 1) (by decide) (by decide)).mono ?_
 rintro e W12 ⟨v, rfl, hv, hb⟩
 replace b5 := hup b5 hb
 replace b6 := hup b6 hb
 replace HY := Lib.hid (HY.out.kept (Keep.ofBelow hb))
 replace HX := Lib.hid (HX.out.kept (Keep.ofBelow hb))
 replace HG := Lib.hid (HG.out.kept (Keep.ofBelow hb))
 have nbel := below_then HB11.out hb HB11.out.size
 have HB13 := Lib.hid nbel
 clear nbel HB11 hb x50 x51 x60 x61 szb s5 s6
 obtain ⟨x50, x51, s5⟩ := b5.out.d2
 obtain ⟨x60, x61, s6⟩ := b6.out.d2
 have szb := HB13.out.size
 obtain ⟨k4, A4, l4, c4, rfl⟩ := hv.open
 have HO := Lib.hid hv
 clear hv
 go_wp2_with fail
 refine (cmp_fact HG.out HO.out (by have := HZ.out; omega) (by omega)).mono ?_
 rintro e W14 ⟨rfl, hb⟩
 replace b5 := hup b5 hb
 replace b6 := hup b6 hb
 replace HY := Lib.hid (HY.out.kept (Keep.ofBelow hb))
 replace HX := Lib.hid (HX.out.kept (Keep.ofBelow hb))
 replace HG := Lib.hid (HG.out.kept (Keep.ofBelow hb))
 replace HO := Lib.hid (HO.out.kept (Keep.ofBelow hb))
 have nbel := below_then HB13.out hb HB13.out.size
 have HB15 := Lib.hid nbel
 clear nbel HB13 hb x50 x51 x60 x61 szb s5 s6
 obtain ⟨x50, x51, s5⟩ := b5.out.d2
 obtain ⟨x60, x61, s6⟩ := b6.out.d2
 have szb := HB15.out.size
 go_wp2_with fail
 have hbel := HB15.out
 refine bodyPost_ret (v := .bool (eq1 (Nat.gcd (readL (shY (numOf s.data.toList)) 0 t.data.toList) (numOf s.data.toList)))) (by simp [results, Tryz.results107, go_sem, cmp_eq1]) rfl ⟨rfl, hbel⟩
theorem gcd_shY {n y : Nat} (hy : y ≠ 0) : Nat.gcd (shY y n) y = Nat.gcd n y := by
 unfold shY
 rw [if_neg hy, ← Nat.gcd_rec, Nat.gcd_comm]
theorem cop_any (s t : ByteArray) (w : World) (ha : AllDig s.data.toList) (hb : AllDig t.data.toList) (hs : s.data.toList ≠ []) (ht : t.data.toList ≠ []) (h1 : 1 < numOf t.data.toList) (hz : s.size ≤ 9000 ∧ t.size ≤ 9000) :
  Calls Tryz.prog 107 #[.string s, .string t] w fun e w' => e = .returned (.bool (eq1 (Nat.gcd (numOf s.data.toList) (numOf t.data.toList)))) ∧ Below w.heap.size w w' := by
 rcases Nat.lt_or_ge s.size t.size with h | h
 ·have h2 := cop_lt s t w ha hb ⟨h, hz.1, hz.2⟩
  rw [readL_mod _ _ _ ht] at h2
  simp only [Nat.zero_mul, Nat.zero_add] at h2
  have h3 : eq1 (Nat.gcd (shY (numOf s.data.toList) (numOf t.data.toList)) (numOf s.data.toList)) = eq1 (Nat.gcd (numOf s.data.toList) (numOf t.data.toList)) := by
   by_cases h0 : numOf s.data.toList = 0
   ·rw [h0]
    have e1 : shY 0 (numOf t.data.toList) = 0 := by unfold shY; simp
    rw [e1, Nat.gcd_zero_left, Nat.gcd_zero_left]
    unfold eq1
    rw [decide_eq_false (by omega), decide_eq_false (by omega)]
   ·rw [gcd_shY h0, Nat.gcd_comm]
  rw [h3] at h2
  exact h2
 ·have h2 := cop_ge s t w ha hb ⟨h, hz.1, hz.2⟩
  rw [readL_mod _ _ _ hs] at h2
  simp only [Nat.zero_mul, Nat.zero_add] at h2
  rw [gcd_shY (by omega)] at h2
  exact h2
def lowB (N D : List UInt8) : Bool := !(D == [48]) && !(D == [49]) && !negOf D && eq1 (Nat.gcd (numOf (restOf N)) (numOf D))
theorem ok_parts {l : List UInt8} (h : badNum l = false) : AllDig (restOf l) ∧ restOf l ≠ [] := by
 obtain ⟨h1, h2, -⟩ := good_facts h
 exact ⟨h1, h2⟩
theorem den_gt {D : List UInt8} (h : badNum D = false) (h0 : (D == [48]) = false) (h1 : (D == [49]) = false) (hn : negOf D = false) : 1 < numOf D := by
 obtain ⟨h2, h3, h4, _⟩ := good_facts h
 have hr : restOf D = D := by unfold restOf Lib.trimPrefix; rw [show Lib.hasPrefix D [45] = false from hn]; rfl
 rw [hr] at h2 h3 h4
 have hp : 0 < numOf D := by
  refine numOf_pos h2 h3 ?_
  intro hh
  have := (h4 hh).2
  rw [this] at h0
  exact absurd h0 (by decide)
 rcases Nat.lt_or_ge 1 (numOf D) with h5 | h5
 ·exact h5
 ·exfalso
  have h6 : numOf D = 1 := by omega
  have h7 := dec_numOf D h2 h3 (.inr (by
   intro hh
   have := (h4 hh).2
   rw [this] at h0
   exact absurd h0 (by decide)))
  rw [h6] at h7
  have h8 : Lib.decDigits 1 = [49] := by decide +kernel
  rw [h8] at h7
  rw [← h7] at h1
  exact absurd h1 (by decide)
set_option maxRecDepth 20000 in
set_option maxHeartbeats 3200000 in
theorem low_any (N D : List UInt8) (w : World) (hN : badNum N = false) (hD : badNum D = false) (hz : N.length ≤ 9000 ∧ D.length ≤ 9000) :
  Calls Tryz.prog 59 #[.string ⟨N.toArray⟩, .string ⟨D.toArray⟩] w fun e w' => e = .returned (.bool (lowB N D)) ∧ Below w.heap.size w w' := by
 by_cases h0 : D = [48]
 ·subst h0
  have e : lowB N [48] = false := by unfold lowB; simp
  rw [e]
  go_enter Tryz.func59, Tryz.ntmps59
  go_wp2
  go_ret
  exact ⟨rfl, Below.refl _ _⟩
 by_cases h1 : D = [49]
 ·subst h1
  have e : lowB N [49] = false := by unfold lowB; simp
  rw [e]
  go_enter Tryz.func59, Tryz.ntmps59
  go_wp2
  go_ret
  exact ⟨rfl, Below.refl _ _⟩
 have g0 : (D == [48]) = false := by simpa using h0
 have g1 : (D == [49]) = false := by simpa using h1
 have hHP := Lib.hid (fun W => Tryz.strings_HasPrefix ⟨D.toArray⟩ ⟨#[45]⟩ W)
 have hTP := Lib.hid (fun W => Tryz.strings_TrimPrefix ⟨N.toArray⟩ ⟨#[45]⟩ W)
 by_cases hn : negOf D = true
 ·have e : lowB N D = false := by unfold lowB; rw [hn]; simp
  rw [e]
  have hn2 := Lib.hid hn
  clear h0 h1 hN hD hz hn
  go_enter Tryz.func59, Tryz.ntmps59
  go_wp2_with fail
  refine (hHP.out _).mono ?_
  rintro e w1 ⟨rfl, rfl⟩
  rw [show Lib.hasPrefix (⟨D.toArray⟩ : ByteArray).data.toList (⟨#[45]⟩ : ByteArray).data.toList = true from hn2.out]
  go_wp2
  go_ret
  exact ⟨rfl, Below.refl _ _⟩
 ·rw [Bool.not_eq_true] at hn
  have hdg := den_gt hD g0 g1 hn
  have hr : restOf D = D := by unfold restOf Lib.trimPrefix; rw [show Lib.hasPrefix D [45] = false from hn]; rfl
  have hC := Lib.hid (fun W => cop_any ⟨(restOf N).toArray⟩ ⟨D.toArray⟩ W (ok_parts hN).1 (by have := (ok_parts hD).1; rw [hr] at this; exact this) (ok_parts hN).2 (by have := (ok_parts hD).2; rw [hr] at this; exact this) hdg
   (by have := restOf_le N; constructor; show (restOf N).toArray.size ≤ 9000; simp; omega; show D.toArray.size ≤ 9000; simp; omega))
  have e : lowB N D = eq1 (Nat.gcd (numOf (restOf N)) (numOf D)) := by unfold lowB; rw [g0, g1, hn]; simp
  rw [e]
  have hn2 := Lib.hid hn
  clear h0 h1 hN hD hz hn hr hdg e
  generalize hgc : eq1 (Nat.gcd (numOf (restOf N)) (numOf D)) = gb at *
  have HC : Hid (∀ W : World, Calls Tryz.prog 107 #[.string ⟨(restOf N).toArray⟩, .string ⟨D.toArray⟩] W fun e w' => e = .returned (.bool gb) ∧ Below W.heap.size W w') := by
   intro W
   exact hC.out W
  clear hC hgc
  go_enter Tryz.func59, Tryz.ntmps59
  go_wp2_with fail
  refine (hHP.out _).mono ?_
  rintro e w1 ⟨rfl, rfl⟩
  rw [show Lib.hasPrefix (⟨D.toArray⟩ : ByteArray).data.toList (⟨#[45]⟩ : ByteArray).data.toList = false from hn2.out]
  go_wp2_with fail
  refine (hTP.out _).mono ?_
  rintro e w2 ⟨rfl, rfl⟩
  go_wp2_with fail
  refine (HC.out _).mono ?_
  rintro e w3 ⟨rfl, hb⟩
  have HB := Lib.hid hb
  clear hb
  go_wp2_with fail
  go_ret
  exact ⟨rfl, HB.out⟩
set_option maxHeartbeats 3200000
set_option maxRecDepth 20000
structure But2 (g g' : Nat) (w w' : World) : Prop where
 os : w'.os = w.os
 tape : w'.tape = w.tape
 output : w'.output = w.output
 size : w.heap.size ≤ w'.heap.size
 block : ∀ i, i < w.heap.size → i ≠ g → i ≠ g' → w'.heap[i]? = w.heap[i]?
section
variable {g g' B : Nat} {w w' w2 : World}
theorem But2.ofBelow (h : Below w.heap.size w w') : But2 g g' w w' := ⟨h.os, h.tape, h.output, h.size, fun i hi _ _ => h.block i hi⟩
theorem But2.set (h : But2 g g' w w') (k i : Nat) (hk : k = g ∨ k = g' ∨ w.heap.size ≤ k) (v : Value) : But2 g g' w (w'.setCell ⟨k, i, none⟩ v) :=
 ⟨h.os, h.tape, h.output, by rw [setCell_size]; exact h.size, fun j hj h1 h2 => (Below.heap_setCell w' _ v j (by show j ≠ k; rcases hk with rfl | rfl | hk <;> omega)).trans (h.block j hj h1 h2)⟩
theorem But2.below {w0 : World} (h : But2 g g' w w') (h0 : Below B w0 w) (hg : B ≤ g) (hg' : B ≤ g') (hB : B ≤ w.heap.size) : Below B w0 w' :=
 ⟨h.os.trans h0.os, h.tape.trans h0.tape, h.output.trans h0.output, Nat.le_trans h0.size h.size, fun i hi => (h.block i (by omega) (by omega) (by omega)).trans (h0.block i hi)⟩
theorem But2.bx {t : TypeId} {k : Nat} {vs : List Value} (h : But2 g g' w w') (hb : Bx t w k vs) (h1 : k ≠ g) (h2 : k ≠ g') : Bx t w' k vs := ⟨(h.block k hb.lt h1 h2).trans hb.blk, hb.leaf⟩
theorem But2.keep {t : TypeId} {x y : Value} (h : But2 g g' w w') (h1 : Bx t w g [x]) (h2 : Bx t w g' [y]) : Keep w w' := by
 refine ⟨h.size, fun i hi ⟨j, k, n, hc⟩ => h.block i hi ?_ ?_, fun t' b vs hl hb => ⟨vs, rfl, h.bx hb ?_ ?_⟩⟩
 ·rintro rfl; exact h1.noInt _ _ _ hc
 ·rintro rfl; exact h2.noInt _ _ _ hc
 ·rintro rfl
  have e1 := hb.cell 1
  rw [h1.cell 1, show vs[1]? = some (vs[1]'hl) from List.getElem?_eq_getElem hl] at e1
  simp at e1
 ·rintro rfl
  have e1 := hb.cell 1
  rw [h2.cell 1, show vs[1]? = some (vs[1]'hl) from List.getElem?_eq_getElem hl] at e1
  simp at e1
end
def valZ (l : List UInt8) : Int := if errOf l = 0 then textZ l else 0
theorem parse_fact (s : ByteArray) (w : World) (hs : s.size ≤ 1000000) :
  Calls Tryz.prog 34 #[.string s] w fun e w' => ∃ v, e = .returned (.tuple #[v, .int .i64 (errOf s.data.toList)]) ∧ PInt (valZ s.data.toList) 223 v w' ∧ Below w.heap.size w w' := by
 refine (parse_any s w hs).mono ?_
 rintro e w' ⟨k, A, c, L, rfl, hi, hl, h0, h1, hb⟩
 refine ⟨_, rfl, ⟨k, A, c, L, rfl, hi, ?_, hl⟩, hb⟩
 unfold valZ
 by_cases h : errOf s.data.toList = 0
 ·rw [if_pos h]
  obtain ⟨h2, h3⟩ := h0.out h
  exact textZ_I h2 h3
 ·rw [if_neg h]
  obtain ⟨rfl, rfl⟩ := h1.out h
  rfl
theorem part_true_true (s : ByteArray) (w : World) (g7 g8 : Nat) (h7 : Bx 4 w g7 [.bool true]) (h8 : Bx 4 w g8 [.bool true]) (hne : g7 ≠ g8) (hs : s.size ≤ 1000000) :
  Calls Tryz.prog 58 #[.string s, .pointer (some ⟨g7, 0, none⟩), .pointer (some ⟨g8, 0, none⟩)] w fun e w' => ∃ v, e = .returned v ∧ PInt (valZ s.data.toList) 223 v w' ∧ Bx 4 w' g7 [.bool (errOf s.data.toList != 3)] ∧ Bx 4 w' g8 [.bool (errOf s.data.toList != 6)] ∧ But2 g7 g8 w w' := by
 have HP := Lib.hid (fun W => parse_fact s W hs)
 have b1 := Lib.hid h7
 have b2 := Lib.hid h8
 have hg7 := h7.lt
 have hg8 := h8.lt
 generalize errOf s.data.toList = er at *
 generalize valZ s.data.toList = zz at *
 clear h7 h8 hs
 go_enter Tryz.func58, Tryz.ntmps58
 go_upto_region 1 with (fail)
 have q1 := b1.out.lt
 have q2 := b2.out.lt
 change Code.wp Tryz.prog _ _ _ (w.alloc (.cells #[.bool false, .slice none 0 0] 25))
 obtain ⟨nb4, na⟩ := new1 w 25 [.bool false, .slice none 0 0] lf2
 have nb1 := b1.out.up na
 have nb2 := b2.out.up na
 have nkeep := Keep.ofBelow na
 have nbel := na
 generalize w.alloc (.cells #[.bool false, .slice none 0 0] 25) = W3 at *
 clear na b1 b2
 have b1 := Lib.hid nb1
 have b2 := Lib.hid nb2
 have b4 := Lib.hid nb4
 clear nb1 nb2 nb4 nkeep
 have HB4 := Lib.hid nbel
 clear nbel
 have x10 : W3.cell? ⟨g7, 0, none⟩ = some (.bool true) := (b1.out).cell 0
 have z10 : W3.frozen? ⟨g7, 0, none⟩ = false := (b1.out).frozen 0
 have x20 : W3.cell? ⟨g8, 0, none⟩ = some (.bool true) := (b2.out).cell 0
 have z20 : W3.frozen? ⟨g8, 0, none⟩ = false := (b2.out).frozen 0
 obtain ⟨x40, x41, z40, z41, s4⟩ := b4.out.e2
 have szb := HB4.out.size
 have s1 := b1.out.lt
 have s2 := b2.out.lt
 go_wp2_with fail
 refine (HP.out _).mono ?_
 rintro e W5 ⟨v, rfl, hv, hb⟩
 replace b1 := hup b1 hb
 replace b2 := hup b2 hb
 replace b4 := hup b4 hb
 have nbel := below_then HB4.out hb HB4.out.size
 have HB6 := Lib.hid nbel
 clear nbel HB4 hb x10 z10 x20 z20 x40 x41 z40 z41 szb s1 s2 s4
 have x10 : W5.cell? ⟨g7, 0, none⟩ = some (.bool true) := (b1.out).cell 0
 have z10 : W5.frozen? ⟨g7, 0, none⟩ = false := (b1.out).frozen 0
 have x20 : W5.cell? ⟨g8, 0, none⟩ = some (.bool true) := (b2.out).cell 0
 have z20 : W5.frozen? ⟨g8, 0, none⟩ = false := (b2.out).frozen 0
 obtain ⟨x40, x41, z40, z41, s4⟩ := b4.out.e2
 have szb := HB6.out.size
 have s1 := b1.out.lt
 have s2 := b2.out.lt
 obtain ⟨k1, A1, l1, c1, rfl⟩ := hv.open
 have HV := Lib.hid hv
 clear hv
 go_upto_region 2 with (fail)
 have q7 := b1.out.lt
 have q8 := b2.out.lt
 have q9 := b4.out.lt
 change Code.wp Tryz.prog _ _ _ (W5.alloc (.cells #[.bool k1, .slice A1 l1 c1] 25))
 obtain ⟨nb5, na⟩ := new1 W5 25 [.bool k1, .slice A1 l1 c1] lf2
 have nb1 := b1.out.up na
 have nb2 := b2.out.up na
 have nb4 := b4.out.up na
 have nkeep := Keep.ofBelow na
 have nbel := below_then HB6.out na HB6.out.size
 generalize W5.alloc (.cells #[.bool k1, .slice A1 l1 c1] 25) = W10 at *
 clear na x10 z10 x20 z20 x40 x41 z40 z41 szb s1 s2 s4 b1 b2 b4
 have b1 := Lib.hid nb1
 have b2 := Lib.hid nb2
 have b4 := Lib.hid nb4
 have b5 := Lib.hid nb5
 clear nb1 nb2 nb4 nb5
 replace HV := Lib.hid (HV.out.kept nkeep)
 clear nkeep
 have HB11 := Lib.hid nbel
 clear nbel HB6
 have x10 : W10.cell? ⟨g7, 0, none⟩ = some (.bool true) := (b1.out).cell 0
 have z10 : W10.frozen? ⟨g7, 0, none⟩ = false := (b1.out).frozen 0
 have x20 : W10.cell? ⟨g8, 0, none⟩ = some (.bool true) := (b2.out).cell 0
 have z20 : W10.frozen? ⟨g8, 0, none⟩ = false := (b2.out).frozen 0
 obtain ⟨x40, x41, z40, z41, s4⟩ := b4.out.e2
 obtain ⟨x50, x51, s5⟩ := b5.out.d2
 have szb := HB11.out.size
 have s1 := b1.out.lt
 have s2 := b2.out.lt
 go_wp2_with fail
 have k1_ := Keep.set (Keep.refl W10) b1.out 0 (Leaf.bool (er != 3))
 have c1_ := Bx.set b1.out 0 (Leaf.bool (er != 3))
 have d2_ := Bx.far (g' := g7) b2.out hne 0 (.bool (er != 3))
 have d4_ := Bx.far (g' := g7) b4.out (by omega) 0 (.bool (er != 3))
 have k2_ := Keep.set k1_ d2_ 0 (Leaf.bool (er != 6))
 have c2_ := Bx.set d2_ 0 (Leaf.bool (er != 6))
 have c1b := Bx.far (g' := g8) c1_ (Ne.symm hne) 0 (.bool (er != 6))
 have d4b := Bx.far (g' := g8) d4_ (by omega) 0 (.bool (er != 6))
 have k3_ := Keep.set (Keep.set k2_ d4b 0 (Leaf.bool k1)) (Bx.set d4b 0 (Leaf.bool k1)) 1 (Leaf.slice A1 l1 c1)
 have bb : But2 g7 g8 w W10 := But2.ofBelow HB11.out
 have bb2 := (((bb.set g7 0 (.inl rfl) (.bool (er != 3))).set g8 0 (.inr (.inl rfl)) (.bool (er != 6))).set w.heap.size 0 (.inr (.inr (Nat.le_refl _))) (.bool k1)).set w.heap.size 1 (.inr (.inr (Nat.le_refl _))) (.slice A1 l1 c1)
 have e7 := Bx.far (g' := w.heap.size) (Bx.far (g' := w.heap.size) c1b (by omega) 0 (.bool k1)) (by omega) 1 (.slice A1 l1 c1)
 have e8 := Bx.far (g' := w.heap.size) (Bx.far (g' := w.heap.size) c2_ (by omega) 0 (.bool k1)) (by omega) 1 (.slice A1 l1 c1)
 refine bodyPost_ret (v := .agg #[.bool k1, .slice A1 l1 c1]) (by simp [results, Tryz.results58, go_sem, x40, x41]) rfl ⟨_, rfl, HV.out.kept k3_, e7, e8, bb2⟩
theorem part_true_false (s : ByteArray) (w : World) (g7 g8 : Nat) (h7 : Bx 4 w g7 [.bool true]) (h8 : Bx 4 w g8 [.bool false]) (hne : g7 ≠ g8) (hs : s.size ≤ 1000000) :
  Calls Tryz.prog 58 #[.string s, .pointer (some ⟨g7, 0, none⟩), .pointer (some ⟨g8, 0, none⟩)] w fun e w' => ∃ v, e = .returned v ∧ PInt (valZ s.data.toList) 223 v w' ∧ Bx 4 w' g7 [.bool (errOf s.data.toList != 3)] ∧ Bx 4 w' g8 [.bool false] ∧ But2 g7 g8 w w' := by
 have HP := Lib.hid (fun W => parse_fact s W hs)
 have b1 := Lib.hid h7
 have b2 := Lib.hid h8
 have hg7 := h7.lt
 have hg8 := h8.lt
 generalize errOf s.data.toList = er at *
 generalize valZ s.data.toList = zz at *
 clear h7 h8 hs
 go_enter Tryz.func58, Tryz.ntmps58
 go_upto_region 1 with (fail)
 have q1 := b1.out.lt
 have q2 := b2.out.lt
 change Code.wp Tryz.prog _ _ _ (w.alloc (.cells #[.bool false, .slice none 0 0] 25))
 obtain ⟨nb4, na⟩ := new1 w 25 [.bool false, .slice none 0 0] lf2
 have nb1 := b1.out.up na
 have nb2 := b2.out.up na
 have nkeep := Keep.ofBelow na
 have nbel := na
 generalize w.alloc (.cells #[.bool false, .slice none 0 0] 25) = W3 at *
 clear na b1 b2
 have b1 := Lib.hid nb1
 have b2 := Lib.hid nb2
 have b4 := Lib.hid nb4
 clear nb1 nb2 nb4 nkeep
 have HB4 := Lib.hid nbel
 clear nbel
 have x10 : W3.cell? ⟨g7, 0, none⟩ = some (.bool true) := (b1.out).cell 0
 have z10 : W3.frozen? ⟨g7, 0, none⟩ = false := (b1.out).frozen 0
 have x20 : W3.cell? ⟨g8, 0, none⟩ = some (.bool false) := (b2.out).cell 0
 have z20 : W3.frozen? ⟨g8, 0, none⟩ = false := (b2.out).frozen 0
 obtain ⟨x40, x41, z40, z41, s4⟩ := b4.out.e2
 have szb := HB4.out.size
 have s1 := b1.out.lt
 have s2 := b2.out.lt
 go_wp2_with fail
 refine (HP.out _).mono ?_
 rintro e W5 ⟨v, rfl, hv, hb⟩
 replace b1 := hup b1 hb
 replace b2 := hup b2 hb
 replace b4 := hup b4 hb
 have nbel := below_then HB4.out hb HB4.out.size
 have HB6 := Lib.hid nbel
 clear nbel HB4 hb x10 z10 x20 z20 x40 x41 z40 z41 szb s1 s2 s4
 have x10 : W5.cell? ⟨g7, 0, none⟩ = some (.bool true) := (b1.out).cell 0
 have z10 : W5.frozen? ⟨g7, 0, none⟩ = false := (b1.out).frozen 0
 have x20 : W5.cell? ⟨g8, 0, none⟩ = some (.bool false) := (b2.out).cell 0
 have z20 : W5.frozen? ⟨g8, 0, none⟩ = false := (b2.out).frozen 0
 obtain ⟨x40, x41, z40, z41, s4⟩ := b4.out.e2
 have szb := HB6.out.size
 have s1 := b1.out.lt
 have s2 := b2.out.lt
 obtain ⟨k1, A1, l1, c1, rfl⟩ := hv.open
 have HV := Lib.hid hv
 clear hv
 go_upto_region 2 with (fail)
 have q7 := b1.out.lt
 have q8 := b2.out.lt
 have q9 := b4.out.lt
 change Code.wp Tryz.prog _ _ _ (W5.alloc (.cells #[.bool k1, .slice A1 l1 c1] 25))
 obtain ⟨nb5, na⟩ := new1 W5 25 [.bool k1, .slice A1 l1 c1] lf2
 have nb1 := b1.out.up na
 have nb2 := b2.out.up na
 have nb4 := b4.out.up na
 have nkeep := Keep.ofBelow na
 have nbel := below_then HB6.out na HB6.out.size
 generalize W5.alloc (.cells #[.bool k1, .slice A1 l1 c1] 25) = W10 at *
 clear na x10 z10 x20 z20 x40 x41 z40 z41 szb s1 s2 s4 b1 b2 b4
 have b1 := Lib.hid nb1
 have b2 := Lib.hid nb2
 have b4 := Lib.hid nb4
 have b5 := Lib.hid nb5
 clear nb1 nb2 nb4 nb5
 replace HV := Lib.hid (HV.out.kept nkeep)
 clear nkeep
 have HB11 := Lib.hid nbel
 clear nbel HB6
 have x10 : W10.cell? ⟨g7, 0, none⟩ = some (.bool true) := (b1.out).cell 0
 have z10 : W10.frozen? ⟨g7, 0, none⟩ = false := (b1.out).frozen 0
 have x20 : W10.cell? ⟨g8, 0, none⟩ = some (.bool false) := (b2.out).cell 0
 have z20 : W10.frozen? ⟨g8, 0, none⟩ = false := (b2.out).frozen 0
 obtain ⟨x40, x41, z40, z41, s4⟩ := b4.out.e2
 obtain ⟨x50, x51, s5⟩ := b5.out.d2
 have szb := HB11.out.size
 have s1 := b1.out.lt
 have s2 := b2.out.lt
 go_wp2_with fail
 have k1_ := Keep.set (Keep.refl W10) b1.out 0 (Leaf.bool (er != 3))
 have c1_ := Bx.set b1.out 0 (Leaf.bool (er != 3))
 have d2_ := Bx.far (g' := g7) b2.out hne 0 (.bool (er != 3))
 have d4_ := Bx.far (g' := g7) b4.out (by omega) 0 (.bool (er != 3))
 have k2_ := Keep.set k1_ d2_ 0 (Leaf.bool false)
 have c2_ := Bx.set d2_ 0 (Leaf.bool false)
 have c1b := Bx.far (g' := g8) c1_ (Ne.symm hne) 0 (.bool false)
 have d4b := Bx.far (g' := g8) d4_ (by omega) 0 (.bool false)
 have k3_ := Keep.set (Keep.set k2_ d4b 0 (Leaf.bool k1)) (Bx.set d4b 0 (Leaf.bool k1)) 1 (Leaf.slice A1 l1 c1)
 have bb : But2 g7 g8 w W10 := But2.ofBelow HB11.out
 have bb2 := (((bb.set g7 0 (.inl rfl) (.bool (er != 3))).set g8 0 (.inr (.inl rfl)) (.bool false)).set w.heap.size 0 (.inr (.inr (Nat.le_refl _))) (.bool k1)).set w.heap.size 1 (.inr (.inr (Nat.le_refl _))) (.slice A1 l1 c1)
 have e7 := Bx.far (g' := w.heap.size) (Bx.far (g' := w.heap.size) c1b (by omega) 0 (.bool k1)) (by omega) 1 (.slice A1 l1 c1)
 have e8 := Bx.far (g' := w.heap.size) (Bx.far (g' := w.heap.size) c2_ (by omega) 0 (.bool k1)) (by omega) 1 (.slice A1 l1 c1)
 refine bodyPost_ret (v := .agg #[.bool k1, .slice A1 l1 c1]) (by simp [results, Tryz.results58, go_sem, x40, x41]) rfl ⟨_, rfl, HV.out.kept k3_, e7, e8, bb2⟩
theorem part_false_true (s : ByteArray) (w : World) (g7 g8 : Nat) (h7 : Bx 4 w g7 [.bool false]) (h8 : Bx 4 w g8 [.bool true]) (hne : g7 ≠ g8) (hs : s.size ≤ 1000000) :
  Calls Tryz.prog 58 #[.string s, .pointer (some ⟨g7, 0, none⟩), .pointer (some ⟨g8, 0, none⟩)] w fun e w' => ∃ v, e = .returned v ∧ PInt (valZ s.data.toList) 223 v w' ∧ Bx 4 w' g7 [.bool false] ∧ Bx 4 w' g8 [.bool (errOf s.data.toList != 6)] ∧ But2 g7 g8 w w' := by
 have HP := Lib.hid (fun W => parse_fact s W hs)
 have b1 := Lib.hid h7
 have b2 := Lib.hid h8
 have hg7 := h7.lt
 have hg8 := h8.lt
 generalize errOf s.data.toList = er at *
 generalize valZ s.data.toList = zz at *
 clear h7 h8 hs
 go_enter Tryz.func58, Tryz.ntmps58
 go_upto_region 1 with (fail)
 have q1 := b1.out.lt
 have q2 := b2.out.lt
 change Code.wp Tryz.prog _ _ _ (w.alloc (.cells #[.bool false, .slice none 0 0] 25))
 obtain ⟨nb4, na⟩ := new1 w 25 [.bool false, .slice none 0 0] lf2
 have nb1 := b1.out.up na
 have nb2 := b2.out.up na
 have nkeep := Keep.ofBelow na
 have nbel := na
 generalize w.alloc (.cells #[.bool false, .slice none 0 0] 25) = W3 at *
 clear na b1 b2
 have b1 := Lib.hid nb1
 have b2 := Lib.hid nb2
 have b4 := Lib.hid nb4
 clear nb1 nb2 nb4 nkeep
 have HB4 := Lib.hid nbel
 clear nbel
 have x10 : W3.cell? ⟨g7, 0, none⟩ = some (.bool false) := (b1.out).cell 0
 have z10 : W3.frozen? ⟨g7, 0, none⟩ = false := (b1.out).frozen 0
 have x20 : W3.cell? ⟨g8, 0, none⟩ = some (.bool true) := (b2.out).cell 0
 have z20 : W3.frozen? ⟨g8, 0, none⟩ = false := (b2.out).frozen 0
 obtain ⟨x40, x41, z40, z41, s4⟩ := b4.out.e2
 have szb := HB4.out.size
 have s1 := b1.out.lt
 have s2 := b2.out.lt
 go_wp2_with fail
 refine (HP.out _).mono ?_
 rintro e W5 ⟨v, rfl, hv, hb⟩
 replace b1 := hup b1 hb
 replace b2 := hup b2 hb
 replace b4 := hup b4 hb
 have nbel := below_then HB4.out hb HB4.out.size
 have HB6 := Lib.hid nbel
 clear nbel HB4 hb x10 z10 x20 z20 x40 x41 z40 z41 szb s1 s2 s4
 have x10 : W5.cell? ⟨g7, 0, none⟩ = some (.bool false) := (b1.out).cell 0
 have z10 : W5.frozen? ⟨g7, 0, none⟩ = false := (b1.out).frozen 0
 have x20 : W5.cell? ⟨g8, 0, none⟩ = some (.bool true) := (b2.out).cell 0
 have z20 : W5.frozen? ⟨g8, 0, none⟩ = false := (b2.out).frozen 0
 obtain ⟨x40, x41, z40, z41, s4⟩ := b4.out.e2
 have szb := HB6.out.size
 have s1 := b1.out.lt
 have s2 := b2.out.lt
 obtain ⟨k1, A1, l1, c1, rfl⟩ := hv.open
 have HV := Lib.hid hv
 clear hv
 go_upto_region 2 with (fail)
 have q7 := b1.out.lt
 have q8 := b2.out.lt
 have q9 := b4.out.lt
 change Code.wp Tryz.prog _ _ _ (W5.alloc (.cells #[.bool k1, .slice A1 l1 c1] 25))
 obtain ⟨nb5, na⟩ := new1 W5 25 [.bool k1, .slice A1 l1 c1] lf2
 have nb1 := b1.out.up na
 have nb2 := b2.out.up na
 have nb4 := b4.out.up na
 have nkeep := Keep.ofBelow na
 have nbel := below_then HB6.out na HB6.out.size
 generalize W5.alloc (.cells #[.bool k1, .slice A1 l1 c1] 25) = W10 at *
 clear na x10 z10 x20 z20 x40 x41 z40 z41 szb s1 s2 s4 b1 b2 b4
 have b1 := Lib.hid nb1
 have b2 := Lib.hid nb2
 have b4 := Lib.hid nb4
 have b5 := Lib.hid nb5
 clear nb1 nb2 nb4 nb5
 replace HV := Lib.hid (HV.out.kept nkeep)
 clear nkeep
 have HB11 := Lib.hid nbel
 clear nbel HB6
 have x10 : W10.cell? ⟨g7, 0, none⟩ = some (.bool false) := (b1.out).cell 0
 have z10 : W10.frozen? ⟨g7, 0, none⟩ = false := (b1.out).frozen 0
 have x20 : W10.cell? ⟨g8, 0, none⟩ = some (.bool true) := (b2.out).cell 0
 have z20 : W10.frozen? ⟨g8, 0, none⟩ = false := (b2.out).frozen 0
 obtain ⟨x40, x41, z40, z41, s4⟩ := b4.out.e2
 obtain ⟨x50, x51, s5⟩ := b5.out.d2
 have szb := HB11.out.size
 have s1 := b1.out.lt
 have s2 := b2.out.lt
 go_wp2_with fail
 have k1_ := Keep.set (Keep.refl W10) b1.out 0 (Leaf.bool false)
 have c1_ := Bx.set b1.out 0 (Leaf.bool false)
 have d2_ := Bx.far (g' := g7) b2.out hne 0 (.bool false)
 have d4_ := Bx.far (g' := g7) b4.out (by omega) 0 (.bool false)
 have k2_ := Keep.set k1_ d2_ 0 (Leaf.bool (er != 6))
 have c2_ := Bx.set d2_ 0 (Leaf.bool (er != 6))
 have c1b := Bx.far (g' := g8) c1_ (Ne.symm hne) 0 (.bool (er != 6))
 have d4b := Bx.far (g' := g8) d4_ (by omega) 0 (.bool (er != 6))
 have k3_ := Keep.set (Keep.set k2_ d4b 0 (Leaf.bool k1)) (Bx.set d4b 0 (Leaf.bool k1)) 1 (Leaf.slice A1 l1 c1)
 have bb : But2 g7 g8 w W10 := But2.ofBelow HB11.out
 have bb2 := (((bb.set g7 0 (.inl rfl) (.bool false)).set g8 0 (.inr (.inl rfl)) (.bool (er != 6))).set w.heap.size 0 (.inr (.inr (Nat.le_refl _))) (.bool k1)).set w.heap.size 1 (.inr (.inr (Nat.le_refl _))) (.slice A1 l1 c1)
 have e7 := Bx.far (g' := w.heap.size) (Bx.far (g' := w.heap.size) c1b (by omega) 0 (.bool k1)) (by omega) 1 (.slice A1 l1 c1)
 have e8 := Bx.far (g' := w.heap.size) (Bx.far (g' := w.heap.size) c2_ (by omega) 0 (.bool k1)) (by omega) 1 (.slice A1 l1 c1)
 refine bodyPost_ret (v := .agg #[.bool k1, .slice A1 l1 c1]) (by simp [results, Tryz.results58, go_sem, x40, x41]) rfl ⟨_, rfl, HV.out.kept k3_, e7, e8, bb2⟩
theorem part_false_false (s : ByteArray) (w : World) (g7 g8 : Nat) (h7 : Bx 4 w g7 [.bool false]) (h8 : Bx 4 w g8 [.bool false]) (hne : g7 ≠ g8) (hs : s.size ≤ 1000000) :
  Calls Tryz.prog 58 #[.string s, .pointer (some ⟨g7, 0, none⟩), .pointer (some ⟨g8, 0, none⟩)] w fun e w' => ∃ v, e = .returned v ∧ PInt (valZ s.data.toList) 223 v w' ∧ Bx 4 w' g7 [.bool false] ∧ Bx 4 w' g8 [.bool false] ∧ But2 g7 g8 w w' := by
 have HP := Lib.hid (fun W => parse_fact s W hs)
 have b1 := Lib.hid h7
 have b2 := Lib.hid h8
 have hg7 := h7.lt
 have hg8 := h8.lt
 generalize errOf s.data.toList = er at *
 generalize valZ s.data.toList = zz at *
 clear h7 h8 hs
 go_enter Tryz.func58, Tryz.ntmps58
 go_upto_region 1 with (fail)
 have q1 := b1.out.lt
 have q2 := b2.out.lt
 change Code.wp Tryz.prog _ _ _ (w.alloc (.cells #[.bool false, .slice none 0 0] 25))
 obtain ⟨nb4, na⟩ := new1 w 25 [.bool false, .slice none 0 0] lf2
 have nb1 := b1.out.up na
 have nb2 := b2.out.up na
 have nkeep := Keep.ofBelow na
 have nbel := na
 generalize w.alloc (.cells #[.bool false, .slice none 0 0] 25) = W3 at *
 clear na b1 b2
 have b1 := Lib.hid nb1
 have b2 := Lib.hid nb2
 have b4 := Lib.hid nb4
 clear nb1 nb2 nb4 nkeep
 have HB4 := Lib.hid nbel
 clear nbel
 have x10 : W3.cell? ⟨g7, 0, none⟩ = some (.bool false) := (b1.out).cell 0
 have z10 : W3.frozen? ⟨g7, 0, none⟩ = false := (b1.out).frozen 0
 have x20 : W3.cell? ⟨g8, 0, none⟩ = some (.bool false) := (b2.out).cell 0
 have z20 : W3.frozen? ⟨g8, 0, none⟩ = false := (b2.out).frozen 0
 obtain ⟨x40, x41, z40, z41, s4⟩ := b4.out.e2
 have szb := HB4.out.size
 have s1 := b1.out.lt
 have s2 := b2.out.lt
 go_wp2_with fail
 refine (HP.out _).mono ?_
 rintro e W5 ⟨v, rfl, hv, hb⟩
 replace b1 := hup b1 hb
 replace b2 := hup b2 hb
 replace b4 := hup b4 hb
 have nbel := below_then HB4.out hb HB4.out.size
 have HB6 := Lib.hid nbel
 clear nbel HB4 hb x10 z10 x20 z20 x40 x41 z40 z41 szb s1 s2 s4
 have x10 : W5.cell? ⟨g7, 0, none⟩ = some (.bool false) := (b1.out).cell 0
 have z10 : W5.frozen? ⟨g7, 0, none⟩ = false := (b1.out).frozen 0
 have x20 : W5.cell? ⟨g8, 0, none⟩ = some (.bool false) := (b2.out).cell 0
 have z20 : W5.frozen? ⟨g8, 0, none⟩ = false := (b2.out).frozen 0
 obtain ⟨x40, x41, z40, z41, s4⟩ := b4.out.e2
 have szb := HB6.out.size
 have s1 := b1.out.lt
 have s2 := b2.out.lt
 obtain ⟨k1, A1, l1, c1, rfl⟩ := hv.open
 have HV := Lib.hid hv
 clear hv
 go_upto_region 2 with (fail)
 have q7 := b1.out.lt
 have q8 := b2.out.lt
 have q9 := b4.out.lt
 change Code.wp Tryz.prog _ _ _ (W5.alloc (.cells #[.bool k1, .slice A1 l1 c1] 25))
 obtain ⟨nb5, na⟩ := new1 W5 25 [.bool k1, .slice A1 l1 c1] lf2
 have nb1 := b1.out.up na
 have nb2 := b2.out.up na
 have nb4 := b4.out.up na
 have nkeep := Keep.ofBelow na
 have nbel := below_then HB6.out na HB6.out.size
 generalize W5.alloc (.cells #[.bool k1, .slice A1 l1 c1] 25) = W10 at *
 clear na x10 z10 x20 z20 x40 x41 z40 z41 szb s1 s2 s4 b1 b2 b4
 have b1 := Lib.hid nb1
 have b2 := Lib.hid nb2
 have b4 := Lib.hid nb4
 have b5 := Lib.hid nb5
 clear nb1 nb2 nb4 nb5
 replace HV := Lib.hid (HV.out.kept nkeep)
 clear nkeep
 have HB11 := Lib.hid nbel
 clear nbel HB6
 have x10 : W10.cell? ⟨g7, 0, none⟩ = some (.bool false) := (b1.out).cell 0
 have z10 : W10.frozen? ⟨g7, 0, none⟩ = false := (b1.out).frozen 0
 have x20 : W10.cell? ⟨g8, 0, none⟩ = some (.bool false) := (b2.out).cell 0
 have z20 : W10.frozen? ⟨g8, 0, none⟩ = false := (b2.out).frozen 0
 obtain ⟨x40, x41, z40, z41, s4⟩ := b4.out.e2
 obtain ⟨x50, x51, s5⟩ := b5.out.d2
 have szb := HB11.out.size
 have s1 := b1.out.lt
 have s2 := b2.out.lt
 go_wp2_with fail
 have k1_ := Keep.set (Keep.refl W10) b1.out 0 (Leaf.bool false)
 have c1_ := Bx.set b1.out 0 (Leaf.bool false)
 have d2_ := Bx.far (g' := g7) b2.out hne 0 (.bool false)
 have d4_ := Bx.far (g' := g7) b4.out (by omega) 0 (.bool false)
 have k2_ := Keep.set k1_ d2_ 0 (Leaf.bool false)
 have c2_ := Bx.set d2_ 0 (Leaf.bool false)
 have c1b := Bx.far (g' := g8) c1_ (Ne.symm hne) 0 (.bool false)
 have d4b := Bx.far (g' := g8) d4_ (by omega) 0 (.bool false)
 have k3_ := Keep.set (Keep.set k2_ d4b 0 (Leaf.bool k1)) (Bx.set d4b 0 (Leaf.bool k1)) 1 (Leaf.slice A1 l1 c1)
 have bb : But2 g7 g8 w W10 := But2.ofBelow HB11.out
 have bb2 := (((bb.set g7 0 (.inl rfl) (.bool false)).set g8 0 (.inr (.inl rfl)) (.bool false)).set w.heap.size 0 (.inr (.inr (Nat.le_refl _))) (.bool k1)).set w.heap.size 1 (.inr (.inr (Nat.le_refl _))) (.slice A1 l1 c1)
 have e7 := Bx.far (g' := w.heap.size) (Bx.far (g' := w.heap.size) c1b (by omega) 0 (.bool k1)) (by omega) 1 (.slice A1 l1 c1)
 have e8 := Bx.far (g' := w.heap.size) (Bx.far (g' := w.heap.size) c2_ (by omega) 0 (.bool k1)) (by omega) 1 (.slice A1 l1 c1)
 refine bodyPost_ret (v := .agg #[.bool k1, .slice A1 l1 c1]) (by simp [results, Tryz.results58, go_sem, x40, x41]) rfl ⟨_, rfl, HV.out.kept k3_, e7, e8, bb2⟩
theorem part_any (s : ByteArray) (w : World) (g7 g8 : Nat) (b7 b8 : Bool) (h7 : Bx 4 w g7 [.bool b7]) (h8 : Bx 4 w g8 [.bool b8]) (hne : g7 ≠ g8) (hs : s.size ≤ 1000000) :
  Calls Tryz.prog 58 #[.string s, .pointer (some ⟨g7, 0, none⟩), .pointer (some ⟨g8, 0, none⟩)] w fun e w' => ∃ v, e = .returned v ∧ PInt (valZ s.data.toList) 223 v w' ∧ Bx 4 w' g7 [.bool (b7 && (errOf s.data.toList != 3))] ∧ Bx 4 w' g8 [.bool (b8 && (errOf s.data.toList != 6))] ∧ But2 g7 g8 w w' := by
 cases b7 <;> cases b8
 ·exact part_false_false s w g7 g8 h7 h8 hne hs
 ·exact part_false_true s w g7 g8 h7 h8 hne hs
 ·exact part_true_false s w g7 g8 h7 h8 hne hs
 ·exact part_true_true s w g7 g8 h7 h8 hne hs
open Go.RowKit
open AS (Keep NoInt)
set_option maxHeartbeats 3200000
set_option maxRecDepth 20000
theorem leaf1 {x : Value} (hx : Leaf x) : ∀ v ∈ [x], Leaf v := by intro v hv; simp at hv; rw [hv]; exact hx
def MaxOk (w : World) : Prop := ∃ m : Int, w.cell? ⟨0, 0, none⟩ = some (.int .i64 m)
theorem MaxOk.lt {w : World} (h : MaxOk w) : 0 < w.heap.size := by
 obtain ⟨m, h⟩ := h
 rcases Nat.eq_zero_or_pos w.heap.size with h0 | h0
 ·exfalso
  unfold World.cell? at h
  rw [show w.heap[0]? = none from Array.getElem?_eq_none (by omega)] at h
  cases h
 ·exact h0
theorem MaxOk.up {w w' : World} (h : MaxOk w) (hb : Below w.heap.size w w') : MaxOk w' := by
 have h0 := h.lt
 obtain ⟨m, h⟩ := h
 exact ⟨m, (hb.cell (p := ⟨0, 0, none⟩) h0).trans h⟩
theorem cut_is {s : ByteArray} {N D : List UInt8} {fd : Bool} {w : World} (hm : MaxOk w) (hs : s.size ≤ 1000000) (hc : Lib.cut s.data.toList [47] = (N, D, fd)) :
  Calls Tryz.prog 57 #[.string s, .string ⟨#[47]⟩] w fun e w' => e = .returned (.tuple #[.string ⟨N.toArray⟩, .string ⟨D.toArray⟩, .bool fd]) ∧ Below w.heap.size w w' := by
 obtain ⟨m, hm⟩ := hm
 refine (Tryz.strings_Cut s ⟨#[47]⟩ m w (by omega) hm).mono ?_
 rintro e w' ⟨rfl, n, rfl⟩
 rw [show Lib.cut s.data.toList (⟨#[47]⟩ : ByteArray).data.toList = (N, D, fd) from hc]
 exact ⟨rfl, below_drewN (Below.refl _ _) n⟩
theorem pparse_n3 {s : ByteArray} {N D : List UInt8} {c8 : Bool} {w : World} (hm : MaxOk w) (hc : Lib.cut s.data.toList [47] = (N, D, false)) (hln : s.size ≤ 9000 ∧ N.length ≤ 9000 ∧ D.length ≤ 9000) (h7 : (true && (errOf N != 3)) = false) (h8 : (true && (errOf N != 6)) = c8) :
  Calls Tryz.prog 14 #[.string s] w fun e w' => e = .returned (.tuple #[.agg #[.bool false, .slice none 0 0, .bool false, .slice none 0 0], .int .i64 3]) ∧ Below w.heap.size w w' := by
 have hmf : ∀ (fn : Fn) (first cap : Array Value) (w : World), (Instr.makeFunc fn first cap).run Tryz.prog w = .ok (.func fn first cap) w := fun _ _ _ _ => rfl
 have HM := Lib.hid hm
 have HC := Lib.hid hc
 have HLN := Lib.hid hln
 have HE7 := Lib.hid h7
 have HE8 := Lib.hid h8
 clear hm hc hln h7 h8
 go_enter Tryz.func14, Tryz.ntmps14
 go_upto_region 1 with (fail)
 change Code.wp Tryz.prog _ _ _ (w.alloc (.cells #[.bool false, .slice none 0 0, .bool false, .slice none 0 0] 27))
 obtain ⟨nb2, na⟩ := new1 w 27 [.bool false, .slice none 0 0, .bool false, .slice none 0 0] lf4
 have nkeep := Keep.ofBelow na
 have nbel := na
 generalize w.alloc (.cells #[.bool false, .slice none 0 0, .bool false, .slice none 0 0] 27) = W1 at *
 clear na
 have b2 := Lib.hid nb2
 clear nb2 nkeep
 have HB2 := Lib.hid nbel
 clear nbel
 obtain ⟨x20, x21, x22, x23, z20, z21, z22, z23, s2⟩ := b2.out.e4
 have szb := HB2.out.size
 go_wp2_with fail
 refine (cut_is (HM.out.up HB2.out) (by have := HLN.out; omega) HC.out).mono ?_
 rintro e W3 ⟨rfl, hb⟩
 replace b2 := hup b2 hb
 have nbel := below_then HB2.out hb HB2.out.size
 have HB4 := Lib.hid nbel
 clear nbel HB2 hb x20 x21 x22 x23 z20 z21 z22 z23 szb s2
 obtain ⟨x20, x21, x22, x23, z20, z21, z22, z23, s2⟩ := b2.out.e4
 have szb := HB4.out.size
 go_upto_region 3 with (fail)
 have q5 := b2.out.lt
 change Code.wp Tryz.prog _ _ _ ((W3.alloc (.cells #[.bool true] 4)).alloc (.cells #[.bool true] 4))
 have nb2 : Bx 27 ((W3.alloc (.cells #[.bool true] 4)).alloc (.cells #[.bool true] 4)) w.heap.size [.bool false, .slice none 0 0, .bool false, .slice none 0 0] := (Bx.alloc (Bx.alloc b2.out (.cells #[.bool true] 4)) (.cells #[.bool true] 4))
 have nb7 := (Bx.alloc (Bx.new 4 W3 [.bool true] (leaf1 (Leaf.bool true))) (.cells #[.bool true] 4))
 have nb8 := (Bx.new 4 (W3.alloc (.cells #[.bool true] 4)) [.bool true] (leaf1 (Leaf.bool true)))
 rw [show (W3.alloc (.cells #[.bool true] 4)).heap.size = W3.heap.size + 1 by simp] at nb8
 have nkeep := (Keep.alloc (Keep.alloc (Keep.refl W3) (.cells #[.bool true] 4)) (.cells #[.bool true] 4))
 have nbel : Below w.heap.size w ((W3.alloc (.cells #[.bool true] 4)).alloc (.cells #[.bool true] 4)) := (Below.alloc (Below.alloc HB4.out (by first | omega | (simp; done) | (simp; omega) | (simp [World.setCell]; done) | (simp [World.setCell]; omega)) (.cells #[.bool true] 4)) (by first | omega | (simp; done) | (simp; omega) | (simp [World.setCell]; done) | (simp [World.setCell]; omega)) (.cells #[.bool true] 4))
 generalize (W3.alloc (.cells #[.bool true] 4)).alloc (.cells #[.bool true] 4) = W6 at *
 clear x20 x21 x22 x23 z20 z21 z22 z23 szb s2 b2
 have b2 := Lib.hid nb2
 have b7 := Lib.hid nb7
 have b8 := Lib.hid nb8
 clear nb2 nb7 nb8 nkeep
 have HB7 := Lib.hid nbel
 clear nbel HB4
 obtain ⟨x20, x21, x22, x23, z20, z21, z22, z23⟩ := b2.out.cz4
 have x70 : W6.cell? ⟨W3.heap.size, 0, none⟩ = some (.bool true) := (b7.out).cell 0
 have z70 : W6.frozen? ⟨W3.heap.size, 0, none⟩ = false := (b7.out).frozen 0
 have x80 : W6.cell? ⟨W3.heap.size + 1, 0, none⟩ = some (.bool true) := (b8.out).cell 0
 have z80 : W6.frozen? ⟨W3.heap.size + 1, 0, none⟩ = false := (b8.out).frozen 0
 have szb := HB7.out.size
 have s2 := b2.out.lt
 have s7 := b7.out.lt
 have s8 := b8.out.lt
 have h78 : Hid (W3.heap.size ≠ W3.heap.size + 1) := by show _ ≠ _; omega
 go_wp2_with fail
 refine (part_any ⟨N.toArray⟩ _ _ _ _ _ b7.out b8.out h78.out (by have := HLN.out; show N.toArray.size ≤ 1000000; rw [List.size_toArray]; omega)).mono ?_
 rintro e W8 ⟨v, rfl, hv, h7n, h8n, hbt⟩
 have hk_ := hbt.keep b7.out b8.out
 replace b2 := Lib.hid (hbt.bx b2.out (by omega) (by omega))
 have nbel := hbt.below HB7.out (by omega) (by omega) HB7.out.size
 clear hbt hk_ b7 b8
 rw [show (true && (errOf (⟨N.toArray⟩ : ByteArray).data.toList != 3)) = false from HE7.out] at h7n
 rw [show (true && (errOf (⟨N.toArray⟩ : ByteArray).data.toList != 6)) = c8 from HE8.out] at h8n
 have b7 := Lib.hid h7n
 have b8 := Lib.hid h8n
 clear h7n h8n
 have HB9 := Lib.hid nbel
 clear nbel HB7 x20 x21 x22 x23 z20 z21 z22 z23 x70 z70 x80 z80 szb s2 s7 s8
 obtain ⟨x20, x21, x22, x23, z20, z21, z22, z23⟩ := b2.out.cz4
 have x70 : W8.cell? ⟨W3.heap.size, 0, none⟩ = some (.bool false) := (b7.out).cell 0
 have z70 : W8.frozen? ⟨W3.heap.size, 0, none⟩ = false := (b7.out).frozen 0
 have x80 : W8.cell? ⟨W3.heap.size + 1, 0, none⟩ = some (.bool c8) := (b8.out).cell 0
 have z80 : W8.frozen? ⟨W3.heap.size + 1, 0, none⟩ = false := (b8.out).frozen 0
 have szb := HB9.out.size
 have s2 := b2.out.lt
 have s7 := b7.out.lt
 have s8 := b8.out.lt
 obtain ⟨k1, A1, l1, c1, rfl⟩ := hv.open
 have HV1 := Lib.hid hv
 clear hv
 go_wp2_with fail
 refine (of_fact (n := 1) (by decide) (by decide)).mono ?_
 rintro e W10 ⟨v, rfl, hv, hb⟩
 replace b2 := hup b2 hb
 replace b7 := hup b7 hb
 replace b8 := hup b8 hb
 replace HV1 := Lib.hid (HV1.out.kept (Keep.ofBelow hb))
 have nbel := below_then HB9.out hb HB9.out.size
 have HB11 := Lib.hid nbel
 clear nbel HB9 hb x20 x21 x22 x23 z20 z21 z22 z23 x70 z70 x80 z80 szb s2 s7 s8
 obtain ⟨x20, x21, x22, x23, z20, z21, z22, z23⟩ := b2.out.cz4
 have x70 : W10.cell? ⟨W3.heap.size, 0, none⟩ = some (.bool false) := (b7.out).cell 0
 have z70 : W10.frozen? ⟨W3.heap.size, 0, none⟩ = false := (b7.out).frozen 0
 have x80 : W10.cell? ⟨W3.heap.size + 1, 0, none⟩ = some (.bool c8) := (b8.out).cell 0
 have z80 : W10.frozen? ⟨W3.heap.size + 1, 0, none⟩ = false := (b8.out).frozen 0
 have szb := HB11.out.size
 have s2 := b2.out.lt
 have s7 := b7.out.lt
 have s8 := b8.out.lt
 obtain ⟨k2, A2, l2, c2, rfl⟩ := hv.open
 have HO := Lib.hid hv
 clear hv
 go_upto_region 5 with (fail)
 have q12 := b2.out.lt
 have q13 := b7.out.lt
 have q14 := b8.out.lt
 change Code.wp Tryz.prog _ _ _ ((W10.alloc (.cells #[.bool k1, .slice A1 l1 c1] 25)).alloc (.cells #[.bool k2, .slice A2 l2 c2] 25))
 obtain ⟨nb10, nb11, na⟩ := new2 W10 25 [.bool k1, .slice A1 l1 c1] 25 [.bool k2, .slice A2 l2 c2] lf2 lf2
 have nb2 := b2.out.up na
 have nb7 := b7.out.up na
 have nb8 := b8.out.up na
 have nkeep := Keep.ofBelow na
 have nbel := below_then HB11.out na HB11.out.size
 generalize (W10.alloc (.cells #[.bool k1, .slice A1 l1 c1] 25)).alloc (.cells #[.bool k2, .slice A2 l2 c2] 25) = W15 at *
 clear na x20 x21 x22 x23 z20 z21 z22 z23 x70 z70 x80 z80 szb s2 s7 s8 b2 b7 b8
 have b2 := Lib.hid nb2
 have b7 := Lib.hid nb7
 have b8 := Lib.hid nb8
 have b10 := Lib.hid nb10
 have b11 := Lib.hid nb11
 clear nb2 nb7 nb8 nb10 nb11
 replace HV1 := Lib.hid (HV1.out.kept nkeep)
 replace HO := Lib.hid (HO.out.kept nkeep)
 clear nkeep
 have HB16 := Lib.hid nbel
 clear nbel HB11
 obtain ⟨x20, x21, x22, x23, z20, z21, z22, z23⟩ := b2.out.cz4
 have x70 : W15.cell? ⟨W3.heap.size, 0, none⟩ = some (.bool false) := (b7.out).cell 0
 have z70 : W15.frozen? ⟨W3.heap.size, 0, none⟩ = false := (b7.out).frozen 0
 have x80 : W15.cell? ⟨W3.heap.size + 1, 0, none⟩ = some (.bool c8) := (b8.out).cell 0
 have z80 : W15.frozen? ⟨W3.heap.size + 1, 0, none⟩ = false := (b8.out).frozen 0
 obtain ⟨x100, x101, s10⟩ := b10.out.d2
 obtain ⟨x110, x111, s11⟩ := b11.out.d2
 have szb := HB16.out.size
 have s2 := b2.out.lt
 have s7 := b7.out.lt
 have s8 := b8.out.lt
 go_wp2_with fail
 have hkeep := (Keep.set4 (Keep.refl W15) b2.out (Leaf.bool false) (Leaf.slice none 0 0) (Leaf.bool false) (Leaf.slice none 0 0))
 have hbel := (Below.set4 (g := w.heap.size) HB16.out (by first | omega | (simp; done) | (simp; omega)) (.bool false) (.slice none 0 0) (.bool false) (.slice none 0 0))
 refine bodyPost_ret (v := .tuple #[.agg #[.bool false, .slice none 0 0, .bool false, .slice none 0 0], .int .i64 3]) (by simp [results, Tryz.results14, go_sem, x20, x21, x22, x23]) rfl ⟨rfl, hbel⟩
theorem pparse_n0 {s : ByteArray} {N D : List UInt8} {w : World} (hm : MaxOk w) (hc : Lib.cut s.data.toList [47] = (N, D, false)) (hln : s.size ≤ 9000 ∧ N.length ≤ 9000 ∧ D.length ≤ 9000) (h7 : (true && (errOf N != 3)) = true) (h8 : (true && (errOf N != 6)) = true) :
  Calls Tryz.prog 14 #[.string s] w fun e w' => ∃ v, e = .returned (.tuple #[v, .int .i64 0]) ∧ (∃ (k : Bool) (A : Option Addr) (l c : Nat) (k' : Bool) (A' : Option Addr) (l' c' : Nat), v = .agg #[.bool k, .slice A l c, .bool k', .slice A' l' c'] ∧ PInt (valZ N) 223 (.agg #[.bool k, .slice A l c]) w' ∧ PInt 1 223 (.agg #[.bool k', .slice A' l' c']) w') ∧ Below w.heap.size w w' := by
 have hmf : ∀ (fn : Fn) (first cap : Array Value) (w : World), (Instr.makeFunc fn first cap).run Tryz.prog w = .ok (.func fn first cap) w := fun _ _ _ _ => rfl
 have HM := Lib.hid hm
 have HC := Lib.hid hc
 have HLN := Lib.hid hln
 have HE7 := Lib.hid h7
 have HE8 := Lib.hid h8
 clear hm hc hln h7 h8
 go_enter Tryz.func14, Tryz.ntmps14
 go_upto_region 1 with (fail)
 change Code.wp Tryz.prog _ _ _ (w.alloc (.cells #[.bool false, .slice none 0 0, .bool false, .slice none 0 0] 27))
 obtain ⟨nb2, na⟩ := new1 w 27 [.bool false, .slice none 0 0, .bool false, .slice none 0 0] lf4
 have nkeep := Keep.ofBelow na
 have nbel := na
 generalize w.alloc (.cells #[.bool false, .slice none 0 0, .bool false, .slice none 0 0] 27) = W1 at *
 clear na
 have b2 := Lib.hid nb2
 clear nb2 nkeep
 have HB2 := Lib.hid nbel
 clear nbel
 obtain ⟨x20, x21, x22, x23, z20, z21, z22, z23, s2⟩ := b2.out.e4
 have szb := HB2.out.size
 go_wp2_with fail
 refine (cut_is (HM.out.up HB2.out) (by have := HLN.out; omega) HC.out).mono ?_
 rintro e W3 ⟨rfl, hb⟩
 replace b2 := hup b2 hb
 have nbel := below_then HB2.out hb HB2.out.size
 have HB4 := Lib.hid nbel
 clear nbel HB2 hb x20 x21 x22 x23 z20 z21 z22 z23 szb s2
 obtain ⟨x20, x21, x22, x23, z20, z21, z22, z23, s2⟩ := b2.out.e4
 have szb := HB4.out.size
 go_upto_region 3 with (fail)
 have q5 := b2.out.lt
 change Code.wp Tryz.prog _ _ _ ((W3.alloc (.cells #[.bool true] 4)).alloc (.cells #[.bool true] 4))
 have nb2 : Bx 27 ((W3.alloc (.cells #[.bool true] 4)).alloc (.cells #[.bool true] 4)) w.heap.size [.bool false, .slice none 0 0, .bool false, .slice none 0 0] := (Bx.alloc (Bx.alloc b2.out (.cells #[.bool true] 4)) (.cells #[.bool true] 4))
 have nb7 := (Bx.alloc (Bx.new 4 W3 [.bool true] (leaf1 (Leaf.bool true))) (.cells #[.bool true] 4))
 have nb8 := (Bx.new 4 (W3.alloc (.cells #[.bool true] 4)) [.bool true] (leaf1 (Leaf.bool true)))
 rw [show (W3.alloc (.cells #[.bool true] 4)).heap.size = W3.heap.size + 1 by simp] at nb8
 have nkeep := (Keep.alloc (Keep.alloc (Keep.refl W3) (.cells #[.bool true] 4)) (.cells #[.bool true] 4))
 have nbel : Below w.heap.size w ((W3.alloc (.cells #[.bool true] 4)).alloc (.cells #[.bool true] 4)) := (Below.alloc (Below.alloc HB4.out (by first | omega | (simp; done) | (simp; omega) | (simp [World.setCell]; done) | (simp [World.setCell]; omega)) (.cells #[.bool true] 4)) (by first | omega | (simp; done) | (simp; omega) | (simp [World.setCell]; done) | (simp [World.setCell]; omega)) (.cells #[.bool true] 4))
 generalize (W3.alloc (.cells #[.bool true] 4)).alloc (.cells #[.bool true] 4) = W6 at *
 clear x20 x21 x22 x23 z20 z21 z22 z23 szb s2 b2
 have b2 := Lib.hid nb2
 have b7 := Lib.hid nb7
 have b8 := Lib.hid nb8
 clear nb2 nb7 nb8 nkeep
 have HB7 := Lib.hid nbel
 clear nbel HB4
 obtain ⟨x20, x21, x22, x23, z20, z21, z22, z23⟩ := b2.out.cz4
 have x70 : W6.cell? ⟨W3.heap.size, 0, none⟩ = some (.bool true) := (b7.out).cell 0
 have z70 : W6.frozen? ⟨W3.heap.size, 0, none⟩ = false := (b7.out).frozen 0
 have x80 : W6.cell? ⟨W3.heap.size + 1, 0, none⟩ = some (.bool true) := (b8.out).cell 0
 have z80 : W6.frozen? ⟨W3.heap.size + 1, 0, none⟩ = false := (b8.out).frozen 0
 have szb := HB7.out.size
 have s2 := b2.out.lt
 have s7 := b7.out.lt
 have s8 := b8.out.lt
 have h78 : Hid (W3.heap.size ≠ W3.heap.size + 1) := by show _ ≠ _; omega
 go_wp2_with fail
 refine (part_any ⟨N.toArray⟩ _ _ _ _ _ b7.out b8.out h78.out (by have := HLN.out; show N.toArray.size ≤ 1000000; rw [List.size_toArray]; omega)).mono ?_
 rintro e W8 ⟨v, rfl, hv, h7n, h8n, hbt⟩
 have hk_ := hbt.keep b7.out b8.out
 replace b2 := Lib.hid (hbt.bx b2.out (by omega) (by omega))
 have nbel := hbt.below HB7.out (by omega) (by omega) HB7.out.size
 clear hbt hk_ b7 b8
 rw [show (true && (errOf (⟨N.toArray⟩ : ByteArray).data.toList != 3)) = true from HE7.out] at h7n
 rw [show (true && (errOf (⟨N.toArray⟩ : ByteArray).data.toList != 6)) = true from HE8.out] at h8n
 have b7 := Lib.hid h7n
 have b8 := Lib.hid h8n
 clear h7n h8n
 have HB9 := Lib.hid nbel
 clear nbel HB7 x20 x21 x22 x23 z20 z21 z22 z23 x70 z70 x80 z80 szb s2 s7 s8
 obtain ⟨x20, x21, x22, x23, z20, z21, z22, z23⟩ := b2.out.cz4
 have x70 : W8.cell? ⟨W3.heap.size, 0, none⟩ = some (.bool true) := (b7.out).cell 0
 have z70 : W8.frozen? ⟨W3.heap.size, 0, none⟩ = false := (b7.out).frozen 0
 have x80 : W8.cell? ⟨W3.heap.size + 1, 0, none⟩ = some (.bool true) := (b8.out).cell 0
 have z80 : W8.frozen? ⟨W3.heap.size + 1, 0, none⟩ = false := (b8.out).frozen 0
 have szb := HB9.out.size
 have s2 := b2.out.lt
 have s7 := b7.out.lt
 have s8 := b8.out.lt
 obtain ⟨k1, A1, l1, c1, rfl⟩ := hv.open
 have HV1 := Lib.hid hv
 clear hv
 go_wp2_with fail
 refine (of_fact (n := 1) (by decide) (by decide)).mono ?_
 rintro e W10 ⟨v, rfl, hv, hb⟩
 replace b2 := hup b2 hb
 replace b7 := hup b7 hb
 replace b8 := hup b8 hb
 replace HV1 := Lib.hid (HV1.out.kept (Keep.ofBelow hb))
 have nbel := below_then HB9.out hb HB9.out.size
 have HB11 := Lib.hid nbel
 clear nbel HB9 hb x20 x21 x22 x23 z20 z21 z22 z23 x70 z70 x80 z80 szb s2 s7 s8
 obtain ⟨x20, x21, x22, x23, z20, z21, z22, z23⟩ := b2.out.cz4
 have x70 : W10.cell? ⟨W3.heap.size, 0, none⟩ = some (.bool true) := (b7.out).cell 0
 have z70 : W10.frozen? ⟨W3.heap.size, 0, none⟩ = false := (b7.out).frozen 0
 have x80 : W10.cell? ⟨W3.heap.size + 1, 0, none⟩ = some (.bool true) := (b8.out).cell 0
 have z80 : W10.frozen? ⟨W3.heap.size + 1, 0, none⟩ = false := (b8.out).frozen 0
 have szb := HB11.out.size
 have s2 := b2.out.lt
 have s7 := b7.out.lt
 have s8 := b8.out.lt
 obtain ⟨k2, A2, l2, c2, rfl⟩ := hv.open
 have HO := Lib.hid hv
 clear hv
 go_upto_region 5 with (fail)
 have q12 := b2.out.lt
 have q13 := b7.out.lt
 have q14 := b8.out.lt
 change Code.wp Tryz.prog _ _ _ ((W10.alloc (.cells #[.bool k1, .slice A1 l1 c1] 25)).alloc (.cells #[.bool k2, .slice A2 l2 c2] 25))
 obtain ⟨nb10, nb11, na⟩ := new2 W10 25 [.bool k1, .slice A1 l1 c1] 25 [.bool k2, .slice A2 l2 c2] lf2 lf2
 have nb2 := b2.out.up na
 have nb7 := b7.out.up na
 have nb8 := b8.out.up na
 have nkeep := Keep.ofBelow na
 have nbel := below_then HB11.out na HB11.out.size
 generalize (W10.alloc (.cells #[.bool k1, .slice A1 l1 c1] 25)).alloc (.cells #[.bool k2, .slice A2 l2 c2] 25) = W15 at *
 clear na x20 x21 x22 x23 z20 z21 z22 z23 x70 z70 x80 z80 szb s2 s7 s8 b2 b7 b8
 have b2 := Lib.hid nb2
 have b7 := Lib.hid nb7
 have b8 := Lib.hid nb8
 have b10 := Lib.hid nb10
 have b11 := Lib.hid nb11
 clear nb2 nb7 nb8 nb10 nb11
 replace HV1 := Lib.hid (HV1.out.kept nkeep)
 replace HO := Lib.hid (HO.out.kept nkeep)
 clear nkeep
 have HB16 := Lib.hid nbel
 clear nbel HB11
 obtain ⟨x20, x21, x22, x23, z20, z21, z22, z23⟩ := b2.out.cz4
 have x70 : W15.cell? ⟨W3.heap.size, 0, none⟩ = some (.bool true) := (b7.out).cell 0
 have z70 : W15.frozen? ⟨W3.heap.size, 0, none⟩ = false := (b7.out).frozen 0
 have x80 : W15.cell? ⟨W3.heap.size + 1, 0, none⟩ = some (.bool true) := (b8.out).cell 0
 have z80 : W15.frozen? ⟨W3.heap.size + 1, 0, none⟩ = false := (b8.out).frozen 0
 obtain ⟨x100, x101, s10⟩ := b10.out.d2
 obtain ⟨x110, x111, s11⟩ := b11.out.d2
 have szb := HB16.out.size
 have s2 := b2.out.lt
 have s7 := b7.out.lt
 have s8 := b8.out.lt
 go_wp2_with fail
 have hkeep := (Keep.set4 (Keep.refl W15) b2.out (Leaf.bool k1) (Leaf.slice A1 l1 c1) (Leaf.bool k2) (Leaf.slice A2 l2 c2))
 have hbel := (Below.set4 (g := w.heap.size) HB16.out (by first | omega | (simp; done) | (simp; omega)) (.bool k1) (.slice A1 l1 c1) (.bool k2) (.slice A2 l2 c2))
 refine bodyPost_ret (v := .tuple #[.agg #[.bool k1, .slice A1 l1 c1, .bool k2, .slice A2 l2 c2], .int .i64 0]) (by simp [results, Tryz.results14, go_sem, x20, x21, x22, x23]) rfl ⟨_, rfl, ⟨_, _, _, _, _, _, _, _, rfl, HV1.out.kept hkeep, (HO.out.kept hkeep).more (by omega)⟩, hbel⟩
theorem pparse_q3 {s : ByteArray} {N D : List UInt8} {c8 : Bool} {w : World} (hm : MaxOk w) (hc : Lib.cut s.data.toList [47] = (N, D, true)) (hln : s.size ≤ 9000 ∧ N.length ≤ 9000 ∧ D.length ≤ 9000) {a7 a8 : Bool} (ha7 : (true && (errOf N != 3)) = a7) (ha8 : (true && (errOf N != 6)) = a8) (h7 : (a7 && (errOf D != 3)) = false) (h8 : (a8 && (errOf D != 6)) = c8) :
  Calls Tryz.prog 14 #[.string s] w fun e w' => e = .returned (.tuple #[.agg #[.bool false, .slice none 0 0, .bool false, .slice none 0 0], .int .i64 3]) ∧ Below w.heap.size w w' := by
 have HA7 := Lib.hid ha7
 have HA8 := Lib.hid ha8
 clear ha7 ha8
 have hmf : ∀ (fn : Fn) (first cap : Array Value) (w : World), (Instr.makeFunc fn first cap).run Tryz.prog w = .ok (.func fn first cap) w := fun _ _ _ _ => rfl
 have HM := Lib.hid hm
 have HC := Lib.hid hc
 have HLN := Lib.hid hln
 have HE7 := Lib.hid h7
 have HE8 := Lib.hid h8
 clear hm hc hln h7 h8
 go_enter Tryz.func14, Tryz.ntmps14
 go_upto_region 1 with (fail)
 change Code.wp Tryz.prog _ _ _ (w.alloc (.cells #[.bool false, .slice none 0 0, .bool false, .slice none 0 0] 27))
 obtain ⟨nb2, na⟩ := new1 w 27 [.bool false, .slice none 0 0, .bool false, .slice none 0 0] lf4
 have nkeep := Keep.ofBelow na
 have nbel := na
 generalize w.alloc (.cells #[.bool false, .slice none 0 0, .bool false, .slice none 0 0] 27) = W1 at *
 clear na
 have b2 := Lib.hid nb2
 clear nb2 nkeep
 have HB2 := Lib.hid nbel
 clear nbel
 obtain ⟨x20, x21, x22, x23, z20, z21, z22, z23, s2⟩ := b2.out.e4
 have szb := HB2.out.size
 go_wp2_with fail
 refine (cut_is (HM.out.up HB2.out) (by have := HLN.out; omega) HC.out).mono ?_
 rintro e W3 ⟨rfl, hb⟩
 replace b2 := hup b2 hb
 have nbel := below_then HB2.out hb HB2.out.size
 have HB4 := Lib.hid nbel
 clear nbel HB2 hb x20 x21 x22 x23 z20 z21 z22 z23 szb s2
 obtain ⟨x20, x21, x22, x23, z20, z21, z22, z23, s2⟩ := b2.out.e4
 have szb := HB4.out.size
 go_upto_region 3 with (fail)
 have q5 := b2.out.lt
 change Code.wp Tryz.prog _ _ _ ((W3.alloc (.cells #[.bool true] 4)).alloc (.cells #[.bool true] 4))
 have nb2 : Bx 27 ((W3.alloc (.cells #[.bool true] 4)).alloc (.cells #[.bool true] 4)) w.heap.size [.bool false, .slice none 0 0, .bool false, .slice none 0 0] := (Bx.alloc (Bx.alloc b2.out (.cells #[.bool true] 4)) (.cells #[.bool true] 4))
 have nb7 := (Bx.alloc (Bx.new 4 W3 [.bool true] (leaf1 (Leaf.bool true))) (.cells #[.bool true] 4))
 have nb8 := (Bx.new 4 (W3.alloc (.cells #[.bool true] 4)) [.bool true] (leaf1 (Leaf.bool true)))
 rw [show (W3.alloc (.cells #[.bool true] 4)).heap.size = W3.heap.size + 1 by simp] at nb8
 have nkeep := (Keep.alloc (Keep.alloc (Keep.refl W3) (.cells #[.bool true] 4)) (.cells #[.bool true] 4))
 have nbel : Below w.heap.size w ((W3.alloc (.cells #[.bool true] 4)).alloc (.cells #[.bool true] 4)) := (Below.alloc (Below.alloc HB4.out (by first | omega | (simp; done) | (simp; omega) | (simp [World.setCell]; done) | (simp [World.setCell]; omega)) (.cells #[.bool true] 4)) (by first | omega | (simp; done) | (simp; omega) | (simp [World.setCell]; done) | (simp [World.setCell]; omega)) (.cells #[.bool true] 4))
 generalize (W3.alloc (.cells #[.bool true] 4)).alloc (.cells #[.bool true] 4) = W6 at *
 clear x20 x21 x22 x23 z20 z21 z22 z23 szb s2 b2
 have b2 := Lib.hid nb2
 have b7 := Lib.hid nb7
 have b8 := Lib.hid nb8
 clear nb2 nb7 nb8 nkeep
 have HB7 := Lib.hid nbel
 clear nbel HB4
 obtain ⟨x20, x21, x22, x23, z20, z21, z22, z23⟩ := b2.out.cz4
 have x70 : W6.cell? ⟨W3.heap.size, 0, none⟩ = some (.bool true) := (b7.out).cell 0
 have z70 : W6.frozen? ⟨W3.heap.size, 0, none⟩ = false := (b7.out).frozen 0
 have x80 : W6.cell? ⟨W3.heap.size + 1, 0, none⟩ = some (.bool true) := (b8.out).cell 0
 have z80 : W6.frozen? ⟨W3.heap.size + 1, 0, none⟩ = false := (b8.out).frozen 0
 have szb := HB7.out.size
 have s2 := b2.out.lt
 have s7 := b7.out.lt
 have s8 := b8.out.lt
 have h78 : Hid (W3.heap.size ≠ W3.heap.size + 1) := by show _ ≠ _; omega
 go_wp2_with fail
 refine (part_any ⟨N.toArray⟩ _ _ _ _ _ b7.out b8.out h78.out (by have := HLN.out; show N.toArray.size ≤ 1000000; rw [List.size_toArray]; omega)).mono ?_
 rintro e W8 ⟨v, rfl, hv, h7n, h8n, hbt⟩
 have hk_ := hbt.keep b7.out b8.out
 replace b2 := Lib.hid (hbt.bx b2.out (by omega) (by omega))
 have nbel := hbt.below HB7.out (by omega) (by omega) HB7.out.size
 clear hbt hk_ b7 b8
 rw [show (true && (errOf (⟨N.toArray⟩ : ByteArray).data.toList != 3)) = a7 from HA7.out] at h7n
 rw [show (true && (errOf (⟨N.toArray⟩ : ByteArray).data.toList != 6)) = a8 from HA8.out] at h8n
 have b7 := Lib.hid h7n
 have b8 := Lib.hid h8n
 clear h7n h8n
 have HB9 := Lib.hid nbel
 clear nbel HB7 x20 x21 x22 x23 z20 z21 z22 z23 x70 z70 x80 z80 szb s2 s7 s8
 obtain ⟨x20, x21, x22, x23, z20, z21, z22, z23⟩ := b2.out.cz4
 have x70 : W8.cell? ⟨W3.heap.size, 0, none⟩ = some (.bool a7) := (b7.out).cell 0
 have z70 : W8.frozen? ⟨W3.heap.size, 0, none⟩ = false := (b7.out).frozen 0
 have x80 : W8.cell? ⟨W3.heap.size + 1, 0, none⟩ = some (.bool a8) := (b8.out).cell 0
 have z80 : W8.frozen? ⟨W3.heap.size + 1, 0, none⟩ = false := (b8.out).frozen 0
 have szb := HB9.out.size
 have s2 := b2.out.lt
 have s7 := b7.out.lt
 have s8 := b8.out.lt
 obtain ⟨k1, A1, l1, c1, rfl⟩ := hv.open
 have HV1 := Lib.hid hv
 clear hv
 go_wp2_with fail
 refine (of_fact (n := 1) (by decide) (by decide)).mono ?_
 rintro e W10 ⟨v, rfl, hv, hb⟩
 replace b2 := hup b2 hb
 replace b7 := hup b7 hb
 replace b8 := hup b8 hb
 replace HV1 := Lib.hid (HV1.out.kept (Keep.ofBelow hb))
 have nbel := below_then HB9.out hb HB9.out.size
 have HB11 := Lib.hid nbel
 clear nbel HB9 hb x20 x21 x22 x23 z20 z21 z22 z23 x70 z70 x80 z80 szb s2 s7 s8
 obtain ⟨x20, x21, x22, x23, z20, z21, z22, z23⟩ := b2.out.cz4
 have x70 : W10.cell? ⟨W3.heap.size, 0, none⟩ = some (.bool a7) := (b7.out).cell 0
 have z70 : W10.frozen? ⟨W3.heap.size, 0, none⟩ = false := (b7.out).frozen 0
 have x80 : W10.cell? ⟨W3.heap.size + 1, 0, none⟩ = some (.bool a8) := (b8.out).cell 0
 have z80 : W10.frozen? ⟨W3.heap.size + 1, 0, none⟩ = false := (b8.out).frozen 0
 have szb := HB11.out.size
 have s2 := b2.out.lt
 have s7 := b7.out.lt
 have s8 := b8.out.lt
 obtain ⟨k2, A2, l2, c2, rfl⟩ := hv.open
 have HO := Lib.hid hv
 clear hv
 go_upto_region 5 with (fail)
 have q12 := b2.out.lt
 have q13 := b7.out.lt
 have q14 := b8.out.lt
 change Code.wp Tryz.prog _ _ _ ((W10.alloc (.cells #[.bool k1, .slice A1 l1 c1] 25)).alloc (.cells #[.bool k2, .slice A2 l2 c2] 25))
 obtain ⟨nb10, nb11, na⟩ := new2 W10 25 [.bool k1, .slice A1 l1 c1] 25 [.bool k2, .slice A2 l2 c2] lf2 lf2
 have nb2 := b2.out.up na
 have nb7 := b7.out.up na
 have nb8 := b8.out.up na
 have nkeep := Keep.ofBelow na
 have nbel := below_then HB11.out na HB11.out.size
 generalize (W10.alloc (.cells #[.bool k1, .slice A1 l1 c1] 25)).alloc (.cells #[.bool k2, .slice A2 l2 c2] 25) = W15 at *
 clear na x20 x21 x22 x23 z20 z21 z22 z23 x70 z70 x80 z80 szb s2 s7 s8 b2 b7 b8
 have b2 := Lib.hid nb2
 have b7 := Lib.hid nb7
 have b8 := Lib.hid nb8
 have b10 := Lib.hid nb10
 have b11 := Lib.hid nb11
 clear nb2 nb7 nb8 nb10 nb11
 replace HV1 := Lib.hid (HV1.out.kept nkeep)
 replace HO := Lib.hid (HO.out.kept nkeep)
 clear nkeep
 have HB16 := Lib.hid nbel
 clear nbel HB11
 obtain ⟨x20, x21, x22, x23, z20, z21, z22, z23⟩ := b2.out.cz4
 have x70 : W15.cell? ⟨W3.heap.size, 0, none⟩ = some (.bool a7) := (b7.out).cell 0
 have z70 : W15.frozen? ⟨W3.heap.size, 0, none⟩ = false := (b7.out).frozen 0
 have x80 : W15.cell? ⟨W3.heap.size + 1, 0, none⟩ = some (.bool a8) := (b8.out).cell 0
 have z80 : W15.frozen? ⟨W3.heap.size + 1, 0, none⟩ = false := (b8.out).frozen 0
 obtain ⟨x100, x101, s10⟩ := b10.out.d2
 obtain ⟨x110, x111, z110, z111, s11⟩ := b11.out.e2
 have szb := HB16.out.size
 have s2 := b2.out.lt
 have s7 := b7.out.lt
 have s8 := b8.out.lt
 go_wp2_with fail
 refine (part_any ⟨D.toArray⟩ _ _ _ _ _ b7.out b8.out h78.out (by have := HLN.out; show D.toArray.size ≤ 1000000; rw [List.size_toArray]; omega)).mono ?_
 rintro e W17 ⟨v, rfl, hv, h7n, h8n, hbt⟩
 have hk_ := hbt.keep b7.out b8.out
 replace b2 := Lib.hid (hbt.bx b2.out (by omega) (by omega))
 replace b10 := Lib.hid (hbt.bx b10.out (by omega) (by omega))
 replace b11 := Lib.hid (hbt.bx b11.out (by omega) (by omega))
 replace HV1 := Lib.hid (HV1.out.kept hk_)
 replace HO := Lib.hid (HO.out.kept hk_)
 have nbel := hbt.below HB16.out (by omega) (by omega) HB16.out.size
 clear hbt hk_ b7 b8
 rw [show (a7 && (errOf (⟨D.toArray⟩ : ByteArray).data.toList != 3)) = false from HE7.out] at h7n
 rw [show (a8 && (errOf (⟨D.toArray⟩ : ByteArray).data.toList != 6)) = c8 from HE8.out] at h8n
 have b7 := Lib.hid h7n
 have b8 := Lib.hid h8n
 clear h7n h8n
 have HB18 := Lib.hid nbel
 clear nbel HB16 x20 x21 x22 x23 z20 z21 z22 z23 x70 z70 x80 z80 x100 x101 x110 x111 z110 z111 szb s2 s7 s8 s10 s11
 obtain ⟨x20, x21, x22, x23, z20, z21, z22, z23⟩ := b2.out.cz4
 have x70 : W17.cell? ⟨W3.heap.size, 0, none⟩ = some (.bool false) := (b7.out).cell 0
 have z70 : W17.frozen? ⟨W3.heap.size, 0, none⟩ = false := (b7.out).frozen 0
 have x80 : W17.cell? ⟨W3.heap.size + 1, 0, none⟩ = some (.bool c8) := (b8.out).cell 0
 have z80 : W17.frozen? ⟨W3.heap.size + 1, 0, none⟩ = false := (b8.out).frozen 0
 obtain ⟨x100, x101, s10⟩ := b10.out.d2
 obtain ⟨x110, x111, z110, z111, s11⟩ := b11.out.e2
 have szb := HB18.out.size
 have s2 := b2.out.lt
 have s7 := b7.out.lt
 have s8 := b8.out.lt
 obtain ⟨k3, A3, l3, c3, rfl⟩ := hv.open
 have HV3 := Lib.hid hv
 clear hv
 go_upto_region 7 with (fail)
 change Code.wp Tryz.prog _ _ _ ((W17.setCell ⟨W10.heap.size + 1, 0, none⟩ (.bool k3)).setCell ⟨W10.heap.size + 1, 1, none⟩ (.slice A3 l3 c3))
 have nb2 : Bx 27 ((W17.setCell ⟨W10.heap.size + 1, 0, none⟩ (.bool k3)).setCell ⟨W10.heap.size + 1, 1, none⟩ (.slice A3 l3 c3)) w.heap.size [.bool false, .slice none 0 0, .bool false, .slice none 0 0] := (Bx.far2 (g' := W10.heap.size + 1) b2.out (by omega) (.bool k3) (.slice A3 l3 c3))
 have nb7 : Bx 4 ((W17.setCell ⟨W10.heap.size + 1, 0, none⟩ (.bool k3)).setCell ⟨W10.heap.size + 1, 1, none⟩ (.slice A3 l3 c3)) W3.heap.size [.bool false] := (Bx.far2 (g' := W10.heap.size + 1) b7.out (by omega) (.bool k3) (.slice A3 l3 c3))
 have nb8 : Bx 4 ((W17.setCell ⟨W10.heap.size + 1, 0, none⟩ (.bool k3)).setCell ⟨W10.heap.size + 1, 1, none⟩ (.slice A3 l3 c3)) (W3.heap.size + 1) [.bool c8] := (Bx.far2 (g' := W10.heap.size + 1) b8.out (by omega) (.bool k3) (.slice A3 l3 c3))
 have nb10 : Bx 25 ((W17.setCell ⟨W10.heap.size + 1, 0, none⟩ (.bool k3)).setCell ⟨W10.heap.size + 1, 1, none⟩ (.slice A3 l3 c3)) W10.heap.size [.bool k1, .slice A1 l1 c1] := (Bx.far2 (g' := W10.heap.size + 1) b10.out (by omega) (.bool k3) (.slice A3 l3 c3))
 have nb11 : Bx 25 ((W17.setCell ⟨W10.heap.size + 1, 0, none⟩ (.bool k3)).setCell ⟨W10.heap.size + 1, 1, none⟩ (.slice A3 l3 c3)) (W10.heap.size + 1) [.bool k3, .slice A3 l3 c3] := (Bx.set2 b11.out (Leaf.bool k3) (Leaf.slice A3 l3 c3))
 have nkeep := (Keep.set2 (Keep.refl W17) b11.out (Leaf.bool k3) (Leaf.slice A3 l3 c3))
 have nbel : Below w.heap.size w ((W17.setCell ⟨W10.heap.size + 1, 0, none⟩ (.bool k3)).setCell ⟨W10.heap.size + 1, 1, none⟩ (.slice A3 l3 c3)) := (Below.set2 (g := W10.heap.size + 1) HB18.out (by first | omega | (simp; done) | (simp; omega)) (.bool k3) (.slice A3 l3 c3))
 generalize (W17.setCell ⟨W10.heap.size + 1, 0, none⟩ (.bool k3)).setCell ⟨W10.heap.size + 1, 1, none⟩ (.slice A3 l3 c3) = W19 at *
 clear x20 x21 x22 x23 z20 z21 z22 z23 x70 z70 x80 z80 x100 x101 x110 x111 z110 z111 szb s2 s7 s8 s10 s11 b2 b7 b8 b10 b11
 have b2 := Lib.hid nb2
 have b7 := Lib.hid nb7
 have b8 := Lib.hid nb8
 have b10 := Lib.hid nb10
 have b11 := Lib.hid nb11
 clear nb2 nb7 nb8 nb10 nb11
 replace HV1 := Lib.hid (HV1.out.kept nkeep)
 replace HO := Lib.hid (HO.out.kept nkeep)
 replace HV3 := Lib.hid (HV3.out.kept nkeep)
 clear nkeep
 have HB20 := Lib.hid nbel
 clear nbel HB18
 obtain ⟨x20, x21, x22, x23, z20, z21, z22, z23⟩ := b2.out.cz4
 have x70 : W19.cell? ⟨W3.heap.size, 0, none⟩ = some (.bool false) := (b7.out).cell 0
 have z70 : W19.frozen? ⟨W3.heap.size, 0, none⟩ = false := (b7.out).frozen 0
 have x80 : W19.cell? ⟨W3.heap.size + 1, 0, none⟩ = some (.bool c8) := (b8.out).cell 0
 have z80 : W19.frozen? ⟨W3.heap.size + 1, 0, none⟩ = false := (b8.out).frozen 0
 obtain ⟨x100, x101, s10⟩ := b10.out.d2
 obtain ⟨x110, x111, z110, z111, s11⟩ := b11.out.e2
 have szb := HB20.out.size
 have s2 := b2.out.lt
 have s7 := b7.out.lt
 have s8 := b8.out.lt
 go_wp2_with fail
 have hkeep := (Keep.set4 (Keep.refl W19) b2.out (Leaf.bool false) (Leaf.slice none 0 0) (Leaf.bool false) (Leaf.slice none 0 0))
 have hbel := (Below.set4 (g := w.heap.size) HB20.out (by first | omega | (simp; done) | (simp; omega)) (.bool false) (.slice none 0 0) (.bool false) (.slice none 0 0))
 refine bodyPost_ret (v := .tuple #[.agg #[.bool false, .slice none 0 0, .bool false, .slice none 0 0], .int .i64 3]) (by simp [results, Tryz.results14, go_sem, x20, x21, x22, x23]) rfl ⟨rfl, hbel⟩
theorem pparse_qlow {s : ByteArray} {N D : List UInt8} {c8 : Bool} {w : World} (hm : MaxOk w) (hc : Lib.cut s.data.toList [47] = (N, D, true)) (hln : s.size ≤ 9000 ∧ N.length ≤ 9000 ∧ D.length ≤ 9000) {a7 a8 : Bool} (ha7 : (true && (errOf N != 3)) = a7) (ha8 : (true && (errOf N != 6)) = a8) (h7 : (a7 && (errOf D != 3)) = true) (h8 : (a8 && (errOf D != 6)) = c8) (hbN : badNum N = false) (hbD : badNum D = false) (hz : N.length ≤ 9000 ∧ D.length ≤ 9000) (hlow : lowB N D = false) :
  Calls Tryz.prog 14 #[.string s] w fun e w' => e = .returned (.tuple #[.agg #[.bool false, .slice none 0 0, .bool false, .slice none 0 0], .int .i64 3]) ∧ Below w.heap.size w w' := by
 have HA7 := Lib.hid ha7
 have HA8 := Lib.hid ha8
 clear ha7 ha8
 have hmf : ∀ (fn : Fn) (first cap : Array Value) (w : World), (Instr.makeFunc fn first cap).run Tryz.prog w = .ok (.func fn first cap) w := fun _ _ _ _ => rfl
 have HM := Lib.hid hm
 have HC := Lib.hid hc
 have HLN := Lib.hid hln
 have HE7 := Lib.hid h7
 have HE8 := Lib.hid h8
 clear hm hc hln h7 h8
 have HLOW := Lib.hid (fun W => low_any N D W hbN hbD hz)
 have HLB := Lib.hid hlow
 clear hbN hbD hz hlow
 go_enter Tryz.func14, Tryz.ntmps14
 go_upto_region 1 with (fail)
 change Code.wp Tryz.prog _ _ _ (w.alloc (.cells #[.bool false, .slice none 0 0, .bool false, .slice none 0 0] 27))
 obtain ⟨nb2, na⟩ := new1 w 27 [.bool false, .slice none 0 0, .bool false, .slice none 0 0] lf4
 have nkeep := Keep.ofBelow na
 have nbel := na
 generalize w.alloc (.cells #[.bool false, .slice none 0 0, .bool false, .slice none 0 0] 27) = W1 at *
 clear na
 have b2 := Lib.hid nb2
 clear nb2 nkeep
 have HB2 := Lib.hid nbel
 clear nbel
 obtain ⟨x20, x21, x22, x23, z20, z21, z22, z23, s2⟩ := b2.out.e4
 have szb := HB2.out.size
 go_wp2_with fail
 refine (cut_is (HM.out.up HB2.out) (by have := HLN.out; omega) HC.out).mono ?_
 rintro e W3 ⟨rfl, hb⟩
 replace b2 := hup b2 hb
 have nbel := below_then HB2.out hb HB2.out.size
 have HB4 := Lib.hid nbel
 clear nbel HB2 hb x20 x21 x22 x23 z20 z21 z22 z23 szb s2
 obtain ⟨x20, x21, x22, x23, z20, z21, z22, z23, s2⟩ := b2.out.e4
 have szb := HB4.out.size
 go_upto_region 3 with (fail)
 have q5 := b2.out.lt
 change Code.wp Tryz.prog _ _ _ ((W3.alloc (.cells #[.bool true] 4)).alloc (.cells #[.bool true] 4))
 have nb2 : Bx 27 ((W3.alloc (.cells #[.bool true] 4)).alloc (.cells #[.bool true] 4)) w.heap.size [.bool false, .slice none 0 0, .bool false, .slice none 0 0] := (Bx.alloc (Bx.alloc b2.out (.cells #[.bool true] 4)) (.cells #[.bool true] 4))
 have nb7 := (Bx.alloc (Bx.new 4 W3 [.bool true] (leaf1 (Leaf.bool true))) (.cells #[.bool true] 4))
 have nb8 := (Bx.new 4 (W3.alloc (.cells #[.bool true] 4)) [.bool true] (leaf1 (Leaf.bool true)))
 rw [show (W3.alloc (.cells #[.bool true] 4)).heap.size = W3.heap.size + 1 by simp] at nb8
 have nkeep := (Keep.alloc (Keep.alloc (Keep.refl W3) (.cells #[.bool true] 4)) (.cells #[.bool true] 4))
 have nbel : Below w.heap.size w ((W3.alloc (.cells #[.bool true] 4)).alloc (.cells #[.bool true] 4)) := (Below.alloc (Below.alloc HB4.out (by first | omega | (simp; done) | (simp; omega) | (simp [World.setCell]; done) | (simp [World.setCell]; omega)) (.cells #[.bool true] 4)) (by first | omega | (simp; done) | (simp; omega) | (simp [World.setCell]; done) | (simp [World.setCell]; omega)) (.cells #[.bool true] 4))
 generalize (W3.alloc (.cells #[.bool true] 4)).alloc (.cells #[.bool true] 4) = W6 at *
 clear x20 x21 x22 x23 z20 z21 z22 z23 szb s2 b2
 have b2 := Lib.hid nb2
 have b7 := Lib.hid nb7
 have b8 := Lib.hid nb8
 clear nb2 nb7 nb8 nkeep
 have HB7 := Lib.hid nbel
 clear nbel HB4
 obtain ⟨x20, x21, x22, x23, z20, z21, z22, z23⟩ := b2.out.cz4
 have x70 : W6.cell? ⟨W3.heap.size, 0, none⟩ = some (.bool true) := (b7.out).cell 0
 have z70 : W6.frozen? ⟨W3.heap.size, 0, none⟩ = false := (b7.out).frozen 0
 have x80 : W6.cell? ⟨W3.heap.size + 1, 0, none⟩ = some (.bool true) := (b8.out).cell 0
 have z80 : W6.frozen? ⟨W3.heap.size + 1, 0, none⟩ = false := (b8.out).frozen 0
 have szb := HB7.out.size
 have s2 := b2.out.lt
 have s7 := b7.out.lt
 have s8 := b8.out.lt
 have h78 : Hid (W3.heap.size ≠ W3.heap.size + 1) := by show _ ≠ _; omega
 go_wp2_with fail
 refine (part_any ⟨N.toArray⟩ _ _ _ _ _ b7.out b8.out h78.out (by have := HLN.out; show N.toArray.size ≤ 1000000; rw [List.size_toArray]; omega)).mono ?_
 rintro e W8 ⟨v, rfl, hv, h7n, h8n, hbt⟩
 have hk_ := hbt.keep b7.out b8.out
 replace b2 := Lib.hid (hbt.bx b2.out (by omega) (by omega))
 have nbel := hbt.below HB7.out (by omega) (by omega) HB7.out.size
 clear hbt hk_ b7 b8
 rw [show (true && (errOf (⟨N.toArray⟩ : ByteArray).data.toList != 3)) = a7 from HA7.out] at h7n
 rw [show (true && (errOf (⟨N.toArray⟩ : ByteArray).data.toList != 6)) = a8 from HA8.out] at h8n
 have b7 := Lib.hid h7n
 have b8 := Lib.hid h8n
 clear h7n h8n
 have HB9 := Lib.hid nbel
 clear nbel HB7 x20 x21 x22 x23 z20 z21 z22 z23 x70 z70 x80 z80 szb s2 s7 s8
 obtain ⟨x20, x21, x22, x23, z20, z21, z22, z23⟩ := b2.out.cz4
 have x70 : W8.cell? ⟨W3.heap.size, 0, none⟩ = some (.bool a7) := (b7.out).cell 0
 have z70 : W8.frozen? ⟨W3.heap.size, 0, none⟩ = false := (b7.out).frozen 0
 have x80 : W8.cell? ⟨W3.heap.size + 1, 0, none⟩ = some (.bool a8) := (b8.out).cell 0
 have z80 : W8.frozen? ⟨W3.heap.size + 1, 0, none⟩ = false := (b8.out).frozen 0
 have szb := HB9.out.size
 have s2 := b2.out.lt
 have s7 := b7.out.lt
 have s8 := b8.out.lt
 obtain ⟨k1, A1, l1, c1, rfl⟩ := hv.open
 have HV1 := Lib.hid hv
 clear hv
 go_wp2_with fail
 refine (of_fact (n := 1) (by decide) (by decide)).mono ?_
 rintro e W10 ⟨v, rfl, hv, hb⟩
 replace b2 := hup b2 hb
 replace b7 := hup b7 hb
 replace b8 := hup b8 hb
 replace HV1 := Lib.hid (HV1.out.kept (Keep.ofBelow hb))
 have nbel := below_then HB9.out hb HB9.out.size
 have HB11 := Lib.hid nbel
 clear nbel HB9 hb x20 x21 x22 x23 z20 z21 z22 z23 x70 z70 x80 z80 szb s2 s7 s8
 obtain ⟨x20, x21, x22, x23, z20, z21, z22, z23⟩ := b2.out.cz4
 have x70 : W10.cell? ⟨W3.heap.size, 0, none⟩ = some (.bool a7) := (b7.out).cell 0
 have z70 : W10.frozen? ⟨W3.heap.size, 0, none⟩ = false := (b7.out).frozen 0
 have x80 : W10.cell? ⟨W3.heap.size + 1, 0, none⟩ = some (.bool a8) := (b8.out).cell 0
 have z80 : W10.frozen? ⟨W3.heap.size + 1, 0, none⟩ = false := (b8.out).frozen 0
 have szb := HB11.out.size
 have s2 := b2.out.lt
 have s7 := b7.out.lt
 have s8 := b8.out.lt
 obtain ⟨k2, A2, l2, c2, rfl⟩ := hv.open
 have HO := Lib.hid hv
 clear hv
 go_upto_region 5 with (fail)
 have q12 := b2.out.lt
 have q13 := b7.out.lt
 have q14 := b8.out.lt
 change Code.wp Tryz.prog _ _ _ ((W10.alloc (.cells #[.bool k1, .slice A1 l1 c1] 25)).alloc (.cells #[.bool k2, .slice A2 l2 c2] 25))
 obtain ⟨nb10, nb11, na⟩ := new2 W10 25 [.bool k1, .slice A1 l1 c1] 25 [.bool k2, .slice A2 l2 c2] lf2 lf2
 have nb2 := b2.out.up na
 have nb7 := b7.out.up na
 have nb8 := b8.out.up na
 have nkeep := Keep.ofBelow na
 have nbel := below_then HB11.out na HB11.out.size
 generalize (W10.alloc (.cells #[.bool k1, .slice A1 l1 c1] 25)).alloc (.cells #[.bool k2, .slice A2 l2 c2] 25) = W15 at *
 clear na x20 x21 x22 x23 z20 z21 z22 z23 x70 z70 x80 z80 szb s2 s7 s8 b2 b7 b8
 have b2 := Lib.hid nb2
 have b7 := Lib.hid nb7
 have b8 := Lib.hid nb8
 have b10 := Lib.hid nb10
 have b11 := Lib.hid nb11
 clear nb2 nb7 nb8 nb10 nb11
 replace HV1 := Lib.hid (HV1.out.kept nkeep)
 replace HO := Lib.hid (HO.out.kept nkeep)
 clear nkeep
 have HB16 := Lib.hid nbel
 clear nbel HB11
 obtain ⟨x20, x21, x22, x23, z20, z21, z22, z23⟩ := b2.out.cz4
 have x70 : W15.cell? ⟨W3.heap.size, 0, none⟩ = some (.bool a7) := (b7.out).cell 0
 have z70 : W15.frozen? ⟨W3.heap.size, 0, none⟩ = false := (b7.out).frozen 0
 have x80 : W15.cell? ⟨W3.heap.size + 1, 0, none⟩ = some (.bool a8) := (b8.out).cell 0
 have z80 : W15.frozen? ⟨W3.heap.size + 1, 0, none⟩ = false := (b8.out).frozen 0
 obtain ⟨x100, x101, s10⟩ := b10.out.d2
 obtain ⟨x110, x111, z110, z111, s11⟩ := b11.out.e2
 have szb := HB16.out.size
 have s2 := b2.out.lt
 have s7 := b7.out.lt
 have s8 := b8.out.lt
 go_wp2_with fail
 refine (part_any ⟨D.toArray⟩ _ _ _ _ _ b7.out b8.out h78.out (by have := HLN.out; show D.toArray.size ≤ 1000000; rw [List.size_toArray]; omega)).mono ?_
 rintro e W17 ⟨v, rfl, hv, h7n, h8n, hbt⟩
 have hk_ := hbt.keep b7.out b8.out
 replace b2 := Lib.hid (hbt.bx b2.out (by omega) (by omega))
 replace b10 := Lib.hid (hbt.bx b10.out (by omega) (by omega))
 replace b11 := Lib.hid (hbt.bx b11.out (by omega) (by omega))
 replace HV1 := Lib.hid (HV1.out.kept hk_)
 replace HO := Lib.hid (HO.out.kept hk_)
 have nbel := hbt.below HB16.out (by omega) (by omega) HB16.out.size
 clear hbt hk_ b7 b8
 rw [show (a7 && (errOf (⟨D.toArray⟩ : ByteArray).data.toList != 3)) = true from HE7.out] at h7n
 rw [show (a8 && (errOf (⟨D.toArray⟩ : ByteArray).data.toList != 6)) = c8 from HE8.out] at h8n
 have b7 := Lib.hid h7n
 have b8 := Lib.hid h8n
 clear h7n h8n
 have HB18 := Lib.hid nbel
 clear nbel HB16 x20 x21 x22 x23 z20 z21 z22 z23 x70 z70 x80 z80 x100 x101 x110 x111 z110 z111 szb s2 s7 s8 s10 s11
 obtain ⟨x20, x21, x22, x23, z20, z21, z22, z23⟩ := b2.out.cz4
 have x70 : W17.cell? ⟨W3.heap.size, 0, none⟩ = some (.bool true) := (b7.out).cell 0
 have z70 : W17.frozen? ⟨W3.heap.size, 0, none⟩ = false := (b7.out).frozen 0
 have x80 : W17.cell? ⟨W3.heap.size + 1, 0, none⟩ = some (.bool c8) := (b8.out).cell 0
 have z80 : W17.frozen? ⟨W3.heap.size + 1, 0, none⟩ = false := (b8.out).frozen 0
 obtain ⟨x100, x101, s10⟩ := b10.out.d2
 obtain ⟨x110, x111, z110, z111, s11⟩ := b11.out.e2
 have szb := HB18.out.size
 have s2 := b2.out.lt
 have s7 := b7.out.lt
 have s8 := b8.out.lt
 obtain ⟨k3, A3, l3, c3, rfl⟩ := hv.open
 have HV3 := Lib.hid hv
 clear hv
 go_upto_region 7 with (fail)
 change Code.wp Tryz.prog _ _ _ ((W17.setCell ⟨W10.heap.size + 1, 0, none⟩ (.bool k3)).setCell ⟨W10.heap.size + 1, 1, none⟩ (.slice A3 l3 c3))
 have nb2 : Bx 27 ((W17.setCell ⟨W10.heap.size + 1, 0, none⟩ (.bool k3)).setCell ⟨W10.heap.size + 1, 1, none⟩ (.slice A3 l3 c3)) w.heap.size [.bool false, .slice none 0 0, .bool false, .slice none 0 0] := (Bx.far2 (g' := W10.heap.size + 1) b2.out (by omega) (.bool k3) (.slice A3 l3 c3))
 have nb7 : Bx 4 ((W17.setCell ⟨W10.heap.size + 1, 0, none⟩ (.bool k3)).setCell ⟨W10.heap.size + 1, 1, none⟩ (.slice A3 l3 c3)) W3.heap.size [.bool true] := (Bx.far2 (g' := W10.heap.size + 1) b7.out (by omega) (.bool k3) (.slice A3 l3 c3))
 have nb8 : Bx 4 ((W17.setCell ⟨W10.heap.size + 1, 0, none⟩ (.bool k3)).setCell ⟨W10.heap.size + 1, 1, none⟩ (.slice A3 l3 c3)) (W3.heap.size + 1) [.bool c8] := (Bx.far2 (g' := W10.heap.size + 1) b8.out (by omega) (.bool k3) (.slice A3 l3 c3))
 have nb10 : Bx 25 ((W17.setCell ⟨W10.heap.size + 1, 0, none⟩ (.bool k3)).setCell ⟨W10.heap.size + 1, 1, none⟩ (.slice A3 l3 c3)) W10.heap.size [.bool k1, .slice A1 l1 c1] := (Bx.far2 (g' := W10.heap.size + 1) b10.out (by omega) (.bool k3) (.slice A3 l3 c3))
 have nb11 : Bx 25 ((W17.setCell ⟨W10.heap.size + 1, 0, none⟩ (.bool k3)).setCell ⟨W10.heap.size + 1, 1, none⟩ (.slice A3 l3 c3)) (W10.heap.size + 1) [.bool k3, .slice A3 l3 c3] := (Bx.set2 b11.out (Leaf.bool k3) (Leaf.slice A3 l3 c3))
 have nkeep := (Keep.set2 (Keep.refl W17) b11.out (Leaf.bool k3) (Leaf.slice A3 l3 c3))
 have nbel : Below w.heap.size w ((W17.setCell ⟨W10.heap.size + 1, 0, none⟩ (.bool k3)).setCell ⟨W10.heap.size + 1, 1, none⟩ (.slice A3 l3 c3)) := (Below.set2 (g := W10.heap.size + 1) HB18.out (by first | omega | (simp; done) | (simp; omega)) (.bool k3) (.slice A3 l3 c3))
 generalize (W17.setCell ⟨W10.heap.size + 1, 0, none⟩ (.bool k3)).setCell ⟨W10.heap.size + 1, 1, none⟩ (.slice A3 l3 c3) = W19 at *
 clear x20 x21 x22 x23 z20 z21 z22 z23 x70 z70 x80 z80 x100 x101 x110 x111 z110 z111 szb s2 s7 s8 s10 s11 b2 b7 b8 b10 b11
 have b2 := Lib.hid nb2
 have b7 := Lib.hid nb7
 have b8 := Lib.hid nb8
 have b10 := Lib.hid nb10
 have b11 := Lib.hid nb11
 clear nb2 nb7 nb8 nb10 nb11
 replace HV1 := Lib.hid (HV1.out.kept nkeep)
 replace HO := Lib.hid (HO.out.kept nkeep)
 replace HV3 := Lib.hid (HV3.out.kept nkeep)
 clear nkeep
 have HB20 := Lib.hid nbel
 clear nbel HB18
 obtain ⟨x20, x21, x22, x23, z20, z21, z22, z23⟩ := b2.out.cz4
 have x70 : W19.cell? ⟨W3.heap.size, 0, none⟩ = some (.bool true) := (b7.out).cell 0
 have z70 : W19.frozen? ⟨W3.heap.size, 0, none⟩ = false := (b7.out).frozen 0
 have x80 : W19.cell? ⟨W3.heap.size + 1, 0, none⟩ = some (.bool c8) := (b8.out).cell 0
 have z80 : W19.frozen? ⟨W3.heap.size + 1, 0, none⟩ = false := (b8.out).frozen 0
 obtain ⟨x100, x101, s10⟩ := b10.out.d2
 obtain ⟨x110, x111, z110, z111, s11⟩ := b11.out.e2
 have szb := HB20.out.size
 have s2 := b2.out.lt
 have s7 := b7.out.lt
 have s8 := b8.out.lt
 go_wp2_with fail
 refine (HLOW.out _).mono ?_
 rintro e W21 ⟨rfl, hb⟩
 replace b2 := hup b2 hb
 replace b7 := hup b7 hb
 replace b8 := hup b8 hb
 replace b10 := hup b10 hb
 replace b11 := hup b11 hb
 replace HV1 := Lib.hid (HV1.out.kept (Keep.ofBelow hb))
 replace HO := Lib.hid (HO.out.kept (Keep.ofBelow hb))
 replace HV3 := Lib.hid (HV3.out.kept (Keep.ofBelow hb))
 have nbel := below_then HB20.out hb HB20.out.size
 have HB22 := Lib.hid nbel
 clear nbel HB20 hb x20 x21 x22 x23 z20 z21 z22 z23 x70 z70 x80 z80 x100 x101 x110 x111 z110 z111 szb s2 s7 s8 s10 s11
 obtain ⟨x20, x21, x22, x23, z20, z21, z22, z23⟩ := b2.out.cz4
 have x70 : W21.cell? ⟨W3.heap.size, 0, none⟩ = some (.bool true) := (b7.out).cell 0
 have z70 : W21.frozen? ⟨W3.heap.size, 0, none⟩ = false := (b7.out).frozen 0
 have x80 : W21.cell? ⟨W3.heap.size + 1, 0, none⟩ = some (.bool c8) := (b8.out).cell 0
 have z80 : W21.frozen? ⟨W3.heap.size + 1, 0, none⟩ = false := (b8.out).frozen 0
 obtain ⟨x100, x101, s10⟩ := b10.out.d2
 obtain ⟨x110, x111, z110, z111, s11⟩ := b11.out.e2
 have szb := HB22.out.size
 have s2 := b2.out.lt
 have s7 := b7.out.lt
 have s8 := b8.out.lt
 rw [HLB.out]
 go_wp2_with fail
 have hkeep := (Keep.set4 (Keep.refl W21) b2.out (Leaf.bool false) (Leaf.slice none 0 0) (Leaf.bool false) (Leaf.slice none 0 0))
 have hbel := (Below.set4 (g := w.heap.size) HB22.out (by first | omega | (simp; done) | (simp; omega)) (.bool false) (.slice none 0 0) (.bool false) (.slice none 0 0))
 refine bodyPost_ret (v := .tuple #[.agg #[.bool false, .slice none 0 0, .bool false, .slice none 0 0], .int .i64 3]) (by simp [results, Tryz.results14, go_sem, x20, x21, x22, x23]) rfl ⟨rfl, hbel⟩
theorem pparse_q0 {s : ByteArray} {N D : List UInt8} {w : World} (hm : MaxOk w) (hc : Lib.cut s.data.toList [47] = (N, D, true)) (hln : s.size ≤ 9000 ∧ N.length ≤ 9000 ∧ D.length ≤ 9000) {a7 a8 : Bool} (ha7 : (true && (errOf N != 3)) = a7) (ha8 : (true && (errOf N != 6)) = a8) (h7 : (a7 && (errOf D != 3)) = true) (h8 : (a8 && (errOf D != 6)) = true) (hbN : badNum N = false) (hbD : badNum D = false) (hz : N.length ≤ 9000 ∧ D.length ≤ 9000) (hlow : lowB N D = true) :
  Calls Tryz.prog 14 #[.string s] w fun e w' => ∃ v, e = .returned (.tuple #[v, .int .i64 0]) ∧ (∃ (k : Bool) (A : Option Addr) (l c : Nat) (k' : Bool) (A' : Option Addr) (l' c' : Nat), v = .agg #[.bool k, .slice A l c, .bool k', .slice A' l' c'] ∧ PInt (valZ N) 223 (.agg #[.bool k, .slice A l c]) w' ∧ PInt (valZ D) 223 (.agg #[.bool k', .slice A' l' c']) w') ∧ Below w.heap.size w w' := by
 have HA7 := Lib.hid ha7
 have HA8 := Lib.hid ha8
 clear ha7 ha8
 have hmf : ∀ (fn : Fn) (first cap : Array Value) (w : World), (Instr.makeFunc fn first cap).run Tryz.prog w = .ok (.func fn first cap) w := fun _ _ _ _ => rfl
 have HM := Lib.hid hm
 have HC := Lib.hid hc
 have HLN := Lib.hid hln
 have HE7 := Lib.hid h7
 have HE8 := Lib.hid h8
 clear hm hc hln h7 h8
 have HLOW := Lib.hid (fun W => low_any N D W hbN hbD hz)
 have HLB := Lib.hid hlow
 clear hbN hbD hz hlow
 go_enter Tryz.func14, Tryz.ntmps14
 go_upto_region 1 with (fail)
 change Code.wp Tryz.prog _ _ _ (w.alloc (.cells #[.bool false, .slice none 0 0, .bool false, .slice none 0 0] 27))
 obtain ⟨nb2, na⟩ := new1 w 27 [.bool false, .slice none 0 0, .bool false, .slice none 0 0] lf4
 have nkeep := Keep.ofBelow na
 have nbel := na
 generalize w.alloc (.cells #[.bool false, .slice none 0 0, .bool false, .slice none 0 0] 27) = W1 at *
 clear na
 have b2 := Lib.hid nb2
 clear nb2 nkeep
 have HB2 := Lib.hid nbel
 clear nbel
 obtain ⟨x20, x21, x22, x23, z20, z21, z22, z23, s2⟩ := b2.out.e4
 have szb := HB2.out.size
 go_wp2_with fail
 refine (cut_is (HM.out.up HB2.out) (by have := HLN.out; omega) HC.out).mono ?_
 rintro e W3 ⟨rfl, hb⟩
 replace b2 := hup b2 hb
 have nbel := below_then HB2.out hb HB2.out.size
 have HB4 := Lib.hid nbel
 clear nbel HB2 hb x20 x21 x22 x23 z20 z21 z22 z23 szb s2
 obtain ⟨x20, x21, x22, x23, z20, z21, z22, z23, s2⟩ := b2.out.e4
 have szb := HB4.out.size
 go_upto_region 3 with (fail)
 have q5 := b2.out.lt
 change Code.wp Tryz.prog _ _ _ ((W3.alloc (.cells #[.bool true] 4)).alloc (.cells #[.bool true] 4))
 have nb2 : Bx 27 ((W3.alloc (.cells #[.bool true] 4)).alloc (.cells #[.bool true] 4)) w.heap.size [.bool false, .slice none 0 0, .bool false, .slice none 0 0] := (Bx.alloc (Bx.alloc b2.out (.cells #[.bool true] 4)) (.cells #[.bool true] 4))
 have nb7 := (Bx.alloc (Bx.new 4 W3 [.bool true] (leaf1 (Leaf.bool true))) (.cells #[.bool true] 4))
 have nb8 := (Bx.new 4 (W3.alloc (.cells #[.bool true] 4)) [.bool true] (leaf1 (Leaf.bool true)))
 rw [show (W3.alloc (.cells #[.bool true] 4)).heap.size = W3.heap.size + 1 by simp] at nb8
 have nkeep := (Keep.alloc (Keep.alloc (Keep.refl W3) (.cells #[.bool true] 4)) (.cells #[.bool true] 4))
 have nbel : Below w.heap.size w ((W3.alloc (.cells #[.bool true] 4)).alloc (.cells #[.bool true] 4)) := (Below.alloc (Below.alloc HB4.out (by first | omega | (simp; done) | (simp; omega) | (simp [World.setCell]; done) | (simp [World.setCell]; omega)) (.cells #[.bool true] 4)) (by first | omega | (simp; done) | (simp; omega) | (simp [World.setCell]; done) | (simp [World.setCell]; omega)) (.cells #[.bool true] 4))
 generalize (W3.alloc (.cells #[.bool true] 4)).alloc (.cells #[.bool true] 4) = W6 at *
 clear x20 x21 x22 x23 z20 z21 z22 z23 szb s2 b2
 have b2 := Lib.hid nb2
 have b7 := Lib.hid nb7
 have b8 := Lib.hid nb8
 clear nb2 nb7 nb8 nkeep
 have HB7 := Lib.hid nbel
 clear nbel HB4
 obtain ⟨x20, x21, x22, x23, z20, z21, z22, z23⟩ := b2.out.cz4
 have x70 : W6.cell? ⟨W3.heap.size, 0, none⟩ = some (.bool true) := (b7.out).cell 0
 have z70 : W6.frozen? ⟨W3.heap.size, 0, none⟩ = false := (b7.out).frozen 0
 have x80 : W6.cell? ⟨W3.heap.size + 1, 0, none⟩ = some (.bool true) := (b8.out).cell 0
 have z80 : W6.frozen? ⟨W3.heap.size + 1, 0, none⟩ = false := (b8.out).frozen 0
 have szb := HB7.out.size
 have s2 := b2.out.lt
 have s7 := b7.out.lt
 have s8 := b8.out.lt
 have h78 : Hid (W3.heap.size ≠ W3.heap.size + 1) := by show _ ≠ _; omega
 go_wp2_with fail
 refine (part_any ⟨N.toArray⟩ _ _ _ _ _ b7.out b8.out h78.out (by have := HLN.out; show N.toArray.size ≤ 1000000; rw [List.size_toArray]; omega)).mono ?_
 rintro e W8 ⟨v, rfl, hv, h7n, h8n, hbt⟩
 have hk_ := hbt.keep b7.out b8.out
 replace b2 := Lib.hid (hbt.bx b2.out (by omega) (by omega))
 have nbel := hbt.below HB7.out (by omega) (by omega) HB7.out.size
 clear hbt hk_ b7 b8
 rw [show (true && (errOf (⟨N.toArray⟩ : ByteArray).data.toList != 3)) = a7 from HA7.out] at h7n
 rw [show (true && (errOf (⟨N.toArray⟩ : ByteArray).data.toList != 6)) = a8 from HA8.out] at h8n
 have b7 := Lib.hid h7n
 have b8 := Lib.hid h8n
 clear h7n h8n
 have HB9 := Lib.hid nbel
 clear nbel HB7 x20 x21 x22 x23 z20 z21 z22 z23 x70 z70 x80 z80 szb s2 s7 s8
 obtain ⟨x20, x21, x22, x23, z20, z21, z22, z23⟩ := b2.out.cz4
 have x70 : W8.cell? ⟨W3.heap.size, 0, none⟩ = some (.bool a7) := (b7.out).cell 0
 have z70 : W8.frozen? ⟨W3.heap.size, 0, none⟩ = false := (b7.out).frozen 0
 have x80 : W8.cell? ⟨W3.heap.size + 1, 0, none⟩ = some (.bool a8) := (b8.out).cell 0
 have z80 : W8.frozen? ⟨W3.heap.size + 1, 0, none⟩ = false := (b8.out).frozen 0
 have szb := HB9.out.size
 have s2 := b2.out.lt
 have s7 := b7.out.lt
 have s8 := b8.out.lt
 obtain ⟨k1, A1, l1, c1, rfl⟩ := hv.open
 have HV1 := Lib.hid hv
 clear hv
 go_wp2_with fail
 refine (of_fact (n := 1) (by decide) (by decide)).mono ?_
 rintro e W10 ⟨v, rfl, hv, hb⟩
 replace b2 := hup b2 hb
 replace b7 := hup b7 hb
 replace b8 := hup b8 hb
 replace HV1 := Lib.hid (HV1.out.kept (Keep.ofBelow hb))
 have nbel := below_then HB9.out hb HB9.out.size
 have HB11 := Lib.hid nbel
 clear nbel HB9 hb x20 x21 x22 x23 z20 z21 z22 z23 x70 z70 x80 z80 szb s2 s7 s8
 obtain ⟨x20, x21, x22, x23, z20, z21, z22, z23⟩ := b2.out.cz4
 have x70 : W10.cell? ⟨W3.heap.size, 0, none⟩ = some (.bool a7) := (b7.out).cell 0
 have z70 : W10.frozen? ⟨W3.heap.size, 0, none⟩ = false := (b7.out).frozen 0
 have x80 : W10.cell? ⟨W3.heap.size + 1, 0, none⟩ = some (.bool a8) := (b8.out).cell 0
 have z80 : W10.frozen? ⟨W3.heap.size + 1, 0, none⟩ = false := (b8.out).frozen 0
 have szb := HB11.out.size
 have s2 := b2.out.lt
 have s7 := b7.out.lt
 have s8 := b8.out.lt
 obtain ⟨k2, A2, l2, c2, rfl⟩ := hv.open
 have HO := Lib.hid hv
 clear hv
 go_upto_region 5 with (fail)
 have q12 := b2.out.lt
 have q13 := b7.out.lt
 have q14 := b8.out.lt
 change Code.wp Tryz.prog _ _ _ ((W10.alloc (.cells #[.bool k1, .slice A1 l1 c1] 25)).alloc (.cells #[.bool k2, .slice A2 l2 c2] 25))
 obtain ⟨nb10, nb11, na⟩ := new2 W10 25 [.bool k1, .slice A1 l1 c1] 25 [.bool k2, .slice A2 l2 c2] lf2 lf2
 have nb2 := b2.out.up na
 have nb7 := b7.out.up na
 have nb8 := b8.out.up na
 have nkeep := Keep.ofBelow na
 have nbel := below_then HB11.out na HB11.out.size
 generalize (W10.alloc (.cells #[.bool k1, .slice A1 l1 c1] 25)).alloc (.cells #[.bool k2, .slice A2 l2 c2] 25) = W15 at *
 clear na x20 x21 x22 x23 z20 z21 z22 z23 x70 z70 x80 z80 szb s2 s7 s8 b2 b7 b8
 have b2 := Lib.hid nb2
 have b7 := Lib.hid nb7
 have b8 := Lib.hid nb8
 have b10 := Lib.hid nb10
 have b11 := Lib.hid nb11
 clear nb2 nb7 nb8 nb10 nb11
 replace HV1 := Lib.hid (HV1.out.kept nkeep)
 replace HO := Lib.hid (HO.out.kept nkeep)
 clear nkeep
 have HB16 := Lib.hid nbel
 clear nbel HB11
 obtain ⟨x20, x21, x22, x23, z20, z21, z22, z23⟩ := b2.out.cz4
 have x70 : W15.cell? ⟨W3.heap.size, 0, none⟩ = some (.bool a7) := (b7.out).cell 0
 have z70 : W15.frozen? ⟨W3.heap.size, 0, none⟩ = false := (b7.out).frozen 0
 have x80 : W15.cell? ⟨W3.heap.size + 1, 0, none⟩ = some (.bool a8) := (b8.out).cell 0
 have z80 : W15.frozen? ⟨W3.heap.size + 1, 0, none⟩ = false := (b8.out).frozen 0
 obtain ⟨x100, x101, s10⟩ := b10.out.d2
 obtain ⟨x110, x111, z110, z111, s11⟩ := b11.out.e2
 have szb := HB16.out.size
 have s2 := b2.out.lt
 have s7 := b7.out.lt
 have s8 := b8.out.lt
 go_wp2_with fail
 refine (part_any ⟨D.toArray⟩ _ _ _ _ _ b7.out b8.out h78.out (by have := HLN.out; show D.toArray.size ≤ 1000000; rw [List.size_toArray]; omega)).mono ?_
 rintro e W17 ⟨v, rfl, hv, h7n, h8n, hbt⟩
 have hk_ := hbt.keep b7.out b8.out
 replace b2 := Lib.hid (hbt.bx b2.out (by omega) (by omega))
 replace b10 := Lib.hid (hbt.bx b10.out (by omega) (by omega))
 replace b11 := Lib.hid (hbt.bx b11.out (by omega) (by omega))
 replace HV1 := Lib.hid (HV1.out.kept hk_)
 replace HO := Lib.hid (HO.out.kept hk_)
 have nbel := hbt.below HB16.out (by omega) (by omega) HB16.out.size
 clear hbt hk_ b7 b8
 rw [show (a7 && (errOf (⟨D.toArray⟩ : ByteArray).data.toList != 3)) = true from HE7.out] at h7n
 rw [show (a8 && (errOf (⟨D.toArray⟩ : ByteArray).data.toList != 6)) = true from HE8.out] at h8n
 have b7 := Lib.hid h7n
 have b8 := Lib.hid h8n
 clear h7n h8n
 have HB18 := Lib.hid nbel
 clear nbel HB16 x20 x21 x22 x23 z20 z21 z22 z23 x70 z70 x80 z80 x100 x101 x110 x111 z110 z111 szb s2 s7 s8 s10 s11
 obtain ⟨x20, x21, x22, x23, z20, z21, z22, z23⟩ := b2.out.cz4
 have x70 : W17.cell? ⟨W3.heap.size, 0, none⟩ = some (.bool true) := (b7.out).cell 0
 have z70 : W17.frozen? ⟨W3.heap.size, 0, none⟩ = false := (b7.out).frozen 0
 have x80 : W17.cell? ⟨W3.heap.size + 1, 0, none⟩ = some (.bool true) := (b8.out).cell 0
 have z80 : W17.frozen? ⟨W3.heap.size + 1, 0, none⟩ = false := (b8.out).frozen 0
 obtain ⟨x100, x101, s10⟩ := b10.out.d2
 obtain ⟨x110, x111, z110, z111, s11⟩ := b11.out.e2
 have szb := HB18.out.size
 have s2 := b2.out.lt
 have s7 := b7.out.lt
 have s8 := b8.out.lt
 obtain ⟨k3, A3, l3, c3, rfl⟩ := hv.open
 have HV3 := Lib.hid hv
 clear hv
 go_upto_region 7 with (fail)
 change Code.wp Tryz.prog _ _ _ ((W17.setCell ⟨W10.heap.size + 1, 0, none⟩ (.bool k3)).setCell ⟨W10.heap.size + 1, 1, none⟩ (.slice A3 l3 c3))
 have nb2 : Bx 27 ((W17.setCell ⟨W10.heap.size + 1, 0, none⟩ (.bool k3)).setCell ⟨W10.heap.size + 1, 1, none⟩ (.slice A3 l3 c3)) w.heap.size [.bool false, .slice none 0 0, .bool false, .slice none 0 0] := (Bx.far2 (g' := W10.heap.size + 1) b2.out (by omega) (.bool k3) (.slice A3 l3 c3))
 have nb7 : Bx 4 ((W17.setCell ⟨W10.heap.size + 1, 0, none⟩ (.bool k3)).setCell ⟨W10.heap.size + 1, 1, none⟩ (.slice A3 l3 c3)) W3.heap.size [.bool true] := (Bx.far2 (g' := W10.heap.size + 1) b7.out (by omega) (.bool k3) (.slice A3 l3 c3))
 have nb8 : Bx 4 ((W17.setCell ⟨W10.heap.size + 1, 0, none⟩ (.bool k3)).setCell ⟨W10.heap.size + 1, 1, none⟩ (.slice A3 l3 c3)) (W3.heap.size + 1) [.bool true] := (Bx.far2 (g' := W10.heap.size + 1) b8.out (by omega) (.bool k3) (.slice A3 l3 c3))
 have nb10 : Bx 25 ((W17.setCell ⟨W10.heap.size + 1, 0, none⟩ (.bool k3)).setCell ⟨W10.heap.size + 1, 1, none⟩ (.slice A3 l3 c3)) W10.heap.size [.bool k1, .slice A1 l1 c1] := (Bx.far2 (g' := W10.heap.size + 1) b10.out (by omega) (.bool k3) (.slice A3 l3 c3))
 have nb11 : Bx 25 ((W17.setCell ⟨W10.heap.size + 1, 0, none⟩ (.bool k3)).setCell ⟨W10.heap.size + 1, 1, none⟩ (.slice A3 l3 c3)) (W10.heap.size + 1) [.bool k3, .slice A3 l3 c3] := (Bx.set2 b11.out (Leaf.bool k3) (Leaf.slice A3 l3 c3))
 have nkeep := (Keep.set2 (Keep.refl W17) b11.out (Leaf.bool k3) (Leaf.slice A3 l3 c3))
 have nbel : Below w.heap.size w ((W17.setCell ⟨W10.heap.size + 1, 0, none⟩ (.bool k3)).setCell ⟨W10.heap.size + 1, 1, none⟩ (.slice A3 l3 c3)) := (Below.set2 (g := W10.heap.size + 1) HB18.out (by first | omega | (simp; done) | (simp; omega)) (.bool k3) (.slice A3 l3 c3))
 generalize (W17.setCell ⟨W10.heap.size + 1, 0, none⟩ (.bool k3)).setCell ⟨W10.heap.size + 1, 1, none⟩ (.slice A3 l3 c3) = W19 at *
 clear x20 x21 x22 x23 z20 z21 z22 z23 x70 z70 x80 z80 x100 x101 x110 x111 z110 z111 szb s2 s7 s8 s10 s11 b2 b7 b8 b10 b11
 have b2 := Lib.hid nb2
 have b7 := Lib.hid nb7
 have b8 := Lib.hid nb8
 have b10 := Lib.hid nb10
 have b11 := Lib.hid nb11
 clear nb2 nb7 nb8 nb10 nb11
 replace HV1 := Lib.hid (HV1.out.kept nkeep)
 replace HO := Lib.hid (HO.out.kept nkeep)
 replace HV3 := Lib.hid (HV3.out.kept nkeep)
 clear nkeep
 have HB20 := Lib.hid nbel
 clear nbel HB18
 obtain ⟨x20, x21, x22, x23, z20, z21, z22, z23⟩ := b2.out.cz4
 have x70 : W19.cell? ⟨W3.heap.size, 0, none⟩ = some (.bool true) := (b7.out).cell 0
 have z70 : W19.frozen? ⟨W3.heap.size, 0, none⟩ = false := (b7.out).frozen 0
 have x80 : W19.cell? ⟨W3.heap.size + 1, 0, none⟩ = some (.bool true) := (b8.out).cell 0
 have z80 : W19.frozen? ⟨W3.heap.size + 1, 0, none⟩ = false := (b8.out).frozen 0
 obtain ⟨x100, x101, s10⟩ := b10.out.d2
 obtain ⟨x110, x111, z110, z111, s11⟩ := b11.out.e2
 have szb := HB20.out.size
 have s2 := b2.out.lt
 have s7 := b7.out.lt
 have s8 := b8.out.lt
 go_wp2_with fail
 refine (HLOW.out _).mono ?_
 rintro e W21 ⟨rfl, hb⟩
 replace b2 := hup b2 hb
 replace b7 := hup b7 hb
 replace b8 := hup b8 hb
 replace b10 := hup b10 hb
 replace b11 := hup b11 hb
 replace HV1 := Lib.hid (HV1.out.kept (Keep.ofBelow hb))
 replace HO := Lib.hid (HO.out.kept (Keep.ofBelow hb))
 replace HV3 := Lib.hid (HV3.out.kept (Keep.ofBelow hb))
 have nbel := below_then HB20.out hb HB20.out.size
 have HB22 := Lib.hid nbel
 clear nbel HB20 hb x20 x21 x22 x23 z20 z21 z22 z23 x70 z70 x80 z80 x100 x101 x110 x111 z110 z111 szb s2 s7 s8 s10 s11
 obtain ⟨x20, x21, x22, x23, z20, z21, z22, z23⟩ := b2.out.cz4
 have x70 : W21.cell? ⟨W3.heap.size, 0, none⟩ = some (.bool true) := (b7.out).cell 0
 have z70 : W21.frozen? ⟨W3.heap.size, 0, none⟩ = false := (b7.out).frozen 0
 have x80 : W21.cell? ⟨W3.heap.size + 1, 0, none⟩ = some (.bool true) := (b8.out).cell 0
 have z80 : W21.frozen? ⟨W3.heap.size + 1, 0, none⟩ = false := (b8.out).frozen 0
 obtain ⟨x100, x101, s10⟩ := b10.out.d2
 obtain ⟨x110, x111, z110, z111, s11⟩ := b11.out.e2
 have szb := HB22.out.size
 have s2 := b2.out.lt
 have s7 := b7.out.lt
 have s8 := b8.out.lt
 rw [HLB.out]
 go_wp2_with fail
 have hkeep := (Keep.set4 (Keep.refl W21) b2.out (Leaf.bool k1) (Leaf.slice A1 l1 c1) (Leaf.bool k3) (Leaf.slice A3 l3 c3))
 have hbel := (Below.set4 (g := w.heap.size) HB22.out (by first | omega | (simp; done) | (simp; omega)) (.bool k1) (.slice A1 l1 c1) (.bool k3) (.slice A3 l3 c3))
 refine bodyPost_ret (v := .tuple #[.agg #[.bool k1, .slice A1 l1 c1, .bool k3, .slice A3 l3 c3], .int .i64 0]) (by simp [results, Tryz.results14, go_sem, x20, x21, x22, x23]) rfl ⟨_, rfl, ⟨_, _, _, _, _, _, _, _, rfl, HV1.out.kept hkeep, HV3.out.kept hkeep⟩, hbel⟩
def rpartsFL (n : Nat) (g : Nat) : List (Nat × AS.Fact) := [(8, AS.Fact.is (.pointer (some ⟨g, 0, none⟩))), (9, AS.Fact.ref (0) n), (10, AS.Fact.ref (1) 5)]
set_option maxRecDepth 20000 in
set_option maxHeartbeats 3200000 in
theorem rparts_fact {x : Rat} {n : Nat} {v : Value} {w : World} (h : RRat x n v w) (hn : 5 ≤ n) :
  Calls Tryz.prog 68 #[v] w fun e w' => ∃ (k : Bool) (A : Option Addr) (l c : Nat) (k' : Bool) (A' : Option Addr) (l' c' : Nat), e = .returned (.tuple #[.agg #[.bool k, .slice A l c], .agg #[.bool k', .slice A' l' c']]) ∧ PRef x.num n (.agg #[.bool k, .slice A l c]) w' ∧ PRef x.den n (.agg #[.bool k', .slice A' l' c']) w' ∧ Below w.heap.size w w' := by
 obtain ⟨k, A, l, c, k', A', l', c', rfl⟩ := h.open
 obtain ⟨p, q, h1, h2, h3⟩ := h.parts
 have H1 := Lib.hid h1
 have H2 := Lib.hid h2
 clear h h1 h2
 go_enter Tryz.func68, Tryz.ntmps68
 go_upto_region 1 with (fail)
 change Code.wp Tryz.prog _ _ _ (((w.alloc (.cells #[.bool k, .slice A l c, .bool k', .slice A' l' c'] 35)).alloc (.cells #[.bool false, .slice none 0 0] 33)).alloc (.cells #[.bool false, .slice none 0 0] 33))
 obtain ⟨nb1, nb2, nb3, na⟩ := new3 w 35 [.bool k, .slice A l c, .bool k', .slice A' l' c'] 33 [.bool false, .slice none 0 0] 33 [.bool false, .slice none 0 0] lf4 lf2 lf2
 have nkeep := Keep.ofBelow na
 have nbel := na
 generalize ((w.alloc (.cells #[.bool k, .slice A l c, .bool k', .slice A' l' c'] 35)).alloc (.cells #[.bool false, .slice none 0 0] 33)).alloc (.cells #[.bool false, .slice none 0 0] 33) = W1 at *
 clear na
 have b1 := Lib.hid nb1
 have b2 := Lib.hid nb2
 have b3 := Lib.hid nb3
 clear nb1 nb2 nb3
 replace H1 := Lib.hid (H1.out.kept nkeep)
 replace H2 := Lib.hid (H2.out.kept nkeep)
 clear nkeep
 have HB2 := Lib.hid nbel
 clear nbel
 obtain ⟨x1_0, x1_1, x1_2, x1_3, s1⟩ := b1.out.d4
 obtain ⟨x2_0, x2_1, z2_0, z2_1, s2⟩ := b2.out.e2
 obtain ⟨x3_0, x3_1, z3_0, z3_1, s3⟩ := b3.out.e2
 have szb := HB2.out.size
 rcases h3 with ⟨rfl, rfl⟩ | ⟨rfl, rfl, rfl⟩
 ·have hc : cmpI (x.den : Int) 0 = 1 := by unfold cmpI; have := x.den_pos; rw [if_neg (by omega), if_neg (by omega)]
  go_wp2_with fail
  refine (rsign_is H2.out hc).mono ?_
  rintro e W3 ⟨rfl, hb⟩
  replace b1 := hup b1 hb
  replace b2 := hup b2 hb
  replace b3 := hup b3 hb
  replace H1 := Lib.hid (H1.out.kept (Keep.ofBelow hb))
  replace H2 := Lib.hid (H2.out.kept (Keep.ofBelow hb))
  have nbel := below_then HB2.out hb HB2.out.size
  have HB4 := Lib.hid nbel
  clear nbel HB2 hb x1_0 x1_1 x1_2 x1_3 x2_0 x2_1 z2_0 z2_1 x3_0 x3_1 z3_0 z3_1 szb s1 s2 s3
  obtain ⟨x1_0, x1_1, x1_2, x1_3, s1⟩ := b1.out.d4
  obtain ⟨x2_0, x2_1, z2_0, z2_1, s2⟩ := b2.out.e2
  obtain ⟨x3_0, x3_1, z3_0, z3_1, s3⟩ := b3.out.e2
  have szb := HB4.out.size
  go_wp2
  go_region
  go_wp2
  have hkeep := (Keep.drew (Keep.set (Keep.set (Keep.set2 (Keep.refl W3) b2.out (Leaf.bool k) (Leaf.slice A l c)) (Bx.far2 (g' := w.heap.size + 1) b3.out (by omega) (.bool k) (.slice A l c)) 0 (Leaf.bool k')) (Bx.set (Bx.far2 (g' := w.heap.size + 1) b3.out (by omega) (.bool k) (.slice A l c)) 0 (Leaf.bool k')) 1 (Leaf.slice A' l' c')))
  have hbel := (below_drew (Below.setCell (p := ⟨w.heap.size + 1 + 1, 1, none⟩) (Below.setCell (p := ⟨w.heap.size + 1 + 1, 0, none⟩) (Below.set2 (g := w.heap.size + 1) HB4.out (by first | omega | (simp; done) | (simp; omega)) (.bool k) (.slice A l c)) (by first | omega | (simp; done) | (simp; omega)) (.bool k')) (by first | omega | (simp; done) | (simp; omega)) (.slice A' l' c')))
  refine bodyPost_ret (v := .tuple #[.agg #[.bool k, .slice A l c], .agg #[.bool k', .slice A' l' c']]) (by simp [results, Tryz.results68, go_sem, x2_0, x2_1, x3_0, x3_1]) rfl ⟨_, _, _, _, _, _, _, _, rfl, H1.out.kept hkeep, H2.out.kept hkeep, hbel⟩
 ·go_wp2_with fail
  refine (rsign_is H2.out (c := 0) (by decide)).mono ?_
  rintro e W3 ⟨rfl, hb⟩
  replace b1 := hup b1 hb
  replace b2 := hup b2 hb
  replace b3 := hup b3 hb
  replace H1 := Lib.hid (H1.out.kept (Keep.ofBelow hb))
  replace H2 := Lib.hid (H2.out.kept (Keep.ofBelow hb))
  have nbel := below_then HB2.out hb HB2.out.size
  have HB4 := Lib.hid nbel
  clear nbel HB2 hb x1_0 x1_1 x1_2 x1_3 x2_0 x2_1 z2_0 z2_1 x3_0 x3_1 z3_0 z3_1 szb s1 s2 s3
  obtain ⟨x1_0, x1_1, x1_2, x1_3, s1⟩ := b1.out.d4
  obtain ⟨x2_0, x2_1, z2_0, z2_1, s2⟩ := b2.out.e2
  obtain ⟨x3_0, x3_1, z3_0, z3_1, s3⟩ := b3.out.e2
  have szb := HB4.out.size
  go_upto_region 2 with (fail)
  refine AS.region_facts (rpartsFL n w.heap.size) (JRes2 w W3 33 33 (w.heap.size + 1) (w.heap.size + 1 + 1) [(35, w.heap.size, [.bool k, .slice A l c, .bool k', .slice A' l' c'])]) [[], [8], [], [9], [10]] [3, 4] [[], [9], [9, 10]] [2, 0, 2, 2, 2] [] (fun u => by simp only [rpartsFL, AS.temps, List.map_cons, List.map_nil, fillL, List.setIfInBounds_toArray, List.set_cons_zero, List.set_cons_succ]; rfl) (by kernel_rfl) (by kernel_rfl) (JRes2.st w W3 33 33 (w.heap.size + 1) (w.heap.size + 1 + 1) [(35, w.heap.size, [.bool k, .slice A l c, .bool k', .slice A' l' c'])]) (below_drew (Below.refl _ _)) ?_ ?_
  ·refine AS.sc rfl rfl rfl ?_ ?_
   ·intro k_ u w_ hk hJ hF K hK
    clear hF
    go_simp
    exact hK.out _ _ (Below.refl _ _) (rfl) trivial
   refine AS.sc rfl rfl rfl ?_ ?_
   ·intro k_ u w_ hk hJ hF K hK
    have h8 : u 8 = .pointer (some ⟨w.heap.size, 0, none⟩) := AS.facts_get hF 8 (by simp)
    clear hF
    simp only [h8] at hK ⊢
    clear h8
    obtain rfl : k_ = 0 := Nat.le_zero.1 hk
    have hJ0 : Below W3.heap.size W3 w_ := hJ
    obtain ⟨y0, y1, y2, y3⟩ := ((b1.out).up hJ0).c4
    go_simp
    exact hK.out _ _ (Below.refl _ _) ((H1.out).kept (Keep.ofBelow hJ0)) trivial
   refine AS.sc rfl rfl rfl ?_ ?_
   ·intro k_ u w_ hk hJ hF K hK
    clear hF
    go_simp
    refine (rof_fact (n := 1) (by decide) (by decide)).mono ?_
    rintro e w' ⟨v, rfl, hv, hb⟩
    exact hK.out _ _ hb (hv) trivial
   refine AS.ss rfl rfl ?_ ?_
   ·intro u w_ hJ hAp hF K hK
    have h9 : PRef (0) n (u 9) w_ := AS.facts_get hF 9 (by simp)
    clear hF
    obtain ⟨k1, A1, l1, c1, e_⟩ := h9.open
    have hJ0 : Below W3.heap.size W3 w_ := hJ
    have bx := (b2.out).up hJ0
    have hbel := below_then HB4.out hJ0 HB4.out.size
    have bx2 := (b3.out).up hJ0
    have ob1 := (b1.out).up hJ0
    have y0 := bx.cell 0
    have z0 := bx.frozen 0
    have y1 := bx.cell 1
    have z1 := bx.frozen 1
    simp only [List.getElem?_cons_zero, List.getElem?_cons_succ] at y0 y1
    have hob2 : ∀ b_ ∈ ([(35, w.heap.size, [.bool k, .slice A l c, .bool k', .slice A' l' c'])] : List (TypeId × Nat × List Value)), Bx b_.1 ((w_.setCell ⟨w.heap.size + 1, 0, none⟩ (.bool k1)).setCell ⟨w.heap.size + 1, 1, none⟩ (.slice A1 l1 c1)) b_.2.1 b_.2.2 := by
     intro b_ hb_
     simp only [List.mem_cons, List.not_mem_nil, or_false] at hb_
     rcases hb_ with rfl
     ·exact (Bx.far2 (g' := w.heap.size + 1) ob1 (show w.heap.size + 1 ≠ w.heap.size by omega) (.bool k1) (.slice A1 l1 c1))
    simp only [e_] at hK ⊢
    go_simp
    exact hK.out undef _ ⟨⟨(Below.setCell (p := ⟨w.heap.size + 1, 1, none⟩) (Below.setCell (p := ⟨w.heap.size + 1, 0, none⟩) hbel (by first | omega | (simp; done) | (simp; omega)) (.bool k1)) (by first | omega | (simp; done) | (simp; omega)) (.slice A1 l1 c1)), (by simp only [setCell_size]; first | exact hsz | exact Nat.le_trans HB4.out.size hJ0.size)⟩, hob2, ⟨[.bool k1, .slice A1 l1 c1], by simp [e_], (Bx.set2 bx (Leaf.bool k1) (Leaf.slice A1 l1 c1))⟩, _, _, (Bx.far2 (g' := w.heap.size + 1) bx2 (by omega) (.bool k1) (.slice A1 l1 c1))⟩ (Keep.set2 (Keep.refl w_) bx (Leaf.bool k1) (Leaf.slice A1 l1 c1))
   refine AS.ss rfl rfl ?_ ?_
   ·intro u w_ hJ hAp hF K hK
    have h10 : PRef (1) 5 (u 10) w_ := AS.facts_get hF 10 (by simp)
    clear hF
    obtain ⟨k1, A1, l1, c1, e_⟩ := h10.open
    obtain ⟨⟨hbel, hsz⟩, hob, ⟨vs, hvs, bx1⟩, x_, y_, bx⟩ := hJ
    have ob1 := hob (35, w.heap.size, [.bool k, .slice A l c, .bool k', .slice A' l' c']) (by simp)
    clear hob
    have y0 := bx.cell 0
    have z0 := bx.frozen 0
    have y1 := bx.cell 1
    have z1 := bx.frozen 1
    simp only [List.getElem?_cons_zero, List.getElem?_cons_succ] at y0 y1
    have hob2 : ∀ b_ ∈ ([(35, w.heap.size, [.bool k, .slice A l c, .bool k', .slice A' l' c'])] : List (TypeId × Nat × List Value)), Bx b_.1 ((w_.setCell ⟨w.heap.size + 1 + 1, 0, none⟩ (.bool k1)).setCell ⟨w.heap.size + 1 + 1, 1, none⟩ (.slice A1 l1 c1)) b_.2.1 b_.2.2 := by
     intro b_ hb_
     simp only [List.mem_cons, List.not_mem_nil, or_false] at hb_
     rcases hb_ with rfl
     ·exact (Bx.far2 (g' := w.heap.size + 1 + 1) ob1 (show w.heap.size + 1 + 1 ≠ w.heap.size by omega) (.bool k1) (.slice A1 l1 c1))
    simp only [e_] at hK ⊢
    go_simp
    exact hK.out undef _ ⟨⟨(Below.setCell (p := ⟨w.heap.size + 1 + 1, 1, none⟩) (Below.setCell (p := ⟨w.heap.size + 1 + 1, 0, none⟩) hbel (by first | omega | (simp; done) | (simp; omega)) (.bool k1)) (by first | omega | (simp; done) | (simp; omega)) (.slice A1 l1 c1)), (by simp only [setCell_size]; first | exact hsz | exact Nat.le_trans HB4.out.size hJ0.size)⟩, hob2, vs, [.bool k1, .slice A1 l1 c1], by simp [e_, List.cons.inj hvs], (Bx.far (g' := w.heap.size + 1 + 1) (Bx.far (g' := w.heap.size + 1 + 1) bx1 (by omega) 0 (.bool k1)) (by omega) 1 (.slice A1 l1 c1)), (Bx.set2 bx (Leaf.bool k1) (Leaf.slice A1 l1 c1))⟩ (Keep.set2 (Keep.refl w_) bx (Leaf.bool k1) (Leaf.slice A1 l1 c1))
   exact AS.StepsOk.nil
  ·intro u W5 hJ9 hF
   have h9 : PRef (0) n (u 9) W5 := AS.facts_get hF 9 (by simp [rpartsFL, AS.temps])
   have h10 : PRef (1) 5 (u 10) W5 := AS.facts_get hF 10 (by simp [rpartsFL, AS.temps])
   clear hF
   obtain ⟨⟨hbel, -⟩, -, vs, vs2, hvs, hbx, hbx2⟩ := hJ9
   obtain ⟨ka, Aa, la, ca, ea⟩ := h9.open
   obtain ⟨kb, Ab, lb, cb, eb⟩ := h10.open
   rw [ea] at h9
   rw [eb] at h10
   obtain rfl : vs = [.bool ka, .slice Aa la ca] := by
    have e1 := (List.cons.inj hvs).1
    rw [show u 9 = _ from ea] at e1
    have e2 := congrArg Array.toList (Value.agg.inj e1)
    simpa using e2.symm
   obtain rfl : vs2 = [.bool kb, .slice Ab lb cb] := by
    have e1 := (List.cons.inj (List.cons.inj hvs).2).1
    rw [show u 10 = _ from eb] at e1
    have e2 := congrArg Array.toList (Value.agg.inj e1)
    simpa using e2.symm
   have y0 := hbx.cell 0
   have z0 := hbx2.cell 0
   have y1 := hbx.cell 1
   have z1 := hbx2.cell 1
   simp only [List.getElem?_cons_zero, List.getElem?_cons_succ] at y0 y1 z0 z1
   go_wp2_with fail
   refine bodyPost_ret (v := .tuple #[.agg #[.bool ka, .slice Aa la ca], .agg #[.bool kb, .slice Ab lb cb]]) (by simp [results, Tryz.results68, go_sem, y0, y1, z0, z1]) rfl ⟨_, _, _, _, _, _, _, _, rfl, h9, h10.more hn, hbel⟩
theorem decDig_pos : ∀ (u : Nat), Lib.decDigits u ≠ [] := by
 intro u
 rw [Lib.decDigits]
 split <;> simp
theorem ofNat_dig {a b : Nat} (ha : a < 10) (hb : b < 10) (h : UInt8.ofNat (48 + a) = UInt8.ofNat (48 + b)) : a = b := by
 have := congrArg UInt8.toNat h
 simp at this
 omega
theorem decDig_inj : ∀ (u v : Nat), Lib.decDigits u = Lib.decDigits v → u = v := by
 intro u
 induction u using Nat.strongRecOn with
 | _ u ih =>
  intro v h
  rw [Lib.decDigits, Lib.decDigits.eq_def v] at h
  split at h
  ·rename_i hu
   split at h
   ·rename_i hv
    exact ofNat_dig hu hv (List.cons.inj h).1
   ·exfalso
    have h1 := congrArg List.length h
    have h2 := List.length_pos_iff.2 (decDig_pos (v / 10))
    rw [List.length_append, List.length_singleton, List.length_singleton] at h1
    omega
  ·rename_i hu
   split at h
   ·exfalso
    have h1 := congrArg List.length h
    have h2 := List.length_pos_iff.2 (decDig_pos (u / 10))
    rw [List.length_append, List.length_singleton, List.length_singleton] at h1
    omega
   ·obtain ⟨h1, h2⟩ := List.append_inj' h rfl
    have h3 := ih (u / 10) (by omega) _ h1
    have h4 := ofNat_dig (by omega) (by omega) (List.cons.inj h2).1
    omega
theorem decDig_ge : ∀ (u : Nat), ∀ c ∈ Lib.decDigits u, c ≠ 45 := by
 intro u
 induction u using Nat.strongRecOn with
 | _ u ih =>
  intro c hc
  rw [Lib.decDigits] at hc
  have hd : ∀ a : Nat, a < 10 → UInt8.ofNat (48 + a) ≠ 45 := by
   intro a ha h
   have := congrArg UInt8.toNat h
   simp at this
   omega
  split at hc
  ·rename_i hu
   rw [List.mem_singleton.1 hc]; exact hd u hu
  ·rcases List.mem_append.1 hc with h | h
   ·exact ih (u / 10) (by omega) c h
   ·rw [List.mem_singleton.1 h]; exact hd _ (by omega)
theorem decZ_inj {a b : Int} (h : decZ a = decZ b) : a = b := by
 unfold decZ decI at h
 have hh : ∀ (u v : Nat), [45] ++ Lib.decDigits u ≠ [] ++ Lib.decDigits v := by
  intro u v h
  have : (45 : UInt8) ∈ Lib.decDigits v := by
   have h2 : (45 : UInt8) ∈ [45] ++ Lib.decDigits u := by simp
   rw [h] at h2
   simpa using h2
  exact decDig_ge v _ this rfl
 by_cases ha : a < 0 <;> by_cases hb : b < 0
 ·simp [ha, hb] at h
  have := decDig_inj _ _ h
  omega
 ·simp only [ha, hb, decide_true, decide_false, Bool.false_eq_true, if_true, if_false] at h
  exact absurd h (hh _ _)
 ·simp only [ha, hb, decide_true, decide_false, Bool.false_eq_true, if_true, if_false] at h
  exact absurd h.symm (hh _ _)
 ·simp [ha, hb] at h
  have := decDig_inj _ _ h
  omega
end Go.Proofs.YtgihmikeapbpkaaGreatDoor
