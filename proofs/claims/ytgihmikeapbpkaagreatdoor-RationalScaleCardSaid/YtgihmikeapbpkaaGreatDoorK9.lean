/- Contracts of the functions that the statements reach, part 9: what was proved of each, callees first. -/
import Derived.Test.YtgihmikeapbpkaaGreatDoorK8
namespace Go.Proofs.YtgihmikeapbpkaaGreatDoor
open Go.RowKit
open AS (Keep NoInt)
set_option maxHeartbeats 3200000
set_option maxRecDepth 20000
theorem rtext_is {z : Int} {n : Nat} {a : Value} {w : World} {T : List UInt8} (h1 : PRef z n a w) (hn : n ≤ 1000000) (hT : decZ z = T) :
  Calls Tryz.prog 44 #[a] w fun e w' => e = .returned (.string ⟨T.toArray⟩) ∧ Below w.heap.size w w' := hT ▸ rtext_fact h1 hn
theorem rratText_int {x : Rat} {n : Nat} {v : Value} {w : World} (h : RRat x n v w) (hn5 : 5 ≤ n) (hn : n ≤ 10000) (hd : x.den = 1) (hT : decZ (x.den : Int) = [49]) :
  Calls Tryz.prog 64 #[v] w fun e w' => e = .returned (.string ⟨(ratText x).toArray⟩) ∧ Below w.heap.size w w' := by
 obtain ⟨k, A, l, c, k', A', l', c', rfl⟩ := h.open
 have H1 := Lib.hid h
 have HTT := Lib.hid hT
 clear h hT
 go_enter Tryz.func64, Tryz.ntmps64
 go_upto_region 1 with (fail)
 change Code.wp Tryz.prog _ _ _ (w.alloc (.cells #[.bool k, .slice A l c, .bool k', .slice A' l' c'] 35))
 obtain ⟨nb1, na⟩ := new1 w 35 [.bool k, .slice A l c, .bool k', .slice A' l' c'] lf4
 have nkeep := Keep.ofBelow na
 have nbel := na
 generalize w.alloc (.cells #[.bool k, .slice A l c, .bool k', .slice A' l' c'] 35) = W1 at *
 clear na
 have b1 := Lib.hid nb1
 clear nb1
 replace H1 := Lib.hid (H1.out.kept nkeep)
 clear nkeep
 have HB2 := Lib.hid nbel
 clear nbel
 obtain ⟨x10, x11, x12, x13, s1⟩ := b1.out.d4
 have szb := HB2.out.size
 go_wp2_with fail
 refine (rparts_fact H1.out hn5).mono ?_
 rintro e W3 ⟨k1, A1, l1, c1, j1, B1, o1, e1, rfl, ha_, hc_, hb⟩
 replace b1 := hup b1 hb
 replace H1 := Lib.hid (H1.out.kept (Keep.ofBelow hb))
 have nbel := below_then HB2.out hb HB2.out.size
 have HB4 := Lib.hid nbel
 clear nbel HB2 hb x10 x11 x12 x13 szb s1
 obtain ⟨x10, x11, x12, x13, s1⟩ := b1.out.d4
 have szb := HB4.out.size
 have HA := Lib.hid ha_
 have HB := Lib.hid hc_
 clear ha_ hc_
 go_upto_region 2 with (fail)
 have q5 := b1.out.lt
 change Code.wp Tryz.prog _ _ _ ((W3.alloc (.cells #[.bool k1, .slice A1 l1 c1] 33)).alloc (.cells #[.bool j1, .slice B1 o1 e1] 33))
 obtain ⟨nb3, nb4, na⟩ := new2 W3 33 [.bool k1, .slice A1 l1 c1] 33 [.bool j1, .slice B1 o1 e1] lf2 lf2
 have nb1 := b1.out.up na
 have nkeep := Keep.ofBelow na
 have nbel := below_then HB4.out na HB4.out.size
 generalize (W3.alloc (.cells #[.bool k1, .slice A1 l1 c1] 33)).alloc (.cells #[.bool j1, .slice B1 o1 e1] 33) = W6 at *
 clear na x10 x11 x12 x13 szb s1 b1
 have b1 := Lib.hid nb1
 have b3 := Lib.hid nb3
 have b4 := Lib.hid nb4
 clear nb1 nb3 nb4
 replace H1 := Lib.hid (H1.out.kept nkeep)
 replace HA := Lib.hid (HA.out.kept nkeep)
 replace HB := Lib.hid (HB.out.kept nkeep)
 clear nkeep
 have HB7 := Lib.hid nbel
 clear nbel HB4
 obtain ⟨x10, x11, x12, x13, s1⟩ := b1.out.d4
 obtain ⟨x30, x31, s3⟩ := b3.out.d2
 obtain ⟨x40, x41, s4⟩ := b4.out.d2
 have szb := HB7.out.size
 go_wp2_with fail
 refine (rtext_is HB.out (by omega) HTT.out).mono ?_
 rintro e W8 ⟨rfl, hb⟩
 replace b1 := hup b1 hb
 replace b3 := hup b3 hb
 replace b4 := hup b4 hb
 replace H1 := Lib.hid (H1.out.kept (Keep.ofBelow hb))
 replace HA := Lib.hid (HA.out.kept (Keep.ofBelow hb))
 replace HB := Lib.hid (HB.out.kept (Keep.ofBelow hb))
 have nbel := below_then HB7.out hb HB7.out.size
 have HB9 := Lib.hid nbel
 clear nbel HB7 hb x10 x11 x12 x13 x30 x31 x40 x41 szb s1 s3 s4
 obtain ⟨x10, x11, x12, x13, s1⟩ := b1.out.d4
 obtain ⟨x30, x31, s3⟩ := b3.out.d2
 obtain ⟨x40, x41, s4⟩ := b4.out.d2
 have szb := HB9.out.size
 go_wp2_with fail
 refine (rtext_fact HA.out (by omega)).mono ?_
 rintro e W10 ⟨rfl, hb⟩
 replace b1 := hup b1 hb
 replace b3 := hup b3 hb
 replace b4 := hup b4 hb
 replace H1 := Lib.hid (H1.out.kept (Keep.ofBelow hb))
 replace HA := Lib.hid (HA.out.kept (Keep.ofBelow hb))
 replace HB := Lib.hid (HB.out.kept (Keep.ofBelow hb))
 have nbel := below_then HB9.out hb HB9.out.size
 have HB11 := Lib.hid nbel
 clear nbel HB9 hb x10 x11 x12 x13 x30 x31 x40 x41 szb s1 s3 s4
 obtain ⟨x10, x11, x12, x13, s1⟩ := b1.out.d4
 obtain ⟨x30, x31, s3⟩ := b3.out.d2
 obtain ⟨x40, x41, s4⟩ := b4.out.d2
 have szb := HB11.out.size
 go_wp2_with fail
 have hkeep := (Keep.refl W10)
 have hbel := HB11.out
 refine bodyPost_ret (v := .string ⟨(decZ x.num).toArray⟩) (by simp [results, Tryz.results64, go_sem]) rfl ⟨by unfold ratText; rw [if_pos hd], hbel⟩
def rtextFL3 (x : Rat) (n : Nat) : List (Nat × AS.Fact) := [(15, AS.Fact.ref (x.num) n), (16, AS.Fact.is (.string ⟨(decZ (x.num)).toArray⟩)), (17, AS.Fact.is (.string ⟨(decZ x.num ++ [47]).toArray⟩)), (18, AS.Fact.ref ((x.den : Int)) n), (19, AS.Fact.is (.string ⟨(decZ ((x.den : Int))).toArray⟩)), (20, AS.Fact.is (.string ⟨(decZ x.num ++ 47 :: decZ (x.den : Int)).toArray⟩)), (2, AS.Fact.is (.string ⟨(decZ x.num ++ 47 :: decZ (x.den : Int)).toArray⟩))]
theorem rratText_quo {x : Rat} {n : Nat} {v : Value} {w : World} (h : RRat x n v w) (hn5 : 5 ≤ n) (hn : n ≤ 10000) (hd : x.den ≠ 1) {T : List UInt8} (hT : decZ (x.den : Int) = T) (hne : (T == [49]) = false) :
  Calls Tryz.prog 64 #[v] w fun e w' => e = .returned (.string ⟨(ratText x).toArray⟩) ∧ Below w.heap.size w w' := by
 obtain ⟨k, A, l, c, k', A', l', c', rfl⟩ := h.open
 have H1 := Lib.hid h
 have HTT := Lib.hid hT
 clear h hT
 go_enter Tryz.func64, Tryz.ntmps64
 go_upto_region 1 with (fail)
 change Code.wp Tryz.prog _ _ _ (w.alloc (.cells #[.bool k, .slice A l c, .bool k', .slice A' l' c'] 35))
 obtain ⟨nb1, na⟩ := new1 w 35 [.bool k, .slice A l c, .bool k', .slice A' l' c'] lf4
 have nkeep := Keep.ofBelow na
 have nbel := na
 generalize w.alloc (.cells #[.bool k, .slice A l c, .bool k', .slice A' l' c'] 35) = W1 at *
 clear na
 have b1 := Lib.hid nb1
 clear nb1
 replace H1 := Lib.hid (H1.out.kept nkeep)
 clear nkeep
 have HB2 := Lib.hid nbel
 clear nbel
 obtain ⟨x10, x11, x12, x13, s1⟩ := b1.out.d4
 have szb := HB2.out.size
 go_wp2_with fail
 refine (rparts_fact H1.out hn5).mono ?_
 rintro e W3 ⟨k1, A1, l1, c1, j1, B1, o1, e1, rfl, ha_, hc_, hb⟩
 replace b1 := hup b1 hb
 replace H1 := Lib.hid (H1.out.kept (Keep.ofBelow hb))
 have nbel := below_then HB2.out hb HB2.out.size
 have HB4 := Lib.hid nbel
 clear nbel HB2 hb x10 x11 x12 x13 szb s1
 obtain ⟨x10, x11, x12, x13, s1⟩ := b1.out.d4
 have szb := HB4.out.size
 have HA := Lib.hid ha_
 have HB := Lib.hid hc_
 clear ha_ hc_
 go_upto_region 2 with (fail)
 have q5 := b1.out.lt
 change Code.wp Tryz.prog _ _ _ ((W3.alloc (.cells #[.bool k1, .slice A1 l1 c1] 33)).alloc (.cells #[.bool j1, .slice B1 o1 e1] 33))
 obtain ⟨nb3, nb4, na⟩ := new2 W3 33 [.bool k1, .slice A1 l1 c1] 33 [.bool j1, .slice B1 o1 e1] lf2 lf2
 have nb1 := b1.out.up na
 have nkeep := Keep.ofBelow na
 have nbel := below_then HB4.out na HB4.out.size
 generalize (W3.alloc (.cells #[.bool k1, .slice A1 l1 c1] 33)).alloc (.cells #[.bool j1, .slice B1 o1 e1] 33) = W6 at *
 clear na x10 x11 x12 x13 szb s1 b1
 have b1 := Lib.hid nb1
 have b3 := Lib.hid nb3
 have b4 := Lib.hid nb4
 clear nb1 nb3 nb4
 replace H1 := Lib.hid (H1.out.kept nkeep)
 replace HA := Lib.hid (HA.out.kept nkeep)
 replace HB := Lib.hid (HB.out.kept nkeep)
 clear nkeep
 have HB7 := Lib.hid nbel
 clear nbel HB4
 obtain ⟨x10, x11, x12, x13, s1⟩ := b1.out.d4
 obtain ⟨x30, x31, s3⟩ := b3.out.d2
 obtain ⟨x40, x41, s4⟩ := b4.out.d2
 have szb := HB7.out.size
 go_wp2_with fail
 refine (rtext_is HB.out (by omega) HTT.out).mono ?_
 rintro e W8 ⟨rfl, hb⟩
 replace b1 := hup b1 hb
 replace b3 := hup b3 hb
 replace b4 := hup b4 hb
 replace H1 := Lib.hid (H1.out.kept (Keep.ofBelow hb))
 replace HA := Lib.hid (HA.out.kept (Keep.ofBelow hb))
 replace HB := Lib.hid (HB.out.kept (Keep.ofBelow hb))
 have nbel := below_then HB7.out hb HB7.out.size
 have HB9 := Lib.hid nbel
 clear nbel HB7 hb x10 x11 x12 x13 x30 x31 x40 x41 szb s1 s3 s4
 obtain ⟨x10, x11, x12, x13, s1⟩ := b1.out.d4
 obtain ⟨x30, x31, s3⟩ := b3.out.d2
 obtain ⟨x40, x41, s4⟩ := b4.out.d2
 have szb := HB9.out.size
 have HL1 := Lib.hid (decZ_lenR HA.out)
 have HL2 := Lib.hid (decZ_lenR HB.out)
 go_upto_region 4 with (fail)
 refine AS.region_facts (rtextFL3 x n) (JNo W8) [[], [15], [16], [], [18], [17, 19], [20]] [] [[]] [0, 0, 0, 0, 0, 0, 0] [] (fun u => by simp only [rtextFL3, AS.temps, List.map_cons, List.map_nil, fillL, List.setIfInBounds_toArray, List.set_cons_zero, List.set_cons_succ]; rfl) (by kernel_rfl) (by kernel_rfl) (JNo.st W8) (below_drew (Below.refl _ _)) ?_ ?_
 ·refine AS.sc rfl rfl rfl ?_ ?_
  ·intro k_ u w_ hk hJ hF K hK
   clear hF
   obtain rfl : k_ = 0 := Nat.le_zero.1 hk
   have hJ0 : Below W8.heap.size W8 w_ := hJ
   obtain ⟨y0, y1⟩ := ((b3.out).up hJ0).c2
   go_simp
   exact hK.out _ _ (Below.refl _ _) ((HA.out).kept (Keep.ofBelow hJ0)) trivial
  refine AS.sc rfl rfl rfl ?_ ?_
  ·intro k_ u w_ hk hJ hF K hK
   have h15 : PRef (x.num) n (u 15) w_ := AS.facts_get hF 15 (by simp)
   clear hF
   go_simp
   refine (rtext_fact h15 (by omega)).mono ?_
   rintro e w' ⟨rfl, hb⟩
   exact hK.out _ _ hb (rfl) trivial
  refine AS.sc rfl rfl rfl ?_ ?_
  ·intro k_ u w_ hk hJ hF K hK
   have h16 : u 16 = .string ⟨(decZ (x.num)).toArray⟩ := AS.facts_get hF 16 (by simp)
   clear hF
   simp only [h16] at hK ⊢
   clear h16
   have hz1 := run_string_add_lists (P := Tryz.prog) w_ (decZ x.num) [47] (by have := HL1.out; omega) (by simp)
   go_simp
   exact hK.out _ _ (Below.refl _ _) (rfl) trivial
  refine AS.sc rfl rfl rfl ?_ ?_
  ·intro k_ u w_ hk hJ hF K hK
   clear hF
   obtain rfl : k_ = 0 := Nat.le_zero.1 hk
   have hJ0 : Below W8.heap.size W8 w_ := hJ
   obtain ⟨y0, y1⟩ := ((b4.out).up hJ0).c2
   go_simp
   exact hK.out _ _ (Below.refl _ _) ((HB.out).kept (Keep.ofBelow hJ0)) trivial
  refine AS.sc rfl rfl rfl ?_ ?_
  ·intro k_ u w_ hk hJ hF K hK
   have h18 : PRef ((x.den : Int)) n (u 18) w_ := AS.facts_get hF 18 (by simp)
   clear hF
   go_simp
   refine (rtext_fact h18 (by omega)).mono ?_
   rintro e w' ⟨rfl, hb⟩
   exact hK.out _ _ hb (rfl) trivial
  refine AS.sc rfl rfl rfl ?_ ?_
  ·intro k_ u w_ hk hJ hF K hK
   have h17 : u 17 = .string ⟨(decZ x.num ++ [47]).toArray⟩ := AS.facts_get hF 17 (by simp)
   have h19 : u 19 = .string ⟨(decZ ((x.den : Int))).toArray⟩ := AS.facts_get hF 19 (by simp)
   clear hF
   simp only [h17, h19] at hK ⊢
   clear h17 h19
   have hz1 := run_string_add_lists (P := Tryz.prog) w_ (decZ x.num ++ [47]) (decZ (x.den : Int)) (by have := HL1.out; rw [List.length_append]; simp; omega) (by have := HL2.out; omega)
   go_simp
   exact hK.out _ _ (Below.refl _ _) (rfl) trivial
  refine AS.sc rfl rfl rfl ?_ ?_
  ·intro k_ u w_ hk hJ hF K hK
   have h20 : u 20 = .string ⟨(decZ x.num ++ 47 :: decZ (x.den : Int)).toArray⟩ := AS.facts_get hF 20 (by simp)
   clear hF
   simp only [h20] at hK ⊢
   clear h20
   go_simp
   exact hK.out _ _ (Below.refl _ _) (rfl) trivial
  exact AS.StepsOk.nil
 ·intro u W10 hJ9 hF
  have h2 : u 2 = .string ⟨(decZ x.num ++ 47 :: decZ (x.den : Int)).toArray⟩ := AS.facts_get hF 2 (by simp [rtextFL3, AS.temps])
  clear hF
  rw [show u 2 = _ from h2]
  clear h2
  replace b1 := hup b1 hJ9
  replace b3 := hup b3 hJ9
  replace b4 := hup b4 hJ9
  replace H1 := Lib.hid (H1.out.kept (Keep.ofBelow hJ9))
  replace HA := Lib.hid (HA.out.kept (Keep.ofBelow hJ9))
  replace HB := Lib.hid (HB.out.kept (Keep.ofBelow hJ9))
  have nbel := below_then HB9.out hJ9 HB9.out.size
  have HB11 := Lib.hid nbel
  clear nbel HB9 hJ9 x10 x11 x12 x13 x30 x31 x40 x41 szb s1 s3 s4
  obtain ⟨x10, x11, x12, x13, s1⟩ := b1.out.d4
  obtain ⟨x30, x31, s3⟩ := b3.out.d2
  obtain ⟨x40, x41, s4⟩ := b4.out.d2
  have szb := HB11.out.size
  go_wp2_with fail
  have hkeep := (Keep.refl W10)
  have hbel := HB11.out
  refine bodyPost_ret (v := .string ⟨(decZ x.num ++ 47 :: decZ (x.den : Int)).toArray⟩) (by simp [results, Tryz.results64, go_sem]) rfl ⟨by unfold ratText; rw [if_neg hd], hbel⟩
theorem rratText_fact {x : Rat} {n : Nat} {v : Value} {w : World} (h : RRat x n v w) (hn5 : 5 ≤ n) (hn : n ≤ 10000) :
  Calls Tryz.prog 64 #[v] w fun e w' => e = .returned (.string ⟨(ratText x).toArray⟩) ∧ Below w.heap.size w w' := by
 have h1 : decZ 1 = [49] := by decide +kernel
 by_cases hd : x.den = 1
 ·exact rratText_int h hn5 hn hd (by rw [hd]; exact h1)
 ·refine rratText_quo h hn5 hn hd rfl ?_
  simp only [beq_eq_false_iff_ne, ne_eq]
  intro h2
  rw [← h1] at h2
  have := decZ_inj h2
  omega
set_option maxHeartbeats 3200000
set_option maxRecDepth 20000
def RRatOk (x : Rat) (n : Nat) (v : Value) (w : World) : Prop := ∃ v0, v = .tuple #[v0, .int .i64 0] ∧ RRat x n v0 w
theorem rnew_pos {p q : Int} {n : Nat} {k : Bool} {A : Option Addr} {l c : Nat} {k' : Bool} {A' : Option Addr} {l' c' : Nat} {w : World} (h1 : PRef p n (.agg #[.bool k, .slice A l c]) w) (h2 : PRef q n (.agg #[.bool k', .slice A' l' c']) w) (hn : n ≤ 20000) (hlt : 0 < q) (hc : cmpI q 0 = 1) (hq : q ≠ 0) (hne : (Int.gcd p q : Int) ≠ 0) :
  Calls Tryz.prog 74 #[.agg #[.bool k, .slice A l c], .agg #[.bool k', .slice A' l' c']] w fun e w' => ∃ v, e = .returned (.tuple #[v, .int .i64 0]) ∧ RRat (Rat.divInt p q) n v w' ∧ Below w.heap.size w w' := by
 have H1 := Lib.hid h1
 have H2 := Lib.hid h2
 clear h1 h2
 go_enter Tryz.func74, Tryz.ntmps74
 go_upto_region 1 with (fail)
 change Code.wp Tryz.prog _ _ _ (((w.alloc (.cells #[.bool k, .slice A l c] 33)).alloc (.cells #[.bool k', .slice A' l' c'] 33)).alloc (.cells #[.bool false, .slice none 0 0, .bool false, .slice none 0 0] 35))
 obtain ⟨nb2, nb3, nb4, na⟩ := new3 w 33 [.bool k, .slice A l c] 33 [.bool k', .slice A' l' c'] 35 [.bool false, .slice none 0 0, .bool false, .slice none 0 0] lf2 lf2 lf4
 have nkeep := Keep.ofBelow na
 have nbel := na
 generalize ((w.alloc (.cells #[.bool k, .slice A l c] 33)).alloc (.cells #[.bool k', .slice A' l' c'] 33)).alloc (.cells #[.bool false, .slice none 0 0, .bool false, .slice none 0 0] 35) = W1 at *
 clear na
 have b2 := Lib.hid nb2
 have b3 := Lib.hid nb3
 have b4 := Lib.hid nb4
 clear nb2 nb3 nb4
 replace H1 := Lib.hid (H1.out.kept nkeep)
 replace H2 := Lib.hid (H2.out.kept nkeep)
 clear nkeep
 have HB2 := Lib.hid nbel
 clear nbel
 obtain ⟨x2_0, x2_1, z2_0, z2_1, s2⟩ := b2.out.e2
 obtain ⟨x3_0, x3_1, z3_0, z3_1, s3⟩ := b3.out.e2
 obtain ⟨x4_0, x4_1, x4_2, x4_3, z4_0, z4_1, z4_2, z4_3, s4⟩ := b4.out.e4
 have szb := HB2.out.size
 go_wp2_with fail
 refine (rsign_is H2.out hc).mono ?_
 rintro e W3 ⟨rfl, hb⟩
 replace b2 := hup b2 hb
 replace b3 := hup b3 hb
 replace b4 := hup b4 hb
 replace H1 := Lib.hid (H1.out.kept (Keep.ofBelow hb))
 replace H2 := Lib.hid (H2.out.kept (Keep.ofBelow hb))
 have nbel := below_then HB2.out hb HB2.out.size
 have HB4 := Lib.hid nbel
 clear nbel HB2 hb x2_0 x2_1 z2_0 z2_1 x3_0 x3_1 z3_0 z3_1 x4_0 x4_1 x4_2 x4_3 z4_0 z4_1 z4_2 z4_3 szb s2 s3 s4
 obtain ⟨x2_0, x2_1, z2_0, z2_1, s2⟩ := b2.out.e2
 obtain ⟨x3_0, x3_1, z3_0, z3_1, s3⟩ := b3.out.e2
 obtain ⟨x4_0, x4_1, x4_2, x4_3, z4_0, z4_1, z4_2, z4_3, s4⟩ := b4.out.e4
 have szb := HB4.out.size
 go_wp2_with fail
 refine (rsign_is H2.out hc).mono ?_
 rintro e W5 ⟨rfl, hb⟩
 replace b2 := hup b2 hb
 replace b3 := hup b3 hb
 replace b4 := hup b4 hb
 replace H1 := Lib.hid (H1.out.kept (Keep.ofBelow hb))
 replace H2 := Lib.hid (H2.out.kept (Keep.ofBelow hb))
 have nbel := below_then HB4.out hb HB4.out.size
 have HB6 := Lib.hid nbel
 clear nbel HB4 hb x2_0 x2_1 z2_0 z2_1 x3_0 x3_1 z3_0 z3_1 x4_0 x4_1 x4_2 x4_3 z4_0 z4_1 z4_2 z4_3 szb s2 s3 s4
 obtain ⟨x2_0, x2_1, z2_0, z2_1, s2⟩ := b2.out.e2
 obtain ⟨x3_0, x3_1, z3_0, z3_1, s3⟩ := b3.out.e2
 obtain ⟨x4_0, x4_1, x4_2, x4_3, z4_0, z4_1, z4_2, z4_3, s4⟩ := b4.out.e4
 have szb := HB6.out.size
 go_wp2_with fail
 refine (rgcd_fact H1.out H2.out (by omega) (by omega)).mono ?_
 rintro e W7 ⟨v1, rfl, hv1, hb⟩
 replace b2 := hup b2 hb
 replace b3 := hup b3 hb
 replace b4 := hup b4 hb
 replace H1 := Lib.hid (H1.out.kept (Keep.ofBelow hb))
 replace H2 := Lib.hid (H2.out.kept (Keep.ofBelow hb))
 have nbel := below_then HB6.out hb HB6.out.size
 have HB8 := Lib.hid nbel
 clear nbel HB6 hb x2_0 x2_1 z2_0 z2_1 x3_0 x3_1 z3_0 z3_1 x4_0 x4_1 x4_2 x4_3 z4_0 z4_1 z4_2 z4_3 szb s2 s3 s4
 obtain ⟨x2_0, x2_1, z2_0, z2_1, s2⟩ := b2.out.e2
 obtain ⟨x3_0, x3_1, z3_0, z3_1, s3⟩ := b3.out.e2
 obtain ⟨x4_0, x4_1, x4_2, x4_3, z4_0, z4_1, z4_2, z4_3, s4⟩ := b4.out.e4
 have szb := HB8.out.size
 obtain ⟨k5, A5, l5, c5, rfl⟩ := hv1.open
 have HG := Lib.hid hv1
 clear hv1
 go_upto_region 6 with (fail)
 have q9 := b2.out.lt
 have q10 := b3.out.lt
 have q11 := b4.out.lt
 change Code.wp Tryz.prog _ _ _ (W7.alloc (.cells #[.bool k5, .slice A5 l5 c5] 33))
 obtain ⟨nb6, na⟩ := new1 W7 33 [.bool k5, .slice A5 l5 c5] lf2
 have nb2 := b2.out.up na
 have nb3 := b3.out.up na
 have nb4 := b4.out.up na
 have nkeep := Keep.ofBelow na
 have nbel := below_then HB8.out na HB8.out.size
 generalize W7.alloc (.cells #[.bool k5, .slice A5 l5 c5] 33) = W12 at *
 clear na x2_0 x2_1 z2_0 z2_1 x3_0 x3_1 z3_0 z3_1 x4_0 x4_1 x4_2 x4_3 z4_0 z4_1 z4_2 z4_3 szb s2 s3 s4 b2 b3 b4
 have b2 := Lib.hid nb2
 have b3 := Lib.hid nb3
 have b4 := Lib.hid nb4
 have b6 := Lib.hid nb6
 clear nb2 nb3 nb4 nb6
 replace H1 := Lib.hid (H1.out.kept nkeep)
 replace H2 := Lib.hid (H2.out.kept nkeep)
 replace HG := Lib.hid (HG.out.kept nkeep)
 clear nkeep
 have HB13 := Lib.hid nbel
 clear nbel HB8
 obtain ⟨x2_0, x2_1, z2_0, z2_1, s2⟩ := b2.out.e2
 obtain ⟨x3_0, x3_1, z3_0, z3_1, s3⟩ := b3.out.e2
 obtain ⟨x4_0, x4_1, x4_2, x4_3, z4_0, z4_1, z4_2, z4_3, s4⟩ := b4.out.e4
 obtain ⟨x6_0, x6_1, s6⟩ := b6.out.d2
 have szb := HB13.out.size
 go_wp2_with fail
 refine (rquo_fact H1.out HG.out (by omega) (by omega) hne).mono ?_
 rintro e W14 ⟨k6, A6, l6, c6, k7, A7, l7, c7, rfl, hv3, hb⟩
 replace b2 := hup b2 hb
 replace b3 := hup b3 hb
 replace b4 := hup b4 hb
 replace b6 := hup b6 hb
 replace H1 := Lib.hid (H1.out.kept (Keep.ofBelow hb))
 replace H2 := Lib.hid (H2.out.kept (Keep.ofBelow hb))
 replace HG := Lib.hid (HG.out.kept (Keep.ofBelow hb))
 have nbel := below_then HB13.out hb HB13.out.size
 have HB15 := Lib.hid nbel
 clear nbel HB13 hb x2_0 x2_1 z2_0 z2_1 x3_0 x3_1 z3_0 z3_1 x4_0 x4_1 x4_2 x4_3 z4_0 z4_1 z4_2 z4_3 x6_0 x6_1 szb s2 s3 s4 s6
 obtain ⟨x2_0, x2_1, z2_0, z2_1, s2⟩ := b2.out.e2
 obtain ⟨x3_0, x3_1, z3_0, z3_1, s3⟩ := b3.out.e2
 obtain ⟨x4_0, x4_1, x4_2, x4_3, z4_0, z4_1, z4_2, z4_3, s4⟩ := b4.out.e4
 obtain ⟨x6_0, x6_1, s6⟩ := b6.out.d2
 have szb := HB15.out.size
 have HN := Lib.hid hv3
 clear hv3
 go_upto_region 7 with (fail)
 change Code.wp Tryz.prog _ _ _ ((W14.setCell ⟨w.heap.size, 0, none⟩ (.bool k6)).setCell ⟨w.heap.size, 1, none⟩ (.slice A6 l6 c6))
 have nb2 : Bx 33 ((W14.setCell ⟨w.heap.size, 0, none⟩ (.bool k6)).setCell ⟨w.heap.size, 1, none⟩ (.slice A6 l6 c6)) w.heap.size [.bool k6, .slice A6 l6 c6] := (Bx.set2 b2.out (Leaf.bool k6) (Leaf.slice A6 l6 c6))
 have nb3 : Bx 33 ((W14.setCell ⟨w.heap.size, 0, none⟩ (.bool k6)).setCell ⟨w.heap.size, 1, none⟩ (.slice A6 l6 c6)) (w.heap.size + 1) [.bool k', .slice A' l' c'] := (Bx.far2 (g' := w.heap.size) b3.out (by omega) (.bool k6) (.slice A6 l6 c6))
 have nb4 : Bx 35 ((W14.setCell ⟨w.heap.size, 0, none⟩ (.bool k6)).setCell ⟨w.heap.size, 1, none⟩ (.slice A6 l6 c6)) (w.heap.size + 1 + 1) [.bool false, .slice none 0 0, .bool false, .slice none 0 0] := (Bx.far2 (g' := w.heap.size) b4.out (by omega) (.bool k6) (.slice A6 l6 c6))
 have nb6 : Bx 33 ((W14.setCell ⟨w.heap.size, 0, none⟩ (.bool k6)).setCell ⟨w.heap.size, 1, none⟩ (.slice A6 l6 c6)) W7.heap.size [.bool k5, .slice A5 l5 c5] := (Bx.far2 (g' := w.heap.size) b6.out (by omega) (.bool k6) (.slice A6 l6 c6))
 have nkeep := (Keep.set2 (Keep.refl W14) b2.out (Leaf.bool k6) (Leaf.slice A6 l6 c6))
 have nbel : Below w.heap.size w ((W14.setCell ⟨w.heap.size, 0, none⟩ (.bool k6)).setCell ⟨w.heap.size, 1, none⟩ (.slice A6 l6 c6)) := (Below.set2 (g := w.heap.size) HB15.out (by first | omega | (simp; done) | (simp; omega)) (.bool k6) (.slice A6 l6 c6))
 generalize (W14.setCell ⟨w.heap.size, 0, none⟩ (.bool k6)).setCell ⟨w.heap.size, 1, none⟩ (.slice A6 l6 c6) = W16 at *
 clear x2_0 x2_1 z2_0 z2_1 x3_0 x3_1 z3_0 z3_1 x4_0 x4_1 x4_2 x4_3 z4_0 z4_1 z4_2 z4_3 x6_0 x6_1 szb s2 s3 s4 s6 b2 b3 b4 b6
 have b2 := Lib.hid nb2
 have b3 := Lib.hid nb3
 have b4 := Lib.hid nb4
 have b6 := Lib.hid nb6
 clear nb2 nb3 nb4 nb6
 replace H1 := Lib.hid (H1.out.kept nkeep)
 replace H2 := Lib.hid (H2.out.kept nkeep)
 replace HG := Lib.hid (HG.out.kept nkeep)
 replace HN := Lib.hid (HN.out.kept nkeep)
 clear nkeep
 have HB17 := Lib.hid nbel
 clear nbel HB15
 obtain ⟨x2_0, x2_1, z2_0, z2_1, s2⟩ := b2.out.e2
 obtain ⟨x3_0, x3_1, z3_0, z3_1, s3⟩ := b3.out.e2
 obtain ⟨x4_0, x4_1, x4_2, x4_3, z4_0, z4_1, z4_2, z4_3, s4⟩ := b4.out.e4
 obtain ⟨x6_0, x6_1, s6⟩ := b6.out.d2
 have szb := HB17.out.size
 go_wp2_with fail
 refine (rquo_fact H2.out HG.out (by omega) (by omega) hne).mono ?_
 rintro e W18 ⟨k8, A8, l8, c8, k9, A9, l9, c9, rfl, hv3, hb⟩
 replace b2 := hup b2 hb
 replace b3 := hup b3 hb
 replace b4 := hup b4 hb
 replace b6 := hup b6 hb
 replace H1 := Lib.hid (H1.out.kept (Keep.ofBelow hb))
 replace H2 := Lib.hid (H2.out.kept (Keep.ofBelow hb))
 replace HG := Lib.hid (HG.out.kept (Keep.ofBelow hb))
 replace HN := Lib.hid (HN.out.kept (Keep.ofBelow hb))
 have nbel := below_then HB17.out hb HB17.out.size
 have HB19 := Lib.hid nbel
 clear nbel HB17 hb x2_0 x2_1 z2_0 z2_1 x3_0 x3_1 z3_0 z3_1 x4_0 x4_1 x4_2 x4_3 z4_0 z4_1 z4_2 z4_3 x6_0 x6_1 szb s2 s3 s4 s6
 obtain ⟨x2_0, x2_1, z2_0, z2_1, s2⟩ := b2.out.e2
 obtain ⟨x3_0, x3_1, z3_0, z3_1, s3⟩ := b3.out.e2
 obtain ⟨x4_0, x4_1, x4_2, x4_3, z4_0, z4_1, z4_2, z4_3, s4⟩ := b4.out.e4
 obtain ⟨x6_0, x6_1, s6⟩ := b6.out.d2
 have szb := HB19.out.size
 have HD := Lib.hid hv3
 clear hv3
 go_upto_region 8 with (fail)
 change Code.wp Tryz.prog _ _ _ ((W18.setCell ⟨w.heap.size + 1, 0, none⟩ (.bool k8)).setCell ⟨w.heap.size + 1, 1, none⟩ (.slice A8 l8 c8))
 have nb2 : Bx 33 ((W18.setCell ⟨w.heap.size + 1, 0, none⟩ (.bool k8)).setCell ⟨w.heap.size + 1, 1, none⟩ (.slice A8 l8 c8)) w.heap.size [.bool k6, .slice A6 l6 c6] := (Bx.far2 (g' := w.heap.size + 1) b2.out (by omega) (.bool k8) (.slice A8 l8 c8))
 have nb3 : Bx 33 ((W18.setCell ⟨w.heap.size + 1, 0, none⟩ (.bool k8)).setCell ⟨w.heap.size + 1, 1, none⟩ (.slice A8 l8 c8)) (w.heap.size + 1) [.bool k8, .slice A8 l8 c8] := (Bx.set2 b3.out (Leaf.bool k8) (Leaf.slice A8 l8 c8))
 have nb4 : Bx 35 ((W18.setCell ⟨w.heap.size + 1, 0, none⟩ (.bool k8)).setCell ⟨w.heap.size + 1, 1, none⟩ (.slice A8 l8 c8)) (w.heap.size + 1 + 1) [.bool false, .slice none 0 0, .bool false, .slice none 0 0] := (Bx.far2 (g' := w.heap.size + 1) b4.out (by omega) (.bool k8) (.slice A8 l8 c8))
 have nb6 : Bx 33 ((W18.setCell ⟨w.heap.size + 1, 0, none⟩ (.bool k8)).setCell ⟨w.heap.size + 1, 1, none⟩ (.slice A8 l8 c8)) W7.heap.size [.bool k5, .slice A5 l5 c5] := (Bx.far2 (g' := w.heap.size + 1) b6.out (by omega) (.bool k8) (.slice A8 l8 c8))
 have nkeep := (Keep.set2 (Keep.refl W18) b3.out (Leaf.bool k8) (Leaf.slice A8 l8 c8))
 have nbel : Below w.heap.size w ((W18.setCell ⟨w.heap.size + 1, 0, none⟩ (.bool k8)).setCell ⟨w.heap.size + 1, 1, none⟩ (.slice A8 l8 c8)) := (Below.set2 (g := w.heap.size + 1) HB19.out (by first | omega | (simp; done) | (simp; omega)) (.bool k8) (.slice A8 l8 c8))
 generalize (W18.setCell ⟨w.heap.size + 1, 0, none⟩ (.bool k8)).setCell ⟨w.heap.size + 1, 1, none⟩ (.slice A8 l8 c8) = W20 at *
 clear x2_0 x2_1 z2_0 z2_1 x3_0 x3_1 z3_0 z3_1 x4_0 x4_1 x4_2 x4_3 z4_0 z4_1 z4_2 z4_3 x6_0 x6_1 szb s2 s3 s4 s6 b2 b3 b4 b6
 have b2 := Lib.hid nb2
 have b3 := Lib.hid nb3
 have b4 := Lib.hid nb4
 have b6 := Lib.hid nb6
 clear nb2 nb3 nb4 nb6
 replace H1 := Lib.hid (H1.out.kept nkeep)
 replace H2 := Lib.hid (H2.out.kept nkeep)
 replace HG := Lib.hid (HG.out.kept nkeep)
 replace HN := Lib.hid (HN.out.kept nkeep)
 replace HD := Lib.hid (HD.out.kept nkeep)
 clear nkeep
 have HB21 := Lib.hid nbel
 clear nbel HB19
 obtain ⟨x2_0, x2_1, z2_0, z2_1, s2⟩ := b2.out.e2
 obtain ⟨x3_0, x3_1, z3_0, z3_1, s3⟩ := b3.out.e2
 obtain ⟨x4_0, x4_1, x4_2, x4_3, z4_0, z4_1, z4_2, z4_3, s4⟩ := b4.out.e4
 obtain ⟨x6_0, x6_1, s6⟩ := b6.out.d2
 have szb := HB21.out.size
 go_wp2_with fail
 have hkeep := (Keep.set4 (Keep.refl W20) b4.out (Leaf.bool k6) (Leaf.slice A6 l6 c6) (Leaf.bool k8) (Leaf.slice A8 l8 c8))
 have hbel := (Below.set4 (g := w.heap.size + 1 + 1) HB21.out (by first | omega | (simp; done) | (simp; omega)) (.bool k6) (.slice A6 l6 c6) (.bool k8) (.slice A8 l8 c8))
 refine bodyPost_ret (v := .tuple #[.agg #[.bool k6, .slice A6 l6 c6, .bool k8, .slice A8 l8 c8], .int .i64 0]) (by simp [results, Tryz.results74, go_sem, x4_0, x4_1, x4_2, x4_3]) rfl ⟨_, rfl, RRat.mk (HN.out.kept hkeep) (HD.out.kept hkeep) (by rw [← red_num hq]; unfold divr; rw [if_neg (by omega)]) (by rw [← red_den hq]; unfold divr; rw [if_neg (by omega)]), hbel⟩
def rnewFL (p q : Int) (n : Nat) : List (Nat × AS.Fact) := [(14, AS.Fact.ref (p) n), (15, AS.Fact.ref (-(p)) n), (16, AS.Fact.ref (q) n), (17, AS.Fact.ref (-(q)) n)]
theorem rnew_neg {p q : Int} {n : Nat} {k : Bool} {A : Option Addr} {l c : Nat} {k' : Bool} {A' : Option Addr} {l' c' : Nat} {w : World} (h1 : PRef p n (.agg #[.bool k, .slice A l c]) w) (h2 : PRef q n (.agg #[.bool k', .slice A' l' c']) w) (hn : n ≤ 20000) (hlt : q < 0) (hc : cmpI q 0 = -1) (hq : q ≠ 0) (hne : (Int.gcd (-p) (-q) : Int) ≠ 0) :
  Calls Tryz.prog 74 #[.agg #[.bool k, .slice A l c], .agg #[.bool k', .slice A' l' c']] w fun e w' => ∃ v, e = .returned (.tuple #[v, .int .i64 0]) ∧ RRat (Rat.divInt p q) n v w' ∧ Below w.heap.size w w' := by
 have H1 := Lib.hid h1
 have H2 := Lib.hid h2
 clear h1 h2
 go_enter Tryz.func74, Tryz.ntmps74
 go_upto_region 1 with (fail)
 change Code.wp Tryz.prog _ _ _ (((w.alloc (.cells #[.bool k, .slice A l c] 33)).alloc (.cells #[.bool k', .slice A' l' c'] 33)).alloc (.cells #[.bool false, .slice none 0 0, .bool false, .slice none 0 0] 35))
 obtain ⟨nb2, nb3, nb4, na⟩ := new3 w 33 [.bool k, .slice A l c] 33 [.bool k', .slice A' l' c'] 35 [.bool false, .slice none 0 0, .bool false, .slice none 0 0] lf2 lf2 lf4
 have nkeep := Keep.ofBelow na
 have nbel := na
 generalize ((w.alloc (.cells #[.bool k, .slice A l c] 33)).alloc (.cells #[.bool k', .slice A' l' c'] 33)).alloc (.cells #[.bool false, .slice none 0 0, .bool false, .slice none 0 0] 35) = W1 at *
 clear na
 have b2 := Lib.hid nb2
 have b3 := Lib.hid nb3
 have b4 := Lib.hid nb4
 clear nb2 nb3 nb4
 replace H1 := Lib.hid (H1.out.kept nkeep)
 replace H2 := Lib.hid (H2.out.kept nkeep)
 clear nkeep
 have HB2 := Lib.hid nbel
 clear nbel
 obtain ⟨x2_0, x2_1, z2_0, z2_1, s2⟩ := b2.out.e2
 obtain ⟨x3_0, x3_1, z3_0, z3_1, s3⟩ := b3.out.e2
 obtain ⟨x4_0, x4_1, x4_2, x4_3, z4_0, z4_1, z4_2, z4_3, s4⟩ := b4.out.e4
 have szb := HB2.out.size
 go_wp2_with fail
 refine (rsign_is H2.out hc).mono ?_
 rintro e W3 ⟨rfl, hb⟩
 replace b2 := hup b2 hb
 replace b3 := hup b3 hb
 replace b4 := hup b4 hb
 replace H1 := Lib.hid (H1.out.kept (Keep.ofBelow hb))
 replace H2 := Lib.hid (H2.out.kept (Keep.ofBelow hb))
 have nbel := below_then HB2.out hb HB2.out.size
 have HB4 := Lib.hid nbel
 clear nbel HB2 hb x2_0 x2_1 z2_0 z2_1 x3_0 x3_1 z3_0 z3_1 x4_0 x4_1 x4_2 x4_3 z4_0 z4_1 z4_2 z4_3 szb s2 s3 s4
 obtain ⟨x2_0, x2_1, z2_0, z2_1, s2⟩ := b2.out.e2
 obtain ⟨x3_0, x3_1, z3_0, z3_1, s3⟩ := b3.out.e2
 obtain ⟨x4_0, x4_1, x4_2, x4_3, z4_0, z4_1, z4_2, z4_3, s4⟩ := b4.out.e4
 have szb := HB4.out.size
 go_wp2_with fail
 refine (rsign_is H2.out hc).mono ?_
 rintro e W5 ⟨rfl, hb⟩
 replace b2 := hup b2 hb
 replace b3 := hup b3 hb
 replace b4 := hup b4 hb
 replace H1 := Lib.hid (H1.out.kept (Keep.ofBelow hb))
 replace H2 := Lib.hid (H2.out.kept (Keep.ofBelow hb))
 have nbel := below_then HB4.out hb HB4.out.size
 have HB6 := Lib.hid nbel
 clear nbel HB4 hb x2_0 x2_1 z2_0 z2_1 x3_0 x3_1 z3_0 z3_1 x4_0 x4_1 x4_2 x4_3 z4_0 z4_1 z4_2 z4_3 szb s2 s3 s4
 obtain ⟨x2_0, x2_1, z2_0, z2_1, s2⟩ := b2.out.e2
 obtain ⟨x3_0, x3_1, z3_0, z3_1, s3⟩ := b3.out.e2
 obtain ⟨x4_0, x4_1, x4_2, x4_3, z4_0, z4_1, z4_2, z4_3, s4⟩ := b4.out.e4
 have szb := HB6.out.size
 go_upto_region 4 with (fail)
 refine AS.region_facts (rnewFL p q n) (JRes2 w W5 33 33 w.heap.size (w.heap.size + 1) [(35, w.heap.size + 1 + 1, [.bool false, .slice none 0 0, .bool false, .slice none 0 0])]) [[], [14], [], [16], [15], [17]] [4, 5] [[], [15], [15, 17]] [0, 2, 0, 2, 2, 2] [] (fun u => by simp only [rnewFL, AS.temps, List.map_cons, List.map_nil, fillL, List.setIfInBounds_toArray, List.set_cons_zero, List.set_cons_succ]; rfl) (by kernel_rfl) (by kernel_rfl) (JRes2.st w W5 33 33 w.heap.size (w.heap.size + 1) [(35, w.heap.size + 1 + 1, [.bool false, .slice none 0 0, .bool false, .slice none 0 0])]) (below_drew (Below.refl _ _)) ?_ ?_
 ·refine AS.sc rfl rfl rfl ?_ ?_
  ·intro k_ u w_ hk hJ hF K hK
   clear hF
   obtain rfl : k_ = 0 := Nat.le_zero.1 hk
   have hJ0 : Below W5.heap.size W5 w_ := hJ
   obtain ⟨y0, y1⟩ := ((b2.out).up hJ0).c2
   go_simp
   exact hK.out _ _ (Below.refl _ _) ((H1.out).kept (Keep.ofBelow hJ0)) trivial
  refine AS.sc rfl rfl rfl ?_ ?_
  ·intro k_ u w_ hk hJ hF K hK
   have h14 : PRef (p) n (u 14) w_ := AS.facts_get hF 14 (by simp)
   clear hF
   go_simp
   refine (rneg_fact h14 (by omega)).mono ?_
   rintro e w' ⟨v, rfl, hv, hb⟩
   exact hK.out _ _ hb (hv) trivial
  refine AS.sc rfl rfl rfl ?_ ?_
  ·intro k_ u w_ hk hJ hF K hK
   clear hF
   obtain rfl : k_ = 0 := Nat.le_zero.1 hk
   have hJ0 : Below W5.heap.size W5 w_ := hJ
   obtain ⟨y0, y1⟩ := ((b3.out).up hJ0).c2
   go_simp
   exact hK.out _ _ (Below.refl _ _) ((H2.out).kept (Keep.ofBelow hJ0)) trivial
  refine AS.sc rfl rfl rfl ?_ ?_
  ·intro k_ u w_ hk hJ hF K hK
   have h16 : PRef (q) n (u 16) w_ := AS.facts_get hF 16 (by simp)
   clear hF
   go_simp
   refine (rneg_fact h16 (by omega)).mono ?_
   rintro e w' ⟨v, rfl, hv, hb⟩
   exact hK.out _ _ hb (hv) trivial
  refine AS.ss rfl rfl ?_ ?_
  ·intro u w_ hJ hAp hF K hK
   have h15 : PRef (-(p)) n (u 15) w_ := AS.facts_get hF 15 (by simp)
   clear hF
   obtain ⟨k1, A1, l1, c1, e_⟩ := h15.open
   have hJ0 : Below W5.heap.size W5 w_ := hJ
   have bx := (b2.out).up hJ0
   have hbel := below_then HB6.out hJ0 HB6.out.size
   have bx2 := (b3.out).up hJ0
   have ob4 := (b4.out).up hJ0
   have y0 := bx.cell 0
   have z0 := bx.frozen 0
   have y1 := bx.cell 1
   have z1 := bx.frozen 1
   simp only [List.getElem?_cons_zero, List.getElem?_cons_succ] at y0 y1
   have hob2 : ∀ b_ ∈ ([(35, w.heap.size + 1 + 1, [.bool false, .slice none 0 0, .bool false, .slice none 0 0])] : List (TypeId × Nat × List Value)), Bx b_.1 ((w_.setCell ⟨w.heap.size, 0, none⟩ (.bool k1)).setCell ⟨w.heap.size, 1, none⟩ (.slice A1 l1 c1)) b_.2.1 b_.2.2 := by
    intro b_ hb_
    simp only [List.mem_cons, List.not_mem_nil, or_false] at hb_
    rcases hb_ with rfl
    ·exact (Bx.far2 (g' := w.heap.size) ob4 (show w.heap.size ≠ w.heap.size + 1 + 1 by omega) (.bool k1) (.slice A1 l1 c1))
   simp only [e_] at hK ⊢
   go_simp
   exact hK.out undef _ ⟨⟨(Below.setCell (p := ⟨w.heap.size, 1, none⟩) (Below.setCell (p := ⟨w.heap.size, 0, none⟩) hbel (by first | omega | (simp; done) | (simp; omega)) (.bool k1)) (by first | omega | (simp; done) | (simp; omega)) (.slice A1 l1 c1)), (by simp only [setCell_size]; first | exact hsz | exact Nat.le_trans HB6.out.size hJ0.size)⟩, hob2, ⟨[.bool k1, .slice A1 l1 c1], by simp [e_], (Bx.set2 bx (Leaf.bool k1) (Leaf.slice A1 l1 c1))⟩, _, _, (Bx.far2 (g' := w.heap.size) bx2 (by omega) (.bool k1) (.slice A1 l1 c1))⟩ (Keep.set2 (Keep.refl w_) bx (Leaf.bool k1) (Leaf.slice A1 l1 c1))
  refine AS.ss rfl rfl ?_ ?_
  ·intro u w_ hJ hAp hF K hK
   have h17 : PRef (-(q)) n (u 17) w_ := AS.facts_get hF 17 (by simp)
   clear hF
   obtain ⟨k1, A1, l1, c1, e_⟩ := h17.open
   obtain ⟨⟨hbel, hsz⟩, hob, ⟨vs, hvs, bx1⟩, x_, y_, bx⟩ := hJ
   have ob4 := hob (35, w.heap.size + 1 + 1, [.bool false, .slice none 0 0, .bool false, .slice none 0 0]) (by simp)
   clear hob
   have y0 := bx.cell 0
   have z0 := bx.frozen 0
   have y1 := bx.cell 1
   have z1 := bx.frozen 1
   simp only [List.getElem?_cons_zero, List.getElem?_cons_succ] at y0 y1
   have hob2 : ∀ b_ ∈ ([(35, w.heap.size + 1 + 1, [.bool false, .slice none 0 0, .bool false, .slice none 0 0])] : List (TypeId × Nat × List Value)), Bx b_.1 ((w_.setCell ⟨w.heap.size + 1, 0, none⟩ (.bool k1)).setCell ⟨w.heap.size + 1, 1, none⟩ (.slice A1 l1 c1)) b_.2.1 b_.2.2 := by
    intro b_ hb_
    simp only [List.mem_cons, List.not_mem_nil, or_false] at hb_
    rcases hb_ with rfl
    ·exact (Bx.far2 (g' := w.heap.size + 1) ob4 (show w.heap.size + 1 ≠ w.heap.size + 1 + 1 by omega) (.bool k1) (.slice A1 l1 c1))
   simp only [e_] at hK ⊢
   go_simp
   exact hK.out undef _ ⟨⟨(Below.setCell (p := ⟨w.heap.size + 1, 1, none⟩) (Below.setCell (p := ⟨w.heap.size + 1, 0, none⟩) hbel (by first | omega | (simp; done) | (simp; omega)) (.bool k1)) (by first | omega | (simp; done) | (simp; omega)) (.slice A1 l1 c1)), (by simp only [setCell_size]; first | exact hsz | exact Nat.le_trans HB6.out.size hJ0.size)⟩, hob2, vs, [.bool k1, .slice A1 l1 c1], by simp [e_, List.cons.inj hvs], (Bx.far (g' := w.heap.size + 1) (Bx.far (g' := w.heap.size + 1) bx1 (by omega) 0 (.bool k1)) (by omega) 1 (.slice A1 l1 c1)), (Bx.set2 bx (Leaf.bool k1) (Leaf.slice A1 l1 c1))⟩ (Keep.set2 (Keep.refl w_) bx (Leaf.bool k1) (Leaf.slice A1 l1 c1))
  exact AS.StepsOk.nil
 ·intro u W7 hJ9 hF
  have h15 : PRef (-(p)) n (u 15) W7 := AS.facts_get hF 15 (by simp [rnewFL, AS.temps])
  have h17 : PRef (-(q)) n (u 17) W7 := AS.facts_get hF 17 (by simp [rnewFL, AS.temps])
  clear hF
  obtain ⟨⟨hbel, hsz⟩, hob, vs, vs2, hvs, hbx, hbx2⟩ := hJ9
  obtain ⟨k3, A3, l3, c3, ea⟩ := h15.open
  obtain ⟨k4, A4, l4, c4, eb⟩ := h17.open
  rw [ea] at h15
  rw [eb] at h17
  obtain rfl : vs = [.bool k3, .slice A3 l3 c3] := by
   have e1 := (List.cons.inj hvs).1
   rw [show u 15 = _ from ea] at e1
   have e2 := congrArg Array.toList (Value.agg.inj e1)
   simpa using e2.symm
  obtain rfl : vs2 = [.bool k4, .slice A4 l4 c4] := by
   have e1 := (List.cons.inj (List.cons.inj hvs).2).1
   rw [show u 17 = _ from eb] at e1
   have e2 := congrArg Array.toList (Value.agg.inj e1)
   simpa using e2.symm
  have hbx4 := hob (35, w.heap.size + 1 + 1, [.bool false, .slice none 0 0, .bool false, .slice none 0 0]) (by simp)
  clear hob hvs ea eb b2 b3 b4 HB6 x2_0 x2_1 z2_0 z2_1 x3_0 x3_1 z3_0 z3_1 x4_0 x4_1 x4_2 x4_3 z4_0 z4_1 z4_2 z4_3 szb s2 s3 s4 H1 H2
  have b2 := Lib.hid hbx
  have b3 := Lib.hid hbx2
  have b4 : Hid (Bx 35 W7 (w.heap.size + 1 + 1) [.bool false, .slice none 0 0, .bool false, .slice none 0 0]) := hbx4
  have HB := Lib.hid hbel
  have H1 := Lib.hid h15
  have H2 := Lib.hid h17
  clear hbx hbx2 hbx4 hbel h15 h17
  obtain ⟨x2_0, x2_1, z2_0, z2_1, s2⟩ := b2.out.e2
  obtain ⟨x3_0, x3_1, z3_0, z3_1, s3⟩ := b3.out.e2
  obtain ⟨x4_0, x4_1, x4_2, x4_3, z4_0, z4_1, z4_2, z4_3, s4⟩ := b4.out.e4
  have szb := HB.out.size
  go_wp2_with fail
  refine (rgcd_fact H1.out H2.out (by omega) (by omega)).mono ?_
  rintro e W8 ⟨v1, rfl, hv1, hb⟩
  replace b2 := hup b2 hb
  replace b3 := hup b3 hb
  replace b4 := hup b4 hb
  replace H1 := Lib.hid (H1.out.kept (Keep.ofBelow hb))
  replace H2 := Lib.hid (H2.out.kept (Keep.ofBelow hb))
  have nbel := below_then HB.out hb HB.out.size
  have HB9 := Lib.hid nbel
  clear nbel HB hb x2_0 x2_1 z2_0 z2_1 x3_0 x3_1 z3_0 z3_1 x4_0 x4_1 x4_2 x4_3 z4_0 z4_1 z4_2 z4_3 szb s2 s3 s4
  obtain ⟨x2_0, x2_1, z2_0, z2_1, s2⟩ := b2.out.e2
  obtain ⟨x3_0, x3_1, z3_0, z3_1, s3⟩ := b3.out.e2
  obtain ⟨x4_0, x4_1, x4_2, x4_3, z4_0, z4_1, z4_2, z4_3, s4⟩ := b4.out.e4
  have szb := HB9.out.size
  obtain ⟨k5, A5, l5, c5, rfl⟩ := hv1.open
  have HG := Lib.hid hv1
  clear hv1
  go_upto_region 6 with (fail)
  have q10 := b2.out.lt
  have q11 := b3.out.lt
  have q12 := b4.out.lt
  change Code.wp Tryz.prog _ _ _ (W8.alloc (.cells #[.bool k5, .slice A5 l5 c5] 33))
  obtain ⟨nb6, na⟩ := new1 W8 33 [.bool k5, .slice A5 l5 c5] lf2
  have nb2 := b2.out.up na
  have nb3 := b3.out.up na
  have nb4 := b4.out.up na
  have nkeep := Keep.ofBelow na
  have nbel := below_then HB9.out na HB9.out.size
  generalize W8.alloc (.cells #[.bool k5, .slice A5 l5 c5] 33) = W13 at *
  clear na x2_0 x2_1 z2_0 z2_1 x3_0 x3_1 z3_0 z3_1 x4_0 x4_1 x4_2 x4_3 z4_0 z4_1 z4_2 z4_3 szb s2 s3 s4 b2 b3 b4
  have b2 := Lib.hid nb2
  have b3 := Lib.hid nb3
  have b4 := Lib.hid nb4
  have b6 := Lib.hid nb6
  clear nb2 nb3 nb4 nb6
  replace H1 := Lib.hid (H1.out.kept nkeep)
  replace H2 := Lib.hid (H2.out.kept nkeep)
  replace HG := Lib.hid (HG.out.kept nkeep)
  clear nkeep
  have HB14 := Lib.hid nbel
  clear nbel HB9
  obtain ⟨x2_0, x2_1, z2_0, z2_1, s2⟩ := b2.out.e2
  obtain ⟨x3_0, x3_1, z3_0, z3_1, s3⟩ := b3.out.e2
  obtain ⟨x4_0, x4_1, x4_2, x4_3, z4_0, z4_1, z4_2, z4_3, s4⟩ := b4.out.e4
  obtain ⟨x6_0, x6_1, s6⟩ := b6.out.d2
  have szb := HB14.out.size
  go_wp2_with fail
  refine (rquo_fact H1.out HG.out (by omega) (by omega) hne).mono ?_
  rintro e W15 ⟨k6, A6, l6, c6, k7, A7, l7, c7, rfl, hv3, hb⟩
  replace b2 := hup b2 hb
  replace b3 := hup b3 hb
  replace b4 := hup b4 hb
  replace b6 := hup b6 hb
  replace H1 := Lib.hid (H1.out.kept (Keep.ofBelow hb))
  replace H2 := Lib.hid (H2.out.kept (Keep.ofBelow hb))
  replace HG := Lib.hid (HG.out.kept (Keep.ofBelow hb))
  have nbel := below_then HB14.out hb HB14.out.size
  have HB16 := Lib.hid nbel
  clear nbel HB14 hb x2_0 x2_1 z2_0 z2_1 x3_0 x3_1 z3_0 z3_1 x4_0 x4_1 x4_2 x4_3 z4_0 z4_1 z4_2 z4_3 x6_0 x6_1 szb s2 s3 s4 s6
  obtain ⟨x2_0, x2_1, z2_0, z2_1, s2⟩ := b2.out.e2
  obtain ⟨x3_0, x3_1, z3_0, z3_1, s3⟩ := b3.out.e2
  obtain ⟨x4_0, x4_1, x4_2, x4_3, z4_0, z4_1, z4_2, z4_3, s4⟩ := b4.out.e4
  obtain ⟨x6_0, x6_1, s6⟩ := b6.out.d2
  have szb := HB16.out.size
  have HN := Lib.hid hv3
  clear hv3
  go_upto_region 7 with (fail)
  change Code.wp Tryz.prog _ _ _ ((W15.setCell ⟨w.heap.size, 0, none⟩ (.bool k6)).setCell ⟨w.heap.size, 1, none⟩ (.slice A6 l6 c6))
  have nb2 : Bx 33 ((W15.setCell ⟨w.heap.size, 0, none⟩ (.bool k6)).setCell ⟨w.heap.size, 1, none⟩ (.slice A6 l6 c6)) w.heap.size [.bool k6, .slice A6 l6 c6] := (Bx.set2 b2.out (Leaf.bool k6) (Leaf.slice A6 l6 c6))
  have nb3 : Bx 33 ((W15.setCell ⟨w.heap.size, 0, none⟩ (.bool k6)).setCell ⟨w.heap.size, 1, none⟩ (.slice A6 l6 c6)) (w.heap.size + 1) [.bool k4, .slice A4 l4 c4] := (Bx.far2 (g' := w.heap.size) b3.out (by omega) (.bool k6) (.slice A6 l6 c6))
  have nb4 : Bx 35 ((W15.setCell ⟨w.heap.size, 0, none⟩ (.bool k6)).setCell ⟨w.heap.size, 1, none⟩ (.slice A6 l6 c6)) (w.heap.size + 1 + 1) [.bool false, .slice none 0 0, .bool false, .slice none 0 0] := (Bx.far2 (g' := w.heap.size) b4.out (by omega) (.bool k6) (.slice A6 l6 c6))
  have nb6 : Bx 33 ((W15.setCell ⟨w.heap.size, 0, none⟩ (.bool k6)).setCell ⟨w.heap.size, 1, none⟩ (.slice A6 l6 c6)) W8.heap.size [.bool k5, .slice A5 l5 c5] := (Bx.far2 (g' := w.heap.size) b6.out (by omega) (.bool k6) (.slice A6 l6 c6))
  have nkeep := (Keep.set2 (Keep.refl W15) b2.out (Leaf.bool k6) (Leaf.slice A6 l6 c6))
  have nbel : Below w.heap.size w ((W15.setCell ⟨w.heap.size, 0, none⟩ (.bool k6)).setCell ⟨w.heap.size, 1, none⟩ (.slice A6 l6 c6)) := (Below.set2 (g := w.heap.size) HB16.out (by first | omega | (simp; done) | (simp; omega)) (.bool k6) (.slice A6 l6 c6))
  generalize (W15.setCell ⟨w.heap.size, 0, none⟩ (.bool k6)).setCell ⟨w.heap.size, 1, none⟩ (.slice A6 l6 c6) = W17 at *
  clear x2_0 x2_1 z2_0 z2_1 x3_0 x3_1 z3_0 z3_1 x4_0 x4_1 x4_2 x4_3 z4_0 z4_1 z4_2 z4_3 x6_0 x6_1 szb s2 s3 s4 s6 b2 b3 b4 b6
  have b2 := Lib.hid nb2
  have b3 := Lib.hid nb3
  have b4 := Lib.hid nb4
  have b6 := Lib.hid nb6
  clear nb2 nb3 nb4 nb6
  replace H1 := Lib.hid (H1.out.kept nkeep)
  replace H2 := Lib.hid (H2.out.kept nkeep)
  replace HG := Lib.hid (HG.out.kept nkeep)
  replace HN := Lib.hid (HN.out.kept nkeep)
  clear nkeep
  have HB18 := Lib.hid nbel
  clear nbel HB16
  obtain ⟨x2_0, x2_1, z2_0, z2_1, s2⟩ := b2.out.e2
  obtain ⟨x3_0, x3_1, z3_0, z3_1, s3⟩ := b3.out.e2
  obtain ⟨x4_0, x4_1, x4_2, x4_3, z4_0, z4_1, z4_2, z4_3, s4⟩ := b4.out.e4
  obtain ⟨x6_0, x6_1, s6⟩ := b6.out.d2
  have szb := HB18.out.size
  go_wp2_with fail
  refine (rquo_fact H2.out HG.out (by omega) (by omega) hne).mono ?_
  rintro e W19 ⟨k8, A8, l8, c8, k9, A9, l9, c9, rfl, hv3, hb⟩
  replace b2 := hup b2 hb
  replace b3 := hup b3 hb
  replace b4 := hup b4 hb
  replace b6 := hup b6 hb
  replace H1 := Lib.hid (H1.out.kept (Keep.ofBelow hb))
  replace H2 := Lib.hid (H2.out.kept (Keep.ofBelow hb))
  replace HG := Lib.hid (HG.out.kept (Keep.ofBelow hb))
  replace HN := Lib.hid (HN.out.kept (Keep.ofBelow hb))
  have nbel := below_then HB18.out hb HB18.out.size
  have HB20 := Lib.hid nbel
  clear nbel HB18 hb x2_0 x2_1 z2_0 z2_1 x3_0 x3_1 z3_0 z3_1 x4_0 x4_1 x4_2 x4_3 z4_0 z4_1 z4_2 z4_3 x6_0 x6_1 szb s2 s3 s4 s6
  obtain ⟨x2_0, x2_1, z2_0, z2_1, s2⟩ := b2.out.e2
  obtain ⟨x3_0, x3_1, z3_0, z3_1, s3⟩ := b3.out.e2
  obtain ⟨x4_0, x4_1, x4_2, x4_3, z4_0, z4_1, z4_2, z4_3, s4⟩ := b4.out.e4
  obtain ⟨x6_0, x6_1, s6⟩ := b6.out.d2
  have szb := HB20.out.size
  have HD := Lib.hid hv3
  clear hv3
  go_upto_region 8 with (fail)
  change Code.wp Tryz.prog _ _ _ ((W19.setCell ⟨w.heap.size + 1, 0, none⟩ (.bool k8)).setCell ⟨w.heap.size + 1, 1, none⟩ (.slice A8 l8 c8))
  have nb2 : Bx 33 ((W19.setCell ⟨w.heap.size + 1, 0, none⟩ (.bool k8)).setCell ⟨w.heap.size + 1, 1, none⟩ (.slice A8 l8 c8)) w.heap.size [.bool k6, .slice A6 l6 c6] := (Bx.far2 (g' := w.heap.size + 1) b2.out (by omega) (.bool k8) (.slice A8 l8 c8))
  have nb3 : Bx 33 ((W19.setCell ⟨w.heap.size + 1, 0, none⟩ (.bool k8)).setCell ⟨w.heap.size + 1, 1, none⟩ (.slice A8 l8 c8)) (w.heap.size + 1) [.bool k8, .slice A8 l8 c8] := (Bx.set2 b3.out (Leaf.bool k8) (Leaf.slice A8 l8 c8))
  have nb4 : Bx 35 ((W19.setCell ⟨w.heap.size + 1, 0, none⟩ (.bool k8)).setCell ⟨w.heap.size + 1, 1, none⟩ (.slice A8 l8 c8)) (w.heap.size + 1 + 1) [.bool false, .slice none 0 0, .bool false, .slice none 0 0] := (Bx.far2 (g' := w.heap.size + 1) b4.out (by omega) (.bool k8) (.slice A8 l8 c8))
  have nb6 : Bx 33 ((W19.setCell ⟨w.heap.size + 1, 0, none⟩ (.bool k8)).setCell ⟨w.heap.size + 1, 1, none⟩ (.slice A8 l8 c8)) W8.heap.size [.bool k5, .slice A5 l5 c5] := (Bx.far2 (g' := w.heap.size + 1) b6.out (by omega) (.bool k8) (.slice A8 l8 c8))
  have nkeep := (Keep.set2 (Keep.refl W19) b3.out (Leaf.bool k8) (Leaf.slice A8 l8 c8))
  have nbel : Below w.heap.size w ((W19.setCell ⟨w.heap.size + 1, 0, none⟩ (.bool k8)).setCell ⟨w.heap.size + 1, 1, none⟩ (.slice A8 l8 c8)) := (Below.set2 (g := w.heap.size + 1) HB20.out (by first | omega | (simp; done) | (simp; omega)) (.bool k8) (.slice A8 l8 c8))
  generalize (W19.setCell ⟨w.heap.size + 1, 0, none⟩ (.bool k8)).setCell ⟨w.heap.size + 1, 1, none⟩ (.slice A8 l8 c8) = W21 at *
  clear x2_0 x2_1 z2_0 z2_1 x3_0 x3_1 z3_0 z3_1 x4_0 x4_1 x4_2 x4_3 z4_0 z4_1 z4_2 z4_3 x6_0 x6_1 szb s2 s3 s4 s6 b2 b3 b4 b6
  have b2 := Lib.hid nb2
  have b3 := Lib.hid nb3
  have b4 := Lib.hid nb4
  have b6 := Lib.hid nb6
  clear nb2 nb3 nb4 nb6
  replace H1 := Lib.hid (H1.out.kept nkeep)
  replace H2 := Lib.hid (H2.out.kept nkeep)
  replace HG := Lib.hid (HG.out.kept nkeep)
  replace HN := Lib.hid (HN.out.kept nkeep)
  replace HD := Lib.hid (HD.out.kept nkeep)
  clear nkeep
  have HB22 := Lib.hid nbel
  clear nbel HB20
  obtain ⟨x2_0, x2_1, z2_0, z2_1, s2⟩ := b2.out.e2
  obtain ⟨x3_0, x3_1, z3_0, z3_1, s3⟩ := b3.out.e2
  obtain ⟨x4_0, x4_1, x4_2, x4_3, z4_0, z4_1, z4_2, z4_3, s4⟩ := b4.out.e4
  obtain ⟨x6_0, x6_1, s6⟩ := b6.out.d2
  have szb := HB22.out.size
  go_wp2_with fail
  have hkeep := (Keep.set4 (Keep.refl W21) b4.out (Leaf.bool k6) (Leaf.slice A6 l6 c6) (Leaf.bool k8) (Leaf.slice A8 l8 c8))
  have hbel := (Below.set4 (g := w.heap.size + 1 + 1) HB22.out (by first | omega | (simp; done) | (simp; omega)) (.bool k6) (.slice A6 l6 c6) (.bool k8) (.slice A8 l8 c8))
  refine bodyPost_ret (v := .tuple #[.agg #[.bool k6, .slice A6 l6 c6, .bool k8, .slice A8 l8 c8], .int .i64 0]) (by simp [results, Tryz.results74, go_sem, x4_0, x4_1, x4_2, x4_3]) rfl ⟨_, rfl, RRat.mk (HN.out.kept hkeep) (HD.out.kept hkeep) (by rw [← red_num hq]; unfold divr; rw [if_pos hlt, Int.gcd_neg, Int.neg_gcd, Int.neg_tdiv, Int.tdiv_neg]) (by rw [← red_den hq]; unfold divr; rw [if_pos hlt, Int.gcd_neg, Int.neg_gcd, Int.neg_tdiv, Int.tdiv_neg]), hbel⟩
theorem rnew_ok {p q : Int} {n : Nat} {a b : Value} {w : World} (h1 : PRef p n a w) (h2 : PRef q n b w) (hn : n ≤ 20000) (hq : q ≠ 0) :
  Calls Tryz.prog 74 #[a, b] w fun e w' => ∃ v, e = .returned v ∧ RRatOk (Rat.divInt p q) n v w' ∧ Below w.heap.size w w' := by
 obtain ⟨k, A, l, c, rfl⟩ := h1.open
 obtain ⟨k', A', l', c', rfl⟩ := h2.open
 have hg : (Int.gcd p q : Int) ≠ 0 := by have := Int.gcd_ne_zero_right (a := p) hq; omega
 have hc : Calls Tryz.prog 74 #[.agg #[.bool k, .slice A l c], .agg #[.bool k', .slice A' l' c']] w fun e w' => ∃ v, e = .returned (.tuple #[v, .int .i64 0]) ∧ RRat (Rat.divInt p q) n v w' ∧ Below w.heap.size w w' := by
  rcases Int.lt_trichotomy q 0 with h | h | h
  ·exact rnew_neg h1 h2 hn h (by unfold cmpI; rw [if_pos h]) hq (by rw [Int.gcd_neg, Int.neg_gcd]; exact hg)
  ·exact absurd h hq
  ·exact rnew_pos h1 h2 hn h (by unfold cmpI; rw [if_neg (by omega), if_neg (by omega)]) hq hg
 refine hc.mono ?_
 rintro e w' ⟨v, rfl, hv, hb⟩
 exact ⟨_, rfl, ⟨v, rfl, hv⟩, hb⟩
set_option maxRecDepth 20000 in
set_option maxHeartbeats 3200000 in
theorem rquot_op {p q : Int} {n : Nat} {k : Bool} {A : Option Addr} {l c : Nat} {k' : Bool} {A' : Option Addr} {l' c' : Nat} {w : World} (h1 : PRef p n (.agg #[.bool k, .slice A l c]) w) (h2 : PRef q n (.agg #[.bool k', .slice A' l' c']) w) (hn : n ≤ 20000) (hq : q ≠ 0) :
  Calls Tryz.prog 63 #[.agg #[.bool k, .slice A l c], .agg #[.bool k', .slice A' l' c']] w fun e w' => ∃ v, e = .returned v ∧ RRat (Rat.divInt p q) n v w' ∧ Below w.heap.size w w' := by
 have H1 := Lib.hid h1
 have H2 := Lib.hid h2
 clear h1 h2
 go_enter Tryz.func63, Tryz.ntmps63
 go_upto_region 1 with (fail)
 change Code.wp Tryz.prog _ _ _ (((w.alloc (.cells #[.bool k, .slice A l c] 33)).alloc (.cells #[.bool k', .slice A' l' c'] 33)).alloc (.cells #[.bool false, .slice none 0 0, .bool false, .slice none 0 0] 35))
 obtain ⟨nb2, nb3, nb4, na⟩ := new3 w 33 [.bool k, .slice A l c] 33 [.bool k', .slice A' l' c'] 35 [.bool false, .slice none 0 0, .bool false, .slice none 0 0] lf2 lf2 lf4
 have nkeep := Keep.ofBelow na
 have nbel := na
 generalize ((w.alloc (.cells #[.bool k, .slice A l c] 33)).alloc (.cells #[.bool k', .slice A' l' c'] 33)).alloc (.cells #[.bool false, .slice none 0 0, .bool false, .slice none 0 0] 35) = W1 at *
 clear na
 have b2 := Lib.hid nb2
 have b3 := Lib.hid nb3
 have b4 := Lib.hid nb4
 clear nb2 nb3 nb4
 replace H1 := Lib.hid (H1.out.kept nkeep)
 replace H2 := Lib.hid (H2.out.kept nkeep)
 clear nkeep
 have HB2 := Lib.hid nbel
 clear nbel
 obtain ⟨x20, x21, s2⟩ := b2.out.d2
 obtain ⟨x30, x31, s3⟩ := b3.out.d2
 obtain ⟨x40, x41, x42, x43, z40, z41, z42, z43, s4⟩ := b4.out.e4
 have szb := HB2.out.size
 go_wp2_with fail
 refine (rnew_ok H1.out H2.out hn hq).mono ?_
 rintro e W3 ⟨v, rfl, ⟨v0, rfl, hv⟩, hb⟩
 replace b2 := hup b2 hb
 replace b3 := hup b3 hb
 replace b4 := hup b4 hb
 replace H1 := Lib.hid (H1.out.kept (Keep.ofBelow hb))
 replace H2 := Lib.hid (H2.out.kept (Keep.ofBelow hb))
 have nbel := below_then HB2.out hb HB2.out.size
 have HB4 := Lib.hid nbel
 clear nbel HB2 hb x20 x21 x30 x31 x40 x41 x42 x43 z40 z41 z42 z43 szb s2 s3 s4
 obtain ⟨x20, x21, s2⟩ := b2.out.d2
 obtain ⟨x30, x31, s3⟩ := b3.out.d2
 obtain ⟨x40, x41, x42, x43, z40, z41, z42, z43, s4⟩ := b4.out.e4
 have szb := HB4.out.size
 obtain ⟨k1, A1, l1, c1, k2, A2, l2, c2, rfl⟩ := hv.open
 have HV := Lib.hid hv
 clear hv
 go_upto_region 2 with (fail)
 have q5 := b2.out.lt
 have q6 := b3.out.lt
 have q7 := b4.out.lt
 change Code.wp Tryz.prog _ _ _ (W3.alloc (.cells #[.bool k1, .slice A1 l1 c1, .bool k2, .slice A2 l2 c2] 35))
 obtain ⟨nb5, na⟩ := new1 W3 35 [.bool k1, .slice A1 l1 c1, .bool k2, .slice A2 l2 c2] lf4
 have nb2 := b2.out.up na
 have nb3 := b3.out.up na
 have nb4 := b4.out.up na
 have nkeep := Keep.ofBelow na
 have nbel := below_then HB4.out na HB4.out.size
 generalize W3.alloc (.cells #[.bool k1, .slice A1 l1 c1, .bool k2, .slice A2 l2 c2] 35) = W8 at *
 clear na x20 x21 x30 x31 x40 x41 x42 x43 z40 z41 z42 z43 szb s2 s3 s4 b2 b3 b4
 have b2 := Lib.hid nb2
 have b3 := Lib.hid nb3
 have b4 := Lib.hid nb4
 have b5 := Lib.hid nb5
 clear nb2 nb3 nb4 nb5
 replace H1 := Lib.hid (H1.out.kept nkeep)
 replace H2 := Lib.hid (H2.out.kept nkeep)
 replace HV := Lib.hid (HV.out.kept nkeep)
 clear nkeep
 have HB9 := Lib.hid nbel
 clear nbel HB4
 obtain ⟨x20, x21, s2⟩ := b2.out.d2
 obtain ⟨x30, x31, s3⟩ := b3.out.d2
 obtain ⟨x40, x41, x42, x43, z40, z41, z42, z43, s4⟩ := b4.out.e4
 obtain ⟨x50, x51, x52, x53, s5⟩ := b5.out.d4
 have szb := HB9.out.size
 go_wp2_with fail
 have hkeep := (Keep.set4 (Keep.refl W8) b4.out (Leaf.bool k1) (Leaf.slice A1 l1 c1) (Leaf.bool k2) (Leaf.slice A2 l2 c2))
 have hbel := (Below.set4 (g := w.heap.size + 1 + 1) HB9.out (by first | omega | (simp; done) | (simp; omega)) (.bool k1) (.slice A1 l1 c1) (.bool k2) (.slice A2 l2 c2))
 refine bodyPost_ret (v := .agg #[.bool k1, .slice A1 l1 c1, .bool k2, .slice A2 l2 c2]) (by simp [results, Tryz.results63, go_sem, x40, x41, x42, x43]) rfl ⟨_, rfl, HV.out.kept hkeep, hbel⟩
theorem rquot_fact {p q : Int} {n : Nat} {a b : Value} {w : World} (h1 : PRef p n a w) (h2 : PRef q n b w) (hn : n ≤ 20000) (hq : q ≠ 0) :
  Calls Tryz.prog 63 #[a, b] w fun e w' => ∃ v, e = .returned v ∧ RRat (Rat.divInt p q) n v w' ∧ Below w.heap.size w w' := by
 obtain ⟨k, A, l, c, rfl⟩ := h1.open
 obtain ⟨k', A', l', c', rfl⟩ := h2.open
 exact rquot_op h1 h2 hn hq
set_option maxHeartbeats 3200000
set_option maxRecDepth 20000
theorem rparse_fact (s : ByteArray) (w : World) (hs : s.size ≤ 1000000) :
  Calls Tryz.prog 60 #[.string s] w fun e w' => ∃ v, e = .returned (.tuple #[v, .int .i64 (errOf s.data.toList)]) ∧ PRef (valZ s.data.toList) 500 v w' ∧ Below w.heap.size w w' := by
 refine (rparse_any s w hs).mono ?_
 rintro e w' ⟨k, A, c, L, rfl, hi, hl, h0, h1, hb⟩
 refine ⟨_, rfl, ⟨k, A, c, L, rfl, hi, ?_, hl⟩, hb⟩
 unfold valZ
 by_cases h : errOf s.data.toList = 0
 ·rw [if_pos h]
  obtain ⟨h2, h3⟩ := h0.out h
  exact textZ_R h2 h3
 ·rw [if_neg h]
  obtain ⟨rfl, rfl⟩ := h1.out h
  rfl
theorem rparse_is {s : ByteArray} {er : Int} (w : World) (hs : s.size ≤ 1000000) {L : List UInt8} (hL : s.data.toList = L) (he : errOf L = er) :
  Calls Tryz.prog 60 #[.string s] w fun e w' => ∃ v, e = .returned (.tuple #[v, .int .i64 er]) ∧ PRef (valZ L) 500 v w' ∧ Below w.heap.size w w' := by
 subst hL he
 exact rparse_fact s w hs
theorem rratText_is {x : Rat} {n : Nat} {v : Value} {w : World} {T : List UInt8} (h : RRat x n v w) (hn5 : 5 ≤ n) (hn : n ≤ 10000) (hT : ratText x = T) :
  Calls Tryz.prog 64 #[v] w fun e w' => e = .returned (.string ⟨T.toArray⟩) ∧ Below w.heap.size w w' := hT ▸ rratText_fact h hn5 hn
def sl (l : List UInt8) : Nat := l.idxOf 47
theorem sl_at {l : List UInt8} {i : Nat} (h : i < l.length) (hi : i ≤ sl l) : (l[i] = 47 ↔ sl l = i) := by
 unfold sl at *
 constructor
 ·intro h1
  rcases Nat.lt_or_ge i (l.idxOf 47) with h2 | h2
  ·exact absurd h1 (by have := List.not_of_lt_findIdx (p := (· == 47)) (xs := l) (i := i) h2; simpa using this)
  ·omega
 ·intro h1
  have h2 : l.idxOf 47 < l.length := by omega
  have h3 := List.getElem_idxOf h2
  simp only [h1] at h3
  exact h3
theorem rp_q_C1 {s : ByteArray} {N D : List UInt8} {w : World} (hs : s.size ≤ 1000) (hf : sl s.data.toList < s.size) (hN : s.data.toList.take (sl s.data.toList) = N) (hD : s.data.toList.drop (sl s.data.toList + 1) = D) (he : errOf N = 3) :
  Calls Tryz.prog 15 #[.string s] w fun e w' => e = .returned (.tuple #[.agg #[.bool false, .slice none 0 0, .bool false, .slice none 0 0], .int .i64 3]) ∧ Below w.heap.size w w' := by
 have HSZ := Lib.hid hs
 have HF := Lib.hid hf
 have HN := Lib.hid hN
 have HD := Lib.hid hD
 have HE := Lib.hid he
 clear hs hf hN hD he
 go_enter Tryz.func15, Tryz.ntmps15
 go_wp2
 have nb2 := Bx.new 35 w [.bool false, .slice none 0 0, .bool false, .slice none 0 0] lf4
 have nbel := below_alloc_new (w := w) (.cells #[.bool false, .slice none 0 0, .bool false, .slice none 0 0] 35)
 change Code.wp Tryz.prog _ _ _ (w.alloc (.cells #[.bool false, .slice none 0 0, .bool false, .slice none 0 0] 35))
 generalize w.alloc (.cells #[.bool false, .slice none 0 0, .bool false, .slice none 0 0] 35) = W0 at *
 have b2 := Lib.hid nb2
 have HB := Lib.hid nbel
 clear nb2 nbel
 go_loopw [4, 5] (fun v4 v5 wr => ∃ i : Nat, i ≤ s.size ∧ wr = W0 ∧ v5 = .int .i64 i ∧ v4 = .int .i64 ((if sl s.data.toList < i then sl s.data.toList else s.size : Nat) : Int)) (fun _ v _ => s.size - (intOf v).toNat)
 case atStart => exact ⟨0, Nat.zero_le _, rfl, rfl, by simp⟩
 case round =>
  obtain ⟨i, hi, rfl, rfl, rfl⟩ := hrel
  by_cases hlt : i < s.size
  ·have h1 : ((i : Nat) : Int) < ((s.size : Nat) : Int) := by omega
   have hli : i < s.data.toList.length := by rw [size_list]; exact hlt
   have hg : s.data.toList[i] = s[i] := toList_get s i hlt
   have hsz := HSZ.out
   by_cases hc : sl s.data.toList < i
   ·rw [if_pos hc]
    have h2 : (((sl s.data.toList : Nat) : Int) == ((s.size : Nat) : Int)) = false := by simp; omega
    by_cases hz : (s[i]'hlt).toNat = 47
    ·go_wp2
     exact ⟨⟨i + 1, by omega, trivial, by simp, by rw [if_pos (by omega)]⟩, by simp [intOf]; omega⟩
    ·go_wp2
     exact ⟨⟨i + 1, by omega, trivial, by simp, by rw [if_pos (by omega)]⟩, by simp [intOf]; omega⟩
   ·rw [if_neg hc]
    have hiff := sl_at hli (by omega)
    by_cases hz : (s[i]'hlt).toNat = 47
    ·have h3 : sl s.data.toList = i := hiff.1 (by rw [hg]; exact UInt8.toNat_inj.1 hz)
     go_wp2
     exact ⟨⟨i + 1, by omega, trivial, by simp, by rw [if_pos (by omega), h3]⟩, by simp [intOf]; omega⟩
    ·have h3 : sl s.data.toList ≠ i := fun h => hz (by have := hiff.2 h; rw [hg] at this; rw [this]; rfl)
     go_wp2
     exact ⟨⟨i + 1, by omega, trivial, by simp, by rw [if_neg (by omega)]⟩, by simp [intOf]; omega⟩
  ·obtain rfl : i = s.size := by omega
   have h1 : decide ((s.size : Nat) < s.size) = false := by simp
   clear hlt hi
   rw [if_pos HF.out]
   have hk0 := HF.out
   generalize hk : sl s.data.toList = kk at *
   have hk1 : ((kk : Nat) : Int) < ((s.size : Nat) : Int) := by omega
   have HK := Lib.hid hk
   clear hk
   have hsz := HSZ.out
   obtain ⟨x20, x21, x22, x23, z20, z21, z22, z23, s2⟩ := b2.out.e4
   have szb := HB.out.size
   go_wp2_with fail
   refine (rparse_is _ (by have := HSZ.out; simp <;> omega) (by rw [Lib.extract_data]; simpa using HN.out) HE.out).mono ?_
   rintro e W1 ⟨v, rfl, hv, hb⟩
   replace b2 := hup b2 hb
   have nbel := below_then HB.out hb HB.out.size
   have HB2 := Lib.hid nbel
   clear nbel HB hb x20 x21 x22 x23 z20 z21 z22 z23 szb s2
   obtain ⟨x20, x21, x22, x23, z20, z21, z22, z23, s2⟩ := b2.out.e4
   have szb := HB2.out.size
   obtain ⟨k1, A1, l1, c1, rfl⟩ := hv.open
   have HA := Lib.hid hv
   clear hv
   go_upto_region 12 with (fail)
   have q3 := b2.out.lt
   change Code.wp Tryz.prog _ _ _ (W1.alloc (.cells #[.bool k1, .slice A1 l1 c1] 33))
   obtain ⟨nb8, na⟩ := new1 W1 33 [.bool k1, .slice A1 l1 c1] lf2
   have nb2 := b2.out.up na
   have nkeep := Keep.ofBelow na
   have nbel := below_then HB2.out na HB2.out.size
   generalize W1.alloc (.cells #[.bool k1, .slice A1 l1 c1] 33) = W4 at *
   clear na x20 x21 x22 x23 z20 z21 z22 z23 szb s2 b2
   have b2 := Lib.hid nb2
   have b8 := Lib.hid nb8
   clear nb2 nb8
   replace HA := Lib.hid (HA.out.kept nkeep)
   clear nkeep
   have HB5 := Lib.hid nbel
   clear nbel HB2
   obtain ⟨x20, x21, x22, x23, z20, z21, z22, z23, s2⟩ := b2.out.e4
   obtain ⟨x80, x81, s8⟩ := b8.out.d2
   have szb := HB5.out.size
   go_wp2_with fail
   refine (rparse_is (L := D) _ (by have := HSZ.out; simp <;> omega) (by rw [Lib.extract_to_end]; exact HD.out) rfl).mono ?_
   rintro e W6 ⟨v, rfl, hv, hb⟩
   replace b2 := hup b2 hb
   replace b8 := hup b8 hb
   replace HA := Lib.hid (HA.out.kept (Keep.ofBelow hb))
   have nbel := below_then HB5.out hb HB5.out.size
   have HB7 := Lib.hid nbel
   clear nbel HB5 hb x20 x21 x22 x23 z20 z21 z22 z23 x80 x81 szb s2 s8
   obtain ⟨x20, x21, x22, x23, z20, z21, z22, z23, s2⟩ := b2.out.e4
   obtain ⟨x80, x81, s8⟩ := b8.out.d2
   have szb := HB7.out.size
   obtain ⟨k2, A2, l2, c2, rfl⟩ := hv.open
   have HB2 := Lib.hid hv
   clear hv
   generalize errOf D = fr at *
   go_upto_region 13 with (fail)
   have q8 := b2.out.lt
   have q9 := b8.out.lt
   change Code.wp Tryz.prog _ _ _ (W6.alloc (.cells #[.bool k2, .slice A2 l2 c2] 33))
   obtain ⟨nb10, na⟩ := new1 W6 33 [.bool k2, .slice A2 l2 c2] lf2
   have nb2 := b2.out.up na
   have nb8 := b8.out.up na
   have nkeep := Keep.ofBelow na
   have nbel := below_then HB7.out na HB7.out.size
   generalize W6.alloc (.cells #[.bool k2, .slice A2 l2 c2] 33) = W10 at *
   clear na x20 x21 x22 x23 z20 z21 z22 z23 x80 x81 szb s2 s8 b2 b8
   have b2 := Lib.hid nb2
   have b8 := Lib.hid nb8
   have b10 := Lib.hid nb10
   clear nb2 nb8 nb10
   replace HA := Lib.hid (HA.out.kept nkeep)
   replace HB2 := Lib.hid (HB2.out.kept nkeep)
   clear nkeep
   have HB11 := Lib.hid nbel
   clear nbel HB7
   obtain ⟨x20, x21, x22, x23, z20, z21, z22, z23, s2⟩ := b2.out.e4
   obtain ⟨x80, x81, s8⟩ := b8.out.d2
   obtain ⟨x100, x101, s10⟩ := b10.out.d2
   have szb := HB11.out.size
   go_wp2_with fail
   have hkeep := (Keep.set4 (Keep.refl W10) b2.out (Leaf.bool false) (Leaf.slice none 0 0) (Leaf.bool false) (Leaf.slice none 0 0))
   have hbel := (Below.set4 (g := w.heap.size) HB11.out (by first | omega | (simp; done) | (simp; omega)) (.bool false) (.slice none 0 0) (.bool false) (.slice none 0 0))
   refine bodyPost_ret (v := .tuple #[.agg #[.bool false, .slice none 0 0, .bool false, .slice none 0 0], .int .i64 3]) (by simp [results, Tryz.results15, go_sem, x20, x21, x22, x23]) rfl ⟨rfl, hbel⟩
theorem rp_q_C2 {s : ByteArray} {N D : List UInt8} {w : World} (hs : s.size ≤ 1000) (hf : sl s.data.toList < s.size) (hN : s.data.toList.take (sl s.data.toList) = N) (hD : s.data.toList.drop (sl s.data.toList + 1) = D) (he : errOf N = 0) (he2 : errOf D = 3) :
  Calls Tryz.prog 15 #[.string s] w fun e w' => e = .returned (.tuple #[.agg #[.bool false, .slice none 0 0, .bool false, .slice none 0 0], .int .i64 3]) ∧ Below w.heap.size w w' := by
 have HSZ := Lib.hid hs
 have HF := Lib.hid hf
 have HN := Lib.hid hN
 have HD := Lib.hid hD
 have HE := Lib.hid he
 clear hs hf hN hD he
 have HE2 := Lib.hid he2
 clear he2
 go_enter Tryz.func15, Tryz.ntmps15
 go_wp2
 have nb2 := Bx.new 35 w [.bool false, .slice none 0 0, .bool false, .slice none 0 0] lf4
 have nbel := below_alloc_new (w := w) (.cells #[.bool false, .slice none 0 0, .bool false, .slice none 0 0] 35)
 change Code.wp Tryz.prog _ _ _ (w.alloc (.cells #[.bool false, .slice none 0 0, .bool false, .slice none 0 0] 35))
 generalize w.alloc (.cells #[.bool false, .slice none 0 0, .bool false, .slice none 0 0] 35) = W0 at *
 have b2 := Lib.hid nb2
 have HB := Lib.hid nbel
 clear nb2 nbel
 go_loopw [4, 5] (fun v4 v5 wr => ∃ i : Nat, i ≤ s.size ∧ wr = W0 ∧ v5 = .int .i64 i ∧ v4 = .int .i64 ((if sl s.data.toList < i then sl s.data.toList else s.size : Nat) : Int)) (fun _ v _ => s.size - (intOf v).toNat)
 case atStart => exact ⟨0, Nat.zero_le _, rfl, rfl, by simp⟩
 case round =>
  obtain ⟨i, hi, rfl, rfl, rfl⟩ := hrel
  by_cases hlt : i < s.size
  ·have h1 : ((i : Nat) : Int) < ((s.size : Nat) : Int) := by omega
   have hli : i < s.data.toList.length := by rw [size_list]; exact hlt
   have hg : s.data.toList[i] = s[i] := toList_get s i hlt
   have hsz := HSZ.out
   by_cases hc : sl s.data.toList < i
   ·rw [if_pos hc]
    have h2 : (((sl s.data.toList : Nat) : Int) == ((s.size : Nat) : Int)) = false := by simp; omega
    by_cases hz : (s[i]'hlt).toNat = 47
    ·go_wp2
     exact ⟨⟨i + 1, by omega, trivial, by simp, by rw [if_pos (by omega)]⟩, by simp [intOf]; omega⟩
    ·go_wp2
     exact ⟨⟨i + 1, by omega, trivial, by simp, by rw [if_pos (by omega)]⟩, by simp [intOf]; omega⟩
   ·rw [if_neg hc]
    have hiff := sl_at hli (by omega)
    by_cases hz : (s[i]'hlt).toNat = 47
    ·have h3 : sl s.data.toList = i := hiff.1 (by rw [hg]; exact UInt8.toNat_inj.1 hz)
     go_wp2
     exact ⟨⟨i + 1, by omega, trivial, by simp, by rw [if_pos (by omega), h3]⟩, by simp [intOf]; omega⟩
    ·have h3 : sl s.data.toList ≠ i := fun h => hz (by have := hiff.2 h; rw [hg] at this; rw [this]; rfl)
     go_wp2
     exact ⟨⟨i + 1, by omega, trivial, by simp, by rw [if_neg (by omega)]⟩, by simp [intOf]; omega⟩
  ·obtain rfl : i = s.size := by omega
   have h1 : decide ((s.size : Nat) < s.size) = false := by simp
   clear hlt hi
   rw [if_pos HF.out]
   have hk0 := HF.out
   generalize hk : sl s.data.toList = kk at *
   have hk1 : ((kk : Nat) : Int) < ((s.size : Nat) : Int) := by omega
   have HK := Lib.hid hk
   clear hk
   have hsz := HSZ.out
   obtain ⟨x20, x21, x22, x23, z20, z21, z22, z23, s2⟩ := b2.out.e4
   have szb := HB.out.size
   go_wp2_with fail
   refine (rparse_is _ (by have := HSZ.out; simp <;> omega) (by rw [Lib.extract_data]; simpa using HN.out) HE.out).mono ?_
   rintro e W1 ⟨v, rfl, hv, hb⟩
   replace b2 := hup b2 hb
   have nbel := below_then HB.out hb HB.out.size
   have HB2 := Lib.hid nbel
   clear nbel HB hb x20 x21 x22 x23 z20 z21 z22 z23 szb s2
   obtain ⟨x20, x21, x22, x23, z20, z21, z22, z23, s2⟩ := b2.out.e4
   have szb := HB2.out.size
   obtain ⟨k1, A1, l1, c1, rfl⟩ := hv.open
   have HA := Lib.hid hv
   clear hv
   go_upto_region 12 with (fail)
   have q3 := b2.out.lt
   change Code.wp Tryz.prog _ _ _ (W1.alloc (.cells #[.bool k1, .slice A1 l1 c1] 33))
   obtain ⟨nb8, na⟩ := new1 W1 33 [.bool k1, .slice A1 l1 c1] lf2
   have nb2 := b2.out.up na
   have nkeep := Keep.ofBelow na
   have nbel := below_then HB2.out na HB2.out.size
   generalize W1.alloc (.cells #[.bool k1, .slice A1 l1 c1] 33) = W4 at *
   clear na x20 x21 x22 x23 z20 z21 z22 z23 szb s2 b2
   have b2 := Lib.hid nb2
   have b8 := Lib.hid nb8
   clear nb2 nb8
   replace HA := Lib.hid (HA.out.kept nkeep)
   clear nkeep
   have HB5 := Lib.hid nbel
   clear nbel HB2
   obtain ⟨x20, x21, x22, x23, z20, z21, z22, z23, s2⟩ := b2.out.e4
   obtain ⟨x80, x81, s8⟩ := b8.out.d2
   have szb := HB5.out.size
   go_wp2_with fail
   refine (rparse_is (L := D) _ (by have := HSZ.out; simp <;> omega) (by rw [Lib.extract_to_end]; exact HD.out) HE2.out).mono ?_
   rintro e W6 ⟨v, rfl, hv, hb⟩
   replace b2 := hup b2 hb
   replace b8 := hup b8 hb
   replace HA := Lib.hid (HA.out.kept (Keep.ofBelow hb))
   have nbel := below_then HB5.out hb HB5.out.size
   have HB7 := Lib.hid nbel
   clear nbel HB5 hb x20 x21 x22 x23 z20 z21 z22 z23 x80 x81 szb s2 s8
   obtain ⟨x20, x21, x22, x23, z20, z21, z22, z23, s2⟩ := b2.out.e4
   obtain ⟨x80, x81, s8⟩ := b8.out.d2
   have szb := HB7.out.size
   obtain ⟨k2, A2, l2, c2, rfl⟩ := hv.open
   have HB2 := Lib.hid hv
   clear hv
   go_upto_region 13 with (fail)
   have q8 := b2.out.lt
   have q9 := b8.out.lt
   change Code.wp Tryz.prog _ _ _ (W6.alloc (.cells #[.bool k2, .slice A2 l2 c2] 33))
   obtain ⟨nb10, na⟩ := new1 W6 33 [.bool k2, .slice A2 l2 c2] lf2
   have nb2 := b2.out.up na
   have nb8 := b8.out.up na
   have nkeep := Keep.ofBelow na
   have nbel := below_then HB7.out na HB7.out.size
   generalize W6.alloc (.cells #[.bool k2, .slice A2 l2 c2] 33) = W10 at *
   clear na x20 x21 x22 x23 z20 z21 z22 z23 x80 x81 szb s2 s8 b2 b8
   have b2 := Lib.hid nb2
   have b8 := Lib.hid nb8
   have b10 := Lib.hid nb10
   clear nb2 nb8 nb10
   replace HA := Lib.hid (HA.out.kept nkeep)
   replace HB2 := Lib.hid (HB2.out.kept nkeep)
   clear nkeep
   have HB11 := Lib.hid nbel
   clear nbel HB7
   obtain ⟨x20, x21, x22, x23, z20, z21, z22, z23, s2⟩ := b2.out.e4
   obtain ⟨x80, x81, s8⟩ := b8.out.d2
   obtain ⟨x100, x101, s10⟩ := b10.out.d2
   have szb := HB11.out.size
   go_wp2_with fail
   have hkeep := (Keep.set4 (Keep.refl W10) b2.out (Leaf.bool false) (Leaf.slice none 0 0) (Leaf.bool false) (Leaf.slice none 0 0))
   have hbel := (Below.set4 (g := w.heap.size) HB11.out (by first | omega | (simp; done) | (simp; omega)) (.bool false) (.slice none 0 0) (.bool false) (.slice none 0 0))
   refine bodyPost_ret (v := .tuple #[.agg #[.bool false, .slice none 0 0, .bool false, .slice none 0 0], .int .i64 3]) (by simp [results, Tryz.results15, go_sem, x20, x21, x22, x23]) rfl ⟨rfl, hbel⟩
theorem rp_q_C3 {s : ByteArray} {N D : List UInt8} {w : World} (hs : s.size ≤ 1000) (hf : sl s.data.toList < s.size) (hN : s.data.toList.take (sl s.data.toList) = N) (hD : s.data.toList.drop (sl s.data.toList + 1) = D) (he : errOf N = 0) (he2 : errOf D = 0) {cc : Int} (hsg : cmpI (valZ D) 0 = cc) (hcc : decide (cc ≤ 0) = true) :
  Calls Tryz.prog 15 #[.string s] w fun e w' => e = .returned (.tuple #[.agg #[.bool false, .slice none 0 0, .bool false, .slice none 0 0], .int .i64 3]) ∧ Below w.heap.size w w' := by
 have HSZ := Lib.hid hs
 have HF := Lib.hid hf
 have HN := Lib.hid hN
 have HD := Lib.hid hD
 have HE := Lib.hid he
 clear hs hf hN hD he
 have HE2 := Lib.hid he2
 clear he2
 have HSG := Lib.hid hsg
 clear hsg
 go_enter Tryz.func15, Tryz.ntmps15
 go_wp2
 have nb2 := Bx.new 35 w [.bool false, .slice none 0 0, .bool false, .slice none 0 0] lf4
 have nbel := below_alloc_new (w := w) (.cells #[.bool false, .slice none 0 0, .bool false, .slice none 0 0] 35)
 change Code.wp Tryz.prog _ _ _ (w.alloc (.cells #[.bool false, .slice none 0 0, .bool false, .slice none 0 0] 35))
 generalize w.alloc (.cells #[.bool false, .slice none 0 0, .bool false, .slice none 0 0] 35) = W0 at *
 have b2 := Lib.hid nb2
 have HB := Lib.hid nbel
 clear nb2 nbel
 go_loopw [4, 5] (fun v4 v5 wr => ∃ i : Nat, i ≤ s.size ∧ wr = W0 ∧ v5 = .int .i64 i ∧ v4 = .int .i64 ((if sl s.data.toList < i then sl s.data.toList else s.size : Nat) : Int)) (fun _ v _ => s.size - (intOf v).toNat)
 case atStart => exact ⟨0, Nat.zero_le _, rfl, rfl, by simp⟩
 case round =>
  obtain ⟨i, hi, rfl, rfl, rfl⟩ := hrel
  by_cases hlt : i < s.size
  ·have h1 : ((i : Nat) : Int) < ((s.size : Nat) : Int) := by omega
   have hli : i < s.data.toList.length := by rw [size_list]; exact hlt
   have hg : s.data.toList[i] = s[i] := toList_get s i hlt
   have hsz := HSZ.out
   by_cases hc : sl s.data.toList < i
   ·rw [if_pos hc]
    have h2 : (((sl s.data.toList : Nat) : Int) == ((s.size : Nat) : Int)) = false := by simp; omega
    by_cases hz : (s[i]'hlt).toNat = 47
    ·go_wp2
     exact ⟨⟨i + 1, by omega, trivial, by simp, by rw [if_pos (by omega)]⟩, by simp [intOf]; omega⟩
    ·go_wp2
     exact ⟨⟨i + 1, by omega, trivial, by simp, by rw [if_pos (by omega)]⟩, by simp [intOf]; omega⟩
   ·rw [if_neg hc]
    have hiff := sl_at hli (by omega)
    by_cases hz : (s[i]'hlt).toNat = 47
    ·have h3 : sl s.data.toList = i := hiff.1 (by rw [hg]; exact UInt8.toNat_inj.1 hz)
     go_wp2
     exact ⟨⟨i + 1, by omega, trivial, by simp, by rw [if_pos (by omega), h3]⟩, by simp [intOf]; omega⟩
    ·have h3 : sl s.data.toList ≠ i := fun h => hz (by have := hiff.2 h; rw [hg] at this; rw [this]; rfl)
     go_wp2
     exact ⟨⟨i + 1, by omega, trivial, by simp, by rw [if_neg (by omega)]⟩, by simp [intOf]; omega⟩
  ·obtain rfl : i = s.size := by omega
   have h1 : decide ((s.size : Nat) < s.size) = false := by simp
   clear hlt hi
   rw [if_pos HF.out]
   have hk0 := HF.out
   generalize hk : sl s.data.toList = kk at *
   have hk1 : ((kk : Nat) : Int) < ((s.size : Nat) : Int) := by omega
   have HK := Lib.hid hk
   clear hk
   have hsz := HSZ.out
   obtain ⟨x20, x21, x22, x23, z20, z21, z22, z23, s2⟩ := b2.out.e4
   have szb := HB.out.size
   go_wp2_with fail
   refine (rparse_is _ (by have := HSZ.out; simp <;> omega) (by rw [Lib.extract_data]; simpa using HN.out) HE.out).mono ?_
   rintro e W1 ⟨v, rfl, hv, hb⟩
   replace b2 := hup b2 hb
   have nbel := below_then HB.out hb HB.out.size
   have HB2 := Lib.hid nbel
   clear nbel HB hb x20 x21 x22 x23 z20 z21 z22 z23 szb s2
   obtain ⟨x20, x21, x22, x23, z20, z21, z22, z23, s2⟩ := b2.out.e4
   have szb := HB2.out.size
   obtain ⟨k1, A1, l1, c1, rfl⟩ := hv.open
   have HA := Lib.hid hv
   clear hv
   go_upto_region 12 with (fail)
   have q3 := b2.out.lt
   change Code.wp Tryz.prog _ _ _ (W1.alloc (.cells #[.bool k1, .slice A1 l1 c1] 33))
   obtain ⟨nb8, na⟩ := new1 W1 33 [.bool k1, .slice A1 l1 c1] lf2
   have nb2 := b2.out.up na
   have nkeep := Keep.ofBelow na
   have nbel := below_then HB2.out na HB2.out.size
   generalize W1.alloc (.cells #[.bool k1, .slice A1 l1 c1] 33) = W4 at *
   clear na x20 x21 x22 x23 z20 z21 z22 z23 szb s2 b2
   have b2 := Lib.hid nb2
   have b8 := Lib.hid nb8
   clear nb2 nb8
   replace HA := Lib.hid (HA.out.kept nkeep)
   clear nkeep
   have HB5 := Lib.hid nbel
   clear nbel HB2
   obtain ⟨x20, x21, x22, x23, z20, z21, z22, z23, s2⟩ := b2.out.e4
   obtain ⟨x80, x81, s8⟩ := b8.out.d2
   have szb := HB5.out.size
   go_wp2_with fail
   refine (rparse_is (L := D) _ (by have := HSZ.out; simp <;> omega) (by rw [Lib.extract_to_end]; exact HD.out) HE2.out).mono ?_
   rintro e W6 ⟨v, rfl, hv, hb⟩
   replace b2 := hup b2 hb
   replace b8 := hup b8 hb
   replace HA := Lib.hid (HA.out.kept (Keep.ofBelow hb))
   have nbel := below_then HB5.out hb HB5.out.size
   have HB7 := Lib.hid nbel
   clear nbel HB5 hb x20 x21 x22 x23 z20 z21 z22 z23 x80 x81 szb s2 s8
   obtain ⟨x20, x21, x22, x23, z20, z21, z22, z23, s2⟩ := b2.out.e4
   obtain ⟨x80, x81, s8⟩ := b8.out.d2
   have szb := HB7.out.size
   obtain ⟨k2, A2, l2, c2, rfl⟩ := hv.open
   have HB2 := Lib.hid hv
   clear hv
   go_upto_region 13 with (fail)
   have q8 := b2.out.lt
   have q9 := b8.out.lt
   change Code.wp Tryz.prog _ _ _ (W6.alloc (.cells #[.bool k2, .slice A2 l2 c2] 33))
   obtain ⟨nb10, na⟩ := new1 W6 33 [.bool k2, .slice A2 l2 c2] lf2
   have nb2 := b2.out.up na
   have nb8 := b8.out.up na
   have nkeep := Keep.ofBelow na
   have nbel := below_then HB7.out na HB7.out.size
   generalize W6.alloc (.cells #[.bool k2, .slice A2 l2 c2] 33) = W10 at *
   clear na x20 x21 x22 x23 z20 z21 z22 z23 x80 x81 szb s2 s8 b2 b8
   have b2 := Lib.hid nb2
   have b8 := Lib.hid nb8
   have b10 := Lib.hid nb10
   clear nb2 nb8 nb10
   replace HA := Lib.hid (HA.out.kept nkeep)
   replace HB2 := Lib.hid (HB2.out.kept nkeep)
   clear nkeep
   have HB11 := Lib.hid nbel
   clear nbel HB7
   obtain ⟨x20, x21, x22, x23, z20, z21, z22, z23, s2⟩ := b2.out.e4
   obtain ⟨x80, x81, s8⟩ := b8.out.d2
   obtain ⟨x100, x101, s10⟩ := b10.out.d2
   have szb := HB11.out.size
   go_wp2_with fail
   refine (rsign_is HB2.out HSG.out).mono ?_
   rintro e W12 ⟨rfl, hb⟩
   replace b2 := hup b2 hb
   replace b8 := hup b8 hb
   replace b10 := hup b10 hb
   replace HA := Lib.hid (HA.out.kept (Keep.ofBelow hb))
   replace HB2 := Lib.hid (HB2.out.kept (Keep.ofBelow hb))
   have nbel := below_then HB11.out hb HB11.out.size
   have HB13 := Lib.hid nbel
   clear nbel HB11 hb x20 x21 x22 x23 z20 z21 z22 z23 x80 x81 x100 x101 szb s2 s8 s10
   obtain ⟨x20, x21, x22, x23, z20, z21, z22, z23, s2⟩ := b2.out.e4
   obtain ⟨x80, x81, s8⟩ := b8.out.d2
   obtain ⟨x100, x101, s10⟩ := b10.out.d2
   have szb := HB13.out.size
   go_wp2_with fail
   have hkeep := (Keep.set4 (Keep.refl W12) b2.out (Leaf.bool false) (Leaf.slice none 0 0) (Leaf.bool false) (Leaf.slice none 0 0))
   have hbel := (Below.set4 (g := w.heap.size) HB13.out (by first | omega | (simp; done) | (simp; omega)) (.bool false) (.slice none 0 0) (.bool false) (.slice none 0 0))
   refine bodyPost_ret (v := .tuple #[.agg #[.bool false, .slice none 0 0, .bool false, .slice none 0 0], .int .i64 3]) (by simp [results, Tryz.results15, go_sem, x20, x21, x22, x23]) rfl ⟨rfl, hbel⟩
theorem rp_q_C4 {s : ByteArray} {N D : List UInt8} {w : World} (hs : s.size ≤ 1000) (hf : sl s.data.toList < s.size) (hN : s.data.toList.take (sl s.data.toList) = N) (hD : s.data.toList.drop (sl s.data.toList + 1) = D) (he : errOf N = 0) (he2 : errOf D = 0) (hsg : cmpI (valZ D) 0 = 1) (hq : valZ D ≠ 0) (ht : ratText (Rat.divInt (valZ N) (valZ D)) = s.data.toList) :
  Calls Tryz.prog 15 #[.string s] w fun e w' => ∃ v, e = .returned (.tuple #[v, .int .i64 0]) ∧ RRat (Rat.divInt (valZ N) (valZ D)) 500 v w' ∧ Below w.heap.size w w' := by
 have HSZ := Lib.hid hs
 have HF := Lib.hid hf
 have HN := Lib.hid hN
 have HD := Lib.hid hD
 have HE := Lib.hid he
 clear hs hf hN hD he
 have HE2 := Lib.hid he2
 clear he2
 have HSG := Lib.hid hsg
 clear hsg
 have HT := Lib.hid ht
 clear ht
 go_enter Tryz.func15, Tryz.ntmps15
 go_wp2
 have nb2 := Bx.new 35 w [.bool false, .slice none 0 0, .bool false, .slice none 0 0] lf4
 have nbel := below_alloc_new (w := w) (.cells #[.bool false, .slice none 0 0, .bool false, .slice none 0 0] 35)
 change Code.wp Tryz.prog _ _ _ (w.alloc (.cells #[.bool false, .slice none 0 0, .bool false, .slice none 0 0] 35))
 generalize w.alloc (.cells #[.bool false, .slice none 0 0, .bool false, .slice none 0 0] 35) = W0 at *
 have b2 := Lib.hid nb2
 have HB := Lib.hid nbel
 clear nb2 nbel
 go_loopw [4, 5] (fun v4 v5 wr => ∃ i : Nat, i ≤ s.size ∧ wr = W0 ∧ v5 = .int .i64 i ∧ v4 = .int .i64 ((if sl s.data.toList < i then sl s.data.toList else s.size : Nat) : Int)) (fun _ v _ => s.size - (intOf v).toNat)
 case atStart => exact ⟨0, Nat.zero_le _, rfl, rfl, by simp⟩
 case round =>
  obtain ⟨i, hi, rfl, rfl, rfl⟩ := hrel
  by_cases hlt : i < s.size
  ·have h1 : ((i : Nat) : Int) < ((s.size : Nat) : Int) := by omega
   have hli : i < s.data.toList.length := by rw [size_list]; exact hlt
   have hg : s.data.toList[i] = s[i] := toList_get s i hlt
   have hsz := HSZ.out
   by_cases hc : sl s.data.toList < i
   ·rw [if_pos hc]
    have h2 : (((sl s.data.toList : Nat) : Int) == ((s.size : Nat) : Int)) = false := by simp; omega
    by_cases hz : (s[i]'hlt).toNat = 47
    ·go_wp2
     exact ⟨⟨i + 1, by omega, trivial, by simp, by rw [if_pos (by omega)]⟩, by simp [intOf]; omega⟩
    ·go_wp2
     exact ⟨⟨i + 1, by omega, trivial, by simp, by rw [if_pos (by omega)]⟩, by simp [intOf]; omega⟩
   ·rw [if_neg hc]
    have hiff := sl_at hli (by omega)
    by_cases hz : (s[i]'hlt).toNat = 47
    ·have h3 : sl s.data.toList = i := hiff.1 (by rw [hg]; exact UInt8.toNat_inj.1 hz)
     go_wp2
     exact ⟨⟨i + 1, by omega, trivial, by simp, by rw [if_pos (by omega), h3]⟩, by simp [intOf]; omega⟩
    ·have h3 : sl s.data.toList ≠ i := fun h => hz (by have := hiff.2 h; rw [hg] at this; rw [this]; rfl)
     go_wp2
     exact ⟨⟨i + 1, by omega, trivial, by simp, by rw [if_neg (by omega)]⟩, by simp [intOf]; omega⟩
  ·obtain rfl : i = s.size := by omega
   have h1 : decide ((s.size : Nat) < s.size) = false := by simp
   clear hlt hi
   rw [if_pos HF.out]
   have hk0 := HF.out
   generalize hk : sl s.data.toList = kk at *
   have hk1 : ((kk : Nat) : Int) < ((s.size : Nat) : Int) := by omega
   have HK := Lib.hid hk
   clear hk
   have hsz := HSZ.out
   obtain ⟨x20, x21, x22, x23, z20, z21, z22, z23, s2⟩ := b2.out.e4
   have szb := HB.out.size
   go_wp2_with fail
   refine (rparse_is _ (by have := HSZ.out; simp <;> omega) (by rw [Lib.extract_data]; simpa using HN.out) HE.out).mono ?_
   rintro e W1 ⟨v, rfl, hv, hb⟩
   replace b2 := hup b2 hb
   have nbel := below_then HB.out hb HB.out.size
   have HB2 := Lib.hid nbel
   clear nbel HB hb x20 x21 x22 x23 z20 z21 z22 z23 szb s2
   obtain ⟨x20, x21, x22, x23, z20, z21, z22, z23, s2⟩ := b2.out.e4
   have szb := HB2.out.size
   obtain ⟨k1, A1, l1, c1, rfl⟩ := hv.open
   have HA := Lib.hid hv
   clear hv
   go_upto_region 12 with (fail)
   have q3 := b2.out.lt
   change Code.wp Tryz.prog _ _ _ (W1.alloc (.cells #[.bool k1, .slice A1 l1 c1] 33))
   obtain ⟨nb8, na⟩ := new1 W1 33 [.bool k1, .slice A1 l1 c1] lf2
   have nb2 := b2.out.up na
   have nkeep := Keep.ofBelow na
   have nbel := below_then HB2.out na HB2.out.size
   generalize W1.alloc (.cells #[.bool k1, .slice A1 l1 c1] 33) = W4 at *
   clear na x20 x21 x22 x23 z20 z21 z22 z23 szb s2 b2
   have b2 := Lib.hid nb2
   have b8 := Lib.hid nb8
   clear nb2 nb8
   replace HA := Lib.hid (HA.out.kept nkeep)
   clear nkeep
   have HB5 := Lib.hid nbel
   clear nbel HB2
   obtain ⟨x20, x21, x22, x23, z20, z21, z22, z23, s2⟩ := b2.out.e4
   obtain ⟨x80, x81, s8⟩ := b8.out.d2
   have szb := HB5.out.size
   go_wp2_with fail
   refine (rparse_is (L := D) _ (by have := HSZ.out; simp <;> omega) (by rw [Lib.extract_to_end]; exact HD.out) HE2.out).mono ?_
   rintro e W6 ⟨v, rfl, hv, hb⟩
   replace b2 := hup b2 hb
   replace b8 := hup b8 hb
   replace HA := Lib.hid (HA.out.kept (Keep.ofBelow hb))
   have nbel := below_then HB5.out hb HB5.out.size
   have HB7 := Lib.hid nbel
   clear nbel HB5 hb x20 x21 x22 x23 z20 z21 z22 z23 x80 x81 szb s2 s8
   obtain ⟨x20, x21, x22, x23, z20, z21, z22, z23, s2⟩ := b2.out.e4
   obtain ⟨x80, x81, s8⟩ := b8.out.d2
   have szb := HB7.out.size
   obtain ⟨k2, A2, l2, c2, rfl⟩ := hv.open
   have HB2 := Lib.hid hv
   clear hv
   go_upto_region 13 with (fail)
   have q8 := b2.out.lt
   have q9 := b8.out.lt
   change Code.wp Tryz.prog _ _ _ (W6.alloc (.cells #[.bool k2, .slice A2 l2 c2] 33))
   obtain ⟨nb10, na⟩ := new1 W6 33 [.bool k2, .slice A2 l2 c2] lf2
   have nb2 := b2.out.up na
   have nb8 := b8.out.up na
   have nkeep := Keep.ofBelow na
   have nbel := below_then HB7.out na HB7.out.size
   generalize W6.alloc (.cells #[.bool k2, .slice A2 l2 c2] 33) = W10 at *
   clear na x20 x21 x22 x23 z20 z21 z22 z23 x80 x81 szb s2 s8 b2 b8
   have b2 := Lib.hid nb2
   have b8 := Lib.hid nb8
   have b10 := Lib.hid nb10
   clear nb2 nb8 nb10
   replace HA := Lib.hid (HA.out.kept nkeep)
   replace HB2 := Lib.hid (HB2.out.kept nkeep)
   clear nkeep
   have HB11 := Lib.hid nbel
   clear nbel HB7
   obtain ⟨x20, x21, x22, x23, z20, z21, z22, z23, s2⟩ := b2.out.e4
   obtain ⟨x80, x81, s8⟩ := b8.out.d2
   obtain ⟨x100, x101, s10⟩ := b10.out.d2
   have szb := HB11.out.size
   go_wp2_with fail
   refine (rsign_is HB2.out HSG.out).mono ?_
   rintro e W12 ⟨rfl, hb⟩
   replace b2 := hup b2 hb
   replace b8 := hup b8 hb
   replace b10 := hup b10 hb
   replace HA := Lib.hid (HA.out.kept (Keep.ofBelow hb))
   replace HB2 := Lib.hid (HB2.out.kept (Keep.ofBelow hb))
   have nbel := below_then HB11.out hb HB11.out.size
   have HB13 := Lib.hid nbel
   clear nbel HB11 hb x20 x21 x22 x23 z20 z21 z22 z23 x80 x81 x100 x101 szb s2 s8 s10
   obtain ⟨x20, x21, x22, x23, z20, z21, z22, z23, s2⟩ := b2.out.e4
   obtain ⟨x80, x81, s8⟩ := b8.out.d2
   obtain ⟨x100, x101, s10⟩ := b10.out.d2
   have szb := HB13.out.size
   go_wp2_with fail
   refine (rquot_fact HA.out HB2.out (by omega) hq).mono ?_
   rintro e W14 ⟨v, rfl, hv, hb⟩
   replace b2 := hup b2 hb
   replace b8 := hup b8 hb
   replace b10 := hup b10 hb
   replace HA := Lib.hid (HA.out.kept (Keep.ofBelow hb))
   replace HB2 := Lib.hid (HB2.out.kept (Keep.ofBelow hb))
   have nbel := below_then HB13.out hb HB13.out.size
   have HB15 := Lib.hid nbel
   clear nbel HB13 hb x20 x21 x22 x23 z20 z21 z22 z23 x80 x81 x100 x101 szb s2 s8 s10
   obtain ⟨x20, x21, x22, x23, z20, z21, z22, z23, s2⟩ := b2.out.e4
   obtain ⟨x80, x81, s8⟩ := b8.out.d2
   obtain ⟨x100, x101, s10⟩ := b10.out.d2
   have szb := HB15.out.size
   obtain ⟨k3, A3, l3, c3, k4, A4, l4, c4, rfl⟩ := hv.open
   have HX := Lib.hid hv
   clear hv
   go_upto_region 20 with (fail)
   have q16 := b2.out.lt
   have q17 := b8.out.lt
   have q18 := b10.out.lt
   change Code.wp Tryz.prog _ _ _ (W14.alloc (.cells #[.bool k3, .slice A3 l3 c3, .bool k4, .slice A4 l4 c4] 35))
   obtain ⟨nb12, na⟩ := new1 W14 35 [.bool k3, .slice A3 l3 c3, .bool k4, .slice A4 l4 c4] lf4
   have nb2 := b2.out.up na
   have nb8 := b8.out.up na
   have nb10 := b10.out.up na
   have nkeep := Keep.ofBelow na
   have nbel := below_then HB15.out na HB15.out.size
   generalize W14.alloc (.cells #[.bool k3, .slice A3 l3 c3, .bool k4, .slice A4 l4 c4] 35) = W19 at *
   clear na x20 x21 x22 x23 z20 z21 z22 z23 x80 x81 x100 x101 szb s2 s8 s10 b2 b8 b10
   have b2 := Lib.hid nb2
   have b8 := Lib.hid nb8
   have b10 := Lib.hid nb10
   have b12 := Lib.hid nb12
   clear nb2 nb8 nb10 nb12
   replace HA := Lib.hid (HA.out.kept nkeep)
   replace HB2 := Lib.hid (HB2.out.kept nkeep)
   replace HX := Lib.hid (HX.out.kept nkeep)
   clear nkeep
   have HB20 := Lib.hid nbel
   clear nbel HB15
   obtain ⟨x20, x21, x22, x23, z20, z21, z22, z23, s2⟩ := b2.out.e4
   obtain ⟨x80, x81, s8⟩ := b8.out.d2
   obtain ⟨x100, x101, s10⟩ := b10.out.d2
   obtain ⟨x120, x121, x122, x123, s12⟩ := b12.out.d4
   have szb := HB20.out.size
   go_wp2_with fail
   refine (rratText_is HX.out (by omega) (by omega) HT.out).mono ?_
   rintro e W21 ⟨rfl, hb⟩
   replace b2 := hup b2 hb
   replace b8 := hup b8 hb
   replace b10 := hup b10 hb
   replace b12 := hup b12 hb
   replace HA := Lib.hid (HA.out.kept (Keep.ofBelow hb))
   replace HB2 := Lib.hid (HB2.out.kept (Keep.ofBelow hb))
   replace HX := Lib.hid (HX.out.kept (Keep.ofBelow hb))
   have nbel := below_then HB20.out hb HB20.out.size
   have HB22 := Lib.hid nbel
   clear nbel HB20 hb x20 x21 x22 x23 z20 z21 z22 z23 x80 x81 x100 x101 x120 x121 x122 x123 szb s2 s8 s10 s12
   obtain ⟨x20, x21, x22, x23, z20, z21, z22, z23, s2⟩ := b2.out.e4
   obtain ⟨x80, x81, s8⟩ := b8.out.d2
   obtain ⟨x100, x101, s10⟩ := b10.out.d2
   obtain ⟨x120, x121, x122, x123, s12⟩ := b12.out.d4
   have szb := HB22.out.size
   go_wp2_with fail
   have hkeep := (Keep.set4 (Keep.refl W21) b2.out (Leaf.bool k3) (Leaf.slice A3 l3 c3) (Leaf.bool k4) (Leaf.slice A4 l4 c4))
   have hbel := (Below.set4 (g := w.heap.size) HB22.out (by first | omega | (simp; done) | (simp; omega)) (.bool k3) (.slice A3 l3 c3) (.bool k4) (.slice A4 l4 c4))
   refine bodyPost_ret (v := .tuple #[.agg #[.bool k3, .slice A3 l3 c3, .bool k4, .slice A4 l4 c4], .int .i64 0]) (by simp [results, Tryz.results15, go_sem, x20, x21, x22, x23]) rfl ⟨_, rfl, HX.out.kept hkeep, hbel⟩
theorem rp_q_C5 {s : ByteArray} {N D : List UInt8} {w : World} (hs : s.size ≤ 1000) (hf : sl s.data.toList < s.size) (hN : s.data.toList.take (sl s.data.toList) = N) (hD : s.data.toList.drop (sl s.data.toList + 1) = D) (he : errOf N = 0) (he2 : errOf D = 0) (hsg : cmpI (valZ D) 0 = 1) (hq : valZ D ≠ 0) {T : List UInt8} (ht : ratText (Rat.divInt (valZ N) (valZ D)) = T) (htn : (T == s.toList) = false) :
  Calls Tryz.prog 15 #[.string s] w fun e w' => e = .returned (.tuple #[.agg #[.bool false, .slice none 0 0, .bool false, .slice none 0 0], .int .i64 3]) ∧ Below w.heap.size w w' := by
 have HSZ := Lib.hid hs
 have HF := Lib.hid hf
 have HN := Lib.hid hN
 have HD := Lib.hid hD
 have HE := Lib.hid he
 clear hs hf hN hD he
 have HE2 := Lib.hid he2
 clear he2
 have HSG := Lib.hid hsg
 clear hsg
 have HT := Lib.hid ht
 clear ht
 go_enter Tryz.func15, Tryz.ntmps15
 go_wp2
 have nb2 := Bx.new 35 w [.bool false, .slice none 0 0, .bool false, .slice none 0 0] lf4
 have nbel := below_alloc_new (w := w) (.cells #[.bool false, .slice none 0 0, .bool false, .slice none 0 0] 35)
 change Code.wp Tryz.prog _ _ _ (w.alloc (.cells #[.bool false, .slice none 0 0, .bool false, .slice none 0 0] 35))
 generalize w.alloc (.cells #[.bool false, .slice none 0 0, .bool false, .slice none 0 0] 35) = W0 at *
 have b2 := Lib.hid nb2
 have HB := Lib.hid nbel
 clear nb2 nbel
 go_loopw [4, 5] (fun v4 v5 wr => ∃ i : Nat, i ≤ s.size ∧ wr = W0 ∧ v5 = .int .i64 i ∧ v4 = .int .i64 ((if sl s.data.toList < i then sl s.data.toList else s.size : Nat) : Int)) (fun _ v _ => s.size - (intOf v).toNat)
 case atStart => exact ⟨0, Nat.zero_le _, rfl, rfl, by simp⟩
 case round =>
  obtain ⟨i, hi, rfl, rfl, rfl⟩ := hrel
  by_cases hlt : i < s.size
  ·have h1 : ((i : Nat) : Int) < ((s.size : Nat) : Int) := by omega
   have hli : i < s.data.toList.length := by rw [size_list]; exact hlt
   have hg : s.data.toList[i] = s[i] := toList_get s i hlt
   have hsz := HSZ.out
   by_cases hc : sl s.data.toList < i
   ·rw [if_pos hc]
    have h2 : (((sl s.data.toList : Nat) : Int) == ((s.size : Nat) : Int)) = false := by simp; omega
    by_cases hz : (s[i]'hlt).toNat = 47
    ·go_wp2
     exact ⟨⟨i + 1, by omega, trivial, by simp, by rw [if_pos (by omega)]⟩, by simp [intOf]; omega⟩
    ·go_wp2
     exact ⟨⟨i + 1, by omega, trivial, by simp, by rw [if_pos (by omega)]⟩, by simp [intOf]; omega⟩
   ·rw [if_neg hc]
    have hiff := sl_at hli (by omega)
    by_cases hz : (s[i]'hlt).toNat = 47
    ·have h3 : sl s.data.toList = i := hiff.1 (by rw [hg]; exact UInt8.toNat_inj.1 hz)
     go_wp2
     exact ⟨⟨i + 1, by omega, trivial, by simp, by rw [if_pos (by omega), h3]⟩, by simp [intOf]; omega⟩
    ·have h3 : sl s.data.toList ≠ i := fun h => hz (by have := hiff.2 h; rw [hg] at this; rw [this]; rfl)
     go_wp2
     exact ⟨⟨i + 1, by omega, trivial, by simp, by rw [if_neg (by omega)]⟩, by simp [intOf]; omega⟩
  ·obtain rfl : i = s.size := by omega
   have h1 : decide ((s.size : Nat) < s.size) = false := by simp
   clear hlt hi
   rw [if_pos HF.out]
   have hk0 := HF.out
   generalize hk : sl s.data.toList = kk at *
   have hk1 : ((kk : Nat) : Int) < ((s.size : Nat) : Int) := by omega
   have HK := Lib.hid hk
   clear hk
   have hsz := HSZ.out
   obtain ⟨x20, x21, x22, x23, z20, z21, z22, z23, s2⟩ := b2.out.e4
   have szb := HB.out.size
   go_wp2_with fail
   refine (rparse_is _ (by have := HSZ.out; simp <;> omega) (by rw [Lib.extract_data]; simpa using HN.out) HE.out).mono ?_
   rintro e W1 ⟨v, rfl, hv, hb⟩
   replace b2 := hup b2 hb
   have nbel := below_then HB.out hb HB.out.size
   have HB2 := Lib.hid nbel
   clear nbel HB hb x20 x21 x22 x23 z20 z21 z22 z23 szb s2
   obtain ⟨x20, x21, x22, x23, z20, z21, z22, z23, s2⟩ := b2.out.e4
   have szb := HB2.out.size
   obtain ⟨k1, A1, l1, c1, rfl⟩ := hv.open
   have HA := Lib.hid hv
   clear hv
   go_upto_region 12 with (fail)
   have q3 := b2.out.lt
   change Code.wp Tryz.prog _ _ _ (W1.alloc (.cells #[.bool k1, .slice A1 l1 c1] 33))
   obtain ⟨nb8, na⟩ := new1 W1 33 [.bool k1, .slice A1 l1 c1] lf2
   have nb2 := b2.out.up na
   have nkeep := Keep.ofBelow na
   have nbel := below_then HB2.out na HB2.out.size
   generalize W1.alloc (.cells #[.bool k1, .slice A1 l1 c1] 33) = W4 at *
   clear na x20 x21 x22 x23 z20 z21 z22 z23 szb s2 b2
   have b2 := Lib.hid nb2
   have b8 := Lib.hid nb8
   clear nb2 nb8
   replace HA := Lib.hid (HA.out.kept nkeep)
   clear nkeep
   have HB5 := Lib.hid nbel
   clear nbel HB2
   obtain ⟨x20, x21, x22, x23, z20, z21, z22, z23, s2⟩ := b2.out.e4
   obtain ⟨x80, x81, s8⟩ := b8.out.d2
   have szb := HB5.out.size
   go_wp2_with fail
   refine (rparse_is (L := D) _ (by have := HSZ.out; simp <;> omega) (by rw [Lib.extract_to_end]; exact HD.out) HE2.out).mono ?_
   rintro e W6 ⟨v, rfl, hv, hb⟩
   replace b2 := hup b2 hb
   replace b8 := hup b8 hb
   replace HA := Lib.hid (HA.out.kept (Keep.ofBelow hb))
   have nbel := below_then HB5.out hb HB5.out.size
   have HB7 := Lib.hid nbel
   clear nbel HB5 hb x20 x21 x22 x23 z20 z21 z22 z23 x80 x81 szb s2 s8
   obtain ⟨x20, x21, x22, x23, z20, z21, z22, z23, s2⟩ := b2.out.e4
   obtain ⟨x80, x81, s8⟩ := b8.out.d2
   have szb := HB7.out.size
   obtain ⟨k2, A2, l2, c2, rfl⟩ := hv.open
   have HB2 := Lib.hid hv
   clear hv
   go_upto_region 13 with (fail)
   have q8 := b2.out.lt
   have q9 := b8.out.lt
   change Code.wp Tryz.prog _ _ _ (W6.alloc (.cells #[.bool k2, .slice A2 l2 c2] 33))
   obtain ⟨nb10, na⟩ := new1 W6 33 [.bool k2, .slice A2 l2 c2] lf2
   have nb2 := b2.out.up na
   have nb8 := b8.out.up na
   have nkeep := Keep.ofBelow na
   have nbel := below_then HB7.out na HB7.out.size
   generalize W6.alloc (.cells #[.bool k2, .slice A2 l2 c2] 33) = W10 at *
   clear na x20 x21 x22 x23 z20 z21 z22 z23 x80 x81 szb s2 s8 b2 b8
   have b2 := Lib.hid nb2
   have b8 := Lib.hid nb8
   have b10 := Lib.hid nb10
   clear nb2 nb8 nb10
   replace HA := Lib.hid (HA.out.kept nkeep)
   replace HB2 := Lib.hid (HB2.out.kept nkeep)
   clear nkeep
   have HB11 := Lib.hid nbel
   clear nbel HB7
   obtain ⟨x20, x21, x22, x23, z20, z21, z22, z23, s2⟩ := b2.out.e4
   obtain ⟨x80, x81, s8⟩ := b8.out.d2
   obtain ⟨x100, x101, s10⟩ := b10.out.d2
   have szb := HB11.out.size
   go_wp2_with fail
   refine (rsign_is HB2.out HSG.out).mono ?_
   rintro e W12 ⟨rfl, hb⟩
   replace b2 := hup b2 hb
   replace b8 := hup b8 hb
   replace b10 := hup b10 hb
   replace HA := Lib.hid (HA.out.kept (Keep.ofBelow hb))
   replace HB2 := Lib.hid (HB2.out.kept (Keep.ofBelow hb))
   have nbel := below_then HB11.out hb HB11.out.size
   have HB13 := Lib.hid nbel
   clear nbel HB11 hb x20 x21 x22 x23 z20 z21 z22 z23 x80 x81 x100 x101 szb s2 s8 s10
   obtain ⟨x20, x21, x22, x23, z20, z21, z22, z23, s2⟩ := b2.out.e4
   obtain ⟨x80, x81, s8⟩ := b8.out.d2
   obtain ⟨x100, x101, s10⟩ := b10.out.d2
   have szb := HB13.out.size
   go_wp2_with fail
   refine (rquot_fact HA.out HB2.out (by omega) hq).mono ?_
   rintro e W14 ⟨v, rfl, hv, hb⟩
   replace b2 := hup b2 hb
   replace b8 := hup b8 hb
   replace b10 := hup b10 hb
   replace HA := Lib.hid (HA.out.kept (Keep.ofBelow hb))
   replace HB2 := Lib.hid (HB2.out.kept (Keep.ofBelow hb))
   have nbel := below_then HB13.out hb HB13.out.size
   have HB15 := Lib.hid nbel
   clear nbel HB13 hb x20 x21 x22 x23 z20 z21 z22 z23 x80 x81 x100 x101 szb s2 s8 s10
   obtain ⟨x20, x21, x22, x23, z20, z21, z22, z23, s2⟩ := b2.out.e4
   obtain ⟨x80, x81, s8⟩ := b8.out.d2
   obtain ⟨x100, x101, s10⟩ := b10.out.d2
   have szb := HB15.out.size
   obtain ⟨k3, A3, l3, c3, k4, A4, l4, c4, rfl⟩ := hv.open
   have HX := Lib.hid hv
   clear hv
   go_upto_region 20 with (fail)
   have q16 := b2.out.lt
   have q17 := b8.out.lt
   have q18 := b10.out.lt
   change Code.wp Tryz.prog _ _ _ (W14.alloc (.cells #[.bool k3, .slice A3 l3 c3, .bool k4, .slice A4 l4 c4] 35))
   obtain ⟨nb12, na⟩ := new1 W14 35 [.bool k3, .slice A3 l3 c3, .bool k4, .slice A4 l4 c4] lf4
   have nb2 := b2.out.up na
   have nb8 := b8.out.up na
   have nb10 := b10.out.up na
   have nkeep := Keep.ofBelow na
   have nbel := below_then HB15.out na HB15.out.size
   generalize W14.alloc (.cells #[.bool k3, .slice A3 l3 c3, .bool k4, .slice A4 l4 c4] 35) = W19 at *
   clear na x20 x21 x22 x23 z20 z21 z22 z23 x80 x81 x100 x101 szb s2 s8 s10 b2 b8 b10
   have b2 := Lib.hid nb2
   have b8 := Lib.hid nb8
   have b10 := Lib.hid nb10
   have b12 := Lib.hid nb12
   clear nb2 nb8 nb10 nb12
   replace HA := Lib.hid (HA.out.kept nkeep)
   replace HB2 := Lib.hid (HB2.out.kept nkeep)
   replace HX := Lib.hid (HX.out.kept nkeep)
   clear nkeep
   have HB20 := Lib.hid nbel
   clear nbel HB15
   obtain ⟨x20, x21, x22, x23, z20, z21, z22, z23, s2⟩ := b2.out.e4
   obtain ⟨x80, x81, s8⟩ := b8.out.d2
   obtain ⟨x100, x101, s10⟩ := b10.out.d2
   obtain ⟨x120, x121, x122, x123, s12⟩ := b12.out.d4
   have szb := HB20.out.size
   go_wp2_with fail
   refine (rratText_is HX.out (by omega) (by omega) HT.out).mono ?_
   rintro e W21 ⟨rfl, hb⟩
   replace b2 := hup b2 hb
   replace b8 := hup b8 hb
   replace b10 := hup b10 hb
   replace b12 := hup b12 hb
   replace HA := Lib.hid (HA.out.kept (Keep.ofBelow hb))
   replace HB2 := Lib.hid (HB2.out.kept (Keep.ofBelow hb))
   replace HX := Lib.hid (HX.out.kept (Keep.ofBelow hb))
   have nbel := below_then HB20.out hb HB20.out.size
   have HB22 := Lib.hid nbel
   clear nbel HB20 hb x20 x21 x22 x23 z20 z21 z22 z23 x80 x81 x100 x101 x120 x121 x122 x123 szb s2 s8 s10 s12
   obtain ⟨x20, x21, x22, x23, z20, z21, z22, z23, s2⟩ := b2.out.e4
   obtain ⟨x80, x81, s8⟩ := b8.out.d2
   obtain ⟨x100, x101, s10⟩ := b10.out.d2
   obtain ⟨x120, x121, x122, x123, s12⟩ := b12.out.d4
   have szb := HB22.out.size
   go_wp2_with fail
   have hkeep := (Keep.set4 (Keep.refl W21) b2.out (Leaf.bool false) (Leaf.slice none 0 0) (Leaf.bool false) (Leaf.slice none 0 0))
   have hbel := (Below.set4 (g := w.heap.size) HB22.out (by first | omega | (simp; done) | (simp; omega)) (.bool false) (.slice none 0 0) (.bool false) (.slice none 0 0))
   refine bodyPost_ret (v := .tuple #[.agg #[.bool false, .slice none 0 0, .bool false, .slice none 0 0], .int .i64 3]) (by simp [results, Tryz.results15, go_sem, x20, x21, x22, x23]) rfl ⟨rfl, hbel⟩
theorem rp_n_C1 {s : ByteArray} {N D : List UInt8} {w : World} (hs : s.size ≤ 1000) (hf : ¬ sl s.data.toList < s.size) (hN : s.data.toList = N) (hD : ([49] : List UInt8) = D) (he : errOf N = 3) :
  Calls Tryz.prog 15 #[.string s] w fun e w' => e = .returned (.tuple #[.agg #[.bool false, .slice none 0 0, .bool false, .slice none 0 0], .int .i64 3]) ∧ Below w.heap.size w w' := by
 have HSZ := Lib.hid hs
 have HF := Lib.hid hf
 have HN := Lib.hid hN
 have HD := Lib.hid hD
 have HE := Lib.hid he
 clear hs hf hN hD he
 go_enter Tryz.func15, Tryz.ntmps15
 go_wp2
 have nb2 := Bx.new 35 w [.bool false, .slice none 0 0, .bool false, .slice none 0 0] lf4
 have nbel := below_alloc_new (w := w) (.cells #[.bool false, .slice none 0 0, .bool false, .slice none 0 0] 35)
 change Code.wp Tryz.prog _ _ _ (w.alloc (.cells #[.bool false, .slice none 0 0, .bool false, .slice none 0 0] 35))
 generalize w.alloc (.cells #[.bool false, .slice none 0 0, .bool false, .slice none 0 0] 35) = W0 at *
 have b2 := Lib.hid nb2
 have HB := Lib.hid nbel
 clear nb2 nbel
 go_loopw [4, 5] (fun v4 v5 wr => ∃ i : Nat, i ≤ s.size ∧ wr = W0 ∧ v5 = .int .i64 i ∧ v4 = .int .i64 ((if sl s.data.toList < i then sl s.data.toList else s.size : Nat) : Int)) (fun _ v _ => s.size - (intOf v).toNat)
 case atStart => exact ⟨0, Nat.zero_le _, rfl, rfl, by simp⟩
 case round =>
  obtain ⟨i, hi, rfl, rfl, rfl⟩ := hrel
  by_cases hlt : i < s.size
  ·have h1 : ((i : Nat) : Int) < ((s.size : Nat) : Int) := by omega
   have hli : i < s.data.toList.length := by rw [size_list]; exact hlt
   have hg : s.data.toList[i] = s[i] := toList_get s i hlt
   have hsz := HSZ.out
   by_cases hc : sl s.data.toList < i
   ·rw [if_pos hc]
    have h2 : (((sl s.data.toList : Nat) : Int) == ((s.size : Nat) : Int)) = false := by simp; omega
    by_cases hz : (s[i]'hlt).toNat = 47
    ·go_wp2
     exact ⟨⟨i + 1, by omega, trivial, by simp, by rw [if_pos (by omega)]⟩, by simp [intOf]; omega⟩
    ·go_wp2
     exact ⟨⟨i + 1, by omega, trivial, by simp, by rw [if_pos (by omega)]⟩, by simp [intOf]; omega⟩
   ·rw [if_neg hc]
    have hiff := sl_at hli (by omega)
    by_cases hz : (s[i]'hlt).toNat = 47
    ·have h3 : sl s.data.toList = i := hiff.1 (by rw [hg]; exact UInt8.toNat_inj.1 hz)
     go_wp2
     exact ⟨⟨i + 1, by omega, trivial, by simp, by rw [if_pos (by omega), h3]⟩, by simp [intOf]; omega⟩
    ·have h3 : sl s.data.toList ≠ i := fun h => hz (by have := hiff.2 h; rw [hg] at this; rw [this]; rfl)
     go_wp2
     exact ⟨⟨i + 1, by omega, trivial, by simp, by rw [if_neg (by omega)]⟩, by simp [intOf]; omega⟩
  ·obtain rfl : i = s.size := by omega
   have h1 : decide ((s.size : Nat) < s.size) = false := by simp
   clear hlt hi
   rw [if_neg HF.out]
   have hk1 : decide (((s.size : Nat) : Int) < ((s.size : Nat) : Int)) = false := by simp
   clear HF
   obtain ⟨x20, x21, x22, x23, z20, z21, z22, z23, s2⟩ := b2.out.e4
   have szb := HB.out.size
   go_wp2_with fail
   refine (rparse_is _ (by have := HSZ.out; simp <;> omega) HN.out HE.out).mono ?_
   rintro e W1 ⟨v, rfl, hv, hb⟩
   replace b2 := hup b2 hb
   have nbel := below_then HB.out hb HB.out.size
   have HB2 := Lib.hid nbel
   clear nbel HB hb x20 x21 x22 x23 z20 z21 z22 z23 szb s2
   obtain ⟨x20, x21, x22, x23, z20, z21, z22, z23, s2⟩ := b2.out.e4
   have szb := HB2.out.size
   obtain ⟨k1, A1, l1, c1, rfl⟩ := hv.open
   have HA := Lib.hid hv
   clear hv
   go_upto_region 12 with (fail)
   have q3 := b2.out.lt
   change Code.wp Tryz.prog _ _ _ (W1.alloc (.cells #[.bool k1, .slice A1 l1 c1] 33))
   obtain ⟨nb8, na⟩ := new1 W1 33 [.bool k1, .slice A1 l1 c1] lf2
   have nb2 := b2.out.up na
   have nkeep := Keep.ofBelow na
   have nbel := below_then HB2.out na HB2.out.size
   generalize W1.alloc (.cells #[.bool k1, .slice A1 l1 c1] 33) = W4 at *
   clear na x20 x21 x22 x23 z20 z21 z22 z23 szb s2 b2
   have b2 := Lib.hid nb2
   have b8 := Lib.hid nb8
   clear nb2 nb8
   replace HA := Lib.hid (HA.out.kept nkeep)
   clear nkeep
   have HB5 := Lib.hid nbel
   clear nbel HB2
   obtain ⟨x20, x21, x22, x23, z20, z21, z22, z23, s2⟩ := b2.out.e4
   obtain ⟨x80, x81, s8⟩ := b8.out.d2
   have szb := HB5.out.size
   go_wp2_with fail
   refine (rparse_is (L := D) _ (by decide) HD.out rfl).mono ?_
   rintro e W6 ⟨v, rfl, hv, hb⟩
   replace b2 := hup b2 hb
   replace b8 := hup b8 hb
   replace HA := Lib.hid (HA.out.kept (Keep.ofBelow hb))
   have nbel := below_then HB5.out hb HB5.out.size
   have HB7 := Lib.hid nbel
   clear nbel HB5 hb x20 x21 x22 x23 z20 z21 z22 z23 x80 x81 szb s2 s8
   obtain ⟨x20, x21, x22, x23, z20, z21, z22, z23, s2⟩ := b2.out.e4
   obtain ⟨x80, x81, s8⟩ := b8.out.d2
   have szb := HB7.out.size
   obtain ⟨k2, A2, l2, c2, rfl⟩ := hv.open
   have HB2 := Lib.hid hv
   clear hv
   generalize errOf D = fr at *
   go_upto_region 13 with (fail)
   have q8 := b2.out.lt
   have q9 := b8.out.lt
   change Code.wp Tryz.prog _ _ _ (W6.alloc (.cells #[.bool k2, .slice A2 l2 c2] 33))
   obtain ⟨nb10, na⟩ := new1 W6 33 [.bool k2, .slice A2 l2 c2] lf2
   have nb2 := b2.out.up na
   have nb8 := b8.out.up na
   have nkeep := Keep.ofBelow na
   have nbel := below_then HB7.out na HB7.out.size
   generalize W6.alloc (.cells #[.bool k2, .slice A2 l2 c2] 33) = W10 at *
   clear na x20 x21 x22 x23 z20 z21 z22 z23 x80 x81 szb s2 s8 b2 b8
   have b2 := Lib.hid nb2
   have b8 := Lib.hid nb8
   have b10 := Lib.hid nb10
   clear nb2 nb8 nb10
   replace HA := Lib.hid (HA.out.kept nkeep)
   replace HB2 := Lib.hid (HB2.out.kept nkeep)
   clear nkeep
   have HB11 := Lib.hid nbel
   clear nbel HB7
   obtain ⟨x20, x21, x22, x23, z20, z21, z22, z23, s2⟩ := b2.out.e4
   obtain ⟨x80, x81, s8⟩ := b8.out.d2
   obtain ⟨x100, x101, s10⟩ := b10.out.d2
   have szb := HB11.out.size
   go_wp2_with fail
   have hkeep := (Keep.set4 (Keep.refl W10) b2.out (Leaf.bool false) (Leaf.slice none 0 0) (Leaf.bool false) (Leaf.slice none 0 0))
   have hbel := (Below.set4 (g := w.heap.size) HB11.out (by first | omega | (simp; done) | (simp; omega)) (.bool false) (.slice none 0 0) (.bool false) (.slice none 0 0))
   refine bodyPost_ret (v := .tuple #[.agg #[.bool false, .slice none 0 0, .bool false, .slice none 0 0], .int .i64 3]) (by simp [results, Tryz.results15, go_sem, x20, x21, x22, x23]) rfl ⟨rfl, hbel⟩
theorem rp_n_C4 {s : ByteArray} {N D : List UInt8} {w : World} (hs : s.size ≤ 1000) (hf : ¬ sl s.data.toList < s.size) (hN : s.data.toList = N) (hD : ([49] : List UInt8) = D) (he : errOf N = 0) (he2 : errOf D = 0) (hsg : cmpI (valZ D) 0 = 1) (hq : valZ D ≠ 0) (ht : ratText (Rat.divInt (valZ N) (valZ D)) = s.data.toList) :
  Calls Tryz.prog 15 #[.string s] w fun e w' => ∃ v, e = .returned (.tuple #[v, .int .i64 0]) ∧ RRat (Rat.divInt (valZ N) (valZ D)) 500 v w' ∧ Below w.heap.size w w' := by
 have HSZ := Lib.hid hs
 have HF := Lib.hid hf
 have HN := Lib.hid hN
 have HD := Lib.hid hD
 have HE := Lib.hid he
 clear hs hf hN hD he
 have HE2 := Lib.hid he2
 clear he2
 have HSG := Lib.hid hsg
 clear hsg
 have HT := Lib.hid ht
 clear ht
 go_enter Tryz.func15, Tryz.ntmps15
 go_wp2
 have nb2 := Bx.new 35 w [.bool false, .slice none 0 0, .bool false, .slice none 0 0] lf4
 have nbel := below_alloc_new (w := w) (.cells #[.bool false, .slice none 0 0, .bool false, .slice none 0 0] 35)
 change Code.wp Tryz.prog _ _ _ (w.alloc (.cells #[.bool false, .slice none 0 0, .bool false, .slice none 0 0] 35))
 generalize w.alloc (.cells #[.bool false, .slice none 0 0, .bool false, .slice none 0 0] 35) = W0 at *
 have b2 := Lib.hid nb2
 have HB := Lib.hid nbel
 clear nb2 nbel
 go_loopw [4, 5] (fun v4 v5 wr => ∃ i : Nat, i ≤ s.size ∧ wr = W0 ∧ v5 = .int .i64 i ∧ v4 = .int .i64 ((if sl s.data.toList < i then sl s.data.toList else s.size : Nat) : Int)) (fun _ v _ => s.size - (intOf v).toNat)
 case atStart => exact ⟨0, Nat.zero_le _, rfl, rfl, by simp⟩
 case round =>
  obtain ⟨i, hi, rfl, rfl, rfl⟩ := hrel
  by_cases hlt : i < s.size
  ·have h1 : ((i : Nat) : Int) < ((s.size : Nat) : Int) := by omega
   have hli : i < s.data.toList.length := by rw [size_list]; exact hlt
   have hg : s.data.toList[i] = s[i] := toList_get s i hlt
   have hsz := HSZ.out
   by_cases hc : sl s.data.toList < i
   ·rw [if_pos hc]
    have h2 : (((sl s.data.toList : Nat) : Int) == ((s.size : Nat) : Int)) = false := by simp; omega
    by_cases hz : (s[i]'hlt).toNat = 47
    ·go_wp2
     exact ⟨⟨i + 1, by omega, trivial, by simp, by rw [if_pos (by omega)]⟩, by simp [intOf]; omega⟩
    ·go_wp2
     exact ⟨⟨i + 1, by omega, trivial, by simp, by rw [if_pos (by omega)]⟩, by simp [intOf]; omega⟩
   ·rw [if_neg hc]
    have hiff := sl_at hli (by omega)
    by_cases hz : (s[i]'hlt).toNat = 47
    ·have h3 : sl s.data.toList = i := hiff.1 (by rw [hg]; exact UInt8.toNat_inj.1 hz)
     go_wp2
     exact ⟨⟨i + 1, by omega, trivial, by simp, by rw [if_pos (by omega), h3]⟩, by simp [intOf]; omega⟩
    ·have h3 : sl s.data.toList ≠ i := fun h => hz (by have := hiff.2 h; rw [hg] at this; rw [this]; rfl)
     go_wp2
     exact ⟨⟨i + 1, by omega, trivial, by simp, by rw [if_neg (by omega)]⟩, by simp [intOf]; omega⟩
  ·obtain rfl : i = s.size := by omega
   have h1 : decide ((s.size : Nat) < s.size) = false := by simp
   clear hlt hi
   rw [if_neg HF.out]
   have hk1 : decide (((s.size : Nat) : Int) < ((s.size : Nat) : Int)) = false := by simp
   clear HF
   obtain ⟨x20, x21, x22, x23, z20, z21, z22, z23, s2⟩ := b2.out.e4
   have szb := HB.out.size
   go_wp2_with fail
   refine (rparse_is _ (by have := HSZ.out; simp <;> omega) HN.out HE.out).mono ?_
   rintro e W1 ⟨v, rfl, hv, hb⟩
   replace b2 := hup b2 hb
   have nbel := below_then HB.out hb HB.out.size
   have HB2 := Lib.hid nbel
   clear nbel HB hb x20 x21 x22 x23 z20 z21 z22 z23 szb s2
   obtain ⟨x20, x21, x22, x23, z20, z21, z22, z23, s2⟩ := b2.out.e4
   have szb := HB2.out.size
   obtain ⟨k1, A1, l1, c1, rfl⟩ := hv.open
   have HA := Lib.hid hv
   clear hv
   go_upto_region 12 with (fail)
   have q3 := b2.out.lt
   change Code.wp Tryz.prog _ _ _ (W1.alloc (.cells #[.bool k1, .slice A1 l1 c1] 33))
   obtain ⟨nb8, na⟩ := new1 W1 33 [.bool k1, .slice A1 l1 c1] lf2
   have nb2 := b2.out.up na
   have nkeep := Keep.ofBelow na
   have nbel := below_then HB2.out na HB2.out.size
   generalize W1.alloc (.cells #[.bool k1, .slice A1 l1 c1] 33) = W4 at *
   clear na x20 x21 x22 x23 z20 z21 z22 z23 szb s2 b2
   have b2 := Lib.hid nb2
   have b8 := Lib.hid nb8
   clear nb2 nb8
   replace HA := Lib.hid (HA.out.kept nkeep)
   clear nkeep
   have HB5 := Lib.hid nbel
   clear nbel HB2
   obtain ⟨x20, x21, x22, x23, z20, z21, z22, z23, s2⟩ := b2.out.e4
   obtain ⟨x80, x81, s8⟩ := b8.out.d2
   have szb := HB5.out.size
   go_wp2_with fail
   refine (rparse_is (L := D) _ (by decide) HD.out HE2.out).mono ?_
   rintro e W6 ⟨v, rfl, hv, hb⟩
   replace b2 := hup b2 hb
   replace b8 := hup b8 hb
   replace HA := Lib.hid (HA.out.kept (Keep.ofBelow hb))
   have nbel := below_then HB5.out hb HB5.out.size
   have HB7 := Lib.hid nbel
   clear nbel HB5 hb x20 x21 x22 x23 z20 z21 z22 z23 x80 x81 szb s2 s8
   obtain ⟨x20, x21, x22, x23, z20, z21, z22, z23, s2⟩ := b2.out.e4
   obtain ⟨x80, x81, s8⟩ := b8.out.d2
   have szb := HB7.out.size
   obtain ⟨k2, A2, l2, c2, rfl⟩ := hv.open
   have HB2 := Lib.hid hv
   clear hv
   go_upto_region 13 with (fail)
   have q8 := b2.out.lt
   have q9 := b8.out.lt
   change Code.wp Tryz.prog _ _ _ (W6.alloc (.cells #[.bool k2, .slice A2 l2 c2] 33))
   obtain ⟨nb10, na⟩ := new1 W6 33 [.bool k2, .slice A2 l2 c2] lf2
   have nb2 := b2.out.up na
   have nb8 := b8.out.up na
   have nkeep := Keep.ofBelow na
   have nbel := below_then HB7.out na HB7.out.size
   generalize W6.alloc (.cells #[.bool k2, .slice A2 l2 c2] 33) = W10 at *
   clear na x20 x21 x22 x23 z20 z21 z22 z23 x80 x81 szb s2 s8 b2 b8
   have b2 := Lib.hid nb2
   have b8 := Lib.hid nb8
   have b10 := Lib.hid nb10
   clear nb2 nb8 nb10
   replace HA := Lib.hid (HA.out.kept nkeep)
   replace HB2 := Lib.hid (HB2.out.kept nkeep)
   clear nkeep
   have HB11 := Lib.hid nbel
   clear nbel HB7
   obtain ⟨x20, x21, x22, x23, z20, z21, z22, z23, s2⟩ := b2.out.e4
   obtain ⟨x80, x81, s8⟩ := b8.out.d2
   obtain ⟨x100, x101, s10⟩ := b10.out.d2
   have szb := HB11.out.size
   go_wp2_with fail
   refine (rsign_is HB2.out HSG.out).mono ?_
   rintro e W12 ⟨rfl, hb⟩
   replace b2 := hup b2 hb
   replace b8 := hup b8 hb
   replace b10 := hup b10 hb
   replace HA := Lib.hid (HA.out.kept (Keep.ofBelow hb))
   replace HB2 := Lib.hid (HB2.out.kept (Keep.ofBelow hb))
   have nbel := below_then HB11.out hb HB11.out.size
   have HB13 := Lib.hid nbel
   clear nbel HB11 hb x20 x21 x22 x23 z20 z21 z22 z23 x80 x81 x100 x101 szb s2 s8 s10
   obtain ⟨x20, x21, x22, x23, z20, z21, z22, z23, s2⟩ := b2.out.e4
   obtain ⟨x80, x81, s8⟩ := b8.out.d2
   obtain ⟨x100, x101, s10⟩ := b10.out.d2
   have szb := HB13.out.size
   go_wp2_with fail
   refine (rquot_fact HA.out HB2.out (by omega) hq).mono ?_
   rintro e W14 ⟨v, rfl, hv, hb⟩
   replace b2 := hup b2 hb
   replace b8 := hup b8 hb
   replace b10 := hup b10 hb
   replace HA := Lib.hid (HA.out.kept (Keep.ofBelow hb))
   replace HB2 := Lib.hid (HB2.out.kept (Keep.ofBelow hb))
   have nbel := below_then HB13.out hb HB13.out.size
   have HB15 := Lib.hid nbel
   clear nbel HB13 hb x20 x21 x22 x23 z20 z21 z22 z23 x80 x81 x100 x101 szb s2 s8 s10
   obtain ⟨x20, x21, x22, x23, z20, z21, z22, z23, s2⟩ := b2.out.e4
   obtain ⟨x80, x81, s8⟩ := b8.out.d2
   obtain ⟨x100, x101, s10⟩ := b10.out.d2
   have szb := HB15.out.size
   obtain ⟨k3, A3, l3, c3, k4, A4, l4, c4, rfl⟩ := hv.open
   have HX := Lib.hid hv
   clear hv
   go_upto_region 20 with (fail)
   have q16 := b2.out.lt
   have q17 := b8.out.lt
   have q18 := b10.out.lt
   change Code.wp Tryz.prog _ _ _ (W14.alloc (.cells #[.bool k3, .slice A3 l3 c3, .bool k4, .slice A4 l4 c4] 35))
   obtain ⟨nb12, na⟩ := new1 W14 35 [.bool k3, .slice A3 l3 c3, .bool k4, .slice A4 l4 c4] lf4
   have nb2 := b2.out.up na
   have nb8 := b8.out.up na
   have nb10 := b10.out.up na
   have nkeep := Keep.ofBelow na
   have nbel := below_then HB15.out na HB15.out.size
   generalize W14.alloc (.cells #[.bool k3, .slice A3 l3 c3, .bool k4, .slice A4 l4 c4] 35) = W19 at *
   clear na x20 x21 x22 x23 z20 z21 z22 z23 x80 x81 x100 x101 szb s2 s8 s10 b2 b8 b10
   have b2 := Lib.hid nb2
   have b8 := Lib.hid nb8
   have b10 := Lib.hid nb10
   have b12 := Lib.hid nb12
   clear nb2 nb8 nb10 nb12
   replace HA := Lib.hid (HA.out.kept nkeep)
   replace HB2 := Lib.hid (HB2.out.kept nkeep)
   replace HX := Lib.hid (HX.out.kept nkeep)
   clear nkeep
   have HB20 := Lib.hid nbel
   clear nbel HB15
   obtain ⟨x20, x21, x22, x23, z20, z21, z22, z23, s2⟩ := b2.out.e4
   obtain ⟨x80, x81, s8⟩ := b8.out.d2
   obtain ⟨x100, x101, s10⟩ := b10.out.d2
   obtain ⟨x120, x121, x122, x123, s12⟩ := b12.out.d4
   have szb := HB20.out.size
   go_wp2_with fail
   refine (rratText_is HX.out (by omega) (by omega) HT.out).mono ?_
   rintro e W21 ⟨rfl, hb⟩
   replace b2 := hup b2 hb
   replace b8 := hup b8 hb
   replace b10 := hup b10 hb
   replace b12 := hup b12 hb
   replace HA := Lib.hid (HA.out.kept (Keep.ofBelow hb))
   replace HB2 := Lib.hid (HB2.out.kept (Keep.ofBelow hb))
   replace HX := Lib.hid (HX.out.kept (Keep.ofBelow hb))
   have nbel := below_then HB20.out hb HB20.out.size
   have HB22 := Lib.hid nbel
   clear nbel HB20 hb x20 x21 x22 x23 z20 z21 z22 z23 x80 x81 x100 x101 x120 x121 x122 x123 szb s2 s8 s10 s12
   obtain ⟨x20, x21, x22, x23, z20, z21, z22, z23, s2⟩ := b2.out.e4
   obtain ⟨x80, x81, s8⟩ := b8.out.d2
   obtain ⟨x100, x101, s10⟩ := b10.out.d2
   obtain ⟨x120, x121, x122, x123, s12⟩ := b12.out.d4
   have szb := HB22.out.size
   go_wp2_with fail
   have hkeep := (Keep.set4 (Keep.refl W21) b2.out (Leaf.bool k3) (Leaf.slice A3 l3 c3) (Leaf.bool k4) (Leaf.slice A4 l4 c4))
   have hbel := (Below.set4 (g := w.heap.size) HB22.out (by first | omega | (simp; done) | (simp; omega)) (.bool k3) (.slice A3 l3 c3) (.bool k4) (.slice A4 l4 c4))
   refine bodyPost_ret (v := .tuple #[.agg #[.bool k3, .slice A3 l3 c3, .bool k4, .slice A4 l4 c4], .int .i64 0]) (by simp [results, Tryz.results15, go_sem, x20, x21, x22, x23]) rfl ⟨_, rfl, HX.out.kept hkeep, hbel⟩
theorem rp_n_C5 {s : ByteArray} {N D : List UInt8} {w : World} (hs : s.size ≤ 1000) (hf : ¬ sl s.data.toList < s.size) (hN : s.data.toList = N) (hD : ([49] : List UInt8) = D) (he : errOf N = 0) (he2 : errOf D = 0) (hsg : cmpI (valZ D) 0 = 1) (hq : valZ D ≠ 0) {T : List UInt8} (ht : ratText (Rat.divInt (valZ N) (valZ D)) = T) (htn : (T == s.toList) = false) :
  Calls Tryz.prog 15 #[.string s] w fun e w' => e = .returned (.tuple #[.agg #[.bool false, .slice none 0 0, .bool false, .slice none 0 0], .int .i64 3]) ∧ Below w.heap.size w w' := by
 have HSZ := Lib.hid hs
 have HF := Lib.hid hf
 have HN := Lib.hid hN
 have HD := Lib.hid hD
 have HE := Lib.hid he
 clear hs hf hN hD he
 have HE2 := Lib.hid he2
 clear he2
 have HSG := Lib.hid hsg
 clear hsg
 have HT := Lib.hid ht
 clear ht
 go_enter Tryz.func15, Tryz.ntmps15
 go_wp2
 have nb2 := Bx.new 35 w [.bool false, .slice none 0 0, .bool false, .slice none 0 0] lf4
 have nbel := below_alloc_new (w := w) (.cells #[.bool false, .slice none 0 0, .bool false, .slice none 0 0] 35)
 change Code.wp Tryz.prog _ _ _ (w.alloc (.cells #[.bool false, .slice none 0 0, .bool false, .slice none 0 0] 35))
 generalize w.alloc (.cells #[.bool false, .slice none 0 0, .bool false, .slice none 0 0] 35) = W0 at *
 have b2 := Lib.hid nb2
 have HB := Lib.hid nbel
 clear nb2 nbel
 go_loopw [4, 5] (fun v4 v5 wr => ∃ i : Nat, i ≤ s.size ∧ wr = W0 ∧ v5 = .int .i64 i ∧ v4 = .int .i64 ((if sl s.data.toList < i then sl s.data.toList else s.size : Nat) : Int)) (fun _ v _ => s.size - (intOf v).toNat)
 case atStart => exact ⟨0, Nat.zero_le _, rfl, rfl, by simp⟩
 case round =>
  obtain ⟨i, hi, rfl, rfl, rfl⟩ := hrel
  by_cases hlt : i < s.size
  ·have h1 : ((i : Nat) : Int) < ((s.size : Nat) : Int) := by omega
   have hli : i < s.data.toList.length := by rw [size_list]; exact hlt
   have hg : s.data.toList[i] = s[i] := toList_get s i hlt
   have hsz := HSZ.out
   by_cases hc : sl s.data.toList < i
   ·rw [if_pos hc]
    have h2 : (((sl s.data.toList : Nat) : Int) == ((s.size : Nat) : Int)) = false := by simp; omega
    by_cases hz : (s[i]'hlt).toNat = 47
    ·go_wp2
     exact ⟨⟨i + 1, by omega, trivial, by simp, by rw [if_pos (by omega)]⟩, by simp [intOf]; omega⟩
    ·go_wp2
     exact ⟨⟨i + 1, by omega, trivial, by simp, by rw [if_pos (by omega)]⟩, by simp [intOf]; omega⟩
   ·rw [if_neg hc]
    have hiff := sl_at hli (by omega)
    by_cases hz : (s[i]'hlt).toNat = 47
    ·have h3 : sl s.data.toList = i := hiff.1 (by rw [hg]; exact UInt8.toNat_inj.1 hz)
     go_wp2
     exact ⟨⟨i + 1, by omega, trivial, by simp, by rw [if_pos (by omega), h3]⟩, by simp [intOf]; omega⟩
    ·have h3 : sl s.data.toList ≠ i := fun h => hz (by have := hiff.2 h; rw [hg] at this; rw [this]; rfl)
     go_wp2
     exact ⟨⟨i + 1, by omega, trivial, by simp, by rw [if_neg (by omega)]⟩, by simp [intOf]; omega⟩
  ·obtain rfl : i = s.size := by omega
   have h1 : decide ((s.size : Nat) < s.size) = false := by simp
   clear hlt hi
   rw [if_neg HF.out]
   have hk1 : decide (((s.size : Nat) : Int) < ((s.size : Nat) : Int)) = false := by simp
   clear HF
   obtain ⟨x20, x21, x22, x23, z20, z21, z22, z23, s2⟩ := b2.out.e4
   have szb := HB.out.size
   go_wp2_with fail
   refine (rparse_is _ (by have := HSZ.out; simp <;> omega) HN.out HE.out).mono ?_
   rintro e W1 ⟨v, rfl, hv, hb⟩
   replace b2 := hup b2 hb
   have nbel := below_then HB.out hb HB.out.size
   have HB2 := Lib.hid nbel
   clear nbel HB hb x20 x21 x22 x23 z20 z21 z22 z23 szb s2
   obtain ⟨x20, x21, x22, x23, z20, z21, z22, z23, s2⟩ := b2.out.e4
   have szb := HB2.out.size
   obtain ⟨k1, A1, l1, c1, rfl⟩ := hv.open
   have HA := Lib.hid hv
   clear hv
   go_upto_region 12 with (fail)
   have q3 := b2.out.lt
   change Code.wp Tryz.prog _ _ _ (W1.alloc (.cells #[.bool k1, .slice A1 l1 c1] 33))
   obtain ⟨nb8, na⟩ := new1 W1 33 [.bool k1, .slice A1 l1 c1] lf2
   have nb2 := b2.out.up na
   have nkeep := Keep.ofBelow na
   have nbel := below_then HB2.out na HB2.out.size
   generalize W1.alloc (.cells #[.bool k1, .slice A1 l1 c1] 33) = W4 at *
   clear na x20 x21 x22 x23 z20 z21 z22 z23 szb s2 b2
   have b2 := Lib.hid nb2
   have b8 := Lib.hid nb8
   clear nb2 nb8
   replace HA := Lib.hid (HA.out.kept nkeep)
   clear nkeep
   have HB5 := Lib.hid nbel
   clear nbel HB2
   obtain ⟨x20, x21, x22, x23, z20, z21, z22, z23, s2⟩ := b2.out.e4
   obtain ⟨x80, x81, s8⟩ := b8.out.d2
   have szb := HB5.out.size
   go_wp2_with fail
   refine (rparse_is (L := D) _ (by decide) HD.out HE2.out).mono ?_
   rintro e W6 ⟨v, rfl, hv, hb⟩
   replace b2 := hup b2 hb
   replace b8 := hup b8 hb
   replace HA := Lib.hid (HA.out.kept (Keep.ofBelow hb))
   have nbel := below_then HB5.out hb HB5.out.size
   have HB7 := Lib.hid nbel
   clear nbel HB5 hb x20 x21 x22 x23 z20 z21 z22 z23 x80 x81 szb s2 s8
   obtain ⟨x20, x21, x22, x23, z20, z21, z22, z23, s2⟩ := b2.out.e4
   obtain ⟨x80, x81, s8⟩ := b8.out.d2
   have szb := HB7.out.size
   obtain ⟨k2, A2, l2, c2, rfl⟩ := hv.open
   have HB2 := Lib.hid hv
   clear hv
   go_upto_region 13 with (fail)
   have q8 := b2.out.lt
   have q9 := b8.out.lt
   change Code.wp Tryz.prog _ _ _ (W6.alloc (.cells #[.bool k2, .slice A2 l2 c2] 33))
   obtain ⟨nb10, na⟩ := new1 W6 33 [.bool k2, .slice A2 l2 c2] lf2
   have nb2 := b2.out.up na
   have nb8 := b8.out.up na
   have nkeep := Keep.ofBelow na
   have nbel := below_then HB7.out na HB7.out.size
   generalize W6.alloc (.cells #[.bool k2, .slice A2 l2 c2] 33) = W10 at *
   clear na x20 x21 x22 x23 z20 z21 z22 z23 x80 x81 szb s2 s8 b2 b8
   have b2 := Lib.hid nb2
   have b8 := Lib.hid nb8
   have b10 := Lib.hid nb10
   clear nb2 nb8 nb10
   replace HA := Lib.hid (HA.out.kept nkeep)
   replace HB2 := Lib.hid (HB2.out.kept nkeep)
   clear nkeep
   have HB11 := Lib.hid nbel
   clear nbel HB7
   obtain ⟨x20, x21, x22, x23, z20, z21, z22, z23, s2⟩ := b2.out.e4
   obtain ⟨x80, x81, s8⟩ := b8.out.d2
   obtain ⟨x100, x101, s10⟩ := b10.out.d2
   have szb := HB11.out.size
   go_wp2_with fail
   refine (rsign_is HB2.out HSG.out).mono ?_
   rintro e W12 ⟨rfl, hb⟩
   replace b2 := hup b2 hb
   replace b8 := hup b8 hb
   replace b10 := hup b10 hb
   replace HA := Lib.hid (HA.out.kept (Keep.ofBelow hb))
   replace HB2 := Lib.hid (HB2.out.kept (Keep.ofBelow hb))
   have nbel := below_then HB11.out hb HB11.out.size
   have HB13 := Lib.hid nbel
   clear nbel HB11 hb x20 x21 x22 x23 z20 z21 z22 z23 x80 x81 x100 x101 szb s2 s8 s10
   obtain ⟨x20, x21, x22, x23, z20, z21, z22, z23, s2⟩ := b2.out.e4
   obtain ⟨x80, x81, s8⟩ := b8.out.d2
   obtain ⟨x100, x101, s10⟩ := b10.out.d2
   have szb := HB13.out.size
   go_wp2_with fail
   refine (rquot_fact HA.out HB2.out (by omega) hq).mono ?_
   rintro e W14 ⟨v, rfl, hv, hb⟩
   replace b2 := hup b2 hb
   replace b8 := hup b8 hb
   replace b10 := hup b10 hb
   replace HA := Lib.hid (HA.out.kept (Keep.ofBelow hb))
   replace HB2 := Lib.hid (HB2.out.kept (Keep.ofBelow hb))
   have nbel := below_then HB13.out hb HB13.out.size
   have HB15 := Lib.hid nbel
   clear nbel HB13 hb x20 x21 x22 x23 z20 z21 z22 z23 x80 x81 x100 x101 szb s2 s8 s10
   obtain ⟨x20, x21, x22, x23, z20, z21, z22, z23, s2⟩ := b2.out.e4
   obtain ⟨x80, x81, s8⟩ := b8.out.d2
   obtain ⟨x100, x101, s10⟩ := b10.out.d2
   have szb := HB15.out.size
   obtain ⟨k3, A3, l3, c3, k4, A4, l4, c4, rfl⟩ := hv.open
   have HX := Lib.hid hv
   clear hv
   go_upto_region 20 with (fail)
   have q16 := b2.out.lt
   have q17 := b8.out.lt
   have q18 := b10.out.lt
   change Code.wp Tryz.prog _ _ _ (W14.alloc (.cells #[.bool k3, .slice A3 l3 c3, .bool k4, .slice A4 l4 c4] 35))
   obtain ⟨nb12, na⟩ := new1 W14 35 [.bool k3, .slice A3 l3 c3, .bool k4, .slice A4 l4 c4] lf4
   have nb2 := b2.out.up na
   have nb8 := b8.out.up na
   have nb10 := b10.out.up na
   have nkeep := Keep.ofBelow na
   have nbel := below_then HB15.out na HB15.out.size
   generalize W14.alloc (.cells #[.bool k3, .slice A3 l3 c3, .bool k4, .slice A4 l4 c4] 35) = W19 at *
   clear na x20 x21 x22 x23 z20 z21 z22 z23 x80 x81 x100 x101 szb s2 s8 s10 b2 b8 b10
   have b2 := Lib.hid nb2
   have b8 := Lib.hid nb8
   have b10 := Lib.hid nb10
   have b12 := Lib.hid nb12
   clear nb2 nb8 nb10 nb12
   replace HA := Lib.hid (HA.out.kept nkeep)
   replace HB2 := Lib.hid (HB2.out.kept nkeep)
   replace HX := Lib.hid (HX.out.kept nkeep)
   clear nkeep
   have HB20 := Lib.hid nbel
   clear nbel HB15
   obtain ⟨x20, x21, x22, x23, z20, z21, z22, z23, s2⟩ := b2.out.e4
   obtain ⟨x80, x81, s8⟩ := b8.out.d2
   obtain ⟨x100, x101, s10⟩ := b10.out.d2
   obtain ⟨x120, x121, x122, x123, s12⟩ := b12.out.d4
   have szb := HB20.out.size
   go_wp2_with fail
   refine (rratText_is HX.out (by omega) (by omega) HT.out).mono ?_
   rintro e W21 ⟨rfl, hb⟩
   replace b2 := hup b2 hb
   replace b8 := hup b8 hb
   replace b10 := hup b10 hb
   replace b12 := hup b12 hb
   replace HA := Lib.hid (HA.out.kept (Keep.ofBelow hb))
   replace HB2 := Lib.hid (HB2.out.kept (Keep.ofBelow hb))
   replace HX := Lib.hid (HX.out.kept (Keep.ofBelow hb))
   have nbel := below_then HB20.out hb HB20.out.size
   have HB22 := Lib.hid nbel
   clear nbel HB20 hb x20 x21 x22 x23 z20 z21 z22 z23 x80 x81 x100 x101 x120 x121 x122 x123 szb s2 s8 s10 s12
   obtain ⟨x20, x21, x22, x23, z20, z21, z22, z23, s2⟩ := b2.out.e4
   obtain ⟨x80, x81, s8⟩ := b8.out.d2
   obtain ⟨x100, x101, s10⟩ := b10.out.d2
   obtain ⟨x120, x121, x122, x123, s12⟩ := b12.out.d4
   have szb := HB22.out.size
   go_wp2_with fail
   have hkeep := (Keep.set4 (Keep.refl W21) b2.out (Leaf.bool false) (Leaf.slice none 0 0) (Leaf.bool false) (Leaf.slice none 0 0))
   have hbel := (Below.set4 (g := w.heap.size) HB22.out (by first | omega | (simp; done) | (simp; omega)) (.bool false) (.slice none 0 0) (.bool false) (.slice none 0 0))
   refine bodyPost_ret (v := .tuple #[.agg #[.bool false, .slice none 0 0, .bool false, .slice none 0 0], .int .i64 3]) (by simp [results, Tryz.results15, go_sem, x20, x21, x22, x23]) rfl ⟨rfl, hbel⟩
def topL (l : List UInt8) : List UInt8 := if sl l < l.length then l.take (sl l) else l
def botL (l : List UInt8) : List UInt8 := if sl l < l.length then l.drop (sl l + 1) else [49]
def ratV (l : List UInt8) : Rat := Rat.divInt (valZ (topL l)) (valZ (botL l))
theorem index_sl (l : List UInt8) : Lib.index l [47] = if sl l < l.length then (sl l : Int) else -1 := by
 induction l with
 | nil => rfl
 | cons b r ih =>
  unfold sl at *
  rw [Lib.index, List.idxOf_cons]
  by_cases h : b = 47
  ·subst h; simp [List.isPrefixOf]
  ·have h1 : List.isPrefixOf [47] (b :: r) = false := by simp [List.isPrefixOf]; exact Ne.symm h
   have h2 : (b == 47) = false := by simpa using h
   rw [h1, h2, ih]
   simp only [Bool.false_eq_true, if_false, cond_false, List.length_cons]
   by_cases h3 : List.idxOf 47 r < r.length
   ·have h4 : List.idxOf 47 r + 1 < r.length + 1 := by omega
    have h5 : ((List.idxOf 47 r : Int)) ≠ -1 := by omega
    simp [h3, h4, h5]
   ·have h4 : ¬ List.idxOf 47 r + 1 < r.length + 1 := by omega
    simp [h3, h4]
theorem cut_sl (l : List UInt8) : Lib.cut l [47] = if sl l < l.length then (topL l, botL l, true) else (l, [], false) := by
 unfold Lib.cut topL botL
 rw [index_sl]
 by_cases h : sl l < l.length
 ·simp [h]
 ·simp [h]
theorem errOf_cases (l : List UInt8) (h : l.length ≤ 2000) : errOf l = 3 ∨ errOf l = 0 := by
 unfold errOf
 by_cases hb : badNum l = true
 ·rw [if_pos hb]; exact .inl rfl
 ·rw [if_neg hb, if_neg (by have := restOf_le l; omega)]; exact .inr rfl
theorem textZ_abs (l : List UInt8) : (textZ l).natAbs = numOf (restOf l) := by unfold textZ; split <;> simp
theorem valZ_ok {l : List UInt8} (h : errOf l = 0) : valZ l = textZ l := by unfold valZ; rw [if_pos h]
theorem lowest {p q : Int} (hq : 0 < q) (hg : Int.gcd p q = 1) : (Rat.divInt p q).num = p ∧ ((Rat.divInt p q).den : Int) = q := by
 have h1 := red_num (a := p) (b := q) (by omega)
 have h2 := red_den (a := p) (b := q) (by omega)
 have hd : divr p q = 1 := by unfold divr; rw [if_neg (by omega), hg]; rfl
 rw [hd] at h1 h2
 exact ⟨by rw [← h1]; simp, by rw [← h2]; simp⟩
theorem val49 : valZ [49] = 1 := by decide +kernel
theorem top_len (l : List UInt8) : (topL l).length ≤ l.length := by unfold topL; split <;> simp <;> omega
theorem bot_len (l : List UInt8) : (botL l).length ≤ l.length + 1 := by unfold botL; split <;> simp <;> omega
abbrev zero4 : Value := .agg #[.bool false, .slice none 0 0, .bool false, .slice none 0 0]
def PPost (l : List UInt8) (e : Ending) (w' : World) : Prop := ∃ v er, e = .returned (.tuple #[v, .int .i64 er]) ∧ (er = 0 → PRat (ratV l) 223 v w') ∧ (er ≠ 0 → v = zero4)
def RPost (l : List UInt8) (e : Ending) (w' : World) : Prop := ∃ v er, e = .returned (.tuple #[v, .int .i64 er]) ∧ (er = 0 → RRat (ratV l) 500 v w') ∧ (er ≠ 0 → v = zero4)
theorem pparse_all (s : ByteArray) (w : World) (hm : MaxOk w) (hs : s.size ≤ 1000) :
  Calls Tryz.prog 14 #[.string s] w fun e w' => PPost s.data.toList e w' ∧ Below w.heap.size w w' := by
 have hc := cut_sl s.data.toList
 have hl : s.data.toList.length ≤ 1000 := by rw [size_list]; exact hs
 have ht := top_len s.data.toList
 have hbl := bot_len s.data.toList
 have hbad : ∀ {r : Int} {v : Value} {P : Ending → World → Prop}, True := fun {_ _ _} => trivial
 by_cases hf : sl s.data.toList < s.data.toList.length
 ·rw [if_pos hf] at hc
  have hln : s.size ≤ 9000 ∧ (topL s.data.toList).length ≤ 9000 ∧ (botL s.data.toList).length ≤ 9000 := by omega
  by_cases h7 : (((true && (errOf (topL s.data.toList) != 3)) && (errOf (botL s.data.toList) != 3))) = true
  ·have h7' := h7
   simp at h7'
   have e1 : errOf (topL s.data.toList) = 0 := by rcases errOf_cases (topL s.data.toList) (by omega) with h | h; exact absurd h h7'.1; exact h
   have e2 : errOf (botL s.data.toList) = 0 := by rcases errOf_cases (botL s.data.toList) (by omega) with h | h; exact absurd h h7'.2; exact h
   have b1 := errOf_good e1
   have b2 := errOf_good e2
   have h8 : ((true && (errOf (topL s.data.toList) != 6)) && (errOf (botL s.data.toList) != 6)) = true := by rw [e1, e2]; rfl
   cases hlow : lowB (topL s.data.toList) (botL s.data.toList) with
   | false =>
    refine (pparse_qlow hm hc hln rfl rfl h7 h8 b1 b2 ⟨by omega, by omega⟩ hlow).mono ?_
    rintro e w' ⟨rfl, hb⟩
    exact ⟨⟨_, _, rfl, fun h => absurd h (by decide), fun _ => rfl⟩, hb⟩
   | true =>
    refine (pparse_q0 hm hc hln rfl rfl h7 h8 b1 b2 ⟨by omega, by omega⟩ hlow).mono ?_
    rintro e w' ⟨v, rfl, ⟨k, A, l, c, k', A', l', c', rfl, i1, i2⟩, hb⟩
    refine ⟨⟨_, _, rfl, fun _ => ?_, fun h => absurd rfl h⟩, hb⟩
    unfold lowB at hlow
    simp only [Bool.and_eq_true, Bool.not_eq_true'] at hlow
    obtain ⟨⟨⟨g0, g1⟩, g2⟩, g3⟩ := hlow
    have hgt := den_gt b2 g0 g1 g2
    have hr : restOf (botL s.data.toList) = botL s.data.toList := by unfold restOf Lib.trimPrefix; rw [show Lib.hasPrefix (botL s.data.toList) [45] = false from g2]; rfl
    have hv2 : valZ (botL s.data.toList) = (numOf (botL s.data.toList) : Int) := by rw [valZ_ok e2]; unfold textZ; rw [g2, hr]; rfl
    have hg : Int.gcd (valZ (topL s.data.toList)) (valZ (botL s.data.toList)) = 1 := by
     rw [hv2, valZ_ok e1]
     unfold eq1 at g3
     have := of_decide_eq_true g3
     unfold Int.gcd
     rw [textZ_abs]
     simpa using this
    have hlo := lowest (p := valZ (topL s.data.toList)) (q := valZ (botL s.data.toList)) (by rw [hv2]; omega) hg
    exact PRat.mk i1 i2 hlo.1.symm hlo.2.symm
  ·rw [Bool.not_eq_true] at h7
   refine (pparse_q3 hm hc hln rfl rfl h7 rfl).mono ?_
   rintro e w' ⟨rfl, hb⟩
   exact ⟨⟨_, _, rfl, fun h => absurd h (by decide), fun _ => rfl⟩, hb⟩
 ·rw [if_neg hf] at hc
  have hln : s.size ≤ 9000 ∧ s.data.toList.length ≤ 9000 ∧ ([] : List UInt8).length ≤ 9000 := ⟨by omega, by omega, by simp⟩
  have ht2 : topL s.data.toList = s.data.toList := by unfold topL; rw [if_neg hf]
  have hb2 : botL s.data.toList = [49] := by unfold botL; rw [if_neg hf]
  rcases errOf_cases s.data.toList (by omega) with h | h
  ·refine (pparse_n3 hm hc hln (by rw [h]; rfl) rfl).mono ?_
   rintro e w' ⟨rfl, hb⟩
   exact ⟨⟨_, _, rfl, fun h => absurd h (by decide), fun _ => rfl⟩, hb⟩
  ·refine (pparse_n0 hm hc hln (by rw [h]; rfl) (by rw [h]; rfl)).mono ?_
   rintro e w' ⟨v, rfl, ⟨k, A, l, c, k', A', l', c', rfl, i1, i2⟩, hb⟩
   refine ⟨⟨_, _, rfl, fun _ => ?_, fun h => absurd rfl h⟩, hb⟩
   have hlo := lowest (p := valZ s.data.toList) (q := 1) (by decide) (by simp)
   have e3 : ratV s.data.toList = Rat.divInt (valZ s.data.toList) 1 := by unfold ratV; rw [ht2, hb2, val49]
   rw [e3]
   exact PRat.mk i1 i2 hlo.1.symm hlo.2.symm
theorem rparse_all (s : ByteArray) (w : World) (hs : s.size ≤ 1000) :
  Calls Tryz.prog 15 #[.string s] w fun e w' => RPost s.data.toList e w' ∧ Below w.heap.size w w' := by
 have hl : s.data.toList.length ≤ 1000 := by rw [size_list]; exact hs
 have ht := top_len s.data.toList
 have hbl := bot_len s.data.toList
 have hz : s.data.toList.length = s.size := size_list s
 have zero : ∀ {er : Int} (hne : er ≠ 0) (w' : World), RPost s.data.toList (.returned (.tuple #[zero4, .int .i64 er])) w' := fun hne _ => ⟨_, _, rfl, fun h => absurd h hne, fun _ => rfl⟩
 by_cases hf : sl s.data.toList < s.size
 ·have ht2 : topL s.data.toList = s.data.toList.take (sl s.data.toList) := by unfold topL; rw [if_pos (by omega)]
  have hb2 : botL s.data.toList = s.data.toList.drop (sl s.data.toList + 1) := by unfold botL; rw [if_pos (by omega)]
  rcases errOf_cases (topL s.data.toList) (by omega) with e1 | e1
  ·refine (rp_q_C1 hs hf ht2.symm hb2.symm e1).mono ?_
   rintro e w' ⟨rfl, hb⟩
   exact ⟨zero (by decide) _, hb⟩
  rcases errOf_cases (botL s.data.toList) (by omega) with e2 | e2
  ·refine (rp_q_C2 hs hf ht2.symm hb2.symm e1 e2).mono ?_
   rintro e w' ⟨rfl, hb⟩
   exact ⟨zero (by decide) _, hb⟩
  by_cases h3 : valZ (botL s.data.toList) ≤ 0
  ·refine (rp_q_C3 hs hf ht2.symm hb2.symm e1 e2 rfl ?_).mono ?_
   ·unfold cmpI; rcases Int.lt_or_eq_of_le h3 with h | h
    ·rw [if_pos h]; decide
    ·rw [h]; decide
   ·rintro e w' ⟨rfl, hb⟩
    exact ⟨zero (by decide) _, hb⟩
  have hsg : cmpI (valZ (botL s.data.toList)) 0 = 1 := by unfold cmpI; rw [if_neg (by omega), if_neg (by omega)]
  by_cases h4 : ratText (Rat.divInt (valZ (topL s.data.toList)) (valZ (botL s.data.toList))) = s.data.toList
  ·refine (rp_q_C4 hs hf ht2.symm hb2.symm e1 e2 hsg (by omega) h4).mono ?_
   rintro e w' ⟨v, rfl, hv, hb⟩
   exact ⟨⟨_, _, rfl, fun _ => hv, fun h => absurd rfl h⟩, hb⟩
  ·refine (rp_q_C5 hs hf ht2.symm hb2.symm e1 e2 hsg (by omega) rfl ?_).mono ?_
   ·rw [Lib.toList_data]; simpa using h4
   ·rintro e w' ⟨rfl, hb⟩
    exact ⟨zero (by decide) _, hb⟩
 ·have ht2 : topL s.data.toList = s.data.toList := by unfold topL; rw [if_neg (by omega)]
  have hb2 : botL s.data.toList = [49] := by unfold botL; rw [if_neg (by omega)]
  rcases errOf_cases (topL s.data.toList) (by omega) with e1 | e1
  ·refine (rp_n_C1 hs hf ht2.symm hb2.symm e1).mono ?_
   rintro e w' ⟨rfl, hb⟩
   exact ⟨zero (by decide) _, hb⟩
  have e2 : errOf (botL s.data.toList) = 0 := by rw [hb2]; decide +kernel
  have h3 : valZ (botL s.data.toList) = 1 := by rw [hb2]; exact val49
  have hsg : cmpI (valZ (botL s.data.toList)) 0 = 1 := by rw [h3]; decide
  by_cases h4 : ratText (Rat.divInt (valZ (topL s.data.toList)) (valZ (botL s.data.toList))) = s.data.toList
  ·refine (rp_n_C4 hs hf ht2.symm hb2.symm e1 e2 hsg (by omega) h4).mono ?_
   rintro e w' ⟨v, rfl, hv, hb⟩
   exact ⟨⟨_, _, rfl, fun _ => hv, fun h => absurd rfl h⟩, hb⟩
  ·refine (rp_n_C5 hs hf ht2.symm hb2.symm e1 e2 hsg (by omega) rfl ?_).mono ?_
   ·rw [Lib.toList_data]; simpa using h4
   ·rintro e w' ⟨rfl, hb⟩
    exact ⟨zero (by decide) _, hb⟩
end Go.Proofs.YtgihmikeapbpkaaGreatDoor
