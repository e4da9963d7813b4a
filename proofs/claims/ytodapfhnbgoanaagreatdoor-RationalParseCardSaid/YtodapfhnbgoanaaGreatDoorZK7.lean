/- Contracts of the functions that the statements reach, part 7: what was proved of each, callees first. -/
import Derived.Deep.Cut
import Derived.WalkLawsBesides
import Derived.Test.YtodapfhnbgoanaaGreatDoorZK6
namespace Go.Proofs.YtodapfhnbgoanaaGreatDoor
open Go.RowKit
open AS (Keep NoInt)
set_option maxHeartbeats 3200000
set_option maxRecDepth 20000
def ratText (x : Rat) : List UInt8 := if x.den = 1 then decZ x.num else decZ x.num ++ 47 :: decZ (x.den : Int)
def ratTextFL1 (x : Rat) (n : Nat) : List (Nat × AS.Fact) := [(10, AS.Fact.int ((x.den : Int)) n), (11, AS.Fact.int (1) 3), (12, AS.Fact.is (.int .i64 0)), (13, AS.Fact.is (.bool true))]
theorem ratText_int {x : Rat} {n : Nat} {v : Value} {w : World} (h : PRat x n v w) (hn3 : 3 ≤ n) (hn : n ≤ 10000) (ht : Tab w.heap.size w) (hd : x.den = 1) (hcm : cmpI (x.den : Int) 1 = 0) :
  Calls Tryz.prog 8 #[v] w fun e w' => e = .returned (.string ⟨(ratText x).toArray⟩) ∧ Below w.heap.size w w' := by
 obtain ⟨k, A, l, c, k', A', l', c', rfl⟩ := h.open
 have H1 := Lib.hid h
 have HT := Lib.hid ht
 clear h ht
 go_enter Tryz.func8, Tryz.ntmps8
 go_upto_region 1 with (fail)
 change Code.wp Tryz.prog _ _ _ (w.alloc (.cells #[.bool k, .slice A l c, .bool k', .slice A' l' c'] 27))
 obtain ⟨nb1, na⟩ := new1 w 27 [.bool k, .slice A l c, .bool k', .slice A' l' c'] lf4
 have nkeep := Keep.ofBelow na
 have nbel := na
 generalize w.alloc (.cells #[.bool k, .slice A l c, .bool k', .slice A' l' c'] 27) = W1 at *
 clear na
 have b1 := Lib.hid nb1
 clear nb1
 replace H1 := Lib.hid (H1.out.kept nkeep)
 clear nkeep
 have HB2 := Lib.hid nbel
 clear nbel
 obtain ⟨x10, x11, x12, x13, s1⟩ := b1.out.d4
 have szb := HB2.out.size
 go_wp2_with fail
 refine (terms_fact H1.out hn3).mono ?_
 rintro e W3 ⟨k1, A1, l1, c1, j1, B1, o1, e1, rfl, ha_, hc_, hb⟩
 replace b1 := hup b1 hb
 replace H1 := Lib.hid (H1.out.kept (Keep.ofBelow hb))
 have nbel := below_then HB2.out hb HB2.out.size
 have HB4 := Lib.hid nbel
 clear nbel HB2 hb x10 x11 x12 x13 szb s1
 obtain ⟨x10, x11, x12, x13, s1⟩ := b1.out.d4
 have szb := HB4.out.size
 have HA := Lib.hid ha_
 have HB := Lib.hid hc_
 clear ha_ hc_
 go_upto_region 2 with (fail)
 have q5 := b1.out.lt
 change Code.wp Tryz.prog _ _ _ ((W3.alloc (.cells #[.bool k1, .slice A1 l1 c1] 25)).alloc (.cells #[.bool j1, .slice B1 o1 e1] 25))
 obtain ⟨nb3, nb4, na⟩ := new2 W3 25 [.bool k1, .slice A1 l1 c1] 25 [.bool j1, .slice B1 o1 e1] lf2 lf2
 have nb1 := b1.out.up na
 have nkeep := Keep.ofBelow na
 have nbel := below_then HB4.out na HB4.out.size
 generalize (W3.alloc (.cells #[.bool k1, .slice A1 l1 c1] 25)).alloc (.cells #[.bool j1, .slice B1 o1 e1] 25) = W6 at *
 clear na x10 x11 x12 x13 szb s1 b1
 have b1 := Lib.hid nb1
 have b3 := Lib.hid nb3
 have b4 := Lib.hid nb4
 clear nb1 nb3 nb4
 replace H1 := Lib.hid (H1.out.kept nkeep)
 replace HA := Lib.hid (HA.out.kept nkeep)
 replace HB := Lib.hid (HB.out.kept nkeep)
 clear nkeep
 have HB7 := Lib.hid nbel
 clear nbel HB4
 obtain ⟨x10, x11, x12, x13, s1⟩ := b1.out.d4
 obtain ⟨x30, x31, s3⟩ := b3.out.d2
 obtain ⟨x40, x41, s4⟩ := b4.out.d2
 have szb := HB7.out.size
 refine AS.region_facts (ratTextFL1 x n) (JNo W6) [[], [], [10, 11], [12]] [] [[]] [0, 0, 0, 0] [] (fun u => by simp only [ratTextFL1, AS.temps, List.map_cons, List.map_nil, fillL, List.setIfInBounds_toArray, List.set_cons_zero, List.set_cons_succ]; rfl) (by kernel_rfl) (by kernel_rfl) (JNo.st W6) (below_drew (Below.refl _ _)) ?_ ?_
 ·refine AS.sc rfl rfl rfl ?_ ?_
  ·intro k_ u w_ hk hJ hF K hK
   clear hF
   obtain rfl : k_ = 0 := Nat.le_zero.1 hk
   have hJ0 : Below W6.heap.size W6 w_ := hJ
   obtain ⟨y0, y1⟩ := ((b4.out).up hJ0).c2
   go_simp
   exact hK.out _ _ (Below.refl _ _) ((HB.out).kept (Keep.ofBelow hJ0)) trivial
  refine AS.sc rfl rfl rfl ?_ ?_
  ·intro k_ u w_ hk hJ hF K hK
   clear hF
   go_simp
   refine (of_fact (n := 1) (by decide) (by decide)).mono ?_
   rintro e w' ⟨v, rfl, hv, hb⟩
   exact hK.out _ _ hb (hv) trivial
  refine AS.sc rfl rfl rfl ?_ ?_
  ·intro k_ u w_ hk hJ hF K hK
   have h10 : PInt ((x.den : Int)) n (u 10) w_ := AS.facts_get hF 10 (by simp)
   have h11 : PInt (1) 3 (u 11) w_ := AS.facts_get hF 11 (by simp)
   clear hF
   go_simp
   refine (cmp_is h10 h11 (by omega) (by omega) hcm).mono ?_
   rintro e w' ⟨rfl, hb⟩
   exact hK.out _ _ hb (rfl) trivial
  refine AS.sc rfl rfl rfl ?_ ?_
  ·intro k_ u w_ hk hJ hF K hK
   have h12 : u 12 = .int .i64 0 := AS.facts_get hF 12 (by simp)
   clear hF
   simp only [h12] at hK ⊢
   clear h12
   go_simp
   exact hK.out _ _ (Below.refl _ _) (rfl) trivial
  exact AS.StepsOk.nil
 ·intro u W8 hJ9 hF
  have h13 : u 13 = .bool true := AS.facts_get hF 13 (by simp [ratTextFL1, AS.temps])
  clear hF
  replace b1 := hup b1 hJ9
  replace b3 := hup b3 hJ9
  replace b4 := hup b4 hJ9
  replace H1 := Lib.hid (H1.out.kept (Keep.ofBelow hJ9))
  replace HA := Lib.hid (HA.out.kept (Keep.ofBelow hJ9))
  replace HB := Lib.hid (HB.out.kept (Keep.ofBelow hJ9))
  have nbel := below_then HB7.out hJ9 HB7.out.size
  have HB9 := Lib.hid nbel
  clear nbel HB7 hJ9 x10 x11 x12 x13 x30 x31 x40 x41 szb s1 s3 s4
  obtain ⟨x10, x11, x12, x13, s1⟩ := b1.out.d4
  obtain ⟨x30, x31, s3⟩ := b3.out.d2
  obtain ⟨x40, x41, s4⟩ := b4.out.d2
  have szb := HB9.out.size
  rw [show u 13 = _ from h13]
  clear h13
  go_wp2_with fail
  refine (text_fact HA.out (by omega) (tab_up HT.out HB9.out)).mono ?_
  rintro e W10 ⟨rfl, hb⟩
  replace b1 := hup b1 hb
  replace b3 := hup b3 hb
  replace b4 := hup b4 hb
  replace H1 := Lib.hid (H1.out.kept (Keep.ofBelow hb))
  replace HA := Lib.hid (HA.out.kept (Keep.ofBelow hb))
  replace HB := Lib.hid (HB.out.kept (Keep.ofBelow hb))
  have nbel := below_then HB9.out hb HB9.out.size
  have HB11 := Lib.hid nbel
  clear nbel HB9 hb x10 x11 x12 x13 x30 x31 x40 x41 szb s1 s3 s4
  obtain ⟨x10, x11, x12, x13, s1⟩ := b1.out.d4
  obtain ⟨x30, x31, s3⟩ := b3.out.d2
  obtain ⟨x40, x41, s4⟩ := b4.out.d2
  have szb := HB11.out.size
  go_wp2_with fail
  have hkeep := (Keep.refl W10)
  have hbel := HB11.out
  refine bodyPost_ret (v := .string ⟨(decZ x.num).toArray⟩) (by simp [results, Tryz.results8, go_sem]) rfl ⟨by unfold ratText; rw [if_pos hd], hbel⟩
def ratTextFL2 (x : Rat) (n : Nat) : List (Nat × AS.Fact) := [(10, AS.Fact.int ((x.den : Int)) n), (11, AS.Fact.int (1) 3), (12, AS.Fact.is (.int .i64 1)), (13, AS.Fact.is (.bool false))]
def ratTextFL3 (x : Rat) (n : Nat) : List (Nat × AS.Fact) := [(16, AS.Fact.int (x.num) n), (17, AS.Fact.is (.string ⟨(decZ (x.num)).toArray⟩)), (18, AS.Fact.is (.string ⟨(decZ x.num ++ [47]).toArray⟩)), (19, AS.Fact.int ((x.den : Int)) n), (20, AS.Fact.is (.string ⟨(decZ ((x.den : Int))).toArray⟩)), (21, AS.Fact.is (.string ⟨(decZ x.num ++ 47 :: decZ (x.den : Int)).toArray⟩)), (2, AS.Fact.is (.string ⟨(decZ x.num ++ 47 :: decZ (x.den : Int)).toArray⟩))]
theorem ratText_quo {x : Rat} {n : Nat} {v : Value} {w : World} (h : PRat x n v w) (hn3 : 3 ≤ n) (hn : n ≤ 10000) (ht : Tab w.heap.size w) (hd : x.den ≠ 1) (hcm : cmpI (x.den : Int) 1 = 1) :
  Calls Tryz.prog 8 #[v] w fun e w' => e = .returned (.string ⟨(ratText x).toArray⟩) ∧ Below w.heap.size w w' := by
 obtain ⟨k, A, l, c, k', A', l', c', rfl⟩ := h.open
 have H1 := Lib.hid h
 have HT := Lib.hid ht
 clear h ht
 go_enter Tryz.func8, Tryz.ntmps8
 go_upto_region 1 with (fail)
 change Code.wp Tryz.prog _ _ _ (w.alloc (.cells #[.bool k, .slice A l c, .bool k', .slice A' l' c'] 27))
 obtain ⟨nb1, na⟩ := new1 w 27 [.bool k, .slice A l c, .bool k', .slice A' l' c'] lf4
 have nkeep := Keep.ofBelow na
 have nbel := na
 generalize w.alloc (.cells #[.bool k, .slice A l c, .bool k', .slice A' l' c'] 27) = W1 at *
 clear na
 have b1 := Lib.hid nb1
 clear nb1
 replace H1 := Lib.hid (H1.out.kept nkeep)
 clear nkeep
 have HB2 := Lib.hid nbel
 clear nbel
 obtain ⟨x10, x11, x12, x13, s1⟩ := b1.out.d4
 have szb := HB2.out.size
 go_wp2_with fail
 refine (terms_fact H1.out hn3).mono ?_
 rintro e W3 ⟨k1, A1, l1, c1, j1, B1, o1, e1, rfl, ha_, hc_, hb⟩
 replace b1 := hup b1 hb
 replace H1 := Lib.hid (H1.out.kept (Keep.ofBelow hb))
 have nbel := below_then HB2.out hb HB2.out.size
 have HB4 := Lib.hid nbel
 clear nbel HB2 hb x10 x11 x12 x13 szb s1
 obtain ⟨x10, x11, x12, x13, s1⟩ := b1.out.d4
 have szb := HB4.out.size
 have HA := Lib.hid ha_
 have HB := Lib.hid hc_
 clear ha_ hc_
 go_upto_region 2 with (fail)
 have q5 := b1.out.lt
 change Code.wp Tryz.prog _ _ _ ((W3.alloc (.cells #[.bool k1, .slice A1 l1 c1] 25)).alloc (.cells #[.bool j1, .slice B1 o1 e1] 25))
 obtain ⟨nb3, nb4, na⟩ := new2 W3 25 [.bool k1, .slice A1 l1 c1] 25 [.bool j1, .slice B1 o1 e1] lf2 lf2
 have nb1 := b1.out.up na
 have nkeep := Keep.ofBelow na
 have nbel := below_then HB4.out na HB4.out.size
 generalize (W3.alloc (.cells #[.bool k1, .slice A1 l1 c1] 25)).alloc (.cells #[.bool j1, .slice B1 o1 e1] 25) = W6 at *
 clear na x10 x11 x12 x13 szb s1 b1
 have b1 := Lib.hid nb1
 have b3 := Lib.hid nb3
 have b4 := Lib.hid nb4
 clear nb1 nb3 nb4
 replace H1 := Lib.hid (H1.out.kept nkeep)
 replace HA := Lib.hid (HA.out.kept nkeep)
 replace HB := Lib.hid (HB.out.kept nkeep)
 clear nkeep
 have HB7 := Lib.hid nbel
 clear nbel HB4
 obtain ⟨x10, x11, x12, x13, s1⟩ := b1.out.d4
 obtain ⟨x30, x31, s3⟩ := b3.out.d2
 obtain ⟨x40, x41, s4⟩ := b4.out.d2
 have szb := HB7.out.size
 refine AS.region_facts (ratTextFL2 x n) (JNo W6) [[], [], [10, 11], [12]] [] [[]] [0, 0, 0, 0] [] (fun u => by simp only [ratTextFL2, AS.temps, List.map_cons, List.map_nil, fillL, List.setIfInBounds_toArray, List.set_cons_zero, List.set_cons_succ]; rfl) (by kernel_rfl) (by kernel_rfl) (JNo.st W6) (below_drew (Below.refl _ _)) ?_ ?_
 ·refine AS.sc rfl rfl rfl ?_ ?_
  ·intro k_ u w_ hk hJ hF K hK
   clear hF
   obtain rfl : k_ = 0 := Nat.le_zero.1 hk
   have hJ0 : Below W6.heap.size W6 w_ := hJ
   obtain ⟨y0, y1⟩ := ((b4.out).up hJ0).c2
   go_simp
   exact hK.out _ _ (Below.refl _ _) ((HB.out).kept (Keep.ofBelow hJ0)) trivial
  refine AS.sc rfl rfl rfl ?_ ?_
  ·intro k_ u w_ hk hJ hF K hK
   clear hF
   go_simp
   refine (of_fact (n := 1) (by decide) (by decide)).mono ?_
   rintro e w' ⟨v, rfl, hv, hb⟩
   exact hK.out _ _ hb (hv) trivial
  refine AS.sc rfl rfl rfl ?_ ?_
  ·intro k_ u w_ hk hJ hF K hK
   have h10 : PInt ((x.den : Int)) n (u 10) w_ := AS.facts_get hF 10 (by simp)
   have h11 : PInt (1) 3 (u 11) w_ := AS.facts_get hF 11 (by simp)
   clear hF
   go_simp
   refine (cmp_is h10 h11 (by omega) (by omega) hcm).mono ?_
   rintro e w' ⟨rfl, hb⟩
   exact hK.out _ _ hb (rfl) trivial
  refine AS.sc rfl rfl rfl ?_ ?_
  ·intro k_ u w_ hk hJ hF K hK
   have h12 : u 12 = .int .i64 1 := AS.facts_get hF 12 (by simp)
   clear hF
   simp only [h12] at hK ⊢
   clear h12
   go_simp
   exact hK.out _ _ (Below.refl _ _) (rfl) trivial
  exact AS.StepsOk.nil
 ·intro u W8 hJ9 hF
  have h13 : u 13 = .bool false := AS.facts_get hF 13 (by simp [ratTextFL2, AS.temps])
  clear hF
  replace b1 := hup b1 hJ9
  replace b3 := hup b3 hJ9
  replace b4 := hup b4 hJ9
  replace H1 := Lib.hid (H1.out.kept (Keep.ofBelow hJ9))
  replace HA := Lib.hid (HA.out.kept (Keep.ofBelow hJ9))
  replace HB := Lib.hid (HB.out.kept (Keep.ofBelow hJ9))
  have nbel := below_then HB7.out hJ9 HB7.out.size
  have HB9 := Lib.hid nbel
  clear nbel HB7 hJ9 x10 x11 x12 x13 x30 x31 x40 x41 szb s1 s3 s4
  obtain ⟨x10, x11, x12, x13, s1⟩ := b1.out.d4
  obtain ⟨x30, x31, s3⟩ := b3.out.d2
  obtain ⟨x40, x41, s4⟩ := b4.out.d2
  have szb := HB9.out.size
  rw [show u 13 = _ from h13]
  clear h13
  have HTW := Lib.hid (tab_up HT.out HB9.out)
  have HL1 := Lib.hid (decZ_len HA.out)
  have HL2 := Lib.hid (decZ_len HB.out)
  go_upto_region 4 with (fail)
  refine AS.region_facts (ratTextFL3 x n) (JNo W8) [[], [16], [17], [], [19], [18, 20], [21]] [] [[]] [0, 0, 0, 0, 0, 0, 0] [] (fun u => by simp only [ratTextFL3, AS.temps, List.map_cons, List.map_nil, fillL, List.setIfInBounds_toArray, List.set_cons_zero, List.set_cons_succ]; rfl) (by kernel_rfl) (by kernel_rfl) (JNo.st W8) (below_drew (Below.refl _ _)) ?_ ?_
  ·refine AS.sc rfl rfl rfl ?_ ?_
   ·intro k_ u w_ hk hJ hF K hK
    clear hF
    obtain rfl : k_ = 0 := Nat.le_zero.1 hk
    have hJ0 : Below W8.heap.size W8 w_ := hJ
    obtain ⟨y0, y1⟩ := ((b3.out).up hJ0).c2
    go_simp
    exact hK.out _ _ (Below.refl _ _) ((HA.out).kept (Keep.ofBelow hJ0)) trivial
   refine AS.sc rfl rfl rfl ?_ ?_
   ·intro k_ u w_ hk hJ hF K hK
    have h16 : PInt (x.num) n (u 16) w_ := AS.facts_get hF 16 (by simp)
    clear hF
    go_simp
    refine (text_fact h16 (by omega) (tab_up HTW.out hJ)).mono ?_
    rintro e w' ⟨rfl, hb⟩
    exact hK.out _ _ hb (rfl) trivial
   refine AS.sc rfl rfl rfl ?_ ?_
   ·intro k_ u w_ hk hJ hF K hK
    have h17 : u 17 = .string ⟨(decZ (x.num)).toArray⟩ := AS.facts_get hF 17 (by simp)
    clear hF
    simp only [h17] at hK ⊢
    clear h17
    have hz1 := run_string_add_lists (P := Tryz.prog) w_ (decZ x.num) [47] (by have := HL1.out; omega) (by simp)
    go_simp
    exact hK.out _ _ (Below.refl _ _) (rfl) trivial
   refine AS.sc rfl rfl rfl ?_ ?_
   ·intro k_ u w_ hk hJ hF K hK
    clear hF
    obtain rfl : k_ = 0 := Nat.le_zero.1 hk
    have hJ0 : Below W8.heap.size W8 w_ := hJ
    obtain ⟨y0, y1⟩ := ((b4.out).up hJ0).c2
    go_simp
    exact hK.out _ _ (Below.refl _ _) ((HB.out).kept (Keep.ofBelow hJ0)) trivial
   refine AS.sc rfl rfl rfl ?_ ?_
   ·intro k_ u w_ hk hJ hF K hK
    have h19 : PInt ((x.den : Int)) n (u 19) w_ := AS.facts_get hF 19 (by simp)
    clear hF
    go_simp
    refine (text_fact h19 (by omega) (tab_up HTW.out hJ)).mono ?_
    rintro e w' ⟨rfl, hb⟩
    exact hK.out _ _ hb (rfl) trivial
   refine AS.sc rfl rfl rfl ?_ ?_
   ·intro k_ u w_ hk hJ hF K hK
    have h18 : u 18 = .string ⟨(decZ x.num ++ [47]).toArray⟩ := AS.facts_get hF 18 (by simp)
    have h20 : u 20 = .string ⟨(decZ ((x.den : Int))).toArray⟩ := AS.facts_get hF 20 (by simp)
    clear hF
    simp only [h18, h20] at hK ⊢
    clear h18 h20
    have hz1 := run_string_add_lists (P := Tryz.prog) w_ (decZ x.num ++ [47]) (decZ (x.den : Int)) (by have := HL1.out; rw [List.length_append]; simp; omega) (by have := HL2.out; omega)
    go_simp
    exact hK.out _ _ (Below.refl _ _) (rfl) trivial
   refine AS.sc rfl rfl rfl ?_ ?_
   ·intro k_ u w_ hk hJ hF K hK
    have h21 : u 21 = .string ⟨(decZ x.num ++ 47 :: decZ (x.den : Int)).toArray⟩ := AS.facts_get hF 21 (by simp)
    clear hF
    simp only [h21] at hK ⊢
    clear h21
    go_simp
    exact hK.out _ _ (Below.refl _ _) (rfl) trivial
   exact AS.StepsOk.nil
  ·intro u W10 hJ9 hF
   have h2 : u 2 = .string ⟨(decZ x.num ++ 47 :: decZ (x.den : Int)).toArray⟩ := AS.facts_get hF 2 (by simp [ratTextFL3, AS.temps])
   clear hF
   rw [show u 2 = _ from h2]
   clear h2
   replace b1 := hup b1 hJ9
   replace b3 := hup b3 hJ9
   replace b4 := hup b4 hJ9
   replace H1 := Lib.hid (H1.out.kept (Keep.ofBelow hJ9))
   replace HA := Lib.hid (HA.out.kept (Keep.ofBelow hJ9))
   replace HB := Lib.hid (HB.out.kept (Keep.ofBelow hJ9))
   have nbel := below_then HB9.out hJ9 HB9.out.size
   have HB11 := Lib.hid nbel
   clear nbel HB9 hJ9 x10 x11 x12 x13 x30 x31 x40 x41 szb s1 s3 s4
   obtain ⟨x10, x11, x12, x13, s1⟩ := b1.out.d4
   obtain ⟨x30, x31, s3⟩ := b3.out.d2
   obtain ⟨x40, x41, s4⟩ := b4.out.d2
   have szb := HB11.out.size
   go_wp2_with fail
   have hkeep := (Keep.refl W10)
   have hbel := HB11.out
   refine bodyPost_ret (v := .string ⟨(decZ x.num ++ 47 :: decZ (x.den : Int)).toArray⟩) (by simp [results, Tryz.results8, go_sem]) rfl ⟨by unfold ratText; rw [if_neg hd], hbel⟩
theorem ratText_fact {x : Rat} {n : Nat} {v : Value} {w : World} (h : PRat x n v w) (hn3 : 3 ≤ n) (hn : n ≤ 10000) (ht : Tab w.heap.size w) :
  Calls Tryz.prog 8 #[v] w fun e w' => e = .returned (.string ⟨(ratText x).toArray⟩) ∧ Below w.heap.size w w' := by
 by_cases hd : x.den = 1
 ·exact ratText_int h hn3 hn ht hd (by rw [hd]; rfl)
 ·exact ratText_quo h hn3 hn ht hd (by unfold cmpI; have := x.den_pos; rw [if_neg (by omega), if_neg (by omega)])
theorem ratScale_is {a r s : Int} {x : Rat} {n : Nat} {v : Value} {w : World} (h : PRat x n v w) (hn3 : 3 ≤ n) (hn : n ≤ 10000) (hrs : scaleN a x = r ∧ scaleE a x = s) :
  Calls Tryz.prog 11 #[.int .i64 a, v] w fun e w' => e = .returned (.tuple #[.int .i64 r, .int .i64 s]) ∧ Below w.heap.size w w' := by
 obtain ⟨rfl, rfl⟩ := hrs
 exact ratScale_fact h hn3 hn
theorem ratText_is {x : Rat} {n : Nat} {v : Value} {w : World} {T : List UInt8} (h : PRat x n v w) (hn3 : 3 ≤ n) (hn : n ≤ 10000) (ht : Tab w.heap.size w) (hT : ratText x = T) :
  Calls Tryz.prog 8 #[v] w fun e w' => e = .returned (.string ⟨T.toArray⟩) ∧ Below w.heap.size w w' := hT ▸ ratText_fact h hn3 hn ht
theorem awake_scale : scaleN 100 (Rat.divInt 1 3 + Rat.divInt 1 3) = 67 ∧ scaleE 100 (Rat.divInt 1 3 + Rat.divInt 1 3) = 0 := by decide +kernel
theorem awake_text : ratText (Rat.divInt 1 3 + Rat.divInt 1 6) = [49, 47, 50] := by decide +kernel
set_option maxRecDepth 20000 in
set_option maxHeartbeats 3200000 in
theorem awake_fact {w : World} (ht : Tab w.heap.size w) :
  Calls Tryz.prog 4 #[] w fun e w' => e = .returned (.bool true) ∧ Below w.heap.size w w' := by
 have HT := Lib.hid ht
 clear ht
 go_enter Tryz.func4, Tryz.ntmps4
 go_wp2_with fail
 refine (ofq_fact (a := 1) (b := 3) (by decide) (by decide) (by decide) (by decide) (by decide)).mono ?_
 rintro e W1 ⟨v, rfl, hv, hb⟩
 have nbel := hb
 have HB2 := Lib.hid nbel
 clear nbel hb
 have szb := HB2.out.size
 obtain ⟨k1, A1, l1, c1, k2, A2, l2, c2, rfl⟩ := hv.open
 have HX := Lib.hid hv
 clear hv
 go_upto_region 2 with (fail)
 change Code.wp Tryz.prog _ _ _ (W1.alloc (.cells #[.bool k1, .slice A1 l1 c1, .bool k2, .slice A2 l2 c2] 27))
 obtain ⟨nb1, na⟩ := new1 W1 27 [.bool k1, .slice A1 l1 c1, .bool k2, .slice A2 l2 c2] lf4
 have nkeep := Keep.ofBelow na
 have nbel := below_then HB2.out na HB2.out.size
 generalize W1.alloc (.cells #[.bool k1, .slice A1 l1 c1, .bool k2, .slice A2 l2 c2] 27) = W3 at *
 clear na szb
 have b1 := Lib.hid nb1
 clear nb1
 replace HX := Lib.hid (HX.out.kept nkeep)
 clear nkeep
 have HB4 := Lib.hid nbel
 clear nbel HB2
 obtain ⟨x10, x11, x12, x13, s1⟩ := b1.out.d4
 have szb := HB4.out.size
 go_wp2_with fail
 refine (ofq_fact (a := 1) (b := 6) (by decide) (by decide) (by decide) (by decide) (by decide)).mono ?_
 rintro e W5 ⟨v, rfl, hv, hb⟩
 replace b1 := hup b1 hb
 replace HX := Lib.hid (HX.out.kept (Keep.ofBelow hb))
 have nbel := below_then HB4.out hb HB4.out.size
 have HB6 := Lib.hid nbel
 clear nbel HB4 hb x10 x11 x12 x13 szb s1
 obtain ⟨x10, x11, x12, x13, s1⟩ := b1.out.d4
 have szb := HB6.out.size
 obtain ⟨k3, A3, l3, c3, k4, A4, l4, c4, rfl⟩ := hv.open
 have HY := Lib.hid hv
 clear hv
 go_upto_region 3 with (fail)
 have q7 := b1.out.lt
 change Code.wp Tryz.prog _ _ _ (W5.alloc (.cells #[.bool k3, .slice A3 l3 c3, .bool k4, .slice A4 l4 c4] 27))
 obtain ⟨nb3, na⟩ := new1 W5 27 [.bool k3, .slice A3 l3 c3, .bool k4, .slice A4 l4 c4] lf4
 have nb1 := b1.out.up na
 have nkeep := Keep.ofBelow na
 have nbel := below_then HB6.out na HB6.out.size
 generalize W5.alloc (.cells #[.bool k3, .slice A3 l3 c3, .bool k4, .slice A4 l4 c4] 27) = W8 at *
 clear na x10 x11 x12 x13 szb s1 b1
 have b1 := Lib.hid nb1
 have b3 := Lib.hid nb3
 clear nb1 nb3
 replace HX := Lib.hid (HX.out.kept nkeep)
 replace HY := Lib.hid (HY.out.kept nkeep)
 clear nkeep
 have HB9 := Lib.hid nbel
 clear nbel HB6
 obtain ⟨x10, x11, x12, x13, s1⟩ := b1.out.d4
 obtain ⟨x30, x31, x32, x33, s3⟩ := b3.out.d4
 have szb := HB9.out.size
 go_wp2_with fail
 refine (ratAdd_fact HX.out HX.out (by decide) (by decide)).mono ?_
 rintro e W10 ⟨v, rfl, hv, hb⟩
 replace b1 := hup b1 hb
 replace b3 := hup b3 hb
 replace HX := Lib.hid (HX.out.kept (Keep.ofBelow hb))
 replace HY := Lib.hid (HY.out.kept (Keep.ofBelow hb))
 have nbel := below_then HB9.out hb HB9.out.size
 have HB11 := Lib.hid nbel
 clear nbel HB9 hb x10 x11 x12 x13 x30 x31 x32 x33 szb s1 s3
 obtain ⟨x10, x11, x12, x13, s1⟩ := b1.out.d4
 obtain ⟨x30, x31, x32, x33, s3⟩ := b3.out.d4
 have szb := HB11.out.size
 obtain ⟨k5, A5, l5, c5, k6, A6, l6, c6, rfl⟩ := hv.open
 have HS := Lib.hid hv
 clear hv
 go_wp2_with fail
 refine (ratScale_is HS.out (by decide) (by decide) awake_scale).mono ?_
 rintro e W12 ⟨rfl, hb⟩
 replace b1 := hup b1 hb
 replace b3 := hup b3 hb
 replace HX := Lib.hid (HX.out.kept (Keep.ofBelow hb))
 replace HY := Lib.hid (HY.out.kept (Keep.ofBelow hb))
 replace HS := Lib.hid (HS.out.kept (Keep.ofBelow hb))
 have nbel := below_then HB11.out hb HB11.out.size
 have HB13 := Lib.hid nbel
 clear nbel HB11 hb x10 x11 x12 x13 x30 x31 x32 x33 szb s1 s3
 obtain ⟨x10, x11, x12, x13, s1⟩ := b1.out.d4
 obtain ⟨x30, x31, x32, x33, s3⟩ := b3.out.d4
 have szb := HB13.out.size
 go_wp2_with fail
 refine (ratAdd_fact HX.out HY.out (by decide) (by decide)).mono ?_
 rintro e W14 ⟨v, rfl, hv, hb⟩
 replace b1 := hup b1 hb
 replace b3 := hup b3 hb
 replace HX := Lib.hid (HX.out.kept (Keep.ofBelow hb))
 replace HY := Lib.hid (HY.out.kept (Keep.ofBelow hb))
 replace HS := Lib.hid (HS.out.kept (Keep.ofBelow hb))
 have nbel := below_then HB13.out hb HB13.out.size
 have HB15 := Lib.hid nbel
 clear nbel HB13 hb x10 x11 x12 x13 x30 x31 x32 x33 szb s1 s3
 obtain ⟨x10, x11, x12, x13, s1⟩ := b1.out.d4
 obtain ⟨x30, x31, x32, x33, s3⟩ := b3.out.d4
 have szb := HB15.out.size
 obtain ⟨k7, A7, l7, c7, k8, A8, l8, c8, rfl⟩ := hv.open
 have HU := Lib.hid hv
 clear hv
 go_wp2_with fail
 refine (ratText_is HU.out (by decide) (by decide) (tab_up HT.out HB15.out) awake_text).mono ?_
 rintro e W16 ⟨rfl, hb⟩
 replace b1 := hup b1 hb
 replace b3 := hup b3 hb
 replace HX := Lib.hid (HX.out.kept (Keep.ofBelow hb))
 replace HY := Lib.hid (HY.out.kept (Keep.ofBelow hb))
 replace HS := Lib.hid (HS.out.kept (Keep.ofBelow hb))
 replace HU := Lib.hid (HU.out.kept (Keep.ofBelow hb))
 have nbel := below_then HB15.out hb HB15.out.size
 have HB17 := Lib.hid nbel
 clear nbel HB15 hb x10 x11 x12 x13 x30 x31 x32 x33 szb s1 s3
 obtain ⟨x10, x11, x12, x13, s1⟩ := b1.out.d4
 obtain ⟨x30, x31, x32, x33, s3⟩ := b3.out.d4
 have szb := HB17.out.size
 go_wp2_with fail
 have hkeep := (Keep.refl W16)
 have hbel := HB17.out
 refine bodyPost_ret (v := .bool true) (by simp [results, Tryz.results4, go_sem]) rfl ⟨rfl, hbel⟩
def rpartsFL (n : Nat) (g : Nat) : List (Nat × AS.Fact) := [(8, AS.Fact.is (.pointer (some ⟨g, 0, none⟩))), (9, AS.Fact.ref (0) n), (10, AS.Fact.ref (1) 5)]
set_option maxRecDepth 20000 in
set_option maxHeartbeats 3200000 in
theorem rparts_fact {x : Rat} {n : Nat} {v : Value} {w : World} (h : RRat x n v w) (hn : 5 ≤ n) :
  Calls Tryz.prog 48 #[v] w fun e w' => ∃ (k : Bool) (A : Option Addr) (l c : Nat) (k' : Bool) (A' : Option Addr) (l' c' : Nat), e = .returned (.tuple #[.agg #[.bool k, .slice A l c], .agg #[.bool k', .slice A' l' c']]) ∧ PRef x.num n (.agg #[.bool k, .slice A l c]) w' ∧ PRef x.den n (.agg #[.bool k', .slice A' l' c']) w' ∧ Below w.heap.size w w' := by
 obtain ⟨k, A, l, c, k', A', l', c', rfl⟩ := h.open
 obtain ⟨p, q, h1, h2, h3⟩ := h.parts
 have H1 := Lib.hid h1
 have H2 := Lib.hid h2
 clear h h1 h2
 go_enter Tryz.func48, Tryz.ntmps48
 go_upto_region 1 with (fail)
 change Code.wp Tryz.prog _ _ _ (((w.alloc (.cells #[.bool k, .slice A l c, .bool k', .slice A' l' c'] 35)).alloc (.cells #[.bool false, .slice none 0 0] 33)).alloc (.cells #[.bool false, .slice none 0 0] 33))
 obtain ⟨nb1, nb2, nb3, na⟩ := new3 w 35 [.bool k, .slice A l c, .bool k', .slice A' l' c'] 33 [.bool false, .slice none 0 0] 33 [.bool false, .slice none 0 0] lf4 lf2 lf2
 have nkeep := Keep.ofBelow na
 have nbel := na
 generalize ((w.alloc (.cells #[.bool k, .slice A l c, .bool k', .slice A' l' c'] 35)).alloc (.cells #[.bool false, .slice none 0 0] 33)).alloc (.cells #[.bool false, .slice none 0 0] 33) = W1 at *
 clear na
 have b1 := Lib.hid nb1
 have b2 := Lib.hid nb2
 have b3 := Lib.hid nb3
 clear nb1 nb2 nb3
 replace H1 := Lib.hid (H1.out.kept nkeep)
 replace H2 := Lib.hid (H2.out.kept nkeep)
 clear nkeep
 have HB2 := Lib.hid nbel
 clear nbel
 obtain ⟨x1_0, x1_1, x1_2, x1_3, s1⟩ := b1.out.d4
 obtain ⟨x2_0, x2_1, z2_0, z2_1, s2⟩ := b2.out.e2
 obtain ⟨x3_0, x3_1, z3_0, z3_1, s3⟩ := b3.out.e2
 have szb := HB2.out.size
 rcases h3 with ⟨rfl, rfl⟩ | ⟨rfl, rfl, rfl⟩
 ·have hc : cmpI (x.den : Int) 0 = 1 := by unfold cmpI; have := x.den_pos; rw [if_neg (by omega), if_neg (by omega)]
  go_wp2_with fail
  refine (rsign_is H2.out hc).mono ?_
  rintro e W3 ⟨rfl, hb⟩
  replace b1 := hup b1 hb
  replace b2 := hup b2 hb
  replace b3 := hup b3 hb
  replace H1 := Lib.hid (H1.out.kept (Keep.ofBelow hb))
  replace H2 := Lib.hid (H2.out.kept (Keep.ofBelow hb))
  have nbel := below_then HB2.out hb HB2.out.size
  have HB4 := Lib.hid nbel
  clear nbel HB2 hb x1_0 x1_1 x1_2 x1_3 x2_0 x2_1 z2_0 z2_1 x3_0 x3_1 z3_0 z3_1 szb s1 s2 s3
  obtain ⟨x1_0, x1_1, x1_2, x1_3, s1⟩ := b1.out.d4
  obtain ⟨x2_0, x2_1, z2_0, z2_1, s2⟩ := b2.out.e2
  obtain ⟨x3_0, x3_1, z3_0, z3_1, s3⟩ := b3.out.e2
  have szb := HB4.out.size
  go_wp2
  go_region
  go_wp2
  have hkeep := (Keep.drew (Keep.set (Keep.set (Keep.set2 (Keep.refl W3) b2.out (Leaf.bool k) (Leaf.slice A l c)) (Bx.far2 (g' := w.heap.size + 1) b3.out (by omega) (.bool k) (.slice A l c)) 0 (Leaf.bool k')) (Bx.set (Bx.far2 (g' := w.heap.size + 1) b3.out (by omega) (.bool k) (.slice A l c)) 0 (Leaf.bool k')) 1 (Leaf.slice A' l' c')))
  have hbel := (below_drew (Below.setCell (p := ⟨w.heap.size + 1 + 1, 1, none⟩) (Below.setCell (p := ⟨w.heap.size + 1 + 1, 0, none⟩) (Below.set2 (g := w.heap.size + 1) HB4.out (by first | omega | (simp; done) | (simp; omega)) (.bool k) (.slice A l c)) (by first | omega | (simp; done) | (simp; omega)) (.bool k')) (by first | omega | (simp; done) | (simp; omega)) (.slice A' l' c')))
  refine bodyPost_ret (v := .tuple #[.agg #[.bool k, .slice A l c], .agg #[.bool k', .slice A' l' c']]) (by simp [results, Tryz.results48, go_sem, x2_0, x2_1, x3_0, x3_1]) rfl ⟨_, _, _, _, _, _, _, _, rfl, H1.out.kept hkeep, H2.out.kept hkeep, hbel⟩
 ·go_wp2_with fail
  refine (rsign_is H2.out (c := 0) (by decide)).mono ?_
  rintro e W3 ⟨rfl, hb⟩
  replace b1 := hup b1 hb
  replace b2 := hup b2 hb
  replace b3 := hup b3 hb
  replace H1 := Lib.hid (H1.out.kept (Keep.ofBelow hb))
  replace H2 := Lib.hid (H2.out.kept (Keep.ofBelow hb))
  have nbel := below_then HB2.out hb HB2.out.size
  have HB4 := Lib.hid nbel
  clear nbel HB2 hb x1_0 x1_1 x1_2 x1_3 x2_0 x2_1 z2_0 z2_1 x3_0 x3_1 z3_0 z3_1 szb s1 s2 s3
  obtain ⟨x1_0, x1_1, x1_2, x1_3, s1⟩ := b1.out.d4
  obtain ⟨x2_0, x2_1, z2_0, z2_1, s2⟩ := b2.out.e2
  obtain ⟨x3_0, x3_1, z3_0, z3_1, s3⟩ := b3.out.e2
  have szb := HB4.out.size
  go_upto_region 2 with (fail)
  refine AS.region_facts (rpartsFL n w.heap.size) (JRes2 w W3 33 33 (w.heap.size + 1) (w.heap.size + 1 + 1) [(35, w.heap.size, [.bool k, .slice A l c, .bool k', .slice A' l' c'])]) [[], [8], [], [9], [10]] [3, 4] [[], [9], [9, 10]] [2, 0, 2, 2, 2] [] (fun u => by simp only [rpartsFL, AS.temps, List.map_cons, List.map_nil, fillL, List.setIfInBounds_toArray, List.set_cons_zero, List.set_cons_succ]; rfl) (by kernel_rfl) (by kernel_rfl) (JRes2.st w W3 33 33 (w.heap.size + 1) (w.heap.size + 1 + 1) [(35, w.heap.size, [.bool k, .slice A l c, .bool k', .slice A' l' c'])]) (below_drew (Below.refl _ _)) ?_ ?_
  ·refine AS.sc rfl rfl rfl ?_ ?_
   ·intro k_ u w_ hk hJ hF K hK
    clear hF
    go_simp
    exact hK.out _ _ (Below.refl _ _) (rfl) trivial
   refine AS.sc rfl rfl rfl ?_ ?_
   ·intro k_ u w_ hk hJ hF K hK
    have h8 : u 8 = .pointer (some ⟨w.heap.size, 0, none⟩) := AS.facts_get hF 8 (by simp)
    clear hF
    simp only [h8] at hK ⊢
    clear h8
    obtain rfl : k_ = 0 := Nat.le_zero.1 hk
    have hJ0 : Below W3.heap.size W3 w_ := hJ
    obtain ⟨y0, y1, y2, y3⟩ := ((b1.out).up hJ0).c4
    go_simp
    exact hK.out _ _ (Below.refl _ _) ((H1.out).kept (Keep.ofBelow hJ0)) trivial
   refine AS.sc rfl rfl rfl ?_ ?_
   ·intro k_ u w_ hk hJ hF K hK
    clear hF
    go_simp
    refine (rof_fact (n := 1) (by decide) (by decide)).mono ?_
    rintro e w' ⟨v, rfl, hv, hb⟩
    exact hK.out _ _ hb (hv) trivial
   refine AS.ss rfl rfl ?_ ?_
   ·intro u w_ hJ hAp hF K hK
    have h9 : PRef (0) n (u 9) w_ := AS.facts_get hF 9 (by simp)
    clear hF
    obtain ⟨k1, A1, l1, c1, e_⟩ := h9.open
    have hJ0 : Below W3.heap.size W3 w_ := hJ
    have bx := (b2.out).up hJ0
    have hbel := below_then HB4.out hJ0 HB4.out.size
    have bx2 := (b3.out).up hJ0
    have ob1 := (b1.out).up hJ0
    have y0 := bx.cell 0
    have z0 := bx.frozen 0
    have y1 := bx.cell 1
    have z1 := bx.frozen 1
    simp only [List.getElem?_cons_zero, List.getElem?_cons_succ] at y0 y1
    have hob2 : ∀ b_ ∈ ([(35, w.heap.size, [.bool k, .slice A l c, .bool k', .slice A' l' c'])] : List (TypeId × Nat × List Value)), Bx b_.1 ((w_.setCell ⟨w.heap.size + 1, 0, none⟩ (.bool k1)).setCell ⟨w.heap.size + 1, 1, none⟩ (.slice A1 l1 c1)) b_.2.1 b_.2.2 := by
     intro b_ hb_
     simp only [List.mem_cons, List.not_mem_nil, or_false] at hb_
     rcases hb_ with rfl
     ·exact (Bx.far2 (g' := w.heap.size + 1) ob1 (show w.heap.size + 1 ≠ w.heap.size by omega) (.bool k1) (.slice A1 l1 c1))
    simp only [e_] at hK ⊢
    go_simp
    exact hK.out undef _ ⟨⟨(Below.setCell (p := ⟨w.heap.size + 1, 1, none⟩) (Below.setCell (p := ⟨w.heap.size + 1, 0, none⟩) hbel (by first | omega | (simp; done) | (simp; omega)) (.bool k1)) (by first | omega | (simp; done) | (simp; omega)) (.slice A1 l1 c1)), (by simp only [setCell_size]; first | exact hsz | exact Nat.le_trans HB4.out.size hJ0.size)⟩, hob2, ⟨[.bool k1, .slice A1 l1 c1], by simp [e_], (Bx.set2 bx (Leaf.bool k1) (Leaf.slice A1 l1 c1))⟩, _, _, (Bx.far2 (g' := w.heap.size + 1) bx2 (by omega) (.bool k1) (.slice A1 l1 c1))⟩ (Keep.set2 (Keep.refl w_) bx (Leaf.bool k1) (Leaf.slice A1 l1 c1))
   refine AS.ss rfl rfl ?_ ?_
   ·intro u w_ hJ hAp hF K hK
    have h10 : PRef (1) 5 (u 10) w_ := AS.facts_get hF 10 (by simp)
    clear hF
    obtain ⟨k1, A1, l1, c1, e_⟩ := h10.open
    obtain ⟨⟨hbel, hsz⟩, hob, ⟨vs, hvs, bx1⟩, x_, y_, bx⟩ := hJ
    have ob1 := hob (35, w.heap.size, [.bool k, .slice A l c, .bool k', .slice A' l' c']) (by simp)
    clear hob
    have y0 := bx.cell 0
    have z0 := bx.frozen 0
    have y1 := bx.cell 1
    have z1 := bx.frozen 1
    simp only [List.getElem?_cons_zero, List.getElem?_cons_succ] at y0 y1
    have hob2 : ∀ b_ ∈ ([(35, w.heap.size, [.bool k, .slice A l c, .bool k', .slice A' l' c'])] : List (TypeId × Nat × List Value)), Bx b_.1 ((w_.setCell ⟨w.heap.size + 1 + 1, 0, none⟩ (.bool k1)).setCell ⟨w.heap.size + 1 + 1, 1, none⟩ (.slice A1 l1 c1)) b_.2.1 b_.2.2 := by
     intro b_ hb_
     simp only [List.mem_cons, List.not_mem_nil, or_false] at hb_
     rcases hb_ with rfl
     ·exact (Bx.far2 (g' := w.heap.size + 1 + 1) ob1 (show w.heap.size + 1 + 1 ≠ w.heap.size by omega) (.bool k1) (.slice A1 l1 c1))
    simp only [e_] at hK ⊢
    go_simp
    exact hK.out undef _ ⟨⟨(Below.setCell (p := ⟨w.heap.size + 1 + 1, 1, none⟩) (Below.setCell (p := ⟨w.heap.size + 1 + 1, 0, none⟩) hbel (by first | omega | (simp; done) | (simp; omega)) (.bool k1)) (by first | omega | (simp; done) | (simp; omega)) (.slice A1 l1 c1)), (by simp only [setCell_size]; first | exact hsz | exact Nat.le_trans HB4.out.size hJ0.size)⟩, hob2, vs, [.bool k1, .slice A1 l1 c1], by simp [e_, List.cons.inj hvs], (Bx.far (g' := w.heap.size + 1 + 1) (Bx.far (g' := w.heap.size + 1 + 1) bx1 (by omega) 0 (.bool k1)) (by omega) 1 (.slice A1 l1 c1)), (Bx.set2 bx (Leaf.bool k1) (Leaf.slice A1 l1 c1))⟩ (Keep.set2 (Keep.refl w_) bx (Leaf.bool k1) (Leaf.slice A1 l1 c1))
   exact AS.StepsOk.nil
  ·intro u W5 hJ9 hF
   have h9 : PRef (0) n (u 9) W5 := AS.facts_get hF 9 (by simp [rpartsFL, AS.temps])
   have h10 : PRef (1) 5 (u 10) W5 := AS.facts_get hF 10 (by simp [rpartsFL, AS.temps])
   clear hF
   obtain ⟨⟨hbel, -⟩, -, vs, vs2, hvs, hbx, hbx2⟩ := hJ9
   obtain ⟨ka, Aa, la, ca, ea⟩ := h9.open
   obtain ⟨kb, Ab, lb, cb, eb⟩ := h10.open
   rw [ea] at h9
   rw [eb] at h10
   obtain rfl : vs = [.bool ka, .slice Aa la ca] := by
    have e1 := (List.cons.inj hvs).1
    rw [show u 9 = _ from ea] at e1
    have e2 := congrArg Array.toList (Value.agg.inj e1)
    simpa using e2.symm
   obtain rfl : vs2 = [.bool kb, .slice Ab lb cb] := by
    have e1 := (List.cons.inj (List.cons.inj hvs).2).1
    rw [show u 10 = _ from eb] at e1
    have e2 := congrArg Array.toList (Value.agg.inj e1)
    simpa using e2.symm
   have y0 := hbx.cell 0
   have z0 := hbx2.cell 0
   have y1 := hbx.cell 1
   have z1 := hbx2.cell 1
   simp only [List.getElem?_cons_zero, List.getElem?_cons_succ] at y0 y1 z0 z1
   go_wp2_with fail
   refine bodyPost_ret (v := .tuple #[.agg #[.bool ka, .slice Aa la ca], .agg #[.bool kb, .slice Ab lb cb]]) (by simp [results, Tryz.results48, go_sem, y0, y1, z0, z1]) rfl ⟨_, _, _, _, _, _, _, _, rfl, h9, h10.more hn, hbel⟩
theorem decDig_pos : ∀ (u : Nat), Lib.decDigits u ≠ [] := by
 intro u
 rw [Lib.decDigits]
 split <;> simp
theorem ofNat_dig {a b : Nat} (ha : a < 10) (hb : b < 10) (h : UInt8.ofNat (48 + a) = UInt8.ofNat (48 + b)) : a = b := by
 have := congrArg UInt8.toNat h
 simp at this
 omega
theorem decDig_inj : ∀ (u v : Nat), Lib.decDigits u = Lib.decDigits v → u = v := by
 intro u
 induction u using Nat.strongRecOn with
 | _ u ih =>
  intro v h
  rw [Lib.decDigits, Lib.decDigits.eq_def v] at h
  split at h
  ·rename_i hu
   split at h
   ·rename_i hv
    exact ofNat_dig hu hv (List.cons.inj h).1
   ·exfalso
    have h1 := congrArg List.length h
    have h2 := List.length_pos_iff.2 (decDig_pos (v / 10))
    rw [List.length_append, List.length_singleton, List.length_singleton] at h1
    omega
  ·rename_i hu
   split at h
   ·exfalso
    have h1 := congrArg List.length h
    have h2 := List.length_pos_iff.2 (decDig_pos (u / 10))
    rw [List.length_append, List.length_singleton, List.length_singleton] at h1
    omega
   ·obtain ⟨h1, h2⟩ := List.append_inj' h rfl
    have h3 := ih (u / 10) (by omega) _ h1
    have h4 := ofNat_dig (by omega) (by omega) (List.cons.inj h2).1
    omega
theorem decDig_ge : ∀ (u : Nat), ∀ c ∈ Lib.decDigits u, c ≠ 45 := by
 intro u
 induction u using Nat.strongRecOn with
 | _ u ih =>
  intro c hc
  rw [Lib.decDigits] at hc
  have hd : ∀ a : Nat, a < 10 → UInt8.ofNat (48 + a) ≠ 45 := by
   intro a ha h
   have := congrArg UInt8.toNat h
   simp at this
   omega
  split at hc
  ·rename_i hu
   rw [List.mem_singleton.1 hc]; exact hd u hu
  ·rcases List.mem_append.1 hc with h | h
   ·exact ih (u / 10) (by omega) c h
   ·rw [List.mem_singleton.1 h]; exact hd _ (by omega)
theorem decZ_inj {a b : Int} (h : decZ a = decZ b) : a = b := by
 unfold decZ decI at h
 have hh : ∀ (u v : Nat), [45] ++ Lib.decDigits u ≠ [] ++ Lib.decDigits v := by
  intro u v h
  have : (45 : UInt8) ∈ Lib.decDigits v := by
   have h2 : (45 : UInt8) ∈ [45] ++ Lib.decDigits u := by simp
   rw [h] at h2
   simpa using h2
  exact decDig_ge v _ this rfl
 by_cases ha : a < 0 <;> by_cases hb : b < 0
 ·simp [ha, hb] at h
  have := decDig_inj _ _ h
  omega
 ·simp only [ha, hb, decide_true, decide_false, Bool.false_eq_true, if_true, if_false] at h
  exact absurd h (hh _ _)
 ·simp only [ha, hb, decide_true, decide_false, Bool.false_eq_true, if_true, if_false] at h
  exact absurd h.symm (hh _ _)
 ·simp [ha, hb] at h
  have := decDig_inj _ _ h
  omega
set_option maxHeartbeats 3200000
set_option maxRecDepth 20000
theorem rtext_is {z : Int} {n : Nat} {a : Value} {w : World} {T : List UInt8} (h1 : PRef z n a w) (hn : n ≤ 1000000) (hT : decZ z = T) :
  Calls Tryz.prog 44 #[a] w fun e w' => e = .returned (.string ⟨T.toArray⟩) ∧ Below w.heap.size w w' := hT ▸ rtext_fact h1 hn
theorem rratText_int {x : Rat} {n : Nat} {v : Value} {w : World} (h : RRat x n v w) (hn5 : 5 ≤ n) (hn : n ≤ 10000) (hd : x.den = 1) (hT : decZ (x.den : Int) = [49]) :
  Calls Tryz.prog 22 #[v] w fun e w' => e = .returned (.string ⟨(ratText x).toArray⟩) ∧ Below w.heap.size w w' := by
 obtain ⟨k, A, l, c, k', A', l', c', rfl⟩ := h.open
 have H1 := Lib.hid h
 have HTT := Lib.hid hT
 clear h hT
 go_enter Tryz.func22, Tryz.ntmps22
 go_upto_region 1 with (fail)
 change Code.wp Tryz.prog _ _ _ (w.alloc (.cells #[.bool k, .slice A l c, .bool k', .slice A' l' c'] 35))
 obtain ⟨nb1, na⟩ := new1 w 35 [.bool k, .slice A l c, .bool k', .slice A' l' c'] lf4
 have nkeep := Keep.ofBelow na
 have nbel := na
 generalize w.alloc (.cells #[.bool k, .slice A l c, .bool k', .slice A' l' c'] 35) = W1 at *
 clear na
 have b1 := Lib.hid nb1
 clear nb1
 replace H1 := Lib.hid (H1.out.kept nkeep)
 clear nkeep
 have HB2 := Lib.hid nbel
 clear nbel
 obtain ⟨x10, x11, x12, x13, s1⟩ := b1.out.d4
 have szb := HB2.out.size
 go_wp2_with fail
 refine (rparts_fact H1.out hn5).mono ?_
 rintro e W3 ⟨k1, A1, l1, c1, j1, B1, o1, e1, rfl, ha_, hc_, hb⟩
 replace b1 := hup b1 hb
 replace H1 := Lib.hid (H1.out.kept (Keep.ofBelow hb))
 have nbel := below_then HB2.out hb HB2.out.size
 have HB4 := Lib.hid nbel
 clear nbel HB2 hb x10 x11 x12 x13 szb s1
 obtain ⟨x10, x11, x12, x13, s1⟩ := b1.out.d4
 have szb := HB4.out.size
 have HA := Lib.hid ha_
 have HB := Lib.hid hc_
 clear ha_ hc_
 go_upto_region 2 with (fail)
 have q5 := b1.out.lt
 change Code.wp Tryz.prog _ _ _ ((W3.alloc (.cells #[.bool k1, .slice A1 l1 c1] 33)).alloc (.cells #[.bool j1, .slice B1 o1 e1] 33))
 obtain ⟨nb3, nb4, na⟩ := new2 W3 33 [.bool k1, .slice A1 l1 c1] 33 [.bool j1, .slice B1 o1 e1] lf2 lf2
 have nb1 := b1.out.up na
 have nkeep := Keep.ofBelow na
 have nbel := below_then HB4.out na HB4.out.size
 generalize (W3.alloc (.cells #[.bool k1, .slice A1 l1 c1] 33)).alloc (.cells #[.bool j1, .slice B1 o1 e1] 33) = W6 at *
 clear na x10 x11 x12 x13 szb s1 b1
 have b1 := Lib.hid nb1
 have b3 := Lib.hid nb3
 have b4 := Lib.hid nb4
 clear nb1 nb3 nb4
 replace H1 := Lib.hid (H1.out.kept nkeep)
 replace HA := Lib.hid (HA.out.kept nkeep)
 replace HB := Lib.hid (HB.out.kept nkeep)
 clear nkeep
 have HB7 := Lib.hid nbel
 clear nbel HB4
 obtain ⟨x10, x11, x12, x13, s1⟩ := b1.out.d4
 obtain ⟨x30, x31, s3⟩ := b3.out.d2
 obtain ⟨x40, x41, s4⟩ := b4.out.d2
 have szb := HB7.out.size
 go_wp2_with fail
 refine (rtext_is HB.out (by omega) HTT.out).mono ?_
 rintro e W8 ⟨rfl, hb⟩
 replace b1 := hup b1 hb
 replace b3 := hup b3 hb
 replace b4 := hup b4 hb
 replace H1 := Lib.hid (H1.out.kept (Keep.ofBelow hb))
 replace HA := Lib.hid (HA.out.kept (Keep.ofBelow hb))
 replace HB := Lib.hid (HB.out.kept (Keep.ofBelow hb))
 have nbel := below_then HB7.out hb HB7.out.size
 have HB9 := Lib.hid nbel
 clear nbel HB7 hb x10 x11 x12 x13 x30 x31 x40 x41 szb s1 s3 s4
 obtain ⟨x10, x11, x12, x13, s1⟩ := b1.out.d4
 obtain ⟨x30, x31, s3⟩ := b3.out.d2
 obtain ⟨x40, x41, s4⟩ := b4.out.d2
 have szb := HB9.out.size
 go_wp2_with fail
 refine (rtext_fact HA.out (by omega)).mono ?_
 rintro e W10 ⟨rfl, hb⟩
 replace b1 := hup b1 hb
 replace b3 := hup b3 hb
 replace b4 := hup b4 hb
 replace H1 := Lib.hid (H1.out.kept (Keep.ofBelow hb))
 replace HA := Lib.hid (HA.out.kept (Keep.ofBelow hb))
 replace HB := Lib.hid (HB.out.kept (Keep.ofBelow hb))
 have nbel := below_then HB9.out hb HB9.out.size
 have HB11 := Lib.hid nbel
 clear nbel HB9 hb x10 x11 x12 x13 x30 x31 x40 x41 szb s1 s3 s4
 obtain ⟨x10, x11, x12, x13, s1⟩ := b1.out.d4
 obtain ⟨x30, x31, s3⟩ := b3.out.d2
 obtain ⟨x40, x41, s4⟩ := b4.out.d2
 have szb := HB11.out.size
 go_wp2_with fail
 have hkeep := (Keep.refl W10)
 have hbel := HB11.out
 refine bodyPost_ret (v := .string ⟨(decZ x.num).toArray⟩) (by simp [results, Tryz.results22, go_sem]) rfl ⟨by unfold ratText; rw [if_pos hd], hbel⟩
def rtextFL3 (x : Rat) (n : Nat) : List (Nat × AS.Fact) := [(15, AS.Fact.ref (x.num) n), (16, AS.Fact.is (.string ⟨(decZ (x.num)).toArray⟩)), (17, AS.Fact.is (.string ⟨(decZ x.num ++ [47]).toArray⟩)), (18, AS.Fact.ref ((x.den : Int)) n), (19, AS.Fact.is (.string ⟨(decZ ((x.den : Int))).toArray⟩)), (20, AS.Fact.is (.string ⟨(decZ x.num ++ 47 :: decZ (x.den : Int)).toArray⟩)), (2, AS.Fact.is (.string ⟨(decZ x.num ++ 47 :: decZ (x.den : Int)).toArray⟩))]
theorem rratText_quo {x : Rat} {n : Nat} {v : Value} {w : World} (h : RRat x n v w) (hn5 : 5 ≤ n) (hn : n ≤ 10000) (hd : x.den ≠ 1) {T : List UInt8} (hT : decZ (x.den : Int) = T) (hne : (T == [49]) = false) :
  Calls Tryz.prog 22 #[v] w fun e w' => e = .returned (.string ⟨(ratText x).toArray⟩) ∧ Below w.heap.size w w' := by
 obtain ⟨k, A, l, c, k', A', l', c', rfl⟩ := h.open
 have H1 := Lib.hid h
 have HTT := Lib.hid hT
 clear h hT
 go_enter Tryz.func22, Tryz.ntmps22
 go_upto_region 1 with (fail)
 change Code.wp Tryz.prog _ _ _ (w.alloc (.cells #[.bool k, .slice A l c, .bool k', .slice A' l' c'] 35))
 obtain ⟨nb1, na⟩ := new1 w 35 [.bool k, .slice A l c, .bool k', .slice A' l' c'] lf4
 have nkeep := Keep.ofBelow na
 have nbel := na
 generalize w.alloc (.cells #[.bool k, .slice A l c, .bool k', .slice A' l' c'] 35) = W1 at *
 clear na
 have b1 := Lib.hid nb1
 clear nb1
 replace H1 := Lib.hid (H1.out.kept nkeep)
 clear nkeep
 have HB2 := Lib.hid nbel
 clear nbel
 obtain ⟨x10, x11, x12, x13, s1⟩ := b1.out.d4
 have szb := HB2.out.size
 go_wp2_with fail
 refine (rparts_fact H1.out hn5).mono ?_
 rintro e W3 ⟨k1, A1, l1, c1, j1, B1, o1, e1, rfl, ha_, hc_, hb⟩
 replace b1 := hup b1 hb
 replace H1 := Lib.hid (H1.out.kept (Keep.ofBelow hb))
 have nbel := below_then HB2.out hb HB2.out.size
 have HB4 := Lib.hid nbel
 clear nbel HB2 hb x10 x11 x12 x13 szb s1
 obtain ⟨x10, x11, x12, x13, s1⟩ := b1.out.d4
 have szb := HB4.out.size
 have HA := Lib.hid ha_
 have HB := Lib.hid hc_
 clear ha_ hc_
 go_upto_region 2 with (fail)
 have q5 := b1.out.lt
 change Code.wp Tryz.prog _ _ _ ((W3.alloc (.cells #[.bool k1, .slice A1 l1 c1] 33)).alloc (.cells #[.bool j1, .slice B1 o1 e1] 33))
 obtain ⟨nb3, nb4, na⟩ := new2 W3 33 [.bool k1, .slice A1 l1 c1] 33 [.bool j1, .slice B1 o1 e1] lf2 lf2
 have nb1 := b1.out.up na
 have nkeep := Keep.ofBelow na
 have nbel := below_then HB4.out na HB4.out.size
 generalize (W3.alloc (.cells #[.bool k1, .slice A1 l1 c1] 33)).alloc (.cells #[.bool j1, .slice B1 o1 e1] 33) = W6 at *
 clear na x10 x11 x12 x13 szb s1 b1
 have b1 := Lib.hid nb1
 have b3 := Lib.hid nb3
 have b4 := Lib.hid nb4
 clear nb1 nb3 nb4
 replace H1 := Lib.hid (H1.out.kept nkeep)
 replace HA := Lib.hid (HA.out.kept nkeep)
 replace HB := Lib.hid (HB.out.kept nkeep)
 clear nkeep
 have HB7 := Lib.hid nbel
 clear nbel HB4
 obtain ⟨x10, x11, x12, x13, s1⟩ := b1.out.d4
 obtain ⟨x30, x31, s3⟩ := b3.out.d2
 obtain ⟨x40, x41, s4⟩ := b4.out.d2
 have szb := HB7.out.size
 go_wp2_with fail
 refine (rtext_is HB.out (by omega) HTT.out).mono ?_
 rintro e W8 ⟨rfl, hb⟩
 replace b1 := hup b1 hb
 replace b3 := hup b3 hb
 replace b4 := hup b4 hb
 replace H1 := Lib.hid (H1.out.kept (Keep.ofBelow hb))
 replace HA := Lib.hid (HA.out.kept (Keep.ofBelow hb))
 replace HB := Lib.hid (HB.out.kept (Keep.ofBelow hb))
 have nbel := below_then HB7.out hb HB7.out.size
 have HB9 := Lib.hid nbel
 clear nbel HB7 hb x10 x11 x12 x13 x30 x31 x40 x41 szb s1 s3 s4
 obtain ⟨x10, x11, x12, x13, s1⟩ := b1.out.d4
 obtain ⟨x30, x31, s3⟩ := b3.out.d2
 obtain ⟨x40, x41, s4⟩ := b4.out.d2
 have szb := HB9.out.size
 have HL1 := Lib.hid (decZ_lenR HA.out)
 have HL2 := Lib.hid (decZ_lenR HB.out)
 go_upto_region 4 with (fail)
 refine AS.region_facts (rtextFL3 x n) (JNo W8) [[], [15], [16], [], [18], [17, 19], [20]] [] [[]] [0, 0, 0, 0, 0, 0, 0] [] (fun u => by simp only [rtextFL3, AS.temps, List.map_cons, List.map_nil, fillL, List.setIfInBounds_toArray, List.set_cons_zero, List.set_cons_succ]; rfl) (by kernel_rfl) (by kernel_rfl) (JNo.st W8) (below_drew (Below.refl _ _)) ?_ ?_
 ·refine AS.sc rfl rfl rfl ?_ ?_
  ·intro k_ u w_ hk hJ hF K hK
   clear hF
   obtain rfl : k_ = 0 := Nat.le_zero.1 hk
   have hJ0 : Below W8.heap.size W8 w_ := hJ
   obtain ⟨y0, y1⟩ := ((b3.out).up hJ0).c2
   go_simp
   exact hK.out _ _ (Below.refl _ _) ((HA.out).kept (Keep.ofBelow hJ0)) trivial
  refine AS.sc rfl rfl rfl ?_ ?_
  ·intro k_ u w_ hk hJ hF K hK
   have h15 : PRef (x.num) n (u 15) w_ := AS.facts_get hF 15 (by simp)
   clear hF
   go_simp
   refine (rtext_fact h15 (by omega)).mono ?_
   rintro e w' ⟨rfl, hb⟩
   exact hK.out _ _ hb (rfl) trivial
  refine AS.sc rfl rfl rfl ?_ ?_
  ·intro k_ u w_ hk hJ hF K hK
   have h16 : u 16 = .string ⟨(decZ (x.num)).toArray⟩ := AS.facts_get hF 16 (by simp)
   clear hF
   simp only [h16] at hK ⊢
   clear h16
   have hz1 := run_string_add_lists (P := Tryz.prog) w_ (decZ x.num) [47] (by have := HL1.out; omega) (by simp)
   go_simp
   exact hK.out _ _ (Below.refl _ _) (rfl) trivial
  refine AS.sc rfl rfl rfl ?_ ?_
  ·intro k_ u w_ hk hJ hF K hK
   clear hF
   obtain rfl : k_ = 0 := Nat.le_zero.1 hk
   have hJ0 : Below W8.heap.size W8 w_ := hJ
   obtain ⟨y0, y1⟩ := ((b4.out).up hJ0).c2
   go_simp
   exact hK.out _ _ (Below.refl _ _) ((HB.out).kept (Keep.ofBelow hJ0)) trivial
  refine AS.sc rfl rfl rfl ?_ ?_
  ·intro k_ u w_ hk hJ hF K hK
   have h18 : PRef ((x.den : Int)) n (u 18) w_ := AS.facts_get hF 18 (by simp)
   clear hF
   go_simp
   refine (rtext_fact h18 (by omega)).mono ?_
   rintro e w' ⟨rfl, hb⟩
   exact hK.out _ _ hb (rfl) trivial
  refine AS.sc rfl rfl rfl ?_ ?_
  ·intro k_ u w_ hk hJ hF K hK
   have h17 : u 17 = .string ⟨(decZ x.num ++ [47]).toArray⟩ := AS.facts_get hF 17 (by simp)
   have h19 : u 19 = .string ⟨(decZ ((x.den : Int))).toArray⟩ := AS.facts_get hF 19 (by simp)
   clear hF
   simp only [h17, h19] at hK ⊢
   clear h17 h19
   have hz1 := run_string_add_lists (P := Tryz.prog) w_ (decZ x.num ++ [47]) (decZ (x.den : Int)) (by have := HL1.out; rw [List.length_append]; simp; omega) (by have := HL2.out; omega)
   go_simp
   exact hK.out _ _ (Below.refl _ _) (rfl) trivial
  refine AS.sc rfl rfl rfl ?_ ?_
  ·intro k_ u w_ hk hJ hF K hK
   have h20 : u 20 = .string ⟨(decZ x.num ++ 47 :: decZ (x.den : Int)).toArray⟩ := AS.facts_get hF 20 (by simp)
   clear hF
   simp only [h20] at hK ⊢
   clear h20
   go_simp
   exact hK.out _ _ (Below.refl _ _) (rfl) trivial
  exact AS.StepsOk.nil
 ·intro u W10 hJ9 hF
  have h2 : u 2 = .string ⟨(decZ x.num ++ 47 :: decZ (x.den : Int)).toArray⟩ := AS.facts_get hF 2 (by simp [rtextFL3, AS.temps])
  clear hF
  rw [show u 2 = _ from h2]
  clear h2
  replace b1 := hup b1 hJ9
  replace b3 := hup b3 hJ9
  replace b4 := hup b4 hJ9
  replace H1 := Lib.hid (H1.out.kept (Keep.ofBelow hJ9))
  replace HA := Lib.hid (HA.out.kept (Keep.ofBelow hJ9))
  replace HB := Lib.hid (HB.out.kept (Keep.ofBelow hJ9))
  have nbel := below_then HB9.out hJ9 HB9.out.size
  have HB11 := Lib.hid nbel
  clear nbel HB9 hJ9 x10 x11 x12 x13 x30 x31 x40 x41 szb s1 s3 s4
  obtain ⟨x10, x11, x12, x13, s1⟩ := b1.out.d4
  obtain ⟨x30, x31, s3⟩ := b3.out.d2
  obtain ⟨x40, x41, s4⟩ := b4.out.d2
  have szb := HB11.out.size
  go_wp2_with fail
  have hkeep := (Keep.refl W10)
  have hbel := HB11.out
  refine bodyPost_ret (v := .string ⟨(decZ x.num ++ 47 :: decZ (x.den : Int)).toArray⟩) (by simp [results, Tryz.results22, go_sem]) rfl ⟨by unfold ratText; rw [if_neg hd], hbel⟩
theorem rratText_fact {x : Rat} {n : Nat} {v : Value} {w : World} (h : RRat x n v w) (hn5 : 5 ≤ n) (hn : n ≤ 10000) :
  Calls Tryz.prog 22 #[v] w fun e w' => e = .returned (.string ⟨(ratText x).toArray⟩) ∧ Below w.heap.size w w' := by
 have h1 : decZ 1 = [49] := by decide +kernel
 by_cases hd : x.den = 1
 ·exact rratText_int h hn5 hn hd (by rw [hd]; exact h1)
 ·refine rratText_quo h hn5 hn hd rfl ?_
  simp only [beq_eq_false_iff_ne, ne_eq]
  intro h2
  rw [← h1] at h2
  have := decZ_inj h2
  omega
def sameFL (x : Rat) (n : Nat) : List (Nat × AS.Fact) := [(5, AS.Fact.rat (x) n), (6, AS.Fact.is (.string ⟨(ratText x).toArray⟩)), (7, AS.Fact.rrat (x) n), (8, AS.Fact.is (.string ⟨(ratText x).toArray⟩)), (9, AS.Fact.is (.bool true)), (4, AS.Fact.is (.bool true))]
set_option maxRecDepth 20000 in
set_option maxHeartbeats 3200000 in
theorem same_fact {x : Rat} {n : Nat} {v v2 : Value} {w : World} (h : PRat x n v w) (h2 : RRat x n v2 w) (hn5 : 5 ≤ n) (hn : n ≤ 10000) (ht : Tab w.heap.size w) :
  Calls Tryz.prog 9 #[v, v2] w fun e w' => e = .returned (.bool true) ∧ Below w.heap.size w w' := by
 obtain ⟨k, A, l, c, k', A', l', c', rfl⟩ := h.open
 obtain ⟨r, E, m, d, r', E', m', d', rfl⟩ := h2.open
 have H1 := Lib.hid h
 have H2 := Lib.hid h2
 have HT := Lib.hid ht
 clear h h2 ht
 go_enter Tryz.func9, Tryz.ntmps9
 go_upto_region 1 with (fail)
 change Code.wp Tryz.prog _ _ _ ((w.alloc (.cells #[.bool k, .slice A l c, .bool k', .slice A' l' c'] 27)).alloc (.cells #[.bool r, .slice E m d, .bool r', .slice E' m' d'] 35))
 obtain ⟨nb2, nb3, na⟩ := new2 w 27 [.bool k, .slice A l c, .bool k', .slice A' l' c'] 35 [.bool r, .slice E m d, .bool r', .slice E' m' d'] lf4 lf4
 have nkeep := Keep.ofBelow na
 have nbel := na
 generalize (w.alloc (.cells #[.bool k, .slice A l c, .bool k', .slice A' l' c'] 27)).alloc (.cells #[.bool r, .slice E m d, .bool r', .slice E' m' d'] 35) = W1 at *
 clear na
 have b2 := Lib.hid nb2
 have b3 := Lib.hid nb3
 clear nb2 nb3
 replace H1 := Lib.hid (H1.out.kept nkeep)
 replace H2 := Lib.hid (H2.out.kept nkeep)
 clear nkeep
 have HB2 := Lib.hid nbel
 clear nbel
 obtain ⟨x20, x21, x22, x23, s2⟩ := b2.out.d4
 obtain ⟨x30, x31, x32, x33, s3⟩ := b3.out.d4
 have szb := HB2.out.size
 have HTW := Lib.hid (tab_up HT.out HB2.out)
 refine AS.region_facts (sameFL x n) (JNo W1) [[], [5], [], [7], [6, 8], [9]] [] [[]] [0, 0, 0, 0, 0, 0] [] (fun u => by simp only [sameFL, AS.temps, List.map_cons, List.map_nil, fillL, List.setIfInBounds_toArray, List.set_cons_zero, List.set_cons_succ]; rfl) (by kernel_rfl) (by kernel_rfl) (JNo.st W1) (below_drew (Below.refl _ _)) ?_ ?_
 ·refine AS.sc rfl rfl rfl ?_ ?_
  ·intro k_ u w_ hk hJ hF K hK
   clear hF
   obtain rfl : k_ = 0 := Nat.le_zero.1 hk
   have hJ0 : Below W1.heap.size W1 w_ := hJ
   obtain ⟨y0, y1, y2, y3⟩ := ((b2.out).up hJ0).c4
   go_simp
   exact hK.out _ _ (Below.refl _ _) ((H1.out).kept (Keep.ofBelow hJ0)) trivial
  refine AS.sc rfl rfl rfl ?_ ?_
  ·intro k_ u w_ hk hJ hF K hK
   have h5 : PRat (x) n (u 5) w_ := AS.facts_get hF 5 (by simp)
   clear hF
   go_simp
   refine (ratText_fact h5 (by omega) hn (tab_up HTW.out hJ)).mono ?_
   rintro e w' ⟨rfl, hb⟩
   exact hK.out _ _ hb (rfl) trivial
  refine AS.sc rfl rfl rfl ?_ ?_
  ·intro k_ u w_ hk hJ hF K hK
   clear hF
   obtain rfl : k_ = 0 := Nat.le_zero.1 hk
   have hJ0 : Below W1.heap.size W1 w_ := hJ
   obtain ⟨y0, y1, y2, y3⟩ := ((b3.out).up hJ0).c4
   go_simp
   exact hK.out _ _ (Below.refl _ _) ((H2.out).kept (Keep.ofBelow hJ0)) trivial
  refine AS.sc rfl rfl rfl ?_ ?_
  ·intro k_ u w_ hk hJ hF K hK
   have h7 : RRat (x) n (u 7) w_ := AS.facts_get hF 7 (by simp)
   clear hF
   go_simp
   refine (rratText_fact h7 hn5 hn).mono ?_
   rintro e w' ⟨rfl, hb⟩
   exact hK.out _ _ hb (rfl) trivial
  refine AS.sc rfl rfl rfl ?_ ?_
  ·intro k_ u w_ hk hJ hF K hK
   have h6 : u 6 = .string ⟨(ratText x).toArray⟩ := AS.facts_get hF 6 (by simp)
   have h8 : u 8 = .string ⟨(ratText x).toArray⟩ := AS.facts_get hF 8 (by simp)
   clear hF
   simp only [h6, h8] at hK ⊢
   clear h6 h8
   go_simp
   exact hK.out _ _ (Below.refl _ _) (rfl) trivial
  refine AS.sc rfl rfl rfl ?_ ?_
  ·intro k_ u w_ hk hJ hF K hK
   have h9 : u 9 = .bool true := AS.facts_get hF 9 (by simp)
   clear hF
   simp only [h9] at hK ⊢
   clear h9
   go_simp
   exact hK.out _ _ (Below.refl _ _) (rfl) trivial
  exact AS.StepsOk.nil
 ·intro u W3 hJ9 hF
  have h4 : u 4 = .bool true := AS.facts_get hF 4 (by simp [sameFL, AS.temps])
  clear hF
  rw [show u 4 = _ from h4]
  clear h4
  replace b2 := hup b2 hJ9
  replace b3 := hup b3 hJ9
  replace H1 := Lib.hid (H1.out.kept (Keep.ofBelow hJ9))
  replace H2 := Lib.hid (H2.out.kept (Keep.ofBelow hJ9))
  have nbel := below_then HB2.out hJ9 HB2.out.size
  have HB4 := Lib.hid nbel
  clear nbel HB2 hJ9 x20 x21 x22 x23 x30 x31 x32 x33 szb s2 s3
  obtain ⟨x20, x21, x22, x23, s2⟩ := b2.out.d4
  obtain ⟨x30, x31, x32, x33, s3⟩ := b3.out.d4
  have szb := HB4.out.size
  go_wp2_with fail
  have hkeep := (Keep.refl W3)
  have hbel := HB4.out
  refine bodyPost_ret (v := .bool true) (by simp [results, Tryz.results9, go_sem]) rfl ⟨rfl, hbel⟩
set_option maxHeartbeats 1600000
set_option maxRecDepth 20000
def dropZ (l : List UInt8) : List UInt8 := l.dropWhile (· == 48)
theorem dropZ_nil : dropZ [] = [] := rfl
theorem dropZ_zero (r : List UInt8) : dropZ (48 :: r) = dropZ r := by simp [dropZ]
theorem dropZ_other {c : UInt8} (r : List UInt8) (h : c ≠ 48) : dropZ (c :: r) = c :: r := by simp [dropZ, h]
theorem bytes_ext {a b : ByteArray} (h : a.data.toList = b.data.toList) : a = b := by
 obtain ⟨⟨x⟩⟩ := a
 obtain ⟨⟨y⟩⟩ := b
 simp at h
 rw [h]
theorem trimByte_any (s : ByteArray) (w : World) (hs : s.size ≤ 1000000) :
  Calls Tryz.prog 118 #[.string s, .int .u8 48] w fun e w' => e = .returned (.string ⟨(dropZ s.data.toList).toArray⟩) ∧ ∃ n, w' = w.drewN n := by
 go_enter Tryz.func118, Tryz.ntmps118
 go_wp2
 go_loopw [0] (fun v wr => ∃ t : ByteArray, v = .string t ∧ Hid (t.size ≤ 1000000) ∧ Hid (∃ n, wr = w.drewN n) ∧ Hid (dropZ t.data.toList = dropZ s.data.toList)) (fun v _ => match v with | .string t => t.size | _ => 0)
 case atStart => exact ⟨s, rfl, hs, ⟨0, rfl⟩, rfl⟩
 case round =>
  obtain ⟨t, rfl, hts, hw, hd⟩ := hrel
  obtain ⟨n, rfl⟩ := hw.out
  rcases Nat.eq_zero_or_pos t.size with h0 | h0
  ·have hd0 : decide ((0 : Int) < ((t.size : Nat) : Int)) = false := by simp [h0]
   go_wp2
   go_ret
   refine ⟨?_, n, rfl⟩
   have h1 : t.data.toList = [] := by rw [← List.length_eq_zero_iff]; rw [size_list]; exact h0
   have h2 := hd.out
   rw [h1, dropZ_nil] at h2
   have h3 : t = ⟨(dropZ s.data.toList).toArray⟩ := bytes_ext (by rw [h1, ← h2])
   rw [h3]
   rfl
  ·have hp : ((0 : Int) < ((t.size : Nat) : Int)) := by omega
   have hc : t.data.toList = (t[0]'h0) :: t.data.toList.drop 1 := by
    have := toList_get t 0 h0
    have h1 : 0 < t.data.toList.length := by rw [size_list]; exact h0
    rw [← this, ← List.drop_eq_getElem_cons h1, List.drop_zero]
   by_cases hz : (t[0]'h0).toNat = 48
   ·go_wp2
    have hsz : (t.extract 1 t.size).size = t.size - 1 := by simp
    refine ⟨⟨t.extract 1 t.size, rfl, ?_, ⟨n, rfl⟩, ?_⟩, ?_⟩
    ·show (t.extract 1 t.size).size ≤ 1000000
     have := hts.out
     omega
    ·show dropZ (t.extract 1 t.size).data.toList = _
     rw [Lib.extract_to_end, ← hd.out]
     have h48 : (t[0]'h0) = 48 := UInt8.toNat_inj.1 hz
     rw [hc, h48, dropZ_zero]
     rfl
    ·show (t.extract 1 t.size).size < t.size
     omega
   ·go_wp2
    go_ret
    refine ⟨?_, n, rfl⟩
    have e1 : dropZ t.data.toList = t.data.toList := (congrArg dropZ hc).trans ((dropZ_other _ (fun h => hz (by rw [h]; rfl))).trans hc.symm)
    have h3 : t = ⟨(dropZ s.data.toList).toArray⟩ := bytes_ext (by rw [← hd.out, e1])
    exact congrArg (fun x => Ending.returned (.string x)) h3
theorem trimLeft_any (s : ByteArray) (w : World) (hs : s.size ≤ 1000000) :
  Calls Tryz.prog 103 #[.string s, .string ⟨#[48]⟩] w fun e w' => e = .returned (.string ⟨(dropZ s.data.toList).toArray⟩) ∧ ∃ n, w' = w.drewN n := by
 by_cases h0 : s.data.toList = []
 ·have h1 : s = ⟨#[]⟩ := bytes_ext (by rw [h0])
  subst h1
  go_enter Tryz.func103, Tryz.ntmps103
  go_wp2
  go_ret
  exact ⟨rfl, 0, rfl⟩
 ·have HB := Lib.hid (fun W => trimByte_any s W hs)
  have hne : s.data.toList.isEmpty = false := by simpa using h0
  have hne2 : s.toList.isEmpty = false := by rw [Lib.toList_data]; exact hne
  clear h0
  go_enter Tryz.func103, Tryz.ntmps103
  go_wp2_with fail
  refine (HB.out _).mono ?_
  rintro e w1 ⟨rfl, n, rfl⟩
  go_wp2_with fail
  go_ret
  exact ⟨rfl, n, rfl⟩
def AllDig (l : List UInt8) : Prop := ∀ c ∈ l, isDig c = true
theorem dropZ_num (l : List UInt8) : numOf (dropZ l) = numOf l := by
 induction l with
 | nil => rfl
 | cons c r ih =>
  by_cases h : c = 48
  ·subst h
   rw [dropZ_zero, ih]
   unfold numOf
   rw [List.foldl_cons]
   rfl
  ·rw [dropZ_other r h]
theorem dropZ_sub (l : List UInt8) : ∀ c ∈ dropZ l, c ∈ l := fun _c h => (List.dropWhile_sublist _).subset h
theorem dropZ_len (l : List UInt8) : (dropZ l).length ≤ l.length := (List.dropWhile_sublist _).length_le
theorem dropZ_head (l : List UInt8) : (dropZ l).head? ≠ some 48 := by
 induction l with
 | nil => simp [dropZ]
 | cons c r ih =>
  by_cases h : c = 48
  ·subst h; rw [dropZ_zero]; exact ih
  ·rw [dropZ_other r h]; simp [h]
theorem dig_ne45 {l : List UInt8} (hd : AllDig l) : l.head? ≠ some 45 := by
 intro h
 cases l with
 | nil => simp at h
 | cons c r =>
  simp at h
  subst h
  have := hd 45 (List.mem_cons_self ..)
  exact absurd this (by decide)
theorem noNeg {l : List UInt8} (h : l.head? ≠ some 45) : negOf l = false ∧ restOf l = l := by
 have h1 : Lib.hasPrefix l [45] = false := by
  cases l with
  | nil => rfl
  | cons c r =>
   simp at h
   show ([45] : List UInt8).isPrefixOf (c :: r) = false
   simp [List.isPrefixOf, Ne.symm h]
 refine ⟨h1, ?_⟩
 unfold restOf Lib.trimPrefix
 rw [h1]; rfl
theorem part_err {l : List UInt8} (hd : AllDig l) (hl : l.length ≤ 2000) : (dropZ l = [] ∧ errOf (dropZ l) = 3) ∨ (dropZ l ≠ [] ∧ errOf (dropZ l) = 0 ∧ negOf (dropZ l) = false ∧ restOf (dropZ l) = dropZ l) := by
 by_cases h : dropZ l = []
 ·exact .inl ⟨h, by rw [h]; decide⟩
 ·have h1 : AllDig (dropZ l) := fun c hc => hd c (dropZ_sub l c hc)
  obtain ⟨h2, h3⟩ := noNeg (dig_ne45 h1)
  refine .inr ⟨h, ?_, h2, h3⟩
  have hok : okNum (dropZ l) = true := by
   unfold okNum
   rw [Bool.and_eq_true, Bool.or_eq_true, Bool.and_eq_true]
   refine ⟨List.all_eq_true.2 h1, .inr ⟨by simpa using h, by simpa using dropZ_head l⟩⟩
  have hb : badNum (dropZ l) = false := by unfold badNum; rw [h3, hok, h2]; rfl
  unfold errOf
  rw [hb, h3]
  have := dropZ_len l
  rw [if_neg (by simp), if_neg (by omega)]
set_option maxRecDepth 20000 in
set_option maxHeartbeats 3200000 in
theorem readPart_any (s : ByteArray) (w : World) (hd : AllDig s.data.toList) (hl : s.size ≤ 2000) :
  Calls Tryz.prog 85 #[.string s] w fun e w' => ∃ v, e = .returned v ∧ PInt (numOf s.data.toList) 223 v w' ∧ Below w.heap.size w w' := by
 have htr := Lib.hid (fun W => trimLeft_any s W (by omega))
 have hlen : s.data.toList.length ≤ 2000 := by rw [size_list]; exact hl
 have hpe := Lib.hid (part_err hd hlen)
 have hps := Lib.hid (fun W => parse_any (⟨(dropZ s.data.toList).toArray⟩ : ByteArray) W (by have := dropZ_len s.data.toList; show (dropZ s.data.toList).toArray.size ≤ 1000000; simp; omega))
 have hnum := Lib.hid (dropZ_num s.data.toList)
 clear hd hlen hl
 generalize hD : dropZ s.data.toList = D at *
 have HD := Lib.hid hD
 clear hD
 generalize hN : numOf s.data.toList = N at *
 have HN := Lib.hid hN
 clear hN
 go_enter Tryz.func85, Tryz.ntmps85
 go_upto_region 1 with (fail)
 change Code.wp Tryz.prog _ _ _ (w.alloc (.cells #[.bool false, .slice none 0 0] 25))
 have nb2 := Bx.new 25 w [.bool false, .slice none 0 0] lf2
 have hbw := below_alloc_new (w := w) (.cells #[.bool false, .slice none 0 0] 25)
 generalize w.alloc (.cells #[.bool false, .slice none 0 0] 25) = W0 at *
 have B2 := Lib.hid nb2
 have HB := Lib.hid hbw
 clear nb2 hbw
 go_wp2_with fail
 refine (htr.out _).mono ?_
 rintro e w1 ⟨rfl, n, rfl⟩
 go_wp2_with fail
 refine (hps.out _).mono ?_
 rintro e w2 ⟨k, A, c, L, rfl, hi, hll, h0, h1, hb⟩
 have b2 := B2.out.up (below_undrewN hb)
 have hb2 := below_then HB.out (below_undrewN hb) HB.out.size
 have hv : PInt N 223 (.agg #[.bool k, .slice A (List.length L) c]) w2 := by
  refine ⟨k, A, c, L, rfl, hi, ?_, hll⟩
  have h2 := hpe.out
  rw [← hnum.out]
  rcases h2 with ⟨h3, h4⟩ | ⟨h3, h4, h5, h6⟩
  ·obtain ⟨rfl, rfl⟩ := h1.out (by rw [h4]; decide)
   rw [h3]; rfl
  ·obtain ⟨h7, h8⟩ := h0.out h4
   rw [h5] at h7
   rw [h6] at h8
   rw [h7]
   show (val9 L : Int) = _
   rw [h8]
 generalize List.length L = lL at *
 have HV := Lib.hid hv
 have bb := Lib.hid b2
 have HB2 := Lib.hid hb2
 have s1 : w.heap.size < w2.heap.size := b2.lt
 clear b2 hb2 hv hb hi hll h0 h1
 go_upto_region 2 with (fail)
 change Code.wp Tryz.prog _ _ _ (w2.alloc (.cells #[.bool k, .slice A lL c] 25))
 have b2 := bb.out.alloc (.cells #[.bool k, .slice A lL c] 25)
 have b3 := Bx.new 25 w2 [.bool k, .slice A lL c] lf2
 have hv3 := HV.out.kept (Keep.ofBelow (below_alloc_new (w := w2) (.cells #[.bool k, .slice A lL c] 25)))
 have hb3 := HB2.out.alloc (Nat.le_of_lt s1) (.cells #[.bool k, .slice A lL c] 25)
 generalize w2.alloc (.cells #[.bool k, .slice A lL c] 25) = w3 at *
 have y0 : w3.cell? ⟨w.heap.size, 0, none⟩ = some (.bool false) := b2.cell 0
 have y1 : w3.cell? ⟨w.heap.size, 1, none⟩ = some (.slice none 0 0) := b2.cell 1
 have z0 : w3.frozen? ⟨w.heap.size, 0, none⟩ = false := b2.frozen 0
 have z1 : w3.frozen? ⟨w.heap.size, 1, none⟩ = false := b2.frozen 1
 have x0 : w3.cell? ⟨w2.heap.size, 0, none⟩ = some (.bool k) := b3.cell 0
 have x1 : w3.cell? ⟨w2.heap.size, 1, none⟩ = some (.slice A lL c) := b3.cell 1
 have HV3 := Lib.hid hv3
 have HB3 := Lib.hid hb3
 have bb2 := Lib.hid b2
 clear b2 b3 hv3 hb3 HV HB2
 go_wp2_with fail
 have hkeep := Keep.set (Keep.set (Keep.refl w3) bb2.out 0 (Leaf.bool k)) (Bx.set bb2.out 0 (Leaf.bool k)) 1 (Leaf.slice A lL c)
 have hbel := (HB3.out.setCell (p := ⟨w.heap.size, 0, none⟩) (Nat.le_refl _) (.bool k)).setCell (p := ⟨w.heap.size, 1, none⟩) (Nat.le_refl _) (.slice A lL c)
 refine bodyPost_ret (v := .agg #[.bool k, .slice A lL c]) (by simp [results, Tryz.results85, go_sem, y0, y1]) rfl ⟨_, rfl, HV3.out.kept hkeep, hbel⟩
set_option maxHeartbeats 3200000
set_option maxRecDepth 20000
def readL (sh : Nat → Nat) (x : Nat) (l : List UInt8) : Nat := if h : l = [] then x else readL sh (sh (x * 10 ^ (min l.length 1000) + numOf (l.take (min l.length 1000)))) (l.drop (min l.length 1000))
termination_by l.length
decreasing_by
 have := List.length_pos_iff.2 h
 rw [List.length_drop]
 omega
theorem readL_nil (sh : Nat → Nat) (x : Nat) : readL sh x [] = x := by rw [readL]; simp
theorem readL_step (sh : Nat → Nat) (x : Nat) {l : List UInt8} (h : l ≠ []) : readL sh x l = readL sh (sh (x * 10 ^ (min l.length 1000) + numOf (l.take (min l.length 1000)))) (l.drop (min l.length 1000)) := by rw [readL]; simp [h]
def tenL (n : Nat) : List UInt8 := 49 :: List.replicate n 48
theorem numOf_zeros (n : Nat) (x : Nat) : (List.replicate n (48 : UInt8)).foldl (fun n c => 10 * n + (c.toNat - 48)) x = x * 10 ^ n := by
 induction n generalizing x with
 | zero => simp
 | succ n ih =>
  rw [List.replicate_succ, List.foldl_cons, ih]
  simp
  rw [Nat.pow_succ, Nat.mul_comm 10 x, Nat.mul_assoc, Nat.mul_comm 10]
theorem tenL_num (n : Nat) : numOf (tenL n) = 10 ^ n := by
 unfold numOf tenL
 rw [List.foldl_cons, numOf_zeros]
 simp
theorem tenL_dig (n : Nat) : AllDig (tenL n) := by
 intro c hc
 unfold tenL at hc
 rcases List.mem_cons.1 hc with rfl | h
 ·decide
 ·rw [(List.mem_replicate.1 h).2]; decide
theorem rep_zero (n : Nat) : Lib.repeatL [48] n = List.replicate n 48 := by
 induction n with
 | zero => rfl
 | succ n ih =>
  rw [List.replicate_succ, ← ih]
  rfl
theorem shrink1_fact {z : Int} {n : Nat} {a : Value} {w : World} (h : PInt z n a w) :
  Calls Tryz.prog 64 #[a] w fun e w' => ∃ v, e = .returned v ∧ PInt z (n + 1) v w' ∧ Below w.heap.size w w' := by
 obtain ⟨k, A, l, c, rfl⟩ := h.open
 have H := Lib.hid h
 clear h
 go_enter Tryz.func64, Tryz.ntmps64
 go_wp2
 refine bodyPost_ret (v := .agg #[.bool k, .slice A l c]) (by simp [results, Tryz.results64, go_sem]) rfl ⟨_, rfl, (H.out.kept (Keep.alloc (Keep.alloc (Keep.refl w) (.cells #[.bool k, .slice A l c] 25)) (.cells #[.bool k, .slice A l c] 25))).more (by omega), below_a2 _ _ _⟩
def JOne (w0 W : World) (t : TypeId) (o : Nat) (ov : List Value) (g : Nat) : Nat → List Value → World → Prop
 | 0, _, w => Below W.heap.size W w
 | _ + 1, l, w => (Below w0.heap.size w0 w ∧ w0.heap.size ≤ w.heap.size) ∧ Bx t w o ov ∧ ∃ vs : List Value, l = [.agg vs.toArray] ∧ Bx t w g vs
theorem JOne.st (w0 W : World) (t : TypeId) (o : Nat) (ov : List Value) (g : Nat) : ∀ k l w w', Below w.heap.size w w' → JOne w0 W t o ov g k l w → JOne w0 W t o ov g k l w'
 | 0, _, _, _, hb, h => below_then h hb h.size
 | _ + 1, _, _, _, hb, ⟨⟨h1, h2⟩, h0, vs, h3, h4⟩ => ⟨⟨below_then h1 hb h2, Nat.le_trans h2 hb.size⟩, h0.up hb, vs, h3, h4.up hb⟩
theorem read_cast (X m N : Nat) : (X : Int) * ((10 ^ m : Nat) : Int) + (N : Int) = ((X * 10 ^ m + N : Nat) : Int) := by rw [Int.natCast_add, Int.natCast_mul]
theorem rep_fact (m : Nat) (w : World) (hm : m ≤ 1000000) :
  Calls Tryz.prog 86 #[.string ⟨#[48]⟩, .int .i64 m] w fun e w' => e = .returned (.string ⟨(List.replicate m 48).toArray⟩) ∧ Below w.heap.size w w' := by
 have h := Tryz.strings_Repeat ⟨#[48]⟩ m w (by omega) (by show 1 * m ≤ _; omega)
 rw [show Lib.repeatL (⟨#[48]⟩ : ByteArray).data.toList m = List.replicate m 48 from rep_zero m] at h
 exact h
def read1FL (t : ByteArray) (m X n : Nat) : List (Nat × AS.Fact) := [(19, AS.Fact.is (.func (.func 64) #[] #[])), (20, AS.Fact.int ((X : Int)) n), (21, AS.Fact.int (((10 ^ m : Nat) : Int)) 223), (22, AS.Fact.int (((X : Int)) * (((10 ^ m : Nat) : Int))) (n + 223)), (23, AS.Fact.is (.string t)), (24, AS.Fact.is (.int .i64 (m : Int))), (25, AS.Fact.is (.string (t.extract 0 m))), (26, AS.Fact.int (((numOf (t.extract 0 m).data.toList : Nat) : Int)) 223), (27, AS.Fact.int ((((X : Int)) * (((10 ^ m : Nat) : Int))) + (((numOf (t.extract 0 m).data.toList : Nat) : Int))) (((n + 223) + 223) + 1)), (28, AS.Fact.int (((id (X * 10 ^ m + numOf (t.extract 0 m).data.toList) : Nat) : Int)) (n + 223 + 223 + 1 + 1))]
theorem read1_any (s : ByteArray) (w : World) (hd : AllDig s.data.toList) (hl : s.size ≤ 10000) :
  Calls Tryz.prog 63 #[.string s, .func (.func 64) #[] #[]] w fun e w' => ∃ v, e = .returned v ∧ PInt (readL id 0 s.data.toList) (s.size + 500) v w' ∧ Below w.heap.size w w' := by
 have HDG := Lib.hid hd
 have HSL := Lib.hid hl
 clear hd hl
 go_enter Tryz.func63, Tryz.ntmps63
 go_wp2
 have nb4 := (Bx.new 25 w [.bool false, .slice none 0 0] lf2).alloc (.cells #[.bool false, .slice none 0 0] 25)
 have nb5 := Bx.new 25 (w.alloc (.cells #[.bool false, .slice none 0 0] 25)) [.bool false, .slice none 0 0] lf2
 rw [show (w.alloc (.cells #[.bool false, .slice none 0 0] 25)).heap.size = w.heap.size + 1 by simp] at nb5
 have nbel := below_a2 w (.cells #[.bool false, .slice none 0 0] 25) (.cells #[.bool false, .slice none 0 0] 25)
 change Code.wp Tryz.prog _ _ _ ((w.alloc (.cells #[.bool false, .slice none 0 0] 25)).alloc (.cells #[.bool false, .slice none 0 0] 25))
 generalize (w.alloc (.cells #[.bool false, .slice none 0 0] 25)).alloc (.cells #[.bool false, .slice none 0 0] 25) = W0 at *
 have B4 := Lib.hid nb4
 have B5 := Lib.hid nb5
 have HB := Lib.hid nbel
 clear nb4 nb5 nbel
 go_loopw [0] (fun v wr => ∃ t : ByteArray, v = .string t ∧ Hid (AllDig t.data.toList ∧ t.size ≤ s.size) ∧ Hid (Below w.heap.size w wr) ∧ Hid (Bx 25 wr w.heap.size [.bool false, .slice none 0 0]) ∧ ∃ (k : Bool) (A : Option Addr) (l c X n : Nat), Hid (Bx 25 wr (w.heap.size + 1) [.bool k, .slice A l c]) ∧ Hid (PInt (X : Int) n (.agg #[.bool k, .slice A l c]) wr) ∧ Hid (readL id X t.data.toList = readL id 0 s.data.toList) ∧ Hid (n + t.size ≤ s.size ∨ t.size = 0 ∧ n ≤ s.size + 500)) (fun v _ => match v with | .string t => t.size | _ => 0)
 case atStart => exact ⟨s, rfl, ⟨HDG.out, Nat.le_refl _⟩, HB.out, B4.out, false, none, 0, 0, 0, 0, B5.out, PInt.zero 0 _, rfl, .inl (by show 0 + s.size ≤ s.size; omega)⟩
 case round =>
  obtain ⟨t, rfl, hdt, hbl, b4, k, A, l, c, X, n, b5, HX, hrd, hbn⟩ := hrel
  clear B4 B5 HB
  rcases Nat.eq_zero_or_pos t.size with h0 | h0
  ·have hd0 : decide ((0 : Int) < ((t.size : Nat) : Int)) = false := by simp [h0]
   have ht0 : t.data.toList = [] := by rw [← List.length_eq_zero_iff]; rw [size_list]; exact h0
   have y0 := b5.out.cell 0
   have y1 := b5.out.cell 1
   have x0 := b4.out.cell 0
   have x1 := b4.out.cell 1
   have z0 := b4.out.frozen 0
   have z1 := b4.out.frozen 1
   simp only [List.getElem?_cons_zero, List.getElem?_cons_succ] at y0 y1 x0 x1
   go_wp2
   have hkeep := Keep.set (Keep.set (Keep.refl wr) b4.out 0 (Leaf.bool k)) (Bx.set b4.out 0 (Leaf.bool k)) 1 (Leaf.slice A l c)
   have hbel := (hbl.out.setCell (p := ⟨w.heap.size, 0, none⟩) (Nat.le_refl _) (.bool k)).setCell (p := ⟨w.heap.size, 1, none⟩) (Nat.le_refl _) (.slice A l c)
   have hx : PInt (readL id 0 s.data.toList) (s.size + 500) (.agg #[.bool k, .slice A l c]) wr := by
    rw [← hrd.out, ht0, readL_nil]; exact HX.out.more (by have := hbn.out; omega)
   refine bodyPost_ret (v := .agg #[.bool k, .slice A l c]) (by simp [results, Tryz.results63, go_sem, x0, x1]) rfl ⟨_, rfl, hx.kept hkeep, hbel⟩
  ·have hp : ((0 : Int) < ((t.size : Nat) : Int)) := by omega
   have hne : t.data.toList ≠ [] := by intro h; rw [← List.length_eq_zero_iff, size_list] at h; omega
   have hmn : min ((t.size : Nat) : Int) 1000 = ((min t.size 1000 : Nat) : Int) := by omega
   have HST := Lib.hid (readL_step id X hne)
   obtain ⟨m, hm⟩ : ∃ m, min t.size 1000 = m := ⟨_, rfl⟩
   rw [hm] at hmn
   have HMN := Lib.hid hm
   clear hm
   have hm1 : m ≤ 1000 := by rw [← HMN.out]; omega
   have hm2 : m ≤ t.size := by rw [← HMN.out]; omega
   have hz1 := fun wx => run_string_add_lists (P := Tryz.prog) wx [49] (List.replicate m 48) (by simp) (by simp; omega)
   have hpt := Lib.hid (fun W => readPart_any (⟨(49 :: List.replicate m 48).toArray⟩ : ByteArray) W (tenL_dig m) (by show (49 :: List.replicate m 48).toArray.size ≤ 2000; simp; omega))
   obtain ⟨x4_0, x4_1, s4⟩ := b4.out.d2
   obtain ⟨x5_0, x5_1, z5_0, z5_1, s5⟩ := b5.out.e2
   have szb := hbl.out.size
   go_wp2_with fail
   refine (rep_fact m wr (by omega)).mono ?_
   rintro e W1 ⟨rfl, hb⟩
   replace b4 := hup b4 hb
   replace b5 := hup b5 hb
   replace HX := Lib.hid (HX.out.kept (Keep.ofBelow hb))
   have nbel := below_then hbl.out hb hbl.out.size
   have HB2 := Lib.hid nbel
   clear nbel hbl hb x4_0 x4_1 x5_0 x5_1 z5_0 z5_1 szb s4 s5
   obtain ⟨x4_0, x4_1, s4⟩ := b4.out.d2
   obtain ⟨x5_0, x5_1, z5_0, z5_1, s5⟩ := b5.out.e2
   have szb := HB2.out.size
   go_wp2_with fail
   refine (hpt.out _).mono ?_
   rintro e W3 ⟨v, rfl, hv, hb⟩
   replace b4 := hup b4 hb
   replace b5 := hup b5 hb
   replace HX := Lib.hid (HX.out.kept (Keep.ofBelow hb))
   have nbel := below_then HB2.out hb HB2.out.size
   have HB4 := Lib.hid nbel
   clear nbel HB2 hb x4_0 x4_1 x5_0 x5_1 z5_0 z5_1 szb s4 s5
   obtain ⟨x4_0, x4_1, s4⟩ := b4.out.d2
   obtain ⟨x5_0, x5_1, z5_0, z5_1, s5⟩ := b5.out.e2
   have szb := HB4.out.size
   obtain ⟨k1, A1, l1, c1, rfl⟩ := hv.open
   have HP := Lib.hid hv
   clear hv
   go_upto_region 5 with (fail)
   have q5 := b4.out.lt
   have q6 := b5.out.lt
   change Code.wp Tryz.prog _ _ _ (W3.alloc (.cells #[.bool k1, .slice A1 l1 c1] 25))
   obtain ⟨nb7, na⟩ := new1 W3 25 [.bool k1, .slice A1 l1 c1] lf2
   have nb4 := b4.out.up na
   have nb5 := b5.out.up na
   have nkeep := Keep.ofBelow na
   have nbel := below_then HB4.out na HB4.out.size
   generalize W3.alloc (.cells #[.bool k1, .slice A1 l1 c1] 25) = W7 at *
   clear na x4_0 x4_1 x5_0 x5_1 z5_0 z5_1 szb s4 s5 b4 b5
   have b4 := Lib.hid nb4
   have b5 := Lib.hid nb5
   have b7 := Lib.hid nb7
   clear nb4 nb5 nb7
   replace HX := Lib.hid (HX.out.kept nkeep)
   replace HP := Lib.hid (HP.out.kept nkeep)
   clear nkeep
   have HB8 := Lib.hid nbel
   clear nbel HB4
   obtain ⟨x4_0, x4_1, s4⟩ := b4.out.d2
   obtain ⟨x5_0, x5_1, z5_0, z5_1, s5⟩ := b5.out.e2
   obtain ⟨x7_0, x7_1, s7⟩ := b7.out.d2
   have szb := HB8.out.size
   rw [show numOf (⟨(49 :: List.replicate m 48).toArray⟩ : ByteArray).data.toList = 10 ^ m from tenL_num m] at HP
   have hdx : AllDig (t.extract 0 m).data.toList := fun c hc => hdt.out.1 c (by rw [Lib.extract_data] at hc; exact List.mem_of_mem_take (by simpa using hc))
   have hlx : (t.extract 0 m).size ≤ 2000 := by rw [show (t.extract 0 m).size = min m t.size by simp]; omega
   have hnb : n ≤ 20000 := by have h8 := hbn.out; have h9 := HSL.out; have h10 := hdt.out.2; omega
   have HRP := Lib.hid (fun Wx => readPart_any (t.extract 0 m) Wx hdx hlx)
   clear hdx hlx
   refine AS.region_facts (read1FL t m X n) (JOne w W7 25 w.heap.size [.bool false, .slice none 0 0] (w.heap.size + 1)) [[], [], [], [20, 21], [], [], [23, 24], [25], [22, 26], [27, 19], [28]] [10] [[], [28]] [1, 0, 0, 1, 1, 1, 1, 1, 1, 1, 1] [] (fun u => by simp only [read1FL, AS.temps, List.map_cons, List.map_nil, fillL, List.setIfInBounds_toArray, List.set_cons_zero, List.set_cons_succ]; rfl) (by kernel_rfl) (by kernel_rfl) (JOne.st w W7 25 w.heap.size [.bool false, .slice none 0 0] (w.heap.size + 1)) (below_drew (Below.refl _ _)) ?_ ?_
   ·refine AS.sc rfl rfl rfl ?_ ?_
    ·intro k_ u w_ hk hJ hF K hK
     clear hF
     go_simp
     exact hK.out _ _ (Below.refl _ _) (rfl) trivial
    refine AS.sc rfl rfl rfl ?_ ?_
    ·intro k_ u w_ hk hJ hF K hK
     clear hF
     obtain rfl : k_ = 0 := Nat.le_zero.1 hk
     have hJ0 : Below W7.heap.size W7 w_ := hJ
     obtain ⟨y0, y1⟩ := ((b5.out).up hJ0).c2
     go_simp
     exact hK.out _ _ (Below.refl _ _) ((HX.out).kept (Keep.ofBelow hJ0)) trivial
    refine AS.sc rfl rfl rfl ?_ ?_
    ·intro k_ u w_ hk hJ hF K hK
     clear hF
     obtain rfl : k_ = 0 := Nat.le_zero.1 hk
     have hJ0 : Below W7.heap.size W7 w_ := hJ
     obtain ⟨y0, y1⟩ := ((b7.out).up hJ0).c2
     go_simp
     exact hK.out _ _ (Below.refl _ _) ((HP.out).kept (Keep.ofBelow hJ0)) trivial
    refine AS.sc rfl rfl rfl ?_ ?_
    ·intro k_ u w_ hk hJ hF K hK
     have h20 : PInt ((X : Int)) n (u 20) w_ := AS.facts_get hF 20 (by simp)
     have h21 : PInt (((10 ^ m : Nat) : Int)) 223 (u 21) w_ := AS.facts_get hF 21 (by simp)
     clear hF
     go_simp
     refine (mul_fact h20 h21 (by omega) (by omega)).mono ?_
     rintro e w' ⟨v, rfl, hv, hb⟩
     exact hK.out _ _ hb (hv) trivial
    refine AS.sc rfl rfl rfl ?_ ?_
    ·intro k_ u w_ hk hJ hF K hK
     clear hF
     go_simp
     exact hK.out _ _ (Below.refl _ _) (rfl) trivial
    refine AS.sc rfl rfl rfl ?_ ?_
    ·intro k_ u w_ hk hJ hF K hK
     clear hF
     go_simp
     exact hK.out _ _ (Below.refl _ _) (rfl) trivial
    refine AS.sc rfl rfl rfl ?_ ?_
    ·intro k_ u w_ hk hJ hF K hK
     have h23 : u 23 = .string t := AS.facts_get hF 23 (by simp)
     have h24 : u 24 = .int .i64 (m : Int) := AS.facts_get hF 24 (by simp)
     clear hF
     simp only [h23, h24] at hK ⊢
     clear h23 h24
     go_simp
     exact hK.out _ _ (Below.refl _ _) (rfl) trivial
    refine AS.sc rfl rfl rfl ?_ ?_
    ·intro k_ u w_ hk hJ hF K hK
     have h25 : u 25 = .string (t.extract 0 m) := AS.facts_get hF 25 (by simp)
     clear hF
     simp only [h25] at hK ⊢
     clear h25
     go_simp
     refine (HRP.out _).mono ?_
     rintro e w' ⟨v, rfl, hv, hb⟩
     exact hK.out _ _ hb (hv) trivial
    refine AS.sc rfl rfl rfl ?_ ?_
    ·intro k_ u w_ hk hJ hF K hK
     have h22 : PInt (((X : Int)) * (((10 ^ m : Nat) : Int))) (n + 223) (u 22) w_ := AS.facts_get hF 22 (by simp)
     have h26 : PInt (((numOf (t.extract 0 m).data.toList : Nat) : Int)) 223 (u 26) w_ := AS.facts_get hF 26 (by simp)
     clear hF
     go_simp
     refine (add_fact h22 h26 (by omega) (by omega)).mono ?_
     rintro e w' ⟨v, rfl, hv, hb⟩
     exact hK.out _ _ hb (hv) trivial
    refine AS.sc rfl rfl rfl ?_ ?_
    ·intro k_ u w_ hk hJ hF K hK
     have h27 : PInt ((((X : Int)) * (((10 ^ m : Nat) : Int))) + (((numOf (t.extract 0 m).data.toList : Nat) : Int))) (((n + 223) + 223) + 1) (u 27) w_ := AS.facts_get hF 27 (by simp)
     have h19 : u 19 = .func (.func 64) #[] #[] := AS.facts_get hF 19 (by simp)
     clear hF
     simp only [h19] at hK ⊢
     clear h19
     go_simp
     refine (shrink1_fact h27).mono ?_
     rintro e w' ⟨v, rfl, hv, hb⟩
     exact hK.out _ _ hb (by rw [read_cast] at hv; exact hv) trivial
    refine AS.ss rfl rfl ?_ ?_
    ·intro u w_ hJ hAp hF K hK
     have h28 : PInt (((id (X * 10 ^ m + numOf (t.extract 0 m).data.toList) : Nat) : Int)) (n + 223 + 223 + 1 + 1) (u 28) w_ := AS.facts_get hF 28 (by simp)
     clear hF
     obtain ⟨k2, A2, l2, c2, e_⟩ := h28.open
     have hJ0 : Below W7.heap.size W7 w_ := hJ
     have bx := b5.out.up hJ0
     have ob4 := b4.out.up hJ0
     have hbel := below_then HB8.out hJ0 HB8.out.size
     have hsz : w.heap.size ≤ w_.heap.size := hbel.size
     have y0 := bx.cell 0
     have y1 := bx.cell 1
     have z0 := bx.frozen 0
     have z1 := bx.frozen 1
     simp only [List.getElem?_cons_zero, List.getElem?_cons_succ] at y0 y1
     simp only [e_] at hK ⊢
     go_simp
     exact hK.out undef _ ⟨⟨(hbel.setCell (p := ⟨w.heap.size + 1, 0, none⟩) (Nat.le_succ _) (.bool k2)).setCell (p := ⟨w.heap.size + 1, 1, none⟩) (Nat.le_succ _) (.slice A2 l2 c2), by simp only [setCell_size]; exact hsz⟩, Bx.far (Bx.far ob4 (by omega) 0 (.bool k2)) (by omega) 1 (.slice A2 l2 c2), [.bool k2, .slice A2 l2 c2], by simp [e_], Bx.set (Bx.set bx 0 (Leaf.bool k2)) 1 (Leaf.slice A2 l2 c2)⟩ (Keep.set2 (Keep.refl w_) bx (Leaf.bool k2) (Leaf.slice A2 l2 c2))
    exact AS.StepsOk.nil
   ·intro u W9 hJ9 hF
    have h28 : PInt (((id (X * 10 ^ m + numOf (t.extract 0 m).data.toList) : Nat) : Int)) (n + 223 + 223 + 1 + 1) (u 28) W9 := AS.facts_get hF 28 (by simp [read1FL, AS.temps])
    clear hF
    obtain ⟨⟨hbel, hsz⟩, hb4, vs, hvs, hb5⟩ := hJ9
    obtain ⟨k3, A3, l3, c3, ea⟩ := h28.open
    rw [ea] at h28
    obtain rfl : vs = [.bool k3, .slice A3 l3 c3] := by
     have e1 := (List.cons.inj hvs).1
     rw [show u 28 = _ from ea] at e1
     have e2 := congrArg Array.toList (Value.agg.inj e1)
     simpa using e2.symm
    have H4 := Lib.hid hb4
    have H5 := Lib.hid hb5
    have HX2 := Lib.hid h28
    have HBL := Lib.hid hbel
    clear hvs hb4 hb5 h28 hbel
    go_wp2
    have hsx : (t.extract m t.size).size = t.size - m := by simp
    refine ⟨⟨t.extract m t.size, rfl, ⟨fun c hc => hdt.out.1 c (by rw [Lib.extract_to_end] at hc; exact List.mem_of_mem_drop hc), ?_⟩, HBL.out, H4.out, k3, A3, l3, c3, _, _, H5.out, HX2.out, ?_, ?_⟩, ?_⟩
    ·have := hdt.out.2; omega
    ·show readL id _ (t.extract m t.size).data.toList = _
     rw [Lib.extract_to_end, ← hrd.out, HST.out]
     have e1 : min t.data.toList.length 1000 = m := by rw [size_list]; exact HMN.out
     rw [e1]
     have e2 : (t.extract 0 m).data.toList = t.data.toList.take m := by rw [Lib.extract_data]; simp
     rw [e2]
    ·show _ + (t.extract m t.size).size ≤ s.size ∨ (t.extract m t.size).size = 0 ∧ _ ≤ s.size + 500
     rw [hsx]
     have h8 := hbn.out
     have h9 := HMN.out
     have h10 := hdt.out.2
     omega
    ·show (t.extract m t.size).size < t.size
     have h9 := HMN.out
     omega
set_option maxHeartbeats 3200000
set_option maxRecDepth 20000
def shY (y z : Nat) : Nat := if y = 0 then 0 else z % y
theorem quoAll_fact {x y : Nat} {n m : Nat} {a b : Value} {w : World} (h1 : PInt (x : Int) n a w) (h2 : PInt (y : Int) m b w) (hn : n ≤ 90000) (hm : m ≤ 90000) :
  Calls Tryz.prog 54 #[a, b] w fun e w' => ∃ (k : Bool) (A : Option Addr) (l c : Nat) (k' : Bool) (A' : Option Addr) (l' c' : Nat) (er : Int), e = .returned (.tuple #[.agg #[.bool k, .slice A l c], .agg #[.bool k', .slice A' l' c'], .int .i64 er]) ∧
   PInt ((shY y x : Nat) : Int) (n + 1) (.agg #[.bool k', .slice A' l' c']) w' ∧ Below w.heap.size w w' := by
 obtain ⟨k, A, c, L, rfl, i1, e1, l1⟩ := h1
 obtain ⟨k2, A2, c2, L2, rfl, i2, e2, l2⟩ := h2
 refine (quoRem_all k k2 A A2 c c2 L L2 w (by omega) (by omega) i1 i2).mono ?_
 rintro e w' ⟨k5, A5, c5, Q, k6, A6, c6, R, rfl, hi5, hi6, hz5, hz6, hl5, hl6, hb⟩
 refine ⟨_, _, _, _, _, _, _, _, _, rfl, ⟨k6, A6, c6, R, rfl, hi6, ?_, by omega⟩, hb⟩
 rw [hz6, e1, e2]
 unfold remZ shY
 by_cases h : y = 0
 ·subst h; simp
 ·rw [if_neg (by omega), if_neg h]
  exact (Int.ofNat_tmod x y).symm
theorem shrink2_op {z y n m gy : Nat} {k : Bool} {A : Option Addr} {l c : Nat} {k' : Bool} {A' : Option Addr} {l' c' : Nat} {w : World} (h : PInt (z : Int) n (.agg #[.bool k, .slice A l c]) w) (hy : PInt (y : Int) m (.agg #[.bool k', .slice A' l' c']) w) (hby : Bx 25 w gy [.bool k', .slice A' l' c']) (hn : n ≤ 90000) (hm : m ≤ 90000) :
  Calls Tryz.prog 65 #[.agg #[.bool k, .slice A l c], .pointer (some ⟨gy, 0, none⟩)] w fun e w' => ∃ v, e = .returned v ∧ PInt ((shY y z : Nat) : Int) (n + 1) v w' ∧ Below w.heap.size w w' := by
 have H1 := Lib.hid h
 have HY := Lib.hid hy
 have b1 := Lib.hid hby
 have hgy := hby.lt
 clear h hy hby
 go_enter Tryz.func65, Tryz.ntmps65
 go_upto_region 1 with (fail)
 have q1 := b1.out.lt
 change Code.wp Tryz.prog _ _ _ ((w.alloc (.cells #[.bool k, .slice A l c] 25)).alloc (.cells #[.bool false, .slice none 0 0] 25))
 obtain ⟨nb2, nb3, na⟩ := new2 w 25 [.bool k, .slice A l c] 25 [.bool false, .slice none 0 0] lf2 lf2
 have nb1 := b1.out.up na
 have nkeep := Keep.ofBelow na
 have nbel := na
 generalize (w.alloc (.cells #[.bool k, .slice A l c] 25)).alloc (.cells #[.bool false, .slice none 0 0] 25) = W2 at *
 clear na b1
 have b1 := Lib.hid nb1
 have b2 := Lib.hid nb2
 have b3 := Lib.hid nb3
 clear nb1 nb2 nb3
 replace H1 := Lib.hid (H1.out.kept nkeep)
 replace HY := Lib.hid (HY.out.kept nkeep)
 clear nkeep
 have HB3 := Lib.hid nbel
 clear nbel
 obtain ⟨x1_0, x1_1, s1⟩ := b1.out.d2
 obtain ⟨x2_0, x2_1, s2⟩ := b2.out.d2
 obtain ⟨x3_0, x3_1, z3_0, z3_1, s3⟩ := b3.out.e2
 have szb := HB3.out.size
 go_wp2_with fail
 refine (quoAll_fact H1.out HY.out (by omega) (by omega)).mono ?_
 rintro e W4 ⟨k1, A1, l1, c1, k2, A2, l2, c2, er, rfl, hv, hb⟩
 replace b1 := hup b1 hb
 replace b2 := hup b2 hb
 replace b3 := hup b3 hb
 replace H1 := Lib.hid (H1.out.kept (Keep.ofBelow hb))
 replace HY := Lib.hid (HY.out.kept (Keep.ofBelow hb))
 have nbel := below_then HB3.out hb HB3.out.size
 have HB5 := Lib.hid nbel
 clear nbel HB3 hb x1_0 x1_1 x2_0 x2_1 x3_0 x3_1 z3_0 z3_1 szb s1 s2 s3
 obtain ⟨x1_0, x1_1, s1⟩ := b1.out.d2
 obtain ⟨x2_0, x2_1, s2⟩ := b2.out.d2
 obtain ⟨x3_0, x3_1, z3_0, z3_1, s3⟩ := b3.out.e2
 have szb := HB5.out.size
 have HV := Lib.hid hv
 clear hv
 go_upto_region 2 with (fail)
 have q6 := b1.out.lt
 have q7 := b2.out.lt
 have q8 := b3.out.lt
 change Code.wp Tryz.prog _ _ _ ((W4.alloc (.cells #[.bool k1, .slice A1 l1 c1] 25)).alloc (.cells #[.bool k2, .slice A2 l2 c2] 25))
 obtain ⟨nb4, nb5, na⟩ := new2 W4 25 [.bool k1, .slice A1 l1 c1] 25 [.bool k2, .slice A2 l2 c2] lf2 lf2
 have nb1 := b1.out.up na
 have nb2 := b2.out.up na
 have nb3 := b3.out.up na
 have nkeep := Keep.ofBelow na
 have nbel := below_then HB5.out na HB5.out.size
 generalize (W4.alloc (.cells #[.bool k1, .slice A1 l1 c1] 25)).alloc (.cells #[.bool k2, .slice A2 l2 c2] 25) = W9 at *
 clear na x1_0 x1_1 x2_0 x2_1 x3_0 x3_1 z3_0 z3_1 szb s1 s2 s3 b1 b2 b3
 have b1 := Lib.hid nb1
 have b2 := Lib.hid nb2
 have b3 := Lib.hid nb3
 have b4 := Lib.hid nb4
 have b5 := Lib.hid nb5
 clear nb1 nb2 nb3 nb4 nb5
 replace H1 := Lib.hid (H1.out.kept nkeep)
 replace HY := Lib.hid (HY.out.kept nkeep)
 replace HV := Lib.hid (HV.out.kept nkeep)
 clear nkeep
 have HB10 := Lib.hid nbel
 clear nbel HB5
 obtain ⟨x1_0, x1_1, s1⟩ := b1.out.d2
 obtain ⟨x2_0, x2_1, s2⟩ := b2.out.d2
 obtain ⟨x3_0, x3_1, z3_0, z3_1, s3⟩ := b3.out.e2
 obtain ⟨x4_0, x4_1, s4⟩ := b4.out.d2
 obtain ⟨x5_0, x5_1, s5⟩ := b5.out.d2
 have szb := HB10.out.size
 go_wp2_with fail
 have hkeep := (Keep.set2 (Keep.refl W9) b3.out (Leaf.bool k2) (Leaf.slice A2 l2 c2))
 have hbel := (Below.set2 (g := w.heap.size + 1) HB10.out (by first | omega | (simp; done) | (simp; omega)) (.bool k2) (.slice A2 l2 c2))
 refine bodyPost_ret (v := .agg #[.bool k2, .slice A2 l2 c2]) (by simp [results, Tryz.results65, go_sem, x3_0, x3_1]) rfl ⟨_, rfl, HV.out.kept hkeep, hbel⟩
theorem shrink2_fact {z : Int} {y z' n m gy : Nat} {a : Value} {k' : Bool} {A' : Option Addr} {l' c' : Nat} {w : World} (h : PInt z n a w) (hz : z = (z' : Int)) (hy : PInt (y : Int) m (.agg #[.bool k', .slice A' l' c']) w) (hby : Bx 25 w gy [.bool k', .slice A' l' c']) (hn : n ≤ 90000) (hm : m ≤ 90000) :
  Calls Tryz.prog 65 #[a, .pointer (some ⟨gy, 0, none⟩)] w fun e w' => ∃ v, e = .returned v ∧ PInt ((shY y z' : Nat) : Int) (n + 1) v w' ∧ Below w.heap.size w w' := by
 subst hz
 obtain ⟨k, A, l, c, rfl⟩ := h.open
 exact shrink2_op h hy hby hn hm
def read2FL (t : ByteArray) (m X n : Nat) (y gy : Nat) : List (Nat × AS.Fact) := [(19, AS.Fact.is (.func (.func 65) #[] #[.pointer (some ⟨gy, 0, none⟩)])), (20, AS.Fact.int ((X : Int)) n), (21, AS.Fact.int (((10 ^ m : Nat) : Int)) 223), (22, AS.Fact.int (((X : Int)) * (((10 ^ m : Nat) : Int))) (n + 223)), (23, AS.Fact.is (.string t)), (24, AS.Fact.is (.int .i64 (m : Int))), (25, AS.Fact.is (.string (t.extract 0 m))), (26, AS.Fact.int (((numOf (t.extract 0 m).data.toList : Nat) : Int)) 223), (27, AS.Fact.int ((((X : Int)) * (((10 ^ m : Nat) : Int))) + (((numOf (t.extract 0 m).data.toList : Nat) : Int))) (((n + 223) + 223) + 1)), (28, AS.Fact.int (((shY y (X * 10 ^ m + numOf (t.extract 0 m).data.toList) : Nat) : Int)) (n + 223 + 223 + 1 + 1))]
theorem read2_any (s : ByteArray) (w : World) (hd : AllDig s.data.toList) (hl : s.size ≤ 10000) {y my gy : Nat} {ky : Bool} {Ay : Option Addr} {ly cy : Nat} (hy : PInt (y : Int) my (.agg #[.bool ky, .slice Ay ly cy]) w) (hby : Bx 25 w gy [.bool ky, .slice Ay ly cy]) (hmy : my ≤ 90000) :
  Calls Tryz.prog 63 #[.string s, .func (.func 65) #[] #[.pointer (some ⟨gy, 0, none⟩)]] w fun e w' => ∃ v, e = .returned v ∧ PInt (readL (shY y) 0 s.data.toList) (s.size + 500) v w' ∧ Below w.heap.size w w' := by
 have HY := Lib.hid hy
 have BY := Lib.hid hby
 have HMY := Lib.hid hmy
 clear hy hby hmy
 have HDG := Lib.hid hd
 have HSL := Lib.hid hl
 clear hd hl
 go_enter Tryz.func63, Tryz.ntmps63
 go_wp2
 have nb4 := (Bx.new 25 w [.bool false, .slice none 0 0] lf2).alloc (.cells #[.bool false, .slice none 0 0] 25)
 have nb5 := Bx.new 25 (w.alloc (.cells #[.bool false, .slice none 0 0] 25)) [.bool false, .slice none 0 0] lf2
 rw [show (w.alloc (.cells #[.bool false, .slice none 0 0] 25)).heap.size = w.heap.size + 1 by simp] at nb5
 have nbel := below_a2 w (.cells #[.bool false, .slice none 0 0] 25) (.cells #[.bool false, .slice none 0 0] 25)
 change Code.wp Tryz.prog _ _ _ ((w.alloc (.cells #[.bool false, .slice none 0 0] 25)).alloc (.cells #[.bool false, .slice none 0 0] 25))
 generalize (w.alloc (.cells #[.bool false, .slice none 0 0] 25)).alloc (.cells #[.bool false, .slice none 0 0] 25) = W0 at *
 have B4 := Lib.hid nb4
 have B5 := Lib.hid nb5
 have HB := Lib.hid nbel
 clear nb4 nb5 nbel
 go_loopw [0] (fun v wr => ∃ t : ByteArray, v = .string t ∧ Hid (AllDig t.data.toList ∧ t.size ≤ s.size) ∧ Hid (Below w.heap.size w wr) ∧ Hid (Bx 25 wr w.heap.size [.bool false, .slice none 0 0]) ∧ ∃ (k : Bool) (A : Option Addr) (l c X n : Nat), Hid (Bx 25 wr (w.heap.size + 1) [.bool k, .slice A l c]) ∧ Hid (PInt (X : Int) n (.agg #[.bool k, .slice A l c]) wr) ∧ Hid (readL (shY y) X t.data.toList = readL (shY y) 0 s.data.toList) ∧ Hid (n + t.size ≤ s.size ∨ t.size = 0 ∧ n ≤ s.size + 500)) (fun v _ => match v with | .string t => t.size | _ => 0)
 case atStart => exact ⟨s, rfl, ⟨HDG.out, Nat.le_refl _⟩, HB.out, B4.out, false, none, 0, 0, 0, 0, B5.out, PInt.zero 0 _, rfl, .inl (by show 0 + s.size ≤ s.size; omega)⟩
 case round =>
  obtain ⟨t, rfl, hdt, hbl, b4, k, A, l, c, X, n, b5, HX, hrd, hbn⟩ := hrel
  clear B4 B5 HB
  rcases Nat.eq_zero_or_pos t.size with h0 | h0
  ·have hd0 : decide ((0 : Int) < ((t.size : Nat) : Int)) = false := by simp [h0]
   have ht0 : t.data.toList = [] := by rw [← List.length_eq_zero_iff]; rw [size_list]; exact h0
   have y0 := b5.out.cell 0
   have y1 := b5.out.cell 1
   have x0 := b4.out.cell 0
   have x1 := b4.out.cell 1
   have z0 := b4.out.frozen 0
   have z1 := b4.out.frozen 1
   simp only [List.getElem?_cons_zero, List.getElem?_cons_succ] at y0 y1 x0 x1
   go_wp2
   have hkeep := Keep.set (Keep.set (Keep.refl wr) b4.out 0 (Leaf.bool k)) (Bx.set b4.out 0 (Leaf.bool k)) 1 (Leaf.slice A l c)
   have hbel := (hbl.out.setCell (p := ⟨w.heap.size, 0, none⟩) (Nat.le_refl _) (.bool k)).setCell (p := ⟨w.heap.size, 1, none⟩) (Nat.le_refl _) (.slice A l c)
   have hx : PInt (readL (shY y) 0 s.data.toList) (s.size + 500) (.agg #[.bool k, .slice A l c]) wr := by
    rw [← hrd.out, ht0, readL_nil]; exact HX.out.more (by have := hbn.out; omega)
   refine bodyPost_ret (v := .agg #[.bool k, .slice A l c]) (by simp [results, Tryz.results63, go_sem, x0, x1]) rfl ⟨_, rfl, hx.kept hkeep, hbel⟩
  ·have hp : ((0 : Int) < ((t.size : Nat) : Int)) := by omega
   have hne : t.data.toList ≠ [] := by intro h; rw [← List.length_eq_zero_iff, size_list] at h; omega
   have hmn : min ((t.size : Nat) : Int) 1000 = ((min t.size 1000 : Nat) : Int) := by omega
   have HST := Lib.hid (readL_step (shY y) X hne)
   obtain ⟨m, hm⟩ : ∃ m, min t.size 1000 = m := ⟨_, rfl⟩
   rw [hm] at hmn
   have HMN := Lib.hid hm
   clear hm
   have hm1 : m ≤ 1000 := by rw [← HMN.out]; omega
   have hm2 : m ≤ t.size := by rw [← HMN.out]; omega
   have hz1 := fun wx => run_string_add_lists (P := Tryz.prog) wx [49] (List.replicate m 48) (by simp) (by simp; omega)
   have hpt := Lib.hid (fun W => readPart_any (⟨(49 :: List.replicate m 48).toArray⟩ : ByteArray) W (tenL_dig m) (by show (49 :: List.replicate m 48).toArray.size ≤ 2000; simp; omega))
   obtain ⟨x4_0, x4_1, s4⟩ := b4.out.d2
   obtain ⟨x5_0, x5_1, z5_0, z5_1, s5⟩ := b5.out.e2
   have szb := hbl.out.size
   go_wp2_with fail
   refine (rep_fact m wr (by omega)).mono ?_
   rintro e W1 ⟨rfl, hb⟩
   replace b4 := hup b4 hb
   replace b5 := hup b5 hb
   replace HX := Lib.hid (HX.out.kept (Keep.ofBelow hb))
   have nbel := below_then hbl.out hb hbl.out.size
   have HB2 := Lib.hid nbel
   clear nbel hbl hb x4_0 x4_1 x5_0 x5_1 z5_0 z5_1 szb s4 s5
   obtain ⟨x4_0, x4_1, s4⟩ := b4.out.d2
   obtain ⟨x5_0, x5_1, z5_0, z5_1, s5⟩ := b5.out.e2
   have szb := HB2.out.size
   go_wp2_with fail
   refine (hpt.out _).mono ?_
   rintro e W3 ⟨v, rfl, hv, hb⟩
   replace b4 := hup b4 hb
   replace b5 := hup b5 hb
   replace HX := Lib.hid (HX.out.kept (Keep.ofBelow hb))
   have nbel := below_then HB2.out hb HB2.out.size
   have HB4 := Lib.hid nbel
   clear nbel HB2 hb x4_0 x4_1 x5_0 x5_1 z5_0 z5_1 szb s4 s5
   obtain ⟨x4_0, x4_1, s4⟩ := b4.out.d2
   obtain ⟨x5_0, x5_1, z5_0, z5_1, s5⟩ := b5.out.e2
   have szb := HB4.out.size
   obtain ⟨k1, A1, l1, c1, rfl⟩ := hv.open
   have HP := Lib.hid hv
   clear hv
   go_upto_region 5 with (fail)
   have q5 := b4.out.lt
   have q6 := b5.out.lt
   change Code.wp Tryz.prog _ _ _ (W3.alloc (.cells #[.bool k1, .slice A1 l1 c1] 25))
   obtain ⟨nb7, na⟩ := new1 W3 25 [.bool k1, .slice A1 l1 c1] lf2
   have nb4 := b4.out.up na
   have nb5 := b5.out.up na
   have nkeep := Keep.ofBelow na
   have nbel := below_then HB4.out na HB4.out.size
   generalize W3.alloc (.cells #[.bool k1, .slice A1 l1 c1] 25) = W7 at *
   clear na x4_0 x4_1 x5_0 x5_1 z5_0 z5_1 szb s4 s5 b4 b5
   have b4 := Lib.hid nb4
   have b5 := Lib.hid nb5
   have b7 := Lib.hid nb7
   clear nb4 nb5 nb7
   replace HX := Lib.hid (HX.out.kept nkeep)
   replace HP := Lib.hid (HP.out.kept nkeep)
   clear nkeep
   have HB8 := Lib.hid nbel
   clear nbel HB4
   obtain ⟨x4_0, x4_1, s4⟩ := b4.out.d2
   obtain ⟨x5_0, x5_1, z5_0, z5_1, s5⟩ := b5.out.e2
   obtain ⟨x7_0, x7_1, s7⟩ := b7.out.d2
   have szb := HB8.out.size
   rw [show numOf (⟨(49 :: List.replicate m 48).toArray⟩ : ByteArray).data.toList = 10 ^ m from tenL_num m] at HP
   have hdx : AllDig (t.extract 0 m).data.toList := fun c hc => hdt.out.1 c (by rw [Lib.extract_data] at hc; exact List.mem_of_mem_take (by simpa using hc))
   have hlx : (t.extract 0 m).size ≤ 2000 := by rw [show (t.extract 0 m).size = min m t.size by simp]; omega
   have hnb : n ≤ 20000 := by have h8 := hbn.out; have h9 := HSL.out; have h10 := hdt.out.2; omega
   have HRP := Lib.hid (fun Wx => readPart_any (t.extract 0 m) Wx hdx hlx)
   clear hdx hlx
   refine AS.region_facts (read2FL t m X n y gy) (JOne w W7 25 w.heap.size [.bool false, .slice none 0 0] (w.heap.size + 1)) [[], [], [], [20, 21], [], [], [23, 24], [25], [22, 26], [27, 19], [28]] [10] [[], [28]] [1, 0, 0, 1, 1, 1, 1, 1, 1, 0, 1] [] (fun u => by simp only [read2FL, AS.temps, List.map_cons, List.map_nil, fillL, List.setIfInBounds_toArray, List.set_cons_zero, List.set_cons_succ]; rfl) (by kernel_rfl) (by kernel_rfl) (JOne.st w W7 25 w.heap.size [.bool false, .slice none 0 0] (w.heap.size + 1)) (below_drew (Below.refl _ _)) ?_ ?_
   ·refine AS.sc rfl rfl rfl ?_ ?_
    ·intro k_ u w_ hk hJ hF K hK
     clear hF
     go_simp
     exact hK.out _ _ (Below.refl _ _) (rfl) trivial
    refine AS.sc rfl rfl rfl ?_ ?_
    ·intro k_ u w_ hk hJ hF K hK
     clear hF
     obtain rfl : k_ = 0 := Nat.le_zero.1 hk
     have hJ0 : Below W7.heap.size W7 w_ := hJ
     obtain ⟨y0, y1⟩ := ((b5.out).up hJ0).c2
     go_simp
     exact hK.out _ _ (Below.refl _ _) ((HX.out).kept (Keep.ofBelow hJ0)) trivial
    refine AS.sc rfl rfl rfl ?_ ?_
    ·intro k_ u w_ hk hJ hF K hK
     clear hF
     obtain rfl : k_ = 0 := Nat.le_zero.1 hk
     have hJ0 : Below W7.heap.size W7 w_ := hJ
     obtain ⟨y0, y1⟩ := ((b7.out).up hJ0).c2
     go_simp
     exact hK.out _ _ (Below.refl _ _) ((HP.out).kept (Keep.ofBelow hJ0)) trivial
    refine AS.sc rfl rfl rfl ?_ ?_
    ·intro k_ u w_ hk hJ hF K hK
     have h20 : PInt ((X : Int)) n (u 20) w_ := AS.facts_get hF 20 (by simp)
     have h21 : PInt (((10 ^ m : Nat) : Int)) 223 (u 21) w_ := AS.facts_get hF 21 (by simp)
     clear hF
     go_simp
     refine (mul_fact h20 h21 (by omega) (by omega)).mono ?_
     rintro e w' ⟨v, rfl, hv, hb⟩
     exact hK.out _ _ hb (hv) trivial
    refine AS.sc rfl rfl rfl ?_ ?_
    ·intro k_ u w_ hk hJ hF K hK
     clear hF
     go_simp
     exact hK.out _ _ (Below.refl _ _) (rfl) trivial
    refine AS.sc rfl rfl rfl ?_ ?_
    ·intro k_ u w_ hk hJ hF K hK
     clear hF
     go_simp
     exact hK.out _ _ (Below.refl _ _) (rfl) trivial
    refine AS.sc rfl rfl rfl ?_ ?_
    ·intro k_ u w_ hk hJ hF K hK
     have h23 : u 23 = .string t := AS.facts_get hF 23 (by simp)
     have h24 : u 24 = .int .i64 (m : Int) := AS.facts_get hF 24 (by simp)
     clear hF
     simp only [h23, h24] at hK ⊢
     clear h23 h24
     go_simp
     exact hK.out _ _ (Below.refl _ _) (rfl) trivial
    refine AS.sc rfl rfl rfl ?_ ?_
    ·intro k_ u w_ hk hJ hF K hK
     have h25 : u 25 = .string (t.extract 0 m) := AS.facts_get hF 25 (by simp)
     clear hF
     simp only [h25] at hK ⊢
     clear h25
     go_simp
     refine (HRP.out _).mono ?_
     rintro e w' ⟨v, rfl, hv, hb⟩
     exact hK.out _ _ hb (hv) trivial
    refine AS.sc rfl rfl rfl ?_ ?_
    ·intro k_ u w_ hk hJ hF K hK
     have h22 : PInt (((X : Int)) * (((10 ^ m : Nat) : Int))) (n + 223) (u 22) w_ := AS.facts_get hF 22 (by simp)
     have h26 : PInt (((numOf (t.extract 0 m).data.toList : Nat) : Int)) 223 (u 26) w_ := AS.facts_get hF 26 (by simp)
     clear hF
     go_simp
     refine (add_fact h22 h26 (by omega) (by omega)).mono ?_
     rintro e w' ⟨v, rfl, hv, hb⟩
     exact hK.out _ _ hb (hv) trivial
    refine AS.sc rfl rfl rfl ?_ ?_
    ·intro k_ u w_ hk hJ hF K hK
     have h27 : PInt ((((X : Int)) * (((10 ^ m : Nat) : Int))) + (((numOf (t.extract 0 m).data.toList : Nat) : Int))) (((n + 223) + 223) + 1) (u 27) w_ := AS.facts_get hF 27 (by simp)
     have h19 : u 19 = .func (.func 65) #[] #[.pointer (some ⟨gy, 0, none⟩)] := AS.facts_get hF 19 (by simp)
     clear hF
     simp only [h19] at hK ⊢
     clear h19
     obtain rfl : k_ = 0 := Nat.le_zero.1 hk
     have hJ0 : Below W7.heap.size W7 w_ := hJ
     have hyw := below_then HB8.out hJ0 HB8.out.size
     go_simp
     refine (shrink2_fact h27 (read_cast _ _ _) (HY.out.up hyw) (BY.out.up hyw) (by omega) HMY.out).mono ?_
     rintro e w' ⟨v, rfl, hv, hb⟩
     exact hK.out _ _ hb (hv) trivial
    refine AS.ss rfl rfl ?_ ?_
    ·intro u w_ hJ hAp hF K hK
     have h28 : PInt (((shY y (X * 10 ^ m + numOf (t.extract 0 m).data.toList) : Nat) : Int)) (n + 223 + 223 + 1 + 1) (u 28) w_ := AS.facts_get hF 28 (by simp)
     clear hF
     obtain ⟨k2, A2, l2, c2, e_⟩ := h28.open
     have hJ0 : Below W7.heap.size W7 w_ := hJ
     have bx := b5.out.up hJ0
     have ob4 := b4.out.up hJ0
     have hbel := below_then HB8.out hJ0 HB8.out.size
     have hsz : w.heap.size ≤ w_.heap.size := hbel.size
     have y0 := bx.cell 0
     have y1 := bx.cell 1
     have z0 := bx.frozen 0
     have z1 := bx.frozen 1
     simp only [List.getElem?_cons_zero, List.getElem?_cons_succ] at y0 y1
     simp only [e_] at hK ⊢
     go_simp
     exact hK.out undef _ ⟨⟨(hbel.setCell (p := ⟨w.heap.size + 1, 0, none⟩) (Nat.le_succ _) (.bool k2)).setCell (p := ⟨w.heap.size + 1, 1, none⟩) (Nat.le_succ _) (.slice A2 l2 c2), by simp only [setCell_size]; exact hsz⟩, Bx.far (Bx.far ob4 (by omega) 0 (.bool k2)) (by omega) 1 (.slice A2 l2 c2), [.bool k2, .slice A2 l2 c2], by simp [e_], Bx.set (Bx.set bx 0 (Leaf.bool k2)) 1 (Leaf.slice A2 l2 c2)⟩ (Keep.set2 (Keep.refl w_) bx (Leaf.bool k2) (Leaf.slice A2 l2 c2))
    exact AS.StepsOk.nil
   ·intro u W9 hJ9 hF
    have h28 : PInt (((shY y (X * 10 ^ m + numOf (t.extract 0 m).data.toList) : Nat) : Int)) (n + 223 + 223 + 1 + 1) (u 28) W9 := AS.facts_get hF 28 (by simp [read2FL, AS.temps])
    clear hF
    obtain ⟨⟨hbel, hsz⟩, hb4, vs, hvs, hb5⟩ := hJ9
    obtain ⟨k3, A3, l3, c3, ea⟩ := h28.open
    rw [ea] at h28
    obtain rfl : vs = [.bool k3, .slice A3 l3 c3] := by
     have e1 := (List.cons.inj hvs).1
     rw [show u 28 = _ from ea] at e1
     have e2 := congrArg Array.toList (Value.agg.inj e1)
     simpa using e2.symm
    have H4 := Lib.hid hb4
    have H5 := Lib.hid hb5
    have HX2 := Lib.hid h28
    have HBL := Lib.hid hbel
    clear hvs hb4 hb5 h28 hbel
    go_wp2
    have hsx : (t.extract m t.size).size = t.size - m := by simp
    refine ⟨⟨t.extract m t.size, rfl, ⟨fun c hc => hdt.out.1 c (by rw [Lib.extract_to_end] at hc; exact List.mem_of_mem_drop hc), ?_⟩, HBL.out, H4.out, k3, A3, l3, c3, _, _, H5.out, HX2.out, ?_, ?_⟩, ?_⟩
    ·have := hdt.out.2; omega
    ·show readL (shY y) _ (t.extract m t.size).data.toList = _
     rw [Lib.extract_to_end, ← hrd.out, HST.out]
     have e1 : min t.data.toList.length 1000 = m := by rw [size_list]; exact HMN.out
     rw [e1]
     have e2 : (t.extract 0 m).data.toList = t.data.toList.take m := by rw [Lib.extract_data]; simp
     rw [e2]
    ·show _ + (t.extract m t.size).size ≤ s.size ∨ (t.extract m t.size).size = 0 ∧ _ ≤ s.size + 500
     rw [hsx]
     have h8 := hbn.out
     have h9 := HMN.out
     have h10 := hdt.out.2
     omega
    ·show (t.extract m t.size).size < t.size
     have h9 := HMN.out
     omega
set_option maxHeartbeats 3200000
set_option maxRecDepth 20000
theorem numOf_from (x : Nat) (l : List UInt8) : l.foldl (fun n c => 10 * n + (c.toNat - 48)) x = x * 10 ^ l.length + numOf l := by
 induction l generalizing x with
 | nil => simp [numOf]
 | cons c r ih =>
  unfold numOf
  rw [List.foldl_cons, List.foldl_cons, ih, ih (10 * 0 + (c.toNat - 48)), List.length_cons, Nat.pow_succ]
  simp only [Nat.mul_zero, Nat.zero_add]
  rw [Nat.add_mul, Nat.add_assoc, Nat.mul_comm 10 x, Nat.mul_assoc, Nat.mul_comm 10]
theorem numOf_app (l m : List UInt8) : numOf (l ++ m) = numOf l * 10 ^ m.length + numOf m := by
 rw [show numOf (l ++ m) = m.foldl (fun n c => 10 * n + (c.toNat - 48)) (numOf l) by unfold numOf; rw [List.foldl_append]]
 exact numOf_from _ _
theorem take_num (x n : Nat) (l : List UInt8) (h : n ≤ l.length) : (x * 10 ^ n + numOf (l.take n)) * 10 ^ (l.drop n).length + numOf (l.drop n) = x * 10 ^ l.length + numOf l := by
 have h1 := numOf_app (l.take n) (l.drop n)
 rw [List.take_append_drop] at h1
 rw [h1, Nat.add_mul, Nat.mul_assoc, ← Nat.pow_add, List.length_drop, Nat.add_sub_cancel' h]
 omega
theorem readL_from (x : Nat) (l : List UInt8) : readL id x l = x * 10 ^ l.length + numOf l := by
 induction hn : l.length using Nat.strongRecOn generalizing x l with
 | _ n ih =>
  by_cases h : l = []
  ·subst h; rw [readL_nil]; simp at hn; subst hn; simp [numOf]
  ·have hp := List.length_pos_iff.2 h
   rw [readL_step _ _ h, ih (l.drop (min l.length 1000)).length (by rw [List.length_drop]; omega) _ _ rfl]
   have := take_num x (min l.length 1000) l (Nat.min_le_left _ _)
   rw [← hn]
   exact this
theorem readL_id (l : List UInt8) : readL id 0 l = numOf l := by rw [readL_from]; simp
theorem shY_lin (y a k b : Nat) : shY y (shY y a * k + b) = shY y (a * k + b) := by
 unfold shY
 by_cases h : y = 0
 ·simp [h]
 ·simp only [h, if_false]
  rw [Nat.add_mod, Nat.mul_mod, Nat.mod_mod, ← Nat.mul_mod, ← Nat.add_mod]
theorem readL_mod (y : Nat) (x : Nat) (l : List UInt8) (h : l ≠ []) : readL (shY y) x l = shY y (x * 10 ^ l.length + numOf l) := by
 induction hn : l.length using Nat.strongRecOn generalizing x l with
 | _ n ih =>
  have hp := List.length_pos_iff.2 h
  rw [readL_step _ _ h]
  by_cases hd : l.drop (min l.length 1000) = []
  ·have hk : min l.length 1000 = l.length := by rw [List.drop_eq_nil_iff] at hd; omega
   rw [hk, List.drop_length, readL_nil, List.take_length, hn]
  ·rw [ih (l.drop (min l.length 1000)).length (by rw [List.length_drop]; omega) _ _ hd rfl, shY_lin, take_num x _ l (Nat.min_le_left _ _), hn]
def eq1 (g : Nat) : Bool := decide (g = 1)
theorem cmp_eq1 (g : Nat) : (cmpI (g : Int) 1 == 0) = eq1 g := by
 unfold cmpI eq1
 by_cases h : g = 1
 ·subst h; rfl
 ·by_cases h2 : (g : Int) < 1
  ·rw [if_pos h2]; simp [h]
  ·rw [if_neg h2, if_neg (by omega)]; simp [h]
theorem cop_ge (s t : ByteArray) (w : World) (ha : AllDig s.data.toList) (hb0 : AllDig t.data.toList) (hz : t.size ≤ s.size ∧ s.size ≤ 9000 ∧ t.size ≤ 9000) :
  Calls Tryz.prog 41 #[.string s, .string t] w fun e w' => e = .returned (.bool (eq1 (Nat.gcd (readL (shY (numOf t.data.toList)) 0 s.data.toList) (numOf t.data.toList)))) ∧ Below w.heap.size w w' := by
 have hmf : ∀ (fn : Fn) (first cap : Array Value) (w : World), (Instr.makeFunc fn first cap).run Tryz.prog w = .ok (.func fn first cap) w := fun _ _ _ _ => rfl
 have HA := Lib.hid ha
 have HB := Lib.hid hb0
 have HZ := Lib.hid hz
 clear ha hb0 hz
 have hlt : ¬ (s.size < t.size) := by have := HZ.out.1; omega
 have hlt2 := decide_eq_false hlt
 clear hlt
 go_enter Tryz.func41, Tryz.ntmps41
 go_wp2_with fail
 refine (read1_any t _ HB.out (by have := HZ.out; omega)).mono ?_
 rintro e W1 ⟨v, rfl, hv, hb⟩
 have nbel := hb
 have HB2 := Lib.hid nbel
 clear nbel hb
 have szb := HB2.out.size
 obtain ⟨k1, A1, l1, c1, rfl⟩ := hv.open
 rw [readL_id] at hv
 have HY := Lib.hid hv
 clear hv
 go_upto_region 4 with (fail)
 change Code.wp Tryz.prog _ _ _ (W1.alloc (.cells #[.bool k1, .slice A1 l1 c1] 25))
 obtain ⟨nb5, na⟩ := new1 W1 25 [.bool k1, .slice A1 l1 c1] lf2
 have nkeep := Keep.ofBelow na
 have nbel := below_then HB2.out na HB2.out.size
 generalize W1.alloc (.cells #[.bool k1, .slice A1 l1 c1] 25) = W3 at *
 clear na szb
 have b5 := Lib.hid nb5
 clear nb5
 replace HY := Lib.hid (HY.out.kept nkeep)
 clear nkeep
 have HB4 := Lib.hid nbel
 clear nbel HB2
 obtain ⟨x50, x51, s5⟩ := b5.out.d2
 have szb := HB4.out.size
 go_wp2_with fail
 refine (read2_any s _ HA.out (by have := HZ.out; omega) HY.out b5.out (by have := HZ.out; omega)).mono ?_
 rintro e W5 ⟨v, rfl, hv, hb⟩
 replace b5 := hup b5 hb
 replace HY := Lib.hid (HY.out.kept (Keep.ofBelow hb))
 have nbel := below_then HB4.out hb HB4.out.size
 have HB6 := Lib.hid nbel
 clear nbel HB4 hb x50 x51 szb s5
 obtain ⟨x50, x51, s5⟩ := b5.out.d2
 have szb := HB6.out.size
 obtain ⟨k2, A2, l2, c2, rfl⟩ := hv.open
 have HX := Lib.hid hv
 clear hv
 go_upto_region 5 with (fail)
 have q7 := b5.out.lt
 change Code.wp Tryz.prog _ _ _ (W5.alloc (.cells #[.bool k2, .slice A2 l2 c2] 25))
 obtain ⟨nb6, na⟩ := new1 W5 25 [.bool k2, .slice A2 l2 c2] lf2
 have nb5 := b5.out.up na
 have nkeep := Keep.ofBelow na
 have nbel := below_then HB6.out na HB6.out.size
 generalize W5.alloc (.cells #[.bool k2, .slice A2 l2 c2] 25) = W8 at *
 clear na x50 x51 szb s5 b5
 have b5 := Lib.hid nb5
 have b6 := Lib.hid nb6
 clear nb5 nb6
 replace HY := Lib.hid (HY.out.kept nkeep)
 replace HX := Lib.hid (HX.out.kept nkeep)
 clear nkeep
 have HB9 := Lib.hid nbel
 clear nbel HB6
 obtain ⟨x50, x51, s5⟩ := b5.out.d2
 obtain ⟨x60, x61, s6⟩ := b6.out.d2
 have szb := HB9.out.size
 go_wp2_with fail
 refine (gcd_fact HX.out HY.out (by have := HZ.out; omega) (by have := HZ.out; omega)).mono ?_
 rintro e W10 ⟨v, rfl, hv, hb⟩
 replace b5 := hup b5 hb
 replace b6 := hup b6 hb
 replace HY := Lib.hid (HY.out.kept (Keep.ofBelow hb))
 replace HX := Lib.hid (HX.out.kept (Keep.ofBelow hb))
 have nbel := below_then HB9.out hb HB9.out.size
 have HB11 := Lib.hid nbel
 clear nbel HB9 hb x50 x51 x60 x61 szb s5 s6
 obtain ⟨x50, x51, s5⟩ := b5.out.d2
 obtain ⟨x60, x61, s6⟩ := b6.out.d2
 have szb := HB11.out.size
 obtain ⟨k3, A3, l3, c3, rfl⟩ := hv.open
 rw [Int.gcd_natCast_natCast] at hv
 have HG := Lib.hid hv
 clear hv
 go_wp2_with fail
 refine (of_fact (n := 1) (by decide) (by decide)).mono ?_
 rintro e W12 ⟨v, rfl, hv, hb⟩
 replace b5 := hup b5 hb
 replace b6 := hup b6 hb
 replace HY := Lib.hid (HY.out.kept (Keep.ofBelow hb))
 replace HX := Lib.hid (HX.out.kept (Keep.ofBelow hb))
 replace HG := Lib.hid (HG.out.kept (Keep.ofBelow hb))
 have nbel := below_then HB11.out hb HB11.out.size
 have HB13 := Lib.hid nbel
 clear nbel HB11 hb x50 x51 x60 x61 szb s5 s6
 obtain ⟨x50, x51, s5⟩ := b5.out.d2
 obtain ⟨x60, x61, s6⟩ := b6.out.d2
 have szb := HB13.out.size
 obtain ⟨k4, A4, l4, c4, rfl⟩ := hv.open
 have HO := Lib.hid hv
 clear hv
 go_wp2_with fail
 refine (cmp_fact HG.out HO.out (by have := HZ.out; omega) (by omega)).mono ?_
 rintro e W14 ⟨rfl, hb⟩
 replace b5 := hup b5 hb
 replace b6 := hup b6 hb
 replace HY := Lib.hid (HY.out.kept (Keep.ofBelow hb))
 replace HX := Lib.hid (HX.out.kept (Keep.ofBelow hb))
 replace HG := Lib.hid (HG.out.kept (Keep.ofBelow hb))
 replace HO := Lib.hid (HO.out.kept (Keep.ofBelow hb))
 have nbel := below_then HB13.out hb HB13.out.size
 have HB15 := Lib.hid nbel
 clear nbel HB13 hb x50 x51 x60 x61 szb s5 s6
 obtain ⟨x50, x51, s5⟩ := b5.out.d2
 obtain ⟨x60, x61, s6⟩ := b6.out.d2
 have szb := HB15.out.size
 go_wp2_with fail
 have hbel := HB15.out
 refine bodyPost_ret (v := .bool (eq1 (Nat.gcd (readL (shY (numOf t.data.toList)) 0 s.data.toList) (numOf t.data.toList)))) (by simp [results, Tryz.results41, go_sem, cmp_eq1]) rfl ⟨rfl, hbel⟩
theorem cop_lt (s t : ByteArray) (w : World) (ha : AllDig s.data.toList) (hb0 : AllDig t.data.toList) (hz : s.size < t.size ∧ s.size ≤ 9000 ∧ t.size ≤ 9000) :
  Calls Tryz.prog 41 #[.string s, .string t] w fun e w' => e = .returned (.bool (eq1 (Nat.gcd (readL (shY (numOf s.data.toList)) 0 t.data.toList) (numOf s.data.toList)))) ∧ Below w.heap.size w w' := by
 have hmf : ∀ (fn : Fn) (first cap : Array Value) (w : World), (Instr.makeFunc fn first cap).run Tryz.prog w = .ok (.func fn first cap) w := fun _ _ _ _ => rfl
 have HA := Lib.hid ha
 have HB := Lib.hid hb0
 have HZ := Lib.hid hz
 clear ha hb0 hz
 have hlt : (s.size : Int) < (t.size : Int) := by have := HZ.out.1; omega
 go_enter Tryz.func41, Tryz.ntmps41
 go_wp2_with fail
 refine (read1_any s _ HA.out (by have := HZ.out; omega)).mono ?_
 rintro e W1 ⟨v, rfl, hv, hb⟩
 have nbel := hb
 have HB2 := Lib.hid nbel
 clear nbel hb
 have szb := HB2.out.size
 obtain ⟨k1, A1, l1, c1, rfl⟩ := hv.open
 rw [readL_id] at hv
 have HY := Lib.hid hv
 clear hv
 go_upto_region 4 with (fail)
 change Code.wp Tryz.prog _ _ _ (W1.alloc (.cells #[.bool k1, .slice A1 l1 c1] 25))
 obtain ⟨nb5, na⟩ := new1 W1 25 [.bool k1, .slice A1 l1 c1] lf2
 have nkeep := Keep.ofBelow na
 have nbel := below_then HB2.out na HB2.out.size
 generalize W1.alloc (.cells #[.bool k1, .slice A1 l1 c1] 25) = W3 at *
 clear na szb
 have b5 := Lib.hid nb5
 clear nb5
 replace HY := Lib.hid (HY.out.kept nkeep)
 clear nkeep
 have HB4 := Lib.hid nbel
 clear nbel HB2
 obtain ⟨x50, x51, s5⟩ := b5.out.d2
 have szb := HB4.out.size
 go_wp2_with fail
 refine (read2_any t _ HB.out (by have := HZ.out; omega) HY.out b5.out (by have := HZ.out; omega)).mono ?_
 rintro e W5 ⟨v, rfl, hv, hb⟩
 replace b5 := hup b5 hb
 replace HY := Lib.hid (HY.out.kept (Keep.ofBelow hb))
 have nbel := below_then HB4.out hb HB4.out.size
 have HB6 := Lib.hid nbel
 clear nbel HB4 hb x50 x51 szb s5
 obtain ⟨x50, x51, s5⟩ := b5.out.d2
 have szb := HB6.out.size
 obtain ⟨k2, A2, l2, c2, rfl⟩ := hv.open
 have HX := Lib.hid hv
 clear hv
 go_upto_region 5 with (fail)
 have q7 := b5.out.lt
 change Code.wp Tryz.prog _ _ _ (W5.alloc (.cells #[.bool k2, .slice A2 l2 c2] 25))
 obtain ⟨nb6, na⟩ := new1 W5 25 [.bool k2, .slice A2 l2 c2] lf2
 have nb5 := b5.out.up na
 have nkeep := Keep.ofBelow na
 have nbel := below_then HB6.out na HB6.out.size
 generalize W5.alloc (.cells #[.bool k2, .slice A2 l2 c2] 25) = W8 at *
 clear na x50 x51 szb s5 b5
 have b5 := Lib.hid nb5
 have b6 := Lib.hid nb6
 clear nb5 nb6
 replace HY := Lib.hid (HY.out.kept nkeep)
 replace HX := Lib.hid (HX.out.kept nkeep)
 clear nkeep
 have HB9 := Lib.hid nbel
 clear nbel HB6
 obtain ⟨x50, x51, s5⟩ := b5.out.d2
 obtain ⟨x60, x61, s6⟩ := b6.out.d2
 have szb := HB9.out.size
 go_wp2_with fail
 refine (gcd_fact HX.out HY.out (by have := HZ.out; omega) (by have := HZ.out; omega)).mono ?_
 rintro e W10 ⟨v, rfl, hv, hb⟩
 replace b5 := hup b5 hb
 replace b6 := hup b6 hb
 replace HY := Lib.hid (HY.out.kept (Keep.ofBelow hb))
 replace HX := Lib.hid (HX.out.kept (Keep.ofBelow hb))
 have nbel := below_then HB9.out hb HB9.out.size
 have HB11 := Lib.hid nbel
 clear nbel HB9 hb x50 x51 x60 x61 szb s5 s6
 obtain ⟨x50, x51, s5⟩ := b5.out.d2
 obtain ⟨x60, x61, s6⟩ := b6.out.d2
 have szb := HB11.out.size
 obtain ⟨k3, A3, l3, c3, rfl⟩ := hv.open
 rw [Int.gcd_natCast_natCast] at hv
 have HG := Lib.hid hv
 clear hv
 go_wp2_with fail
 refine (of_fact (n := 1) (by decide) (by decide)).mono ?_
 rintro e W12 ⟨v, rfl, hv, hb⟩
 replace b5 := hup b5 hb
 replace b6 := hup b6 hb
 replace HY := Lib.hid (HY.out.kept (Keep.ofBelow hb))
 replace HX := Lib.hid (HX.out.kept (Keep.ofBelow hb))
 replace HG := Lib.hid (HG.out.kept (Keep.ofBelow hb))
 have nbel := below_then HB11.out hb HB11.out.size
 have HB13 := Lib.hid nbel
 clear nbel HB11 hb x50 x51 x60 x61 szb s5 s6
 obtain ⟨x50, x51, s5⟩ := b5.out.d2
 obtain ⟨x60, x61, s6⟩ := b6.out.d2
 have szb := HB13.out.size
 obtain ⟨k4, A4, l4, c4, rfl⟩ := hv.open
 have HO := Lib.hid hv
 clear hv
 go_wp2_with fail
 refine (cmp_fact HG.out HO.out (by have := HZ.out; omega) (by omega)).mono ?_
 rintro e W14 ⟨rfl, hb⟩
 replace b5 := hup b5 hb
 replace b6 := hup b6 hb
 replace HY := Lib.hid (HY.out.kept (Keep.ofBelow hb))
 replace HX := Lib.hid (HX.out.kept (Keep.ofBelow hb))
 replace HG := Lib.hid (HG.out.kept (Keep.ofBelow hb))
 replace HO := Lib.hid (HO.out.kept (Keep.ofBelow hb))
 have nbel := below_then HB13.out hb HB13.out.size
 have HB15 := Lib.hid nbel
 clear nbel HB13 hb x50 x51 x60 x61 szb s5 s6
 obtain ⟨x50, x51, s5⟩ := b5.out.d2
 obtain ⟨x60, x61, s6⟩ := b6.out.d2
 have szb := HB15.out.size
 go_wp2_with fail
 have hbel := HB15.out
 refine bodyPost_ret (v := .bool (eq1 (Nat.gcd (readL (shY (numOf s.data.toList)) 0 t.data.toList) (numOf s.data.toList)))) (by simp [results, Tryz.results41, go_sem, cmp_eq1]) rfl ⟨rfl, hbel⟩
theorem gcd_shY {n y : Nat} (hy : y ≠ 0) : Nat.gcd (shY y n) y = Nat.gcd n y := by
 unfold shY
 rw [if_neg hy, ← Nat.gcd_rec, Nat.gcd_comm]
theorem cop_any (s t : ByteArray) (w : World) (ha : AllDig s.data.toList) (hb : AllDig t.data.toList) (hs : s.data.toList ≠ []) (ht : t.data.toList ≠ []) (h1 : 1 < numOf t.data.toList) (hz : s.size ≤ 9000 ∧ t.size ≤ 9000) :
  Calls Tryz.prog 41 #[.string s, .string t] w fun e w' => e = .returned (.bool (eq1 (Nat.gcd (numOf s.data.toList) (numOf t.data.toList)))) ∧ Below w.heap.size w w' := by
 rcases Nat.lt_or_ge s.size t.size with h | h
 ·have h2 := cop_lt s t w ha hb ⟨h, hz.1, hz.2⟩
  rw [readL_mod _ _ _ ht] at h2
  simp only [Nat.zero_mul, Nat.zero_add] at h2
  have h3 : eq1 (Nat.gcd (shY (numOf s.data.toList) (numOf t.data.toList)) (numOf s.data.toList)) = eq1 (Nat.gcd (numOf s.data.toList) (numOf t.data.toList)) := by
   by_cases h0 : numOf s.data.toList = 0
   ·rw [h0]
    have e1 : shY 0 (numOf t.data.toList) = 0 := by unfold shY; simp
    rw [e1, Nat.gcd_zero_left, Nat.gcd_zero_left]
    unfold eq1
    rw [decide_eq_false (by omega), decide_eq_false (by omega)]
   ·rw [gcd_shY h0, Nat.gcd_comm]
  rw [h3] at h2
  exact h2
 ·have h2 := cop_ge s t w ha hb ⟨h, hz.1, hz.2⟩
  rw [readL_mod _ _ _ hs] at h2
  simp only [Nat.zero_mul, Nat.zero_add] at h2
  rw [gcd_shY (by omega)] at h2
  exact h2
def lowB (N D : List UInt8) : Bool := !(D == [48]) && !(D == [49]) && !negOf D && eq1 (Nat.gcd (numOf (restOf N)) (numOf D))
theorem ok_parts {l : List UInt8} (h : badNum l = false) : AllDig (restOf l) ∧ restOf l ≠ [] := by
 obtain ⟨h1, h2, -⟩ := good_facts h
 exact ⟨h1, h2⟩
theorem den_gt {D : List UInt8} (h : badNum D = false) (h0 : (D == [48]) = false) (h1 : (D == [49]) = false) (hn : negOf D = false) : 1 < numOf D := by
 obtain ⟨h2, h3, h4, _⟩ := good_facts h
 have hr : restOf D = D := by unfold restOf Lib.trimPrefix; rw [show Lib.hasPrefix D [45] = false from hn]; rfl
 rw [hr] at h2 h3 h4
 have hp : 0 < numOf D := by
  refine numOf_pos h2 h3 ?_
  intro hh
  have := (h4 hh).2
  rw [this] at h0
  exact absurd h0 (by decide)
 rcases Nat.lt_or_ge 1 (numOf D) with h5 | h5
 ·exact h5
 ·exfalso
  have h6 : numOf D = 1 := by omega
  have h7 := dec_numOf D h2 h3 (.inr (by
   intro hh
   have := (h4 hh).2
   rw [this] at h0
   exact absurd h0 (by decide)))
  rw [h6] at h7
  have h8 : Lib.decDigits 1 = [49] := by decide +kernel
  rw [h8] at h7
  rw [← h7] at h1
  exact absurd h1 (by decide)
set_option maxRecDepth 20000 in
set_option maxHeartbeats 3200000 in
theorem low_any (N D : List UInt8) (w : World) (hN : badNum N = false) (hD : badNum D = false) (hz : N.length ≤ 9000 ∧ D.length ≤ 9000) :
  Calls Tryz.prog 17 #[.string ⟨N.toArray⟩, .string ⟨D.toArray⟩] w fun e w' => e = .returned (.bool (lowB N D)) ∧ Below w.heap.size w w' := by
 by_cases h0 : D = [48]
 ·subst h0
  have e : lowB N [48] = false := by unfold lowB; simp
  rw [e]
  go_enter Tryz.func17, Tryz.ntmps17
  go_wp2
  go_ret
  exact ⟨rfl, Below.refl _ _⟩
 by_cases h1 : D = [49]
 ·subst h1
  have e : lowB N [49] = false := by unfold lowB; simp
  rw [e]
  go_enter Tryz.func17, Tryz.ntmps17
  go_wp2
  go_ret
  exact ⟨rfl, Below.refl _ _⟩
 have g0 : (D == [48]) = false := by simpa using h0
 have g1 : (D == [49]) = false := by simpa using h1
 have hHP := Lib.hid (fun W => Tryz.strings_HasPrefix ⟨D.toArray⟩ ⟨#[45]⟩ W)
 have hTP := Lib.hid (fun W => Tryz.strings_TrimPrefix ⟨N.toArray⟩ ⟨#[45]⟩ W)
 by_cases hn : negOf D = true
 ·have e : lowB N D = false := by unfold lowB; rw [hn]; simp
  rw [e]
  have hn2 := Lib.hid hn
  clear h0 h1 hN hD hz hn
  go_enter Tryz.func17, Tryz.ntmps17
  go_wp2_with fail
  refine (hHP.out _).mono ?_
  rintro e w1 ⟨rfl, rfl⟩
  rw [show Lib.hasPrefix (⟨D.toArray⟩ : ByteArray).data.toList (⟨#[45]⟩ : ByteArray).data.toList = true from hn2.out]
  go_wp2
  go_ret
  exact ⟨rfl, Below.refl _ _⟩
 ·rw [Bool.not_eq_true] at hn
  have hdg := den_gt hD g0 g1 hn
  have hr : restOf D = D := by unfold restOf Lib.trimPrefix; rw [show Lib.hasPrefix D [45] = false from hn]; rfl
  have hC := Lib.hid (fun W => cop_any ⟨(restOf N).toArray⟩ ⟨D.toArray⟩ W (ok_parts hN).1 (by have := (ok_parts hD).1; rw [hr] at this; exact this) (ok_parts hN).2 (by have := (ok_parts hD).2; rw [hr] at this; exact this) hdg
   (by have := restOf_le N; constructor; show (restOf N).toArray.size ≤ 9000; simp; omega; show D.toArray.size ≤ 9000; simp; omega))
  have e : lowB N D = eq1 (Nat.gcd (numOf (restOf N)) (numOf D)) := by unfold lowB; rw [g0, g1, hn]; simp
  rw [e]
  have hn2 := Lib.hid hn
  clear h0 h1 hN hD hz hn hr hdg e
  generalize hgc : eq1 (Nat.gcd (numOf (restOf N)) (numOf D)) = gb at *
  have HC : Hid (∀ W : World, Calls Tryz.prog 41 #[.string ⟨(restOf N).toArray⟩, .string ⟨D.toArray⟩] W fun e w' => e = .returned (.bool gb) ∧ Below W.heap.size W w') := by
   intro W
   exact hC.out W
  clear hC hgc
  go_enter Tryz.func17, Tryz.ntmps17
  go_wp2_with fail
  refine (hHP.out _).mono ?_
  rintro e w1 ⟨rfl, rfl⟩
  rw [show Lib.hasPrefix (⟨D.toArray⟩ : ByteArray).data.toList (⟨#[45]⟩ : ByteArray).data.toList = false from hn2.out]
  go_wp2_with fail
  refine (hTP.out _).mono ?_
  rintro e w2 ⟨rfl, rfl⟩
  go_wp2_with fail
  refine (HC.out _).mono ?_
  rintro e w3 ⟨rfl, hb⟩
  have HB := Lib.hid hb
  clear hb
  go_wp2_with fail
  go_ret
  exact ⟨rfl, HB.out⟩
end Go.Proofs.YtodapfhnbgoanaaGreatDoor
