/- Contracts and the law of RationalScale, part 2: what was proved of each, callees first. -/
import Derived.Test.YtgihmikeapbpkaaGreatDoorSC1
namespace Go.Proofs.YtgihmikeapbpkaaGreatDoor
open Go.RowKit
open AS (Keep NoInt)
set_option maxHeartbeats 3200000
set_option maxRecDepth 20000
theorem rsmall_is {z zz : Int} {bb : Bool} {n : Nat} {a : Value} {w : World} (h1 : PRef z n a w) (hn : n ≤ 100000) (hz : smN z = zz) (hb : smB z = bb) :
  Calls Tryz.prog 92 #[a] w fun e w' => e = .returned (.tuple #[.int .i64 zz, .bool bb]) ∧ Below w.heap.size w w' := by
 subst hz hb
 exact rsmall_fact h1 (by omega)
theorem rscale_arg {a : Int} {x : Rat} {n : Nat} {v : Value} {w : World} (h : RRat x n v w) (_hn3 : 5 ≤ n) (_hn : n ≤ 2000) (ham : amt a = false) :
  Calls Tryz.prog 48 #[.int .i64 a, v] w fun e w' => e = .returned (.tuple #[.int .i64 0, .int .i64 1]) ∧ Below w.heap.size w w' := by
 obtain ⟨k, A, l, c, k', A', l', c', rfl⟩ := h.open
 have H1 := Lib.hid h
 have HAM := Lib.hid ham
 clear h ham
 go_enter Tryz.func48, Tryz.ntmps48
 go_upto_region 1 with (fail)
 change Code.wp Tryz.prog _ _ _ (w.alloc (.cells #[.bool k, .slice A l c, .bool k', .slice A' l' c'] 35))
 obtain ⟨nb3, na⟩ := new1 w 35 [.bool k, .slice A l c, .bool k', .slice A' l' c'] lf4
 have nkeep := Keep.ofBelow na
 have nbel := na
 generalize w.alloc (.cells #[.bool k, .slice A l c, .bool k', .slice A' l' c'] 35) = W1 at *
 clear na
 have b3 := Lib.hid nb3
 clear nb3
 replace H1 := Lib.hid (H1.out.kept nkeep)
 clear nkeep
 have HB2 := Lib.hid nbel
 clear nbel
 obtain ⟨x30, x31, x32, x33, s3⟩ := b3.out.d4
 have szb := HB2.out.size
 go_wp2_with fail
 refine (ramount_is HAM.out _).mono ?_
 rintro e W3 ⟨rfl, hb⟩
 replace b3 := hup b3 hb
 replace H1 := Lib.hid (H1.out.kept (Keep.ofBelow hb))
 have nbel := below_then HB2.out hb HB2.out.size
 have HB4 := Lib.hid nbel
 clear nbel HB2 hb x30 x31 x32 x33 szb s3
 obtain ⟨x30, x31, x32, x33, s3⟩ := b3.out.d4
 have szb := HB4.out.size
 go_wp2_with fail
 have hkeep := (Keep.refl W3)
 have hbel := HB4.out
 refine bodyPost_ret (v := .tuple #[.int .i64 0, .int .i64 1]) (by simp [results, Tryz.results48, go_sem]) rfl ⟨rfl, hbel⟩
def rscaleFL (a zz : Int) (bb : Bool) (x : Rat) (n : Nat) : List (Nat × AS.Fact) := [(12, AS.Fact.is (.int .i64 a)), (13, AS.Fact.rrat ((a : Rat)) 5), (14, AS.Fact.rrat (x) n), (15, AS.Fact.rrat ((a : Rat) * x) (n + n)), (16, AS.Fact.ref (rndQ ((a : Rat) * x)) ((n + n) + (n + n) + 6)), (17, AS.Fact.is (.tuple #[.int .i64 zz, .bool bb])), (11, AS.Fact.is (.tuple #[.int .i64 zz, .bool bb])), (18, AS.Fact.is (.int .i64 zz)), (19, AS.Fact.is (.bool bb)), (6, AS.Fact.is (.int .i64 zz)), (7, AS.Fact.is (.bool bb))]
theorem rscale_ok {a : Int} {x : Rat} {n : Nat} {v : Value} {w : World} (h : RRat x n v w) (hn3 : 5 ≤ n) (hn : n ≤ 2000) {zz : Int} {bb : Bool} (ham : amt a = true) (har : -9223372036854775808 ≤ a ∧ a ≤ 9223372036854775807) (hz : smN (rndQ ((a : Rat) * x)) = zz ∧ smB (rndQ ((a : Rat) * x)) = bb) (hbb : bb = true) (hza : amt zz = true) :
  Calls Tryz.prog 48 #[.int .i64 a, v] w fun e w' => e = .returned (.tuple #[.int .i64 zz, .int .i64 0]) ∧ Below w.heap.size w w' := by
 have HR := Lib.hid har
 have HZ := Lib.hid hz
 have HBB := Lib.hid hbb
 have HZA := Lib.hid hza
 clear har hz hbb hza
 obtain ⟨k, A, l, c, k', A', l', c', rfl⟩ := h.open
 have H1 := Lib.hid h
 have HAM := Lib.hid ham
 clear h ham
 go_enter Tryz.func48, Tryz.ntmps48
 go_upto_region 1 with (fail)
 change Code.wp Tryz.prog _ _ _ (w.alloc (.cells #[.bool k, .slice A l c, .bool k', .slice A' l' c'] 35))
 obtain ⟨nb3, na⟩ := new1 w 35 [.bool k, .slice A l c, .bool k', .slice A' l' c'] lf4
 have nkeep := Keep.ofBelow na
 have nbel := na
 generalize w.alloc (.cells #[.bool k, .slice A l c, .bool k', .slice A' l' c'] 35) = W1 at *
 clear na
 have b3 := Lib.hid nb3
 clear nb3
 replace H1 := Lib.hid (H1.out.kept nkeep)
 clear nkeep
 have HB2 := Lib.hid nbel
 clear nbel
 obtain ⟨x30, x31, x32, x33, s3⟩ := b3.out.d4
 have szb := HB2.out.size
 go_wp2_with fail
 refine (ramount_is HAM.out _).mono ?_
 rintro e W3 ⟨rfl, hb⟩
 replace b3 := hup b3 hb
 replace H1 := Lib.hid (H1.out.kept (Keep.ofBelow hb))
 have nbel := below_then HB2.out hb HB2.out.size
 have HB4 := Lib.hid nbel
 clear nbel HB2 hb x30 x31 x32 x33 szb s3
 obtain ⟨x30, x31, x32, x33, s3⟩ := b3.out.d4
 have szb := HB4.out.size
 go_upto_region 3 with (fail)
 refine AS.region_facts (rscaleFL a zz bb x n) (JNo W3) [[], [12], [], [13, 14], [15], [16], [17], [11], [11], [18], [19]] [] [[]] [0, 0, 0, 0, 0, 0, 0, 0, 0, 0, 0] [] (fun u => by simp only [rscaleFL, AS.temps, List.map_cons, List.map_nil, fillL, List.setIfInBounds_toArray, List.set_cons_zero, List.set_cons_succ]; rfl) (by kernel_rfl) (by kernel_rfl) (JNo.st W3) (below_drew (Below.refl _ _)) ?_ ?_
 ·refine AS.sc rfl rfl rfl ?_ ?_
  ·intro k_ u w_ hk hJ hF K hK
   clear hF
   go_simp
   exact hK.out _ _ (Below.refl _ _) (rfl) trivial
  refine AS.sc rfl rfl rfl ?_ ?_
  ·intro k_ u w_ hk hJ hF K hK
   have h12 : u 12 = .int .i64 a := AS.facts_get hF 12 (by simp)
   clear hF
   simp only [h12] at hK ⊢
   clear h12
   go_simp
   refine (rint_fact (a := a) HR.out).mono ?_
   rintro e w' ⟨v, rfl, hv, hb⟩
   exact hK.out _ _ hb (hv) trivial
  refine AS.sc rfl rfl rfl ?_ ?_
  ·intro k_ u w_ hk hJ hF K hK
   clear hF
   obtain rfl : k_ = 0 := Nat.le_zero.1 hk
   have hJ0 : Below W3.heap.size W3 w_ := hJ
   obtain ⟨y0, y1, y2, y3⟩ := ((b3.out).up hJ0).c4
   go_simp
   exact hK.out _ _ (Below.refl _ _) ((H1.out).kept (Keep.ofBelow hJ0)) trivial
  refine AS.sc rfl rfl rfl ?_ ?_
  ·intro k_ u w_ hk hJ hF K hK
   have h13 : RRat ((a : Rat)) 5 (u 13) w_ := AS.facts_get hF 13 (by simp)
   have h14 : RRat (x) n (u 14) w_ := AS.facts_get hF 14 (by simp)
   clear hF
   go_simp
   refine (rratMul_fact (n := n) (h13.more (by omega)) h14 (by omega) (by omega)).mono ?_
   rintro e w' ⟨v, rfl, hv, hb⟩
   exact hK.out _ _ hb (hv) trivial
  refine AS.sc rfl rfl rfl ?_ ?_
  ·intro k_ u w_ hk hJ hF K hK
   have h15 : RRat ((a : Rat) * x) (n + n) (u 15) w_ := AS.facts_get hF 15 (by simp)
   clear hF
   go_simp
   refine (rround_fact h15 (by omega) (by omega)).mono ?_
   rintro e w' ⟨v, rfl, hv, hb⟩
   exact hK.out _ _ hb (hv) trivial
  refine AS.sc rfl rfl rfl ?_ ?_
  ·intro k_ u w_ hk hJ hF K hK
   have h16 : PRef (rndQ ((a : Rat) * x)) ((n + n) + (n + n) + 6) (u 16) w_ := AS.facts_get hF 16 (by simp)
   clear hF
   go_simp
   refine (rsmall_is h16 (by omega) HZ.out.1 HZ.out.2).mono ?_
   rintro e w' ⟨rfl, hb⟩
   exact hK.out _ _ hb (rfl) trivial
  refine AS.sc rfl rfl rfl ?_ ?_
  ·intro k_ u w_ hk hJ hF K hK
   have h17 : u 17 = .tuple #[.int .i64 zz, .bool bb] := AS.facts_get hF 17 (by simp)
   clear hF
   simp only [h17] at hK ⊢
   clear h17
   go_simp
   exact hK.out _ _ (Below.refl _ _) (rfl) trivial
  refine AS.sc rfl rfl rfl ?_ ?_
  ·intro k_ u w_ hk hJ hF K hK
   have h11 : u 11 = .tuple #[.int .i64 zz, .bool bb] := AS.facts_get hF 11 (by simp)
   clear hF
   simp only [h11] at hK ⊢
   clear h11
   go_simp
   exact hK.out _ _ (Below.refl _ _) (rfl) trivial
  refine AS.sc rfl rfl rfl ?_ ?_
  ·intro k_ u w_ hk hJ hF K hK
   have h11 : u 11 = .tuple #[.int .i64 zz, .bool bb] := AS.facts_get hF 11 (by simp)
   clear hF
   simp only [h11] at hK ⊢
   clear h11
   go_simp
   exact hK.out _ _ (Below.refl _ _) (rfl) trivial
  refine AS.sc rfl rfl rfl ?_ ?_
  ·intro k_ u w_ hk hJ hF K hK
   have h18 : u 18 = .int .i64 zz := AS.facts_get hF 18 (by simp)
   clear hF
   simp only [h18] at hK ⊢
   clear h18
   go_simp
   exact hK.out _ _ (Below.refl _ _) (rfl) trivial
  refine AS.sc rfl rfl rfl ?_ ?_
  ·intro k_ u w_ hk hJ hF K hK
   have h19 : u 19 = .bool bb := AS.facts_get hF 19 (by simp)
   clear hF
   simp only [h19] at hK ⊢
   clear h19
   go_simp
   exact hK.out _ _ (Below.refl _ _) (rfl) trivial
  exact AS.StepsOk.nil
 ·intro u W5 hJ9 hF
  have h6 : u 6 = .int .i64 zz := AS.facts_get hF 6 (by simp [rscaleFL, AS.temps])
  have h7 : u 7 = .bool bb := AS.facts_get hF 7 (by simp [rscaleFL, AS.temps])
  clear hF
  rw [show u 6 = _ from h6, show u 7 = _ from h7]
  clear h6 h7
  replace b3 := hup b3 hJ9
  replace H1 := Lib.hid (H1.out.kept (Keep.ofBelow hJ9))
  have nbel := below_then HB4.out hJ9 HB4.out.size
  have HB6 := Lib.hid nbel
  clear nbel HB4 hJ9 x30 x31 x32 x33 szb s3
  obtain ⟨x30, x31, x32, x33, s3⟩ := b3.out.d4
  have szb := HB6.out.size
  obtain rfl : bb = true := HBB.out
  go_wp2_with fail
  refine (ramount_is HZA.out _).mono ?_
  rintro e W7 ⟨rfl, hb⟩
  replace b3 := hup b3 hb
  replace H1 := Lib.hid (H1.out.kept (Keep.ofBelow hb))
  have nbel := below_then HB6.out hb HB6.out.size
  have HB8 := Lib.hid nbel
  clear nbel HB6 hb x30 x31 x32 x33 szb s3
  obtain ⟨x30, x31, x32, x33, s3⟩ := b3.out.d4
  have szb := HB8.out.size
  go_wp2_with fail
  have hkeep := (Keep.refl W7)
  have hbel := HB8.out
  refine bodyPost_ret (v := .tuple #[.int .i64 zz, .int .i64 0]) (by simp [results, Tryz.results48, go_sem]) rfl ⟨rfl, hbel⟩
theorem rscale_big {a : Int} {x : Rat} {n : Nat} {v : Value} {w : World} (h : RRat x n v w) (hn3 : 5 ≤ n) (hn : n ≤ 2000) {zz : Int} {bb : Bool} (ham : amt a = true) (har : -9223372036854775808 ≤ a ∧ a ≤ 9223372036854775807) (hz : smN (rndQ ((a : Rat) * x)) = zz ∧ smB (rndQ ((a : Rat) * x)) = bb) (hbb : bb = true) (hza : amt zz = false) :
  Calls Tryz.prog 48 #[.int .i64 a, v] w fun e w' => e = .returned (.tuple #[.int .i64 0, .int .i64 2]) ∧ Below w.heap.size w w' := by
 have HR := Lib.hid har
 have HZ := Lib.hid hz
 have HBB := Lib.hid hbb
 have HZA := Lib.hid hza
 clear har hz hbb hza
 obtain ⟨k, A, l, c, k', A', l', c', rfl⟩ := h.open
 have H1 := Lib.hid h
 have HAM := Lib.hid ham
 clear h ham
 go_enter Tryz.func48, Tryz.ntmps48
 go_upto_region 1 with (fail)
 change Code.wp Tryz.prog _ _ _ (w.alloc (.cells #[.bool k, .slice A l c, .bool k', .slice A' l' c'] 35))
 obtain ⟨nb3, na⟩ := new1 w 35 [.bool k, .slice A l c, .bool k', .slice A' l' c'] lf4
 have nkeep := Keep.ofBelow na
 have nbel := na
 generalize w.alloc (.cells #[.bool k, .slice A l c, .bool k', .slice A' l' c'] 35) = W1 at *
 clear na
 have b3 := Lib.hid nb3
 clear nb3
 replace H1 := Lib.hid (H1.out.kept nkeep)
 clear nkeep
 have HB2 := Lib.hid nbel
 clear nbel
 obtain ⟨x30, x31, x32, x33, s3⟩ := b3.out.d4
 have szb := HB2.out.size
 go_wp2_with fail
 refine (ramount_is HAM.out _).mono ?_
 rintro e W3 ⟨rfl, hb⟩
 replace b3 := hup b3 hb
 replace H1 := Lib.hid (H1.out.kept (Keep.ofBelow hb))
 have nbel := below_then HB2.out hb HB2.out.size
 have HB4 := Lib.hid nbel
 clear nbel HB2 hb x30 x31 x32 x33 szb s3
 obtain ⟨x30, x31, x32, x33, s3⟩ := b3.out.d4
 have szb := HB4.out.size
 go_upto_region 3 with (fail)
 refine AS.region_facts (rscaleFL a zz bb x n) (JNo W3) [[], [12], [], [13, 14], [15], [16], [17], [11], [11], [18], [19]] [] [[]] [0, 0, 0, 0, 0, 0, 0, 0, 0, 0, 0] [] (fun u => by simp only [rscaleFL, AS.temps, List.map_cons, List.map_nil, fillL, List.setIfInBounds_toArray, List.set_cons_zero, List.set_cons_succ]; rfl) (by kernel_rfl) (by kernel_rfl) (JNo.st W3) (below_drew (Below.refl _ _)) ?_ ?_
 ·refine AS.sc rfl rfl rfl ?_ ?_
  ·intro k_ u w_ hk hJ hF K hK
   clear hF
   go_simp
   exact hK.out _ _ (Below.refl _ _) (rfl) trivial
  refine AS.sc rfl rfl rfl ?_ ?_
  ·intro k_ u w_ hk hJ hF K hK
   have h12 : u 12 = .int .i64 a := AS.facts_get hF 12 (by simp)
   clear hF
   simp only [h12] at hK ⊢
   clear h12
   go_simp
   refine (rint_fact (a := a) HR.out).mono ?_
   rintro e w' ⟨v, rfl, hv, hb⟩
   exact hK.out _ _ hb (hv) trivial
  refine AS.sc rfl rfl rfl ?_ ?_
  ·intro k_ u w_ hk hJ hF K hK
   clear hF
   obtain rfl : k_ = 0 := Nat.le_zero.1 hk
   have hJ0 : Below W3.heap.size W3 w_ := hJ
   obtain ⟨y0, y1, y2, y3⟩ := ((b3.out).up hJ0).c4
   go_simp
   exact hK.out _ _ (Below.refl _ _) ((H1.out).kept (Keep.ofBelow hJ0)) trivial
  refine AS.sc rfl rfl rfl ?_ ?_
  ·intro k_ u w_ hk hJ hF K hK
   have h13 : RRat ((a : Rat)) 5 (u 13) w_ := AS.facts_get hF 13 (by simp)
   have h14 : RRat (x) n (u 14) w_ := AS.facts_get hF 14 (by simp)
   clear hF
   go_simp
   refine (rratMul_fact (n := n) (h13.more (by omega)) h14 (by omega) (by omega)).mono ?_
   rintro e w' ⟨v, rfl, hv, hb⟩
   exact hK.out _ _ hb (hv) trivial
  refine AS.sc rfl rfl rfl ?_ ?_
  ·intro k_ u w_ hk hJ hF K hK
   have h15 : RRat ((a : Rat) * x) (n + n) (u 15) w_ := AS.facts_get hF 15 (by simp)
   clear hF
   go_simp
   refine (rround_fact h15 (by omega) (by omega)).mono ?_
   rintro e w' ⟨v, rfl, hv, hb⟩
   exact hK.out _ _ hb (hv) trivial
  refine AS.sc rfl rfl rfl ?_ ?_
  ·intro k_ u w_ hk hJ hF K hK
   have h16 : PRef (rndQ ((a : Rat) * x)) ((n + n) + (n + n) + 6) (u 16) w_ := AS.facts_get hF 16 (by simp)
   clear hF
   go_simp
   refine (rsmall_is h16 (by omega) HZ.out.1 HZ.out.2).mono ?_
   rintro e w' ⟨rfl, hb⟩
   exact hK.out _ _ hb (rfl) trivial
  refine AS.sc rfl rfl rfl ?_ ?_
  ·intro k_ u w_ hk hJ hF K hK
   have h17 : u 17 = .tuple #[.int .i64 zz, .bool bb] := AS.facts_get hF 17 (by simp)
   clear hF
   simp only [h17] at hK ⊢
   clear h17
   go_simp
   exact hK.out _ _ (Below.refl _ _) (rfl) trivial
  refine AS.sc rfl rfl rfl ?_ ?_
  ·intro k_ u w_ hk hJ hF K hK
   have h11 : u 11 = .tuple #[.int .i64 zz, .bool bb] := AS.facts_get hF 11 (by simp)
   clear hF
   simp only [h11] at hK ⊢
   clear h11
   go_simp
   exact hK.out _ _ (Below.refl _ _) (rfl) trivial
  refine AS.sc rfl rfl rfl ?_ ?_
  ·intro k_ u w_ hk hJ hF K hK
   have h11 : u 11 = .tuple #[.int .i64 zz, .bool bb] := AS.facts_get hF 11 (by simp)
   clear hF
   simp only [h11] at hK ⊢
   clear h11
   go_simp
   exact hK.out _ _ (Below.refl _ _) (rfl) trivial
  refine AS.sc rfl rfl rfl ?_ ?_
  ·intro k_ u w_ hk hJ hF K hK
   have h18 : u 18 = .int .i64 zz := AS.facts_get hF 18 (by simp)
   clear hF
   simp only [h18] at hK ⊢
   clear h18
   go_simp
   exact hK.out _ _ (Below.refl _ _) (rfl) trivial
  refine AS.sc rfl rfl rfl ?_ ?_
  ·intro k_ u w_ hk hJ hF K hK
   have h19 : u 19 = .bool bb := AS.facts_get hF 19 (by simp)
   clear hF
   simp only [h19] at hK ⊢
   clear h19
   go_simp
   exact hK.out _ _ (Below.refl _ _) (rfl) trivial
  exact AS.StepsOk.nil
 ·intro u W5 hJ9 hF
  have h6 : u 6 = .int .i64 zz := AS.facts_get hF 6 (by simp [rscaleFL, AS.temps])
  have h7 : u 7 = .bool bb := AS.facts_get hF 7 (by simp [rscaleFL, AS.temps])
  clear hF
  rw [show u 6 = _ from h6, show u 7 = _ from h7]
  clear h6 h7
  replace b3 := hup b3 hJ9
  replace H1 := Lib.hid (H1.out.kept (Keep.ofBelow hJ9))
  have nbel := below_then HB4.out hJ9 HB4.out.size
  have HB6 := Lib.hid nbel
  clear nbel HB4 hJ9 x30 x31 x32 x33 szb s3
  obtain ⟨x30, x31, x32, x33, s3⟩ := b3.out.d4
  have szb := HB6.out.size
  obtain rfl : bb = true := HBB.out
  go_wp2_with fail
  refine (ramount_is HZA.out _).mono ?_
  rintro e W7 ⟨rfl, hb⟩
  replace b3 := hup b3 hb
  replace H1 := Lib.hid (H1.out.kept (Keep.ofBelow hb))
  have nbel := below_then HB6.out hb HB6.out.size
  have HB8 := Lib.hid nbel
  clear nbel HB6 hb x30 x31 x32 x33 szb s3
  obtain ⟨x30, x31, x32, x33, s3⟩ := b3.out.d4
  have szb := HB8.out.size
  go_wp2_with fail
  have hkeep := (Keep.refl W7)
  have hbel := HB8.out
  refine bodyPost_ret (v := .tuple #[.int .i64 0, .int .i64 2]) (by simp [results, Tryz.results48, go_sem]) rfl ⟨rfl, hbel⟩
theorem rscale_not {a : Int} {x : Rat} {n : Nat} {v : Value} {w : World} (h : RRat x n v w) (hn3 : 5 ≤ n) (hn : n ≤ 2000) {zz : Int} {bb : Bool} (ham : amt a = true) (har : -9223372036854775808 ≤ a ∧ a ≤ 9223372036854775807) (hz : smN (rndQ ((a : Rat) * x)) = zz ∧ smB (rndQ ((a : Rat) * x)) = bb) (hbb : bb = false) :
  Calls Tryz.prog 48 #[.int .i64 a, v] w fun e w' => e = .returned (.tuple #[.int .i64 0, .int .i64 2]) ∧ Below w.heap.size w w' := by
 have HR := Lib.hid har
 have HZ := Lib.hid hz
 have HBB := Lib.hid hbb
 clear har hz hbb
 obtain ⟨k, A, l, c, k', A', l', c', rfl⟩ := h.open
 have H1 := Lib.hid h
 have HAM := Lib.hid ham
 clear h ham
 go_enter Tryz.func48, Tryz.ntmps48
 go_upto_region 1 with (fail)
 change Code.wp Tryz.prog _ _ _ (w.alloc (.cells #[.bool k, .slice A l c, .bool k', .slice A' l' c'] 35))
 obtain ⟨nb3, na⟩ := new1 w 35 [.bool k, .slice A l c, .bool k', .slice A' l' c'] lf4
 have nkeep := Keep.ofBelow na
 have nbel := na
 generalize w.alloc (.cells #[.bool k, .slice A l c, .bool k', .slice A' l' c'] 35) = W1 at *
 clear na
 have b3 := Lib.hid nb3
 clear nb3
 replace H1 := Lib.hid (H1.out.kept nkeep)
 clear nkeep
 have HB2 := Lib.hid nbel
 clear nbel
 obtain ⟨x30, x31, x32, x33, s3⟩ := b3.out.d4
 have szb := HB2.out.size
 go_wp2_with fail
 refine (ramount_is HAM.out _).mono ?_
 rintro e W3 ⟨rfl, hb⟩
 replace b3 := hup b3 hb
 replace H1 := Lib.hid (H1.out.kept (Keep.ofBelow hb))
 have nbel := below_then HB2.out hb HB2.out.size
 have HB4 := Lib.hid nbel
 clear nbel HB2 hb x30 x31 x32 x33 szb s3
 obtain ⟨x30, x31, x32, x33, s3⟩ := b3.out.d4
 have szb := HB4.out.size
 go_upto_region 3 with (fail)
 refine AS.region_facts (rscaleFL a zz bb x n) (JNo W3) [[], [12], [], [13, 14], [15], [16], [17], [11], [11], [18], [19]] [] [[]] [0, 0, 0, 0, 0, 0, 0, 0, 0, 0, 0] [] (fun u => by simp only [rscaleFL, AS.temps, List.map_cons, List.map_nil, fillL, List.setIfInBounds_toArray, List.set_cons_zero, List.set_cons_succ]; rfl) (by kernel_rfl) (by kernel_rfl) (JNo.st W3) (below_drew (Below.refl _ _)) ?_ ?_
 ·refine AS.sc rfl rfl rfl ?_ ?_
  ·intro k_ u w_ hk hJ hF K hK
   clear hF
   go_simp
   exact hK.out _ _ (Below.refl _ _) (rfl) trivial
  refine AS.sc rfl rfl rfl ?_ ?_
  ·intro k_ u w_ hk hJ hF K hK
   have h12 : u 12 = .int .i64 a := AS.facts_get hF 12 (by simp)
   clear hF
   simp only [h12] at hK ⊢
   clear h12
   go_simp
   refine (rint_fact (a := a) HR.out).mono ?_
   rintro e w' ⟨v, rfl, hv, hb⟩
   exact hK.out _ _ hb (hv) trivial
  refine AS.sc rfl rfl rfl ?_ ?_
  ·intro k_ u w_ hk hJ hF K hK
   clear hF
   obtain rfl : k_ = 0 := Nat.le_zero.1 hk
   have hJ0 : Below W3.heap.size W3 w_ := hJ
   obtain ⟨y0, y1, y2, y3⟩ := ((b3.out).up hJ0).c4
   go_simp
   exact hK.out _ _ (Below.refl _ _) ((H1.out).kept (Keep.ofBelow hJ0)) trivial
  refine AS.sc rfl rfl rfl ?_ ?_
  ·intro k_ u w_ hk hJ hF K hK
   have h13 : RRat ((a : Rat)) 5 (u 13) w_ := AS.facts_get hF 13 (by simp)
   have h14 : RRat (x) n (u 14) w_ := AS.facts_get hF 14 (by simp)
   clear hF
   go_simp
   refine (rratMul_fact (n := n) (h13.more (by omega)) h14 (by omega) (by omega)).mono ?_
   rintro e w' ⟨v, rfl, hv, hb⟩
   exact hK.out _ _ hb (hv) trivial
  refine AS.sc rfl rfl rfl ?_ ?_
  ·intro k_ u w_ hk hJ hF K hK
   have h15 : RRat ((a : Rat) * x) (n + n) (u 15) w_ := AS.facts_get hF 15 (by simp)
   clear hF
   go_simp
   refine (rround_fact h15 (by omega) (by omega)).mono ?_
   rintro e w' ⟨v, rfl, hv, hb⟩
   exact hK.out _ _ hb (hv) trivial
  refine AS.sc rfl rfl rfl ?_ ?_
  ·intro k_ u w_ hk hJ hF K hK
   have h16 : PRef (rndQ ((a : Rat) * x)) ((n + n) + (n + n) + 6) (u 16) w_ := AS.facts_get hF 16 (by simp)
   clear hF
   go_simp
   refine (rsmall_is h16 (by omega) HZ.out.1 HZ.out.2).mono ?_
   rintro e w' ⟨rfl, hb⟩
   exact hK.out _ _ hb (rfl) trivial
  refine AS.sc rfl rfl rfl ?_ ?_
  ·intro k_ u w_ hk hJ hF K hK
   have h17 : u 17 = .tuple #[.int .i64 zz, .bool bb] := AS.facts_get hF 17 (by simp)
   clear hF
   simp only [h17] at hK ⊢
   clear h17
   go_simp
   exact hK.out _ _ (Below.refl _ _) (rfl) trivial
  refine AS.sc rfl rfl rfl ?_ ?_
  ·intro k_ u w_ hk hJ hF K hK
   have h11 : u 11 = .tuple #[.int .i64 zz, .bool bb] := AS.facts_get hF 11 (by simp)
   clear hF
   simp only [h11] at hK ⊢
   clear h11
   go_simp
   exact hK.out _ _ (Below.refl _ _) (rfl) trivial
  refine AS.sc rfl rfl rfl ?_ ?_
  ·intro k_ u w_ hk hJ hF K hK
   have h11 : u 11 = .tuple #[.int .i64 zz, .bool bb] := AS.facts_get hF 11 (by simp)
   clear hF
   simp only [h11] at hK ⊢
   clear h11
   go_simp
   exact hK.out _ _ (Below.refl _ _) (rfl) trivial
  refine AS.sc rfl rfl rfl ?_ ?_
  ·intro k_ u w_ hk hJ hF K hK
   have h18 : u 18 = .int .i64 zz := AS.facts_get hF 18 (by simp)
   clear hF
   simp only [h18] at hK ⊢
   clear h18
   go_simp
   exact hK.out _ _ (Below.refl _ _) (rfl) trivial
  refine AS.sc rfl rfl rfl ?_ ?_
  ·intro k_ u w_ hk hJ hF K hK
   have h19 : u 19 = .bool bb := AS.facts_get hF 19 (by simp)
   clear hF
   simp only [h19] at hK ⊢
   clear h19
   go_simp
   exact hK.out _ _ (Below.refl _ _) (rfl) trivial
  exact AS.StepsOk.nil
 ·intro u W5 hJ9 hF
  have h6 : u 6 = .int .i64 zz := AS.facts_get hF 6 (by simp [rscaleFL, AS.temps])
  have h7 : u 7 = .bool bb := AS.facts_get hF 7 (by simp [rscaleFL, AS.temps])
  clear hF
  rw [show u 6 = _ from h6, show u 7 = _ from h7]
  clear h6 h7
  replace b3 := hup b3 hJ9
  replace H1 := Lib.hid (H1.out.kept (Keep.ofBelow hJ9))
  have nbel := below_then HB4.out hJ9 HB4.out.size
  have HB6 := Lib.hid nbel
  clear nbel HB4 hJ9 x30 x31 x32 x33 szb s3
  obtain ⟨x30, x31, x32, x33, s3⟩ := b3.out.d4
  have szb := HB6.out.size
  obtain rfl : bb = false := HBB.out
  go_wp2_with fail
  have hkeep := (Keep.refl W5)
  have hbel := HB6.out
  refine bodyPost_ret (v := .tuple #[.int .i64 0, .int .i64 2]) (by simp [results, Tryz.results48, go_sem]) rfl ⟨rfl, hbel⟩
theorem rratScale_fact {a : Int} {x : Rat} {n : Nat} {v : Value} {w : World} (h : RRat x n v w) (hn3 : 5 ≤ n) (hn : n ≤ 2000) :
  Calls Tryz.prog 48 #[.int .i64 a, v] w fun e w' => e = .returned (.tuple #[.int .i64 (scaleN a x), .int .i64 (scaleE a x)]) ∧ Below w.heap.size w w' := by
 cases ham : amt a with
 | false =>
  have e1 : scaleN a x = 0 := by unfold scaleN; rw [ham]; rfl
  have e2 : scaleE a x = 1 := by unfold scaleE; rw [ham]; rfl
  rw [e1, e2]
  exact rscale_arg h hn3 hn ham
 | true =>
  have har := amt_range ham
  cases hzm : amt (rndQ ((a : Rat) * x)) with
  | true =>
   have hr := amt_range hzm
   have e1 : scaleN a x = rndQ ((a : Rat) * x) := by unfold scaleN; rw [ham, hzm]; rfl
   have e2 : scaleE a x = 0 := by unfold scaleE; rw [ham, hzm]; rfl
   rw [e1, e2]
   have hb : smB (rndQ ((a : Rat) * x)) = true := by unfold smB; simp; omega
   exact rscale_ok h hn3 hn ham (by omega) ⟨by unfold smN; rw [if_pos hb], hb⟩ rfl hzm
  | false =>
   have e1 : scaleN a x = 0 := by unfold scaleN; rw [ham, hzm]; rfl
   have e2 : scaleE a x = 2 := by unfold scaleE; rw [ham, hzm]; rfl
   rw [e1, e2]
   cases hb : smB (rndQ ((a : Rat) * x)) with
   | true => exact rscale_big h hn3 hn ham (by omega) ⟨by unfold smN; rw [if_pos hb], hb⟩ rfl hzm
   | false => exact rscale_not h hn3 hn ham (by omega) ⟨rfl, hb⟩ rfl
theorem rratScale_is {a r s : Int} {x : Rat} {n : Nat} {v : Value} {w : World} (h : RRat x n v w) (hn3 : 5 ≤ n) (hn : n ≤ 2000) (hrs : scaleN a x = r ∧ scaleE a x = s) :
  Calls Tryz.prog 48 #[.int .i64 a, v] w fun e w' => e = .returned (.tuple #[.int .i64 r, .int .i64 s]) ∧ Below w.heap.size w w' := by
 obtain ⟨rfl, rfl⟩ := hrs
 exact rratScale_fact h hn3 hn
set_option maxRecDepth 20000 in
set_option maxHeartbeats 6400000 in
theorem law_scale (a : Int) (s : ByteArray) (w : World) (hm : MaxOk w) (ht : Tab w.heap.size w) :
  Calls Tryz.prog 10 #[.int .i64 a, .string s] w fun e w' => e = .returned (.bool true) ∧ Below w.heap.size w w' := by
 have HM := Lib.hid hm
 have HT := Lib.hid ht
 clear hm ht
 go_enter Tryz.func10, Tryz.ntmps10
 go_wp2_with fail
 refine (awake_fact HT.out).mono ?_
 rintro e W1 ⟨rfl, hb⟩
 have nbel := hb
 have HB2 := Lib.hid nbel
 clear nbel hb
 have szb := HB2.out.size
 go_wp2_with fail
 refine (both_fact s ⟨#[48]⟩ _ (HM.out.up HB2.out)).mono ?_
 rintro e W3 ⟨k1, A1, l1, c1, m1, E1, p1, q1, k2, A2, l2, c2, m2, E2, p2, q2, k3, A3, l3, c3, m3, E3, p3, q3, k4, A4, l4, c4, m4, E4, p4, q4, ok, rfl, hv, hb⟩
 have nbel := below_then HB2.out hb HB2.out.size
 have HB4 := Lib.hid nbel
 clear nbel HB2 hb szb
 have szb := HB4.out.size
 generalize ratV s.data.toList = x at hv
 have HB0 := Lib.hid (OkP.mk hv)
 clear hv
 go_upto_region 4 with (fail)
 change Code.wp Tryz.prog _ _ _ ((((W3.alloc (.cells #[.bool k1, .slice A1 l1 c1, .bool m1, .slice E1 p1 q1] 27)).alloc (.cells #[.bool k2, .slice A2 l2 c2, .bool m2, .slice E2 p2 q2] 27)).alloc (.cells #[.bool k3, .slice A3 l3 c3, .bool m3, .slice E3 p3 q3] 35)).alloc (.cells #[.bool k4, .slice A4 l4 c4, .bool m4, .slice E4 p4 q4] 35))
 obtain ⟨nb5, nb6, nb7, nb8, na⟩ := new4 W3 27 [.bool k1, .slice A1 l1 c1, .bool m1, .slice E1 p1 q1] 27 [.bool k2, .slice A2 l2 c2, .bool m2, .slice E2 p2 q2] 35 [.bool k3, .slice A3 l3 c3, .bool m3, .slice E3 p3 q3] 35 [.bool k4, .slice A4 l4 c4, .bool m4, .slice E4 p4 q4] lf4 lf4 lf4 lf4
 have nkeep := Keep.ofBelow na
 have nbel := below_then HB4.out na HB4.out.size
 generalize (((W3.alloc (.cells #[.bool k1, .slice A1 l1 c1, .bool m1, .slice E1 p1 q1] 27)).alloc (.cells #[.bool k2, .slice A2 l2 c2, .bool m2, .slice E2 p2 q2] 27)).alloc (.cells #[.bool k3, .slice A3 l3 c3, .bool m3, .slice E3 p3 q3] 35)).alloc (.cells #[.bool k4, .slice A4 l4 c4, .bool m4, .slice E4 p4 q4] 35) = W5 at *
 clear na szb
 have b5 := Lib.hid nb5
 have b6 := Lib.hid nb6
 have b7 := Lib.hid nb7
 have b8 := Lib.hid nb8
 clear nb5 nb6 nb7 nb8
 replace HB0 := Lib.hid (HB0.out.kept nkeep)
 clear nkeep
 have HB6 := Lib.hid nbel
 clear nbel HB4
 obtain ⟨x5_0, x5_1, x5_2, x5_3, s5⟩ := b5.out.d4
 obtain ⟨x6_0, x6_1, x6_2, x6_3, s6⟩ := b6.out.d4
 obtain ⟨x7_0, x7_1, x7_2, x7_3, s7⟩ := b7.out.d4
 obtain ⟨x8_0, x8_1, x8_2, x8_3, s8⟩ := b8.out.d4
 have szb := HB6.out.size
 cases ok with
 | false =>
  go_wp2_with fail
  have hkeep := (Keep.refl W5)
  have hbel := HB6.out
  refine bodyPost_ret (v := .bool true) (by simp [results, Tryz.results10, go_sem]) rfl ⟨rfl, hbel⟩
 | true =>
  have hh := HB0.out.go rfl
  have HX := Lib.hid hh.1
  have HA := Lib.hid hh.2.2.1
  clear hh HB0
  obtain ⟨z1, e1, hs1⟩ : ∃ r e, scaleN a x = r ∧ scaleE a x = e := ⟨_, _, rfl, rfl⟩
  have HS1 := Lib.hid hs1
  clear hs1
  go_wp2_with fail
  refine (ratScale_is HX.out (by decide) (by decide) HS1.out).mono ?_
  rintro e W7 ⟨rfl, hb⟩
  replace b5 := hup b5 hb
  replace b6 := hup b6 hb
  replace b7 := hup b7 hb
  replace b8 := hup b8 hb
  replace HX := Lib.hid (HX.out.kept (Keep.ofBelow hb))
  replace HA := Lib.hid (HA.out.kept (Keep.ofBelow hb))
  have nbel := below_then HB6.out hb HB6.out.size
  have HB8 := Lib.hid nbel
  clear nbel HB6 hb x5_0 x5_1 x5_2 x5_3 x6_0 x6_1 x6_2 x6_3 x7_0 x7_1 x7_2 x7_3 x8_0 x8_1 x8_2 x8_3 szb s5 s6 s7 s8
  obtain ⟨x5_0, x5_1, x5_2, x5_3, s5⟩ := b5.out.d4
  obtain ⟨x6_0, x6_1, x6_2, x6_3, s6⟩ := b6.out.d4
  obtain ⟨x7_0, x7_1, x7_2, x7_3, s7⟩ := b7.out.d4
  obtain ⟨x8_0, x8_1, x8_2, x8_3, s8⟩ := b8.out.d4
  have szb := HB8.out.size
  go_wp2_with fail
  refine (rratScale_is HA.out (by decide) (by decide) HS1.out).mono ?_
  rintro e W9 ⟨rfl, hb⟩
  replace b5 := hup b5 hb
  replace b6 := hup b6 hb
  replace b7 := hup b7 hb
  replace b8 := hup b8 hb
  replace HX := Lib.hid (HX.out.kept (Keep.ofBelow hb))
  replace HA := Lib.hid (HA.out.kept (Keep.ofBelow hb))
  have nbel := below_then HB8.out hb HB8.out.size
  have HB10 := Lib.hid nbel
  clear nbel HB8 hb x5_0 x5_1 x5_2 x5_3 x6_0 x6_1 x6_2 x6_3 x7_0 x7_1 x7_2 x7_3 x8_0 x8_1 x8_2 x8_3 szb s5 s6 s7 s8
  obtain ⟨x5_0, x5_1, x5_2, x5_3, s5⟩ := b5.out.d4
  obtain ⟨x6_0, x6_1, x6_2, x6_3, s6⟩ := b6.out.d4
  obtain ⟨x7_0, x7_1, x7_2, x7_3, s7⟩ := b7.out.d4
  obtain ⟨x8_0, x8_1, x8_2, x8_3, s8⟩ := b8.out.d4
  have szb := HB10.out.size
  go_wp2_with fail
  have hkeep := (Keep.refl W9)
  have hbel := HB10.out
  refine bodyPost_ret (v := .bool true) (by simp [results, Tryz.results10, go_sem]) rfl ⟨rfl, hbel⟩
end Go.Proofs.YtgihmikeapbpkaaGreatDoor
