/- Contracts of the functions that the statement reaches, part 8: what was proved of each, callees first. -/
import Derived.Test.YtmpdpfiokjepaaaDoorM7
/- Scale of rational numbers. -/
namespace Go.Proofs.YtmpdpfiokjepaaaDoor
open Go.RowKit
open AS (Keep NoInt)

/-- An amount. -/
def amt (n : Int) : Bool := decide (-1000000000000 ≤ n) && decide (n ≤ 1000000000000)
set_option maxHeartbeats 800000 in
theorem isAmount_fact (n : Int) (w : World) : Calls Tryd.prog 29 #[.int .i64 n] w fun e w' => e = .returned (.bool (amt n)) ∧ Below w.heap.size w w' := by
  unfold amt
  by_cases h1 : (-1000000000000 : Int) ≤ n
  · by_cases h2 : n ≤ 1000000000000
    · rw [decide_eq_true h1, decide_eq_true h2]
      go_enter Tryd.func29, Tryd.ntmps29
      go_wp2
      go_ret
      exact ⟨rfl, Below.refl _ _⟩
    · rw [decide_eq_true h1, decide_eq_false h2]
      have h3 : decide (n ≤ 1000000000000) = false := decide_eq_false h2
      clear h2
      go_enter Tryd.func29, Tryd.ntmps29
      go_wp2
      go_ret
      exact ⟨rfl, Below.refl _ _⟩
  · rw [decide_eq_false h1]
    have h3 : decide ((-1000000000000 : Int) ≤ n) = false := decide_eq_false h1
    clear h1
    go_enter Tryd.func29, Tryd.ntmps29
    go_wp2
    go_ret
    exact ⟨rfl, Below.refl _ _⟩
theorem isAmount_is {n : Int} {b : Bool} (hn : amt n = b) (w : World) : Calls Tryd.prog 29 #[.int .i64 n] w fun e w' => e = .returned (.bool b) ∧ Below w.heap.size w w' := hn ▸ isAmount_fact n w
theorem small_is {z zz : Int} {bb : Bool} {n : Nat} {a : Value} {w : World} (h1 : PInt z n a w) (hn : n ≤ 100000) (hz : smN z = zz) (hb : smB z = bb) :
    Calls Tryd.prog 30 #[a] w fun e w' => e = .returned (.tuple #[.int .i64 zz, .bool bb]) ∧ Below w.heap.size w w' := by
  subst hz hb
  exact small_fact h1 hn
set_option maxRecDepth 20000 in
set_option maxHeartbeats 3200000 in
theorem scale_arg {a : Int} {x : Rat} {n : Nat} {v : Value} {w : World} (h : PRat x n v w) (hn3 : 3 ≤ n) (hn : n ≤ 10000) (ham : amt a = false) :
    Calls Tryd.prog 15 #[.int .i64 a, v] w fun e w' => e = .returned (.tuple #[.int .i64 0, .int .i64 1]) ∧ Below w.heap.size w w' := by
  obtain ⟨k, A, l, c, k', A', l', c', rfl⟩ := h.open
  have H1 := Lib.hid h
  have HAM := Lib.hid ham
  clear h ham
  go_enter Tryd.func15, Tryd.ntmps15
  go_upto_region 1 with (fail)
  change Code.wp Tryd.prog _ _ _ (w.alloc (.cells #[.bool k, .slice A l c, .bool k', .slice A' l' c'] 27))
  have nb3 := (Bx.new 27 w [.bool k, .slice A l c, .bool k', .slice A' l' c'] (leaf4 (Leaf.bool k) (Leaf.slice A l c) (Leaf.bool k') (Leaf.slice A' l' c')))
  have nkeep := (Keep.alloc (Keep.refl w) (.cells #[.bool k, .slice A l c, .bool k', .slice A' l' c'] 27))
  have nbel : Below w.heap.size w (w.alloc (.cells #[.bool k, .slice A l c, .bool k', .slice A' l' c'] 27)) := (Below.alloc (Below.refl w.heap.size w) (by first | omega | (simp; done) | (simp; omega) | (simp [World.setCell]; done) | (simp [World.setCell]; omega)) (.cells #[.bool k, .slice A l c, .bool k', .slice A' l' c'] 27))
  generalize w.alloc (.cells #[.bool k, .slice A l c, .bool k', .slice A' l' c'] 27) = W1 at *
  have b3 := Lib.hid nb3
  clear nb3
  have f_ := Lib.hid (H1.out.kept nkeep)
  clear H1
  have H1 := f_
  clear f_
  clear nkeep
  have HB2 := Lib.hid nbel
  clear nbel
  have x3_0 : W1.cell? ⟨w.heap.size, 0, none⟩ = some (.bool k) := (b3.out).cell 0
  have x3_1 : W1.cell? ⟨w.heap.size, 1, none⟩ = some (.slice A l c) := (b3.out).cell 1
  have x3_2 : W1.cell? ⟨w.heap.size, 2, none⟩ = some (.bool k') := (b3.out).cell 2
  have x3_3 : W1.cell? ⟨w.heap.size, 3, none⟩ = some (.slice A' l' c') := (b3.out).cell 3
  have szb : w.heap.size ≤ W1.heap.size := HB2.out.size
  have s3 : w.heap.size < W1.heap.size := (b3.out).lt
  go_wp2_with fail
  refine (isAmount_is HAM.out _).mono ?_
  rintro e W3 ⟨rfl, hb⟩
  have nb := Lib.hid ((b3.out).up hb)
  clear b3
  have b3 := nb
  clear nb
  have f_ := Lib.hid (H1.out.kept (Keep.ofBelow hb))
  clear H1
  have H1 := f_
  clear f_
  have nbel := below_then HB2.out hb HB2.out.size
  have HB4 := Lib.hid nbel
  clear nbel
  clear HB2
  clear hb
  clear x3_0 x3_1 x3_2 x3_3 szb s3
  have x3_0 : W3.cell? ⟨w.heap.size, 0, none⟩ = some (.bool k) := (b3.out).cell 0
  have x3_1 : W3.cell? ⟨w.heap.size, 1, none⟩ = some (.slice A l c) := (b3.out).cell 1
  have x3_2 : W3.cell? ⟨w.heap.size, 2, none⟩ = some (.bool k') := (b3.out).cell 2
  have x3_3 : W3.cell? ⟨w.heap.size, 3, none⟩ = some (.slice A' l' c') := (b3.out).cell 3
  have szb : w.heap.size ≤ W3.heap.size := HB4.out.size
  have s3 : w.heap.size < W3.heap.size := (b3.out).lt
  go_wp2_with fail
  have hkeep := (Keep.refl W3)
  have hbel := HB4.out
  refine bodyPost_ret (v := .tuple #[.int .i64 0, .int .i64 1]) (by simp [results, Tryd.results15, go_sem]) rfl ⟨rfl, hbel⟩
def scaleFL (a zz : Int) (bb : Bool) (x : Rat) (n : Nat) : List (Nat × AS.Fact) := [(19, AS.Fact.is (.int .i64 a)), (20, AS.Fact.int (a) 3), (21, AS.Fact.int (x.num) n), (22, AS.Fact.int ((a) * (x.num)) (3 + n)), (23, AS.Fact.int ((x.den : Int)) n), (24, AS.Fact.int (rndI ((a) * (x.num)) (x.den : Int)) (2 * (n + 3) + 5)), (25, AS.Fact.is (.tuple #[.int .i64 zz, .bool bb])), (18, AS.Fact.is (.tuple #[.int .i64 zz, .bool bb])), (26, AS.Fact.is (.int .i64 zz)), (27, AS.Fact.is (.bool bb)), (8, AS.Fact.is (.int .i64 zz)), (9, AS.Fact.is (.bool bb))]
set_option maxRecDepth 20000 in
set_option maxHeartbeats 3200000 in
theorem scale_ok {a : Int} {x : Rat} {n : Nat} {v : Value} {w : World} (h : PRat x n v w) (hn3 : 3 ≤ n) (hn : n ≤ 10000) {zz : Int} {bb : Bool} (ham : amt a = true) (har : -9223372036854775808 ≤ a ∧ a ≤ 9223372036854775807) (hz : smN (rndI (a * x.num) (x.den : Int)) = zz ∧ smB (rndI (a * x.num) (x.den : Int)) = bb) (hbb : bb = true) (hza : amt zz = true) :
    Calls Tryd.prog 15 #[.int .i64 a, v] w fun e w' => e = .returned (.tuple #[.int .i64 zz, .int .i64 0]) ∧ Below w.heap.size w w' := by
  have HR := Lib.hid har
  have HZ := Lib.hid hz
  have HBB := Lib.hid hbb
  clear har hz hbb
  have HZA := Lib.hid hza
  clear hza
  obtain ⟨k, A, l, c, k', A', l', c', rfl⟩ := h.open
  have H1 := Lib.hid h
  have HAM := Lib.hid ham
  clear h ham
  go_enter Tryd.func15, Tryd.ntmps15
  go_upto_region 1 with (fail)
  change Code.wp Tryd.prog _ _ _ (w.alloc (.cells #[.bool k, .slice A l c, .bool k', .slice A' l' c'] 27))
  have nb3 := (Bx.new 27 w [.bool k, .slice A l c, .bool k', .slice A' l' c'] (leaf4 (Leaf.bool k) (Leaf.slice A l c) (Leaf.bool k') (Leaf.slice A' l' c')))
  have nkeep := (Keep.alloc (Keep.refl w) (.cells #[.bool k, .slice A l c, .bool k', .slice A' l' c'] 27))
  have nbel : Below w.heap.size w (w.alloc (.cells #[.bool k, .slice A l c, .bool k', .slice A' l' c'] 27)) := (Below.alloc (Below.refl w.heap.size w) (by first | omega | (simp; done) | (simp; omega) | (simp [World.setCell]; done) | (simp [World.setCell]; omega)) (.cells #[.bool k, .slice A l c, .bool k', .slice A' l' c'] 27))
  generalize w.alloc (.cells #[.bool k, .slice A l c, .bool k', .slice A' l' c'] 27) = W1 at *
  have b3 := Lib.hid nb3
  clear nb3
  have f_ := Lib.hid (H1.out.kept nkeep)
  clear H1
  have H1 := f_
  clear f_
  clear nkeep
  have HB2 := Lib.hid nbel
  clear nbel
  have x3_0 : W1.cell? ⟨w.heap.size, 0, none⟩ = some (.bool k) := (b3.out).cell 0
  have x3_1 : W1.cell? ⟨w.heap.size, 1, none⟩ = some (.slice A l c) := (b3.out).cell 1
  have x3_2 : W1.cell? ⟨w.heap.size, 2, none⟩ = some (.bool k') := (b3.out).cell 2
  have x3_3 : W1.cell? ⟨w.heap.size, 3, none⟩ = some (.slice A' l' c') := (b3.out).cell 3
  have szb : w.heap.size ≤ W1.heap.size := HB2.out.size
  have s3 : w.heap.size < W1.heap.size := (b3.out).lt
  go_wp2_with fail
  refine (isAmount_is HAM.out _).mono ?_
  rintro e W3 ⟨rfl, hb⟩
  have nb := Lib.hid ((b3.out).up hb)
  clear b3
  have b3 := nb
  clear nb
  have f_ := Lib.hid (H1.out.kept (Keep.ofBelow hb))
  clear H1
  have H1 := f_
  clear f_
  have nbel := below_then HB2.out hb HB2.out.size
  have HB4 := Lib.hid nbel
  clear nbel
  clear HB2
  clear hb
  clear x3_0 x3_1 x3_2 x3_3 szb s3
  have x3_0 : W3.cell? ⟨w.heap.size, 0, none⟩ = some (.bool k) := (b3.out).cell 0
  have x3_1 : W3.cell? ⟨w.heap.size, 1, none⟩ = some (.slice A l c) := (b3.out).cell 1
  have x3_2 : W3.cell? ⟨w.heap.size, 2, none⟩ = some (.bool k') := (b3.out).cell 2
  have x3_3 : W3.cell? ⟨w.heap.size, 3, none⟩ = some (.slice A' l' c') := (b3.out).cell 3
  have szb : w.heap.size ≤ W3.heap.size := HB4.out.size
  have s3 : w.heap.size < W3.heap.size := (b3.out).lt
  go_wp2_with fail
  refine (terms_fact H1.out hn3).mono ?_
  rintro e W5 ⟨k1, A1, l1, c1, j1, B1, o1, e1, rfl, ha_, hc_, hb⟩
  have nb := Lib.hid ((b3.out).up hb)
  clear b3
  have b3 := nb
  clear nb
  have f_ := Lib.hid (H1.out.kept (Keep.ofBelow hb))
  clear H1
  have H1 := f_
  clear f_
  have nbel := below_then HB4.out hb HB4.out.size
  have HB6 := Lib.hid nbel
  clear nbel
  clear HB4
  clear hb
  clear x3_0 x3_1 x3_2 x3_3 szb s3
  have x3_0 : W5.cell? ⟨w.heap.size, 0, none⟩ = some (.bool k) := (b3.out).cell 0
  have x3_1 : W5.cell? ⟨w.heap.size, 1, none⟩ = some (.slice A l c) := (b3.out).cell 1
  have x3_2 : W5.cell? ⟨w.heap.size, 2, none⟩ = some (.bool k') := (b3.out).cell 2
  have x3_3 : W5.cell? ⟨w.heap.size, 3, none⟩ = some (.slice A' l' c') := (b3.out).cell 3
  have szb : w.heap.size ≤ W5.heap.size := HB6.out.size
  have s3 : w.heap.size < W5.heap.size := (b3.out).lt
  have HA := Lib.hid ha_
  have HB := Lib.hid hc_
  clear ha_ hc_
  go_upto_region 4 with (fail)
  have q7 : w.heap.size < W5.heap.size := (b3.out).lt
  change Code.wp Tryd.prog _ _ _ ((W5.alloc (.cells #[.bool k1, .slice A1 l1 c1] 25)).alloc (.cells #[.bool j1, .slice B1 o1 e1] 25))
  have nb3 : Bx 27 ((W5.alloc (.cells #[.bool k1, .slice A1 l1 c1] 25)).alloc (.cells #[.bool j1, .slice B1 o1 e1] 25)) w.heap.size [.bool k, .slice A l c, .bool k', .slice A' l' c'] := (Bx.alloc (Bx.alloc b3.out (.cells #[.bool k1, .slice A1 l1 c1] 25)) (.cells #[.bool j1, .slice B1 o1 e1] 25))
  have nb6 := (Bx.alloc (Bx.new 25 W5 [.bool k1, .slice A1 l1 c1] (leaf2 (Leaf.bool k1) (Leaf.slice A1 l1 c1))) (.cells #[.bool j1, .slice B1 o1 e1] 25))
  have nb7 := (Bx.new 25 (W5.alloc (.cells #[.bool k1, .slice A1 l1 c1] 25)) [.bool j1, .slice B1 o1 e1] (leaf2 (Leaf.bool j1) (Leaf.slice B1 o1 e1)))
  rw [show (W5.alloc (.cells #[.bool k1, .slice A1 l1 c1] 25)).heap.size = W5.heap.size + 1 by simp] at nb7
  have nkeep := (Keep.alloc (Keep.alloc (Keep.refl W5) (.cells #[.bool k1, .slice A1 l1 c1] 25)) (.cells #[.bool j1, .slice B1 o1 e1] 25))
  have nbel : Below w.heap.size w ((W5.alloc (.cells #[.bool k1, .slice A1 l1 c1] 25)).alloc (.cells #[.bool j1, .slice B1 o1 e1] 25)) := (Below.alloc (Below.alloc HB6.out (by first | omega | (simp; done) | (simp; omega) | (simp [World.setCell]; done) | (simp [World.setCell]; omega)) (.cells #[.bool k1, .slice A1 l1 c1] 25)) (by first | omega | (simp; done) | (simp; omega) | (simp [World.setCell]; done) | (simp [World.setCell]; omega)) (.cells #[.bool j1, .slice B1 o1 e1] 25))
  generalize (W5.alloc (.cells #[.bool k1, .slice A1 l1 c1] 25)).alloc (.cells #[.bool j1, .slice B1 o1 e1] 25) = W8 at *
  clear x3_0 x3_1 x3_2 x3_3 szb s3
  clear b3
  have b3 := Lib.hid nb3
  have b6 := Lib.hid nb6
  have b7 := Lib.hid nb7
  clear nb3 nb6 nb7
  have f_ := Lib.hid (H1.out.kept nkeep)
  clear H1
  have H1 := f_
  clear f_
  have f_ := Lib.hid (HA.out.kept nkeep)
  clear HA
  have HA := f_
  clear f_
  have f_ := Lib.hid (HB.out.kept nkeep)
  clear HB
  have HB := f_
  clear f_
  clear nkeep
  have HB9 := Lib.hid nbel
  clear nbel
  clear HB6
  have x3_0 : W8.cell? ⟨w.heap.size, 0, none⟩ = some (.bool k) := (b3.out).cell 0
  have x3_1 : W8.cell? ⟨w.heap.size, 1, none⟩ = some (.slice A l c) := (b3.out).cell 1
  have x3_2 : W8.cell? ⟨w.heap.size, 2, none⟩ = some (.bool k') := (b3.out).cell 2
  have x3_3 : W8.cell? ⟨w.heap.size, 3, none⟩ = some (.slice A' l' c') := (b3.out).cell 3
  have x6_0 : W8.cell? ⟨W5.heap.size, 0, none⟩ = some (.bool k1) := (b6.out).cell 0
  have x6_1 : W8.cell? ⟨W5.heap.size, 1, none⟩ = some (.slice A1 l1 c1) := (b6.out).cell 1
  have x7_0 : W8.cell? ⟨W5.heap.size + 1, 0, none⟩ = some (.bool j1) := (b7.out).cell 0
  have x7_1 : W8.cell? ⟨W5.heap.size + 1, 1, none⟩ = some (.slice B1 o1 e1) := (b7.out).cell 1
  have szb : w.heap.size ≤ W8.heap.size := HB9.out.size
  have s3 : w.heap.size < W8.heap.size := (b3.out).lt
  have s6 : W5.heap.size < W8.heap.size := (b6.out).lt
  have s7 : W5.heap.size + 1 < W8.heap.size := (b7.out).lt
  refine AS.region_facts (scaleFL a zz bb x n) (JNo W8) [[], [19], [], [20, 21], [], [22, 23], [24], [25], [18], [18], [26], [27]] [] [[]] [0, 0, 0, 0, 0, 0, 0, 0, 0, 0, 0, 0] [] (fun u => by simp only [scaleFL, AS.temps, List.map_cons, List.map_nil, fillL, List.setIfInBounds_toArray, List.set_cons_zero, List.set_cons_succ]; rfl) (by kernel_rfl) (by kernel_rfl) (JNo.st W8) (below_drew (Below.refl _ _)) ?_ ?_
  · refine AS.StepsOk.cons rfl rfl rfl ?_ ?_
    · intro k_ u w_ hk hJ hF K hK
      clear hF
      go_simp
      exact hK.out _ _ (Below.refl _ _) (rfl) trivial
    refine AS.StepsOk.cons rfl rfl rfl ?_ ?_
    · intro k_ u w_ hk hJ hF K hK
      have h19 : u 19 = .int .i64 a := AS.facts_get hF 19 (by simp)
      clear hF
      simp only [h19] at hK ⊢
      clear h19
      go_simp
      refine (of_fact (n := a) HR.out.1 HR.out.2).mono ?_
      rintro e w' ⟨v, rfl, hv, hb⟩
      exact hK.out _ _ hb (hv) trivial
    refine AS.StepsOk.cons rfl rfl rfl ?_ ?_
    · intro k_ u w_ hk hJ hF K hK
      clear hF
      obtain rfl : k_ = 0 := Nat.le_zero.1 hk
      have hJ0 : Below W8.heap.size W8 w_ := hJ
      have y0 : w_.cell? ⟨W5.heap.size, 0, none⟩ = some (.bool k1) := ((b6.out).up hJ0).cell 0
      have y1 : w_.cell? ⟨W5.heap.size, 1, none⟩ = some (.slice A1 l1 c1) := ((b6.out).up hJ0).cell 1
      go_simp
      exact hK.out _ _ (Below.refl _ _) ((HA.out).kept (Keep.ofBelow hJ0)) trivial
    refine AS.StepsOk.cons rfl rfl rfl ?_ ?_
    · intro k_ u w_ hk hJ hF K hK
      have h20 : PInt (a) 3 (u 20) w_ := AS.facts_get hF 20 (by simp)
      have h21 : PInt (x.num) n (u 21) w_ := AS.facts_get hF 21 (by simp)
      clear hF
      go_simp
      refine (mul_fact h20 h21 (by omega) (by omega)).mono ?_
      rintro e w' ⟨v, rfl, hv, hb⟩
      exact hK.out _ _ hb (hv) trivial
    refine AS.StepsOk.cons rfl rfl rfl ?_ ?_
    · intro k_ u w_ hk hJ hF K hK
      clear hF
      obtain rfl : k_ = 0 := Nat.le_zero.1 hk
      have hJ0 : Below W8.heap.size W8 w_ := hJ
      have y0 : w_.cell? ⟨W5.heap.size + 1, 0, none⟩ = some (.bool j1) := ((b7.out).up hJ0).cell 0
      have y1 : w_.cell? ⟨W5.heap.size + 1, 1, none⟩ = some (.slice B1 o1 e1) := ((b7.out).up hJ0).cell 1
      go_simp
      exact hK.out _ _ (Below.refl _ _) ((HB.out).kept (Keep.ofBelow hJ0)) trivial
    refine AS.StepsOk.cons rfl rfl rfl ?_ ?_
    · intro k_ u w_ hk hJ hF K hK
      have h22 : PInt ((a) * (x.num)) (3 + n) (u 22) w_ := AS.facts_get hF 22 (by simp)
      have h23 : PInt ((x.den : Int)) n (u 23) w_ := AS.facts_get hF 23 (by simp)
      clear hF
      go_simp
      refine (near_fact (n := n + 3) (h22.more (by omega)) (h23.more (by omega)) (by omega) (Int.natCast_pos.2 x.den_pos)).mono ?_
      rintro e w' ⟨v, rfl, hv, hb⟩
      exact hK.out _ _ hb (hv) trivial
    refine AS.StepsOk.cons rfl rfl rfl ?_ ?_
    · intro k_ u w_ hk hJ hF K hK
      have h24 : PInt (rndI ((a) * (x.num)) (x.den : Int)) (2 * (n + 3) + 5) (u 24) w_ := AS.facts_get hF 24 (by simp)
      clear hF
      go_simp
      refine (small_is h24 (by omega) HZ.out.1 HZ.out.2).mono ?_
      rintro e w' ⟨rfl, hb⟩
      exact hK.out _ _ hb (rfl) trivial
    refine AS.StepsOk.cons rfl rfl rfl ?_ ?_
    · intro k_ u w_ hk hJ hF K hK
      have h25 : u 25 = .tuple #[.int .i64 zz, .bool bb] := AS.facts_get hF 25 (by simp)
      clear hF
      simp only [h25] at hK ⊢
      clear h25
      go_simp
      exact hK.out _ _ (Below.refl _ _) (rfl) trivial
    refine AS.StepsOk.cons rfl rfl rfl ?_ ?_
    · intro k_ u w_ hk hJ hF K hK
      have h18 : u 18 = .tuple #[.int .i64 zz, .bool bb] := AS.facts_get hF 18 (by simp)
      clear hF
      simp only [h18] at hK ⊢
      clear h18
      go_simp
      exact hK.out _ _ (Below.refl _ _) (rfl) trivial
    refine AS.StepsOk.cons rfl rfl rfl ?_ ?_
    · intro k_ u w_ hk hJ hF K hK
      have h18 : u 18 = .tuple #[.int .i64 zz, .bool bb] := AS.facts_get hF 18 (by simp)
      clear hF
      simp only [h18] at hK ⊢
      clear h18
      go_simp
      exact hK.out _ _ (Below.refl _ _) (rfl) trivial
    refine AS.StepsOk.cons rfl rfl rfl ?_ ?_
    · intro k_ u w_ hk hJ hF K hK
      have h26 : u 26 = .int .i64 zz := AS.facts_get hF 26 (by simp)
      clear hF
      simp only [h26] at hK ⊢
      clear h26
      go_simp
      exact hK.out _ _ (Below.refl _ _) (rfl) trivial
    refine AS.StepsOk.cons rfl rfl rfl ?_ ?_
    · intro k_ u w_ hk hJ hF K hK
      have h27 : u 27 = .bool bb := AS.facts_get hF 27 (by simp)
      clear hF
      simp only [h27] at hK ⊢
      clear h27
      go_simp
      exact hK.out _ _ (Below.refl _ _) (rfl) trivial
    exact AS.StepsOk.nil
  · intro u W10 hJ9 hF
    have h8 : u 8 = .int .i64 zz := AS.facts_get hF 8 (by simp [scaleFL, AS.temps])
    have h9 : u 9 = .bool bb := AS.facts_get hF 9 (by simp [scaleFL, AS.temps])
    clear hF
    rw [show u 8 = _ from h8, show u 9 = _ from h9]
    clear h8 h9
    have nb := Lib.hid ((b3.out).up hJ9)
    clear b3
    have b3 := nb
    clear nb
    have nb := Lib.hid ((b6.out).up hJ9)
    clear b6
    have b6 := nb
    clear nb
    have nb := Lib.hid ((b7.out).up hJ9)
    clear b7
    have b7 := nb
    clear nb
    have f_ := Lib.hid (H1.out.kept (Keep.ofBelow hJ9))
    clear H1
    have H1 := f_
    clear f_
    have f_ := Lib.hid (HA.out.kept (Keep.ofBelow hJ9))
    clear HA
    have HA := f_
    clear f_
    have f_ := Lib.hid (HB.out.kept (Keep.ofBelow hJ9))
    clear HB
    have HB := f_
    clear f_
    have nbel := below_then HB9.out hJ9 HB9.out.size
    have HB11 := Lib.hid nbel
    clear nbel
    clear HB9
    clear hJ9
    clear x3_0 x3_1 x3_2 x3_3 x6_0 x6_1 x7_0 x7_1 szb s3 s6 s7
    have x3_0 : W10.cell? ⟨w.heap.size, 0, none⟩ = some (.bool k) := (b3.out).cell 0
    have x3_1 : W10.cell? ⟨w.heap.size, 1, none⟩ = some (.slice A l c) := (b3.out).cell 1
    have x3_2 : W10.cell? ⟨w.heap.size, 2, none⟩ = some (.bool k') := (b3.out).cell 2
    have x3_3 : W10.cell? ⟨w.heap.size, 3, none⟩ = some (.slice A' l' c') := (b3.out).cell 3
    have x6_0 : W10.cell? ⟨W5.heap.size, 0, none⟩ = some (.bool k1) := (b6.out).cell 0
    have x6_1 : W10.cell? ⟨W5.heap.size, 1, none⟩ = some (.slice A1 l1 c1) := (b6.out).cell 1
    have x7_0 : W10.cell? ⟨W5.heap.size + 1, 0, none⟩ = some (.bool j1) := (b7.out).cell 0
    have x7_1 : W10.cell? ⟨W5.heap.size + 1, 1, none⟩ = some (.slice B1 o1 e1) := (b7.out).cell 1
    have szb : w.heap.size ≤ W10.heap.size := HB11.out.size
    have s3 : w.heap.size < W10.heap.size := (b3.out).lt
    have s6 : W5.heap.size < W10.heap.size := (b6.out).lt
    have s7 : W5.heap.size + 1 < W10.heap.size := (b7.out).lt
    obtain rfl : bb = true := HBB.out
    go_wp2_with fail
    refine (isAmount_is HZA.out _).mono ?_
    rintro e W12 ⟨rfl, hb⟩
    have nb := Lib.hid ((b3.out).up hb)
    clear b3
    have b3 := nb
    clear nb
    have nb := Lib.hid ((b6.out).up hb)
    clear b6
    have b6 := nb
    clear nb
    have nb := Lib.hid ((b7.out).up hb)
    clear b7
    have b7 := nb
    clear nb
    have f_ := Lib.hid (H1.out.kept (Keep.ofBelow hb))
    clear H1
    have H1 := f_
    clear f_
    have f_ := Lib.hid (HA.out.kept (Keep.ofBelow hb))
    clear HA
    have HA := f_
    clear f_
    have f_ := Lib.hid (HB.out.kept (Keep.ofBelow hb))
    clear HB
    have HB := f_
    clear f_
    have nbel := below_then HB11.out hb HB11.out.size
    have HB13 := Lib.hid nbel
    clear nbel
    clear HB11
    clear hb
    clear x3_0 x3_1 x3_2 x3_3 x6_0 x6_1 x7_0 x7_1 szb s3 s6 s7
    have x3_0 : W12.cell? ⟨w.heap.size, 0, none⟩ = some (.bool k) := (b3.out).cell 0
    have x3_1 : W12.cell? ⟨w.heap.size, 1, none⟩ = some (.slice A l c) := (b3.out).cell 1
    have x3_2 : W12.cell? ⟨w.heap.size, 2, none⟩ = some (.bool k') := (b3.out).cell 2
    have x3_3 : W12.cell? ⟨w.heap.size, 3, none⟩ = some (.slice A' l' c') := (b3.out).cell 3
    have x6_0 : W12.cell? ⟨W5.heap.size, 0, none⟩ = some (.bool k1) := (b6.out).cell 0
    have x6_1 : W12.cell? ⟨W5.heap.size, 1, none⟩ = some (.slice A1 l1 c1) := (b6.out).cell 1
    have x7_0 : W12.cell? ⟨W5.heap.size + 1, 0, none⟩ = some (.bool j1) := (b7.out).cell 0
    have x7_1 : W12.cell? ⟨W5.heap.size + 1, 1, none⟩ = some (.slice B1 o1 e1) := (b7.out).cell 1
    have szb : w.heap.size ≤ W12.heap.size := HB13.out.size
    have s3 : w.heap.size < W12.heap.size := (b3.out).lt
    have s6 : W5.heap.size < W12.heap.size := (b6.out).lt
    have s7 : W5.heap.size + 1 < W12.heap.size := (b7.out).lt
    go_wp2_with fail
    have hkeep := (Keep.refl W12)
    have hbel := HB13.out
    refine bodyPost_ret (v := .tuple #[.int .i64 zz, .int .i64 0]) (by simp [results, Tryd.results15, go_sem]) rfl ⟨rfl, hbel⟩
set_option maxRecDepth 20000 in
set_option maxHeartbeats 3200000 in
theorem scale_big {a : Int} {x : Rat} {n : Nat} {v : Value} {w : World} (h : PRat x n v w) (hn3 : 3 ≤ n) (hn : n ≤ 10000) {zz : Int} {bb : Bool} (ham : amt a = true) (har : -9223372036854775808 ≤ a ∧ a ≤ 9223372036854775807) (hz : smN (rndI (a * x.num) (x.den : Int)) = zz ∧ smB (rndI (a * x.num) (x.den : Int)) = bb) (hbb : bb = true) (hza : amt zz = false) :
    Calls Tryd.prog 15 #[.int .i64 a, v] w fun e w' => e = .returned (.tuple #[.int .i64 0, .int .i64 2]) ∧ Below w.heap.size w w' := by
  have HR := Lib.hid har
  have HZ := Lib.hid hz
  have HBB := Lib.hid hbb
  clear har hz hbb
  have HZA := Lib.hid hza
  clear hza
  obtain ⟨k, A, l, c, k', A', l', c', rfl⟩ := h.open
  have H1 := Lib.hid h
  have HAM := Lib.hid ham
  clear h ham
  go_enter Tryd.func15, Tryd.ntmps15
  go_upto_region 1 with (fail)
  change Code.wp Tryd.prog _ _ _ (w.alloc (.cells #[.bool k, .slice A l c, .bool k', .slice A' l' c'] 27))
  have nb3 := (Bx.new 27 w [.bool k, .slice A l c, .bool k', .slice A' l' c'] (leaf4 (Leaf.bool k) (Leaf.slice A l c) (Leaf.bool k') (Leaf.slice A' l' c')))
  have nkeep := (Keep.alloc (Keep.refl w) (.cells #[.bool k, .slice A l c, .bool k', .slice A' l' c'] 27))
  have nbel : Below w.heap.size w (w.alloc (.cells #[.bool k, .slice A l c, .bool k', .slice A' l' c'] 27)) := (Below.alloc (Below.refl w.heap.size w) (by first | omega | (simp; done) | (simp; omega) | (simp [World.setCell]; done) | (simp [World.setCell]; omega)) (.cells #[.bool k, .slice A l c, .bool k', .slice A' l' c'] 27))
  generalize w.alloc (.cells #[.bool k, .slice A l c, .bool k', .slice A' l' c'] 27) = W1 at *
  have b3 := Lib.hid nb3
  clear nb3
  have f_ := Lib.hid (H1.out.kept nkeep)
  clear H1
  have H1 := f_
  clear f_
  clear nkeep
  have HB2 := Lib.hid nbel
  clear nbel
  have x3_0 : W1.cell? ⟨w.heap.size, 0, none⟩ = some (.bool k) := (b3.out).cell 0
  have x3_1 : W1.cell? ⟨w.heap.size, 1, none⟩ = some (.slice A l c) := (b3.out).cell 1
  have x3_2 : W1.cell? ⟨w.heap.size, 2, none⟩ = some (.bool k') := (b3.out).cell 2
  have x3_3 : W1.cell? ⟨w.heap.size, 3, none⟩ = some (.slice A' l' c') := (b3.out).cell 3
  have szb : w.heap.size ≤ W1.heap.size := HB2.out.size
  have s3 : w.heap.size < W1.heap.size := (b3.out).lt
  go_wp2_with fail
  refine (isAmount_is HAM.out _).mono ?_
  rintro e W3 ⟨rfl, hb⟩
  have nb := Lib.hid ((b3.out).up hb)
  clear b3
  have b3 := nb
  clear nb
  have f_ := Lib.hid (H1.out.kept (Keep.ofBelow hb))
  clear H1
  have H1 := f_
  clear f_
  have nbel := below_then HB2.out hb HB2.out.size
  have HB4 := Lib.hid nbel
  clear nbel
  clear HB2
  clear hb
  clear x3_0 x3_1 x3_2 x3_3 szb s3
  have x3_0 : W3.cell? ⟨w.heap.size, 0, none⟩ = some (.bool k) := (b3.out).cell 0
  have x3_1 : W3.cell? ⟨w.heap.size, 1, none⟩ = some (.slice A l c) := (b3.out).cell 1
  have x3_2 : W3.cell? ⟨w.heap.size, 2, none⟩ = some (.bool k') := (b3.out).cell 2
  have x3_3 : W3.cell? ⟨w.heap.size, 3, none⟩ = some (.slice A' l' c') := (b3.out).cell 3
  have szb : w.heap.size ≤ W3.heap.size := HB4.out.size
  have s3 : w.heap.size < W3.heap.size := (b3.out).lt
  go_wp2_with fail
  refine (terms_fact H1.out hn3).mono ?_
  rintro e W5 ⟨k1, A1, l1, c1, j1, B1, o1, e1, rfl, ha_, hc_, hb⟩
  have nb := Lib.hid ((b3.out).up hb)
  clear b3
  have b3 := nb
  clear nb
  have f_ := Lib.hid (H1.out.kept (Keep.ofBelow hb))
  clear H1
  have H1 := f_
  clear f_
  have nbel := below_then HB4.out hb HB4.out.size
  have HB6 := Lib.hid nbel
  clear nbel
  clear HB4
  clear hb
  clear x3_0 x3_1 x3_2 x3_3 szb s3
  have x3_0 : W5.cell? ⟨w.heap.size, 0, none⟩ = some (.bool k) := (b3.out).cell 0
  have x3_1 : W5.cell? ⟨w.heap.size, 1, none⟩ = some (.slice A l c) := (b3.out).cell 1
  have x3_2 : W5.cell? ⟨w.heap.size, 2, none⟩ = some (.bool k') := (b3.out).cell 2
  have x3_3 : W5.cell? ⟨w.heap.size, 3, none⟩ = some (.slice A' l' c') := (b3.out).cell 3
  have szb : w.heap.size ≤ W5.heap.size := HB6.out.size
  have s3 : w.heap.size < W5.heap.size := (b3.out).lt
  have HA := Lib.hid ha_
  have HB := Lib.hid hc_
  clear ha_ hc_
  go_upto_region 4 with (fail)
  have q7 : w.heap.size < W5.heap.size := (b3.out).lt
  change Code.wp Tryd.prog _ _ _ ((W5.alloc (.cells #[.bool k1, .slice A1 l1 c1] 25)).alloc (.cells #[.bool j1, .slice B1 o1 e1] 25))
  have nb3 : Bx 27 ((W5.alloc (.cells #[.bool k1, .slice A1 l1 c1] 25)).alloc (.cells #[.bool j1, .slice B1 o1 e1] 25)) w.heap.size [.bool k, .slice A l c, .bool k', .slice A' l' c'] := (Bx.alloc (Bx.alloc b3.out (.cells #[.bool k1, .slice A1 l1 c1] 25)) (.cells #[.bool j1, .slice B1 o1 e1] 25))
  have nb6 := (Bx.alloc (Bx.new 25 W5 [.bool k1, .slice A1 l1 c1] (leaf2 (Leaf.bool k1) (Leaf.slice A1 l1 c1))) (.cells #[.bool j1, .slice B1 o1 e1] 25))
  have nb7 := (Bx.new 25 (W5.alloc (.cells #[.bool k1, .slice A1 l1 c1] 25)) [.bool j1, .slice B1 o1 e1] (leaf2 (Leaf.bool j1) (Leaf.slice B1 o1 e1)))
  rw [show (W5.alloc (.cells #[.bool k1, .slice A1 l1 c1] 25)).heap.size = W5.heap.size + 1 by simp] at nb7
  have nkeep := (Keep.alloc (Keep.alloc (Keep.refl W5) (.cells #[.bool k1, .slice A1 l1 c1] 25)) (.cells #[.bool j1, .slice B1 o1 e1] 25))
  have nbel : Below w.heap.size w ((W5.alloc (.cells #[.bool k1, .slice A1 l1 c1] 25)).alloc (.cells #[.bool j1, .slice B1 o1 e1] 25)) := (Below.alloc (Below.alloc HB6.out (by first | omega | (simp; done) | (simp; omega) | (simp [World.setCell]; done) | (simp [World.setCell]; omega)) (.cells #[.bool k1, .slice A1 l1 c1] 25)) (by first | omega | (simp; done) | (simp; omega) | (simp [World.setCell]; done) | (simp [World.setCell]; omega)) (.cells #[.bool j1, .slice B1 o1 e1] 25))
  generalize (W5.alloc (.cells #[.bool k1, .slice A1 l1 c1] 25)).alloc (.cells #[.bool j1, .slice B1 o1 e1] 25) = W8 at *
  clear x3_0 x3_1 x3_2 x3_3 szb s3
  clear b3
  have b3 := Lib.hid nb3
  have b6 := Lib.hid nb6
  have b7 := Lib.hid nb7
  clear nb3 nb6 nb7
  have f_ := Lib.hid (H1.out.kept nkeep)
  clear H1
  have H1 := f_
  clear f_
  have f_ := Lib.hid (HA.out.kept nkeep)
  clear HA
  have HA := f_
  clear f_
  have f_ := Lib.hid (HB.out.kept nkeep)
  clear HB
  have HB := f_
  clear f_
  clear nkeep
  have HB9 := Lib.hid nbel
  clear nbel
  clear HB6
  have x3_0 : W8.cell? ⟨w.heap.size, 0, none⟩ = some (.bool k) := (b3.out).cell 0
  have x3_1 : W8.cell? ⟨w.heap.size, 1, none⟩ = some (.slice A l c) := (b3.out).cell 1
  have x3_2 : W8.cell? ⟨w.heap.size, 2, none⟩ = some (.bool k') := (b3.out).cell 2
  have x3_3 : W8.cell? ⟨w.heap.size, 3, none⟩ = some (.slice A' l' c') := (b3.out).cell 3
  have x6_0 : W8.cell? ⟨W5.heap.size, 0, none⟩ = some (.bool k1) := (b6.out).cell 0
  have x6_1 : W8.cell? ⟨W5.heap.size, 1, none⟩ = some (.slice A1 l1 c1) := (b6.out).cell 1
  have x7_0 : W8.cell? ⟨W5.heap.size + 1, 0, none⟩ = some (.bool j1) := (b7.out).cell 0
  have x7_1 : W8.cell? ⟨W5.heap.size + 1, 1, none⟩ = some (.slice B1 o1 e1) := (b7.out).cell 1
  have szb : w.heap.size ≤ W8.heap.size := HB9.out.size
  have s3 : w.heap.size < W8.heap.size := (b3.out).lt
  have s6 : W5.heap.size < W8.heap.size := (b6.out).lt
  have s7 : W5.heap.size + 1 < W8.heap.size := (b7.out).lt
  refine AS.region_facts (scaleFL a zz bb x n) (JNo W8) [[], [19], [], [20, 21], [], [22, 23], [24], [25], [18], [18], [26], [27]] [] [[]] [0, 0, 0, 0, 0, 0, 0, 0, 0, 0, 0, 0] [] (fun u => by simp only [scaleFL, AS.temps, List.map_cons, List.map_nil, fillL, List.setIfInBounds_toArray, List.set_cons_zero, List.set_cons_succ]; rfl) (by kernel_rfl) (by kernel_rfl) (JNo.st W8) (below_drew (Below.refl _ _)) ?_ ?_
  · refine AS.StepsOk.cons rfl rfl rfl ?_ ?_
    · intro k_ u w_ hk hJ hF K hK
      clear hF
      go_simp
      exact hK.out _ _ (Below.refl _ _) (rfl) trivial
    refine AS.StepsOk.cons rfl rfl rfl ?_ ?_
    · intro k_ u w_ hk hJ hF K hK
      have h19 : u 19 = .int .i64 a := AS.facts_get hF 19 (by simp)
      clear hF
      simp only [h19] at hK ⊢
      clear h19
      go_simp
      refine (of_fact (n := a) HR.out.1 HR.out.2).mono ?_
      rintro e w' ⟨v, rfl, hv, hb⟩
      exact hK.out _ _ hb (hv) trivial
    refine AS.StepsOk.cons rfl rfl rfl ?_ ?_
    · intro k_ u w_ hk hJ hF K hK
      clear hF
      obtain rfl : k_ = 0 := Nat.le_zero.1 hk
      have hJ0 : Below W8.heap.size W8 w_ := hJ
      have y0 : w_.cell? ⟨W5.heap.size, 0, none⟩ = some (.bool k1) := ((b6.out).up hJ0).cell 0
      have y1 : w_.cell? ⟨W5.heap.size, 1, none⟩ = some (.slice A1 l1 c1) := ((b6.out).up hJ0).cell 1
      go_simp
      exact hK.out _ _ (Below.refl _ _) ((HA.out).kept (Keep.ofBelow hJ0)) trivial
    refine AS.StepsOk.cons rfl rfl rfl ?_ ?_
    · intro k_ u w_ hk hJ hF K hK
      have h20 : PInt (a) 3 (u 20) w_ := AS.facts_get hF 20 (by simp)
      have h21 : PInt (x.num) n (u 21) w_ := AS.facts_get hF 21 (by simp)
      clear hF
      go_simp
      refine (mul_fact h20 h21 (by omega) (by omega)).mono ?_
      rintro e w' ⟨v, rfl, hv, hb⟩
      exact hK.out _ _ hb (hv) trivial
    refine AS.StepsOk.cons rfl rfl rfl ?_ ?_
    · intro k_ u w_ hk hJ hF K hK
      clear hF
      obtain rfl : k_ = 0 := Nat.le_zero.1 hk
      have hJ0 : Below W8.heap.size W8 w_ := hJ
      have y0 : w_.cell? ⟨W5.heap.size + 1, 0, none⟩ = some (.bool j1) := ((b7.out).up hJ0).cell 0
      have y1 : w_.cell? ⟨W5.heap.size + 1, 1, none⟩ = some (.slice B1 o1 e1) := ((b7.out).up hJ0).cell 1
      go_simp
      exact hK.out _ _ (Below.refl _ _) ((HB.out).kept (Keep.ofBelow hJ0)) trivial
    refine AS.StepsOk.cons rfl rfl rfl ?_ ?_
    · intro k_ u w_ hk hJ hF K hK
      have h22 : PInt ((a) * (x.num)) (3 + n) (u 22) w_ := AS.facts_get hF 22 (by simp)
      have h23 : PInt ((x.den : Int)) n (u 23) w_ := AS.facts_get hF 23 (by simp)
      clear hF
      go_simp
      refine (near_fact (n := n + 3) (h22.more (by omega)) (h23.more (by omega)) (by omega) (Int.natCast_pos.2 x.den_pos)).mono ?_
      rintro e w' ⟨v, rfl, hv, hb⟩
      exact hK.out _ _ hb (hv) trivial
    refine AS.StepsOk.cons rfl rfl rfl ?_ ?_
    · intro k_ u w_ hk hJ hF K hK
      have h24 : PInt (rndI ((a) * (x.num)) (x.den : Int)) (2 * (n + 3) + 5) (u 24) w_ := AS.facts_get hF 24 (by simp)
      clear hF
      go_simp
      refine (small_is h24 (by omega) HZ.out.1 HZ.out.2).mono ?_
      rintro e w' ⟨rfl, hb⟩
      exact hK.out _ _ hb (rfl) trivial
    refine AS.StepsOk.cons rfl rfl rfl ?_ ?_
    · intro k_ u w_ hk hJ hF K hK
      have h25 : u 25 = .tuple #[.int .i64 zz, .bool bb] := AS.facts_get hF 25 (by simp)
      clear hF
      simp only [h25] at hK ⊢
      clear h25
      go_simp
      exact hK.out _ _ (Below.refl _ _) (rfl) trivial
    refine AS.StepsOk.cons rfl rfl rfl ?_ ?_
    · intro k_ u w_ hk hJ hF K hK
      have h18 : u 18 = .tuple #[.int .i64 zz, .bool bb] := AS.facts_get hF 18 (by simp)
      clear hF
      simp only [h18] at hK ⊢
      clear h18
      go_simp
      exact hK.out _ _ (Below.refl _ _) (rfl) trivial
    refine AS.StepsOk.cons rfl rfl rfl ?_ ?_
    · intro k_ u w_ hk hJ hF K hK
      have h18 : u 18 = .tuple #[.int .i64 zz, .bool bb] := AS.facts_get hF 18 (by simp)
      clear hF
      simp only [h18] at hK ⊢
      clear h18
      go_simp
      exact hK.out _ _ (Below.refl _ _) (rfl) trivial
    refine AS.StepsOk.cons rfl rfl rfl ?_ ?_
    · intro k_ u w_ hk hJ hF K hK
      have h26 : u 26 = .int .i64 zz := AS.facts_get hF 26 (by simp)
      clear hF
      simp only [h26] at hK ⊢
      clear h26
      go_simp
      exact hK.out _ _ (Below.refl _ _) (rfl) trivial
    refine AS.StepsOk.cons rfl rfl rfl ?_ ?_
    · intro k_ u w_ hk hJ hF K hK
      have h27 : u 27 = .bool bb := AS.facts_get hF 27 (by simp)
      clear hF
      simp only [h27] at hK ⊢
      clear h27
      go_simp
      exact hK.out _ _ (Below.refl _ _) (rfl) trivial
    exact AS.StepsOk.nil
  · intro u W10 hJ9 hF
    have h8 : u 8 = .int .i64 zz := AS.facts_get hF 8 (by simp [scaleFL, AS.temps])
    have h9 : u 9 = .bool bb := AS.facts_get hF 9 (by simp [scaleFL, AS.temps])
    clear hF
    rw [show u 8 = _ from h8, show u 9 = _ from h9]
    clear h8 h9
    have nb := Lib.hid ((b3.out).up hJ9)
    clear b3
    have b3 := nb
    clear nb
    have nb := Lib.hid ((b6.out).up hJ9)
    clear b6
    have b6 := nb
    clear nb
    have nb := Lib.hid ((b7.out).up hJ9)
    clear b7
    have b7 := nb
    clear nb
    have f_ := Lib.hid (H1.out.kept (Keep.ofBelow hJ9))
    clear H1
    have H1 := f_
    clear f_
    have f_ := Lib.hid (HA.out.kept (Keep.ofBelow hJ9))
    clear HA
    have HA := f_
    clear f_
    have f_ := Lib.hid (HB.out.kept (Keep.ofBelow hJ9))
    clear HB
    have HB := f_
    clear f_
    have nbel := below_then HB9.out hJ9 HB9.out.size
    have HB11 := Lib.hid nbel
    clear nbel
    clear HB9
    clear hJ9
    clear x3_0 x3_1 x3_2 x3_3 x6_0 x6_1 x7_0 x7_1 szb s3 s6 s7
    have x3_0 : W10.cell? ⟨w.heap.size, 0, none⟩ = some (.bool k) := (b3.out).cell 0
    have x3_1 : W10.cell? ⟨w.heap.size, 1, none⟩ = some (.slice A l c) := (b3.out).cell 1
    have x3_2 : W10.cell? ⟨w.heap.size, 2, none⟩ = some (.bool k') := (b3.out).cell 2
    have x3_3 : W10.cell? ⟨w.heap.size, 3, none⟩ = some (.slice A' l' c') := (b3.out).cell 3
    have x6_0 : W10.cell? ⟨W5.heap.size, 0, none⟩ = some (.bool k1) := (b6.out).cell 0
    have x6_1 : W10.cell? ⟨W5.heap.size, 1, none⟩ = some (.slice A1 l1 c1) := (b6.out).cell 1
    have x7_0 : W10.cell? ⟨W5.heap.size + 1, 0, none⟩ = some (.bool j1) := (b7.out).cell 0
    have x7_1 : W10.cell? ⟨W5.heap.size + 1, 1, none⟩ = some (.slice B1 o1 e1) := (b7.out).cell 1
    have szb : w.heap.size ≤ W10.heap.size := HB11.out.size
    have s3 : w.heap.size < W10.heap.size := (b3.out).lt
    have s6 : W5.heap.size < W10.heap.size := (b6.out).lt
    have s7 : W5.heap.size + 1 < W10.heap.size := (b7.out).lt
    obtain rfl : bb = true := HBB.out
    go_wp2_with fail
    refine (isAmount_is HZA.out _).mono ?_
    rintro e W12 ⟨rfl, hb⟩
    have nb := Lib.hid ((b3.out).up hb)
    clear b3
    have b3 := nb
    clear nb
    have nb := Lib.hid ((b6.out).up hb)
    clear b6
    have b6 := nb
    clear nb
    have nb := Lib.hid ((b7.out).up hb)
    clear b7
    have b7 := nb
    clear nb
    have f_ := Lib.hid (H1.out.kept (Keep.ofBelow hb))
    clear H1
    have H1 := f_
    clear f_
    have f_ := Lib.hid (HA.out.kept (Keep.ofBelow hb))
    clear HA
    have HA := f_
    clear f_
    have f_ := Lib.hid (HB.out.kept (Keep.ofBelow hb))
    clear HB
    have HB := f_
    clear f_
    have nbel := below_then HB11.out hb HB11.out.size
    have HB13 := Lib.hid nbel
    clear nbel
    clear HB11
    clear hb
    clear x3_0 x3_1 x3_2 x3_3 x6_0 x6_1 x7_0 x7_1 szb s3 s6 s7
    have x3_0 : W12.cell? ⟨w.heap.size, 0, none⟩ = some (.bool k) := (b3.out).cell 0
    have x3_1 : W12.cell? ⟨w.heap.size, 1, none⟩ = some (.slice A l c) := (b3.out).cell 1
    have x3_2 : W12.cell? ⟨w.heap.size, 2, none⟩ = some (.bool k') := (b3.out).cell 2
    have x3_3 : W12.cell? ⟨w.heap.size, 3, none⟩ = some (.slice A' l' c') := (b3.out).cell 3
    have x6_0 : W12.cell? ⟨W5.heap.size, 0, none⟩ = some (.bool k1) := (b6.out).cell 0
    have x6_1 : W12.cell? ⟨W5.heap.size, 1, none⟩ = some (.slice A1 l1 c1) := (b6.out).cell 1
    have x7_0 : W12.cell? ⟨W5.heap.size + 1, 0, none⟩ = some (.bool j1) := (b7.out).cell 0
    have x7_1 : W12.cell? ⟨W5.heap.size + 1, 1, none⟩ = some (.slice B1 o1 e1) := (b7.out).cell 1
    have szb : w.heap.size ≤ W12.heap.size := HB13.out.size
    have s3 : w.heap.size < W12.heap.size := (b3.out).lt
    have s6 : W5.heap.size < W12.heap.size := (b6.out).lt
    have s7 : W5.heap.size + 1 < W12.heap.size := (b7.out).lt
    go_wp2_with fail
    have hkeep := (Keep.refl W12)
    have hbel := HB13.out
    refine bodyPost_ret (v := .tuple #[.int .i64 0, .int .i64 2]) (by simp [results, Tryd.results15, go_sem]) rfl ⟨rfl, hbel⟩
set_option maxRecDepth 20000 in
set_option maxHeartbeats 3200000 in
theorem scale_not {a : Int} {x : Rat} {n : Nat} {v : Value} {w : World} (h : PRat x n v w) (hn3 : 3 ≤ n) (hn : n ≤ 10000) {zz : Int} {bb : Bool} (ham : amt a = true) (har : -9223372036854775808 ≤ a ∧ a ≤ 9223372036854775807) (hz : smN (rndI (a * x.num) (x.den : Int)) = zz ∧ smB (rndI (a * x.num) (x.den : Int)) = bb) (hbb : bb = false) :
    Calls Tryd.prog 15 #[.int .i64 a, v] w fun e w' => e = .returned (.tuple #[.int .i64 0, .int .i64 2]) ∧ Below w.heap.size w w' := by
  have HR := Lib.hid har
  have HZ := Lib.hid hz
  have HBB := Lib.hid hbb
  clear har hz hbb
  obtain ⟨k, A, l, c, k', A', l', c', rfl⟩ := h.open
  have H1 := Lib.hid h
  have HAM := Lib.hid ham
  clear h ham
  go_enter Tryd.func15, Tryd.ntmps15
  go_upto_region 1 with (fail)
  change Code.wp Tryd.prog _ _ _ (w.alloc (.cells #[.bool k, .slice A l c, .bool k', .slice A' l' c'] 27))
  have nb3 := (Bx.new 27 w [.bool k, .slice A l c, .bool k', .slice A' l' c'] (leaf4 (Leaf.bool k) (Leaf.slice A l c) (Leaf.bool k') (Leaf.slice A' l' c')))
  have nkeep := (Keep.alloc (Keep.refl w) (.cells #[.bool k, .slice A l c, .bool k', .slice A' l' c'] 27))
  have nbel : Below w.heap.size w (w.alloc (.cells #[.bool k, .slice A l c, .bool k', .slice A' l' c'] 27)) := (Below.alloc (Below.refl w.heap.size w) (by first | omega | (simp; done) | (simp; omega) | (simp [World.setCell]; done) | (simp [World.setCell]; omega)) (.cells #[.bool k, .slice A l c, .bool k', .slice A' l' c'] 27))
  generalize w.alloc (.cells #[.bool k, .slice A l c, .bool k', .slice A' l' c'] 27) = W1 at *
  have b3 := Lib.hid nb3
  clear nb3
  have f_ := Lib.hid (H1.out.kept nkeep)
  clear H1
  have H1 := f_
  clear f_
  clear nkeep
  have HB2 := Lib.hid nbel
  clear nbel
  have x3_0 : W1.cell? ⟨w.heap.size, 0, none⟩ = some (.bool k) := (b3.out).cell 0
  have x3_1 : W1.cell? ⟨w.heap.size, 1, none⟩ = some (.slice A l c) := (b3.out).cell 1
  have x3_2 : W1.cell? ⟨w.heap.size, 2, none⟩ = some (.bool k') := (b3.out).cell 2
  have x3_3 : W1.cell? ⟨w.heap.size, 3, none⟩ = some (.slice A' l' c') := (b3.out).cell 3
  have szb : w.heap.size ≤ W1.heap.size := HB2.out.size
  have s3 : w.heap.size < W1.heap.size := (b3.out).lt
  go_wp2_with fail
  refine (isAmount_is HAM.out _).mono ?_
  rintro e W3 ⟨rfl, hb⟩
  have nb := Lib.hid ((b3.out).up hb)
  clear b3
  have b3 := nb
  clear nb
  have f_ := Lib.hid (H1.out.kept (Keep.ofBelow hb))
  clear H1
  have H1 := f_
  clear f_
  have nbel := below_then HB2.out hb HB2.out.size
  have HB4 := Lib.hid nbel
  clear nbel
  clear HB2
  clear hb
  clear x3_0 x3_1 x3_2 x3_3 szb s3
  have x3_0 : W3.cell? ⟨w.heap.size, 0, none⟩ = some (.bool k) := (b3.out).cell 0
  have x3_1 : W3.cell? ⟨w.heap.size, 1, none⟩ = some (.slice A l c) := (b3.out).cell 1
  have x3_2 : W3.cell? ⟨w.heap.size, 2, none⟩ = some (.bool k') := (b3.out).cell 2
  have x3_3 : W3.cell? ⟨w.heap.size, 3, none⟩ = some (.slice A' l' c') := (b3.out).cell 3
  have szb : w.heap.size ≤ W3.heap.size := HB4.out.size
  have s3 : w.heap.size < W3.heap.size := (b3.out).lt
  go_wp2_with fail
  refine (terms_fact H1.out hn3).mono ?_
  rintro e W5 ⟨k1, A1, l1, c1, j1, B1, o1, e1, rfl, ha_, hc_, hb⟩
  have nb := Lib.hid ((b3.out).up hb)
  clear b3
  have b3 := nb
  clear nb
  have f_ := Lib.hid (H1.out.kept (Keep.ofBelow hb))
  clear H1
  have H1 := f_
  clear f_
  have nbel := below_then HB4.out hb HB4.out.size
  have HB6 := Lib.hid nbel
  clear nbel
  clear HB4
  clear hb
  clear x3_0 x3_1 x3_2 x3_3 szb s3
  have x3_0 : W5.cell? ⟨w.heap.size, 0, none⟩ = some (.bool k) := (b3.out).cell 0
  have x3_1 : W5.cell? ⟨w.heap.size, 1, none⟩ = some (.slice A l c) := (b3.out).cell 1
  have x3_2 : W5.cell? ⟨w.heap.size, 2, none⟩ = some (.bool k') := (b3.out).cell 2
  have x3_3 : W5.cell? ⟨w.heap.size, 3, none⟩ = some (.slice A' l' c') := (b3.out).cell 3
  have szb : w.heap.size ≤ W5.heap.size := HB6.out.size
  have s3 : w.heap.size < W5.heap.size := (b3.out).lt
  have HA := Lib.hid ha_
  have HB := Lib.hid hc_
  clear ha_ hc_
  go_upto_region 4 with (fail)
  have q7 : w.heap.size < W5.heap.size := (b3.out).lt
  change Code.wp Tryd.prog _ _ _ ((W5.alloc (.cells #[.bool k1, .slice A1 l1 c1] 25)).alloc (.cells #[.bool j1, .slice B1 o1 e1] 25))
  have nb3 : Bx 27 ((W5.alloc (.cells #[.bool k1, .slice A1 l1 c1] 25)).alloc (.cells #[.bool j1, .slice B1 o1 e1] 25)) w.heap.size [.bool k, .slice A l c, .bool k', .slice A' l' c'] := (Bx.alloc (Bx.alloc b3.out (.cells #[.bool k1, .slice A1 l1 c1] 25)) (.cells #[.bool j1, .slice B1 o1 e1] 25))
  have nb6 := (Bx.alloc (Bx.new 25 W5 [.bool k1, .slice A1 l1 c1] (leaf2 (Leaf.bool k1) (Leaf.slice A1 l1 c1))) (.cells #[.bool j1, .slice B1 o1 e1] 25))
  have nb7 := (Bx.new 25 (W5.alloc (.cells #[.bool k1, .slice A1 l1 c1] 25)) [.bool j1, .slice B1 o1 e1] (leaf2 (Leaf.bool j1) (Leaf.slice B1 o1 e1)))
  rw [show (W5.alloc (.cells #[.bool k1, .slice A1 l1 c1] 25)).heap.size = W5.heap.size + 1 by simp] at nb7
  have nkeep := (Keep.alloc (Keep.alloc (Keep.refl W5) (.cells #[.bool k1, .slice A1 l1 c1] 25)) (.cells #[.bool j1, .slice B1 o1 e1] 25))
  have nbel : Below w.heap.size w ((W5.alloc (.cells #[.bool k1, .slice A1 l1 c1] 25)).alloc (.cells #[.bool j1, .slice B1 o1 e1] 25)) := (Below.alloc (Below.alloc HB6.out (by first | omega | (simp; done) | (simp; omega) | (simp [World.setCell]; done) | (simp [World.setCell]; omega)) (.cells #[.bool k1, .slice A1 l1 c1] 25)) (by first | omega | (simp; done) | (simp; omega) | (simp [World.setCell]; done) | (simp [World.setCell]; omega)) (.cells #[.bool j1, .slice B1 o1 e1] 25))
  generalize (W5.alloc (.cells #[.bool k1, .slice A1 l1 c1] 25)).alloc (.cells #[.bool j1, .slice B1 o1 e1] 25) = W8 at *
  clear x3_0 x3_1 x3_2 x3_3 szb s3
  clear b3
  have b3 := Lib.hid nb3
  have b6 := Lib.hid nb6
  have b7 := Lib.hid nb7
  clear nb3 nb6 nb7
  have f_ := Lib.hid (H1.out.kept nkeep)
  clear H1
  have H1 := f_
  clear f_
  have f_ := Lib.hid (HA.out.kept nkeep)
  clear HA
  have HA := f_
  clear f_
  have f_ := Lib.hid (HB.out.kept nkeep)
  clear HB
  have HB := f_
  clear f_
  clear nkeep
  have HB9 := Lib.hid nbel
  clear nbel
  clear HB6
  have x3_0 : W8.cell? ⟨w.heap.size, 0, none⟩ = some (.bool k) := (b3.out).cell 0
  have x3_1 : W8.cell? ⟨w.heap.size, 1, none⟩ = some (.slice A l c) := (b3.out).cell 1
  have x3_2 : W8.cell? ⟨w.heap.size, 2, none⟩ = some (.bool k') := (b3.out).cell 2
  have x3_3 : W8.cell? ⟨w.heap.size, 3, none⟩ = some (.slice A' l' c') := (b3.out).cell 3
  have x6_0 : W8.cell? ⟨W5.heap.size, 0, none⟩ = some (.bool k1) := (b6.out).cell 0
  have x6_1 : W8.cell? ⟨W5.heap.size, 1, none⟩ = some (.slice A1 l1 c1) := (b6.out).cell 1
  have x7_0 : W8.cell? ⟨W5.heap.size + 1, 0, none⟩ = some (.bool j1) := (b7.out).cell 0
  have x7_1 : W8.cell? ⟨W5.heap.size + 1, 1, none⟩ = some (.slice B1 o1 e1) := (b7.out).cell 1
  have szb : w.heap.size ≤ W8.heap.size := HB9.out.size
  have s3 : w.heap.size < W8.heap.size := (b3.out).lt
  have s6 : W5.heap.size < W8.heap.size := (b6.out).lt
  have s7 : W5.heap.size + 1 < W8.heap.size := (b7.out).lt
  refine AS.region_facts (scaleFL a zz bb x n) (JNo W8) [[], [19], [], [20, 21], [], [22, 23], [24], [25], [18], [18], [26], [27]] [] [[]] [0, 0, 0, 0, 0, 0, 0, 0, 0, 0, 0, 0] [] (fun u => by simp only [scaleFL, AS.temps, List.map_cons, List.map_nil, fillL, List.setIfInBounds_toArray, List.set_cons_zero, List.set_cons_succ]; rfl) (by kernel_rfl) (by kernel_rfl) (JNo.st W8) (below_drew (Below.refl _ _)) ?_ ?_
  · refine AS.StepsOk.cons rfl rfl rfl ?_ ?_
    · intro k_ u w_ hk hJ hF K hK
      clear hF
      go_simp
      exact hK.out _ _ (Below.refl _ _) (rfl) trivial
    refine AS.StepsOk.cons rfl rfl rfl ?_ ?_
    · intro k_ u w_ hk hJ hF K hK
      have h19 : u 19 = .int .i64 a := AS.facts_get hF 19 (by simp)
      clear hF
      simp only [h19] at hK ⊢
      clear h19
      go_simp
      refine (of_fact (n := a) HR.out.1 HR.out.2).mono ?_
      rintro e w' ⟨v, rfl, hv, hb⟩
      exact hK.out _ _ hb (hv) trivial
    refine AS.StepsOk.cons rfl rfl rfl ?_ ?_
    · intro k_ u w_ hk hJ hF K hK
      clear hF
      obtain rfl : k_ = 0 := Nat.le_zero.1 hk
      have hJ0 : Below W8.heap.size W8 w_ := hJ
      have y0 : w_.cell? ⟨W5.heap.size, 0, none⟩ = some (.bool k1) := ((b6.out).up hJ0).cell 0
      have y1 : w_.cell? ⟨W5.heap.size, 1, none⟩ = some (.slice A1 l1 c1) := ((b6.out).up hJ0).cell 1
      go_simp
      exact hK.out _ _ (Below.refl _ _) ((HA.out).kept (Keep.ofBelow hJ0)) trivial
    refine AS.StepsOk.cons rfl rfl rfl ?_ ?_
    · intro k_ u w_ hk hJ hF K hK
      have h20 : PInt (a) 3 (u 20) w_ := AS.facts_get hF 20 (by simp)
      have h21 : PInt (x.num) n (u 21) w_ := AS.facts_get hF 21 (by simp)
      clear hF
      go_simp
      refine (mul_fact h20 h21 (by omega) (by omega)).mono ?_
      rintro e w' ⟨v, rfl, hv, hb⟩
      exact hK.out _ _ hb (hv) trivial
    refine AS.StepsOk.cons rfl rfl rfl ?_ ?_
    · intro k_ u w_ hk hJ hF K hK
      clear hF
      obtain rfl : k_ = 0 := Nat.le_zero.1 hk
      have hJ0 : Below W8.heap.size W8 w_ := hJ
      have y0 : w_.cell? ⟨W5.heap.size + 1, 0, none⟩ = some (.bool j1) := ((b7.out).up hJ0).cell 0
      have y1 : w_.cell? ⟨W5.heap.size + 1, 1, none⟩ = some (.slice B1 o1 e1) := ((b7.out).up hJ0).cell 1
      go_simp
      exact hK.out _ _ (Below.refl _ _) ((HB.out).kept (Keep.ofBelow hJ0)) trivial
    refine AS.StepsOk.cons rfl rfl rfl ?_ ?_
    · intro k_ u w_ hk hJ hF K hK
      have h22 : PInt ((a) * (x.num)) (3 + n) (u 22) w_ := AS.facts_get hF 22 (by simp)
      have h23 : PInt ((x.den : Int)) n (u 23) w_ := AS.facts_get hF 23 (by simp)
      clear hF
      go_simp
      refine (near_fact (n := n + 3) (h22.more (by omega)) (h23.more (by omega)) (by omega) (Int.natCast_pos.2 x.den_pos)).mono ?_
      rintro e w' ⟨v, rfl, hv, hb⟩
      exact hK.out _ _ hb (hv) trivial
    refine AS.StepsOk.cons rfl rfl rfl ?_ ?_
    · intro k_ u w_ hk hJ hF K hK
      have h24 : PInt (rndI ((a) * (x.num)) (x.den : Int)) (2 * (n + 3) + 5) (u 24) w_ := AS.facts_get hF 24 (by simp)
      clear hF
      go_simp
      refine (small_is h24 (by omega) HZ.out.1 HZ.out.2).mono ?_
      rintro e w' ⟨rfl, hb⟩
      exact hK.out _ _ hb (rfl) trivial
    refine AS.StepsOk.cons rfl rfl rfl ?_ ?_
    · intro k_ u w_ hk hJ hF K hK
      have h25 : u 25 = .tuple #[.int .i64 zz, .bool bb] := AS.facts_get hF 25 (by simp)
      clear hF
      simp only [h25] at hK ⊢
      clear h25
      go_simp
      exact hK.out _ _ (Below.refl _ _) (rfl) trivial
    refine AS.StepsOk.cons rfl rfl rfl ?_ ?_
    · intro k_ u w_ hk hJ hF K hK
      have h18 : u 18 = .tuple #[.int .i64 zz, .bool bb] := AS.facts_get hF 18 (by simp)
      clear hF
      simp only [h18] at hK ⊢
      clear h18
      go_simp
      exact hK.out _ _ (Below.refl _ _) (rfl) trivial
    refine AS.StepsOk.cons rfl rfl rfl ?_ ?_
    · intro k_ u w_ hk hJ hF K hK
      have h18 : u 18 = .tuple #[.int .i64 zz, .bool bb] := AS.facts_get hF 18 (by simp)
      clear hF
      simp only [h18] at hK ⊢
      clear h18
      go_simp
      exact hK.out _ _ (Below.refl _ _) (rfl) trivial
    refine AS.StepsOk.cons rfl rfl rfl ?_ ?_
    · intro k_ u w_ hk hJ hF K hK
      have h26 : u 26 = .int .i64 zz := AS.facts_get hF 26 (by simp)
      clear hF
      simp only [h26] at hK ⊢
      clear h26
      go_simp
      exact hK.out _ _ (Below.refl _ _) (rfl) trivial
    refine AS.StepsOk.cons rfl rfl rfl ?_ ?_
    · intro k_ u w_ hk hJ hF K hK
      have h27 : u 27 = .bool bb := AS.facts_get hF 27 (by simp)
      clear hF
      simp only [h27] at hK ⊢
      clear h27
      go_simp
      exact hK.out _ _ (Below.refl _ _) (rfl) trivial
    exact AS.StepsOk.nil
  · intro u W10 hJ9 hF
    have h8 : u 8 = .int .i64 zz := AS.facts_get hF 8 (by simp [scaleFL, AS.temps])
    have h9 : u 9 = .bool bb := AS.facts_get hF 9 (by simp [scaleFL, AS.temps])
    clear hF
    rw [show u 8 = _ from h8, show u 9 = _ from h9]
    clear h8 h9
    have nb := Lib.hid ((b3.out).up hJ9)
    clear b3
    have b3 := nb
    clear nb
    have nb := Lib.hid ((b6.out).up hJ9)
    clear b6
    have b6 := nb
    clear nb
    have nb := Lib.hid ((b7.out).up hJ9)
    clear b7
    have b7 := nb
    clear nb
    have f_ := Lib.hid (H1.out.kept (Keep.ofBelow hJ9))
    clear H1
    have H1 := f_
    clear f_
    have f_ := Lib.hid (HA.out.kept (Keep.ofBelow hJ9))
    clear HA
    have HA := f_
    clear f_
    have f_ := Lib.hid (HB.out.kept (Keep.ofBelow hJ9))
    clear HB
    have HB := f_
    clear f_
    have nbel := below_then HB9.out hJ9 HB9.out.size
    have HB11 := Lib.hid nbel
    clear nbel
    clear HB9
    clear hJ9
    clear x3_0 x3_1 x3_2 x3_3 x6_0 x6_1 x7_0 x7_1 szb s3 s6 s7
    have x3_0 : W10.cell? ⟨w.heap.size, 0, none⟩ = some (.bool k) := (b3.out).cell 0
    have x3_1 : W10.cell? ⟨w.heap.size, 1, none⟩ = some (.slice A l c) := (b3.out).cell 1
    have x3_2 : W10.cell? ⟨w.heap.size, 2, none⟩ = some (.bool k') := (b3.out).cell 2
    have x3_3 : W10.cell? ⟨w.heap.size, 3, none⟩ = some (.slice A' l' c') := (b3.out).cell 3
    have x6_0 : W10.cell? ⟨W5.heap.size, 0, none⟩ = some (.bool k1) := (b6.out).cell 0
    have x6_1 : W10.cell? ⟨W5.heap.size, 1, none⟩ = some (.slice A1 l1 c1) := (b6.out).cell 1
    have x7_0 : W10.cell? ⟨W5.heap.size + 1, 0, none⟩ = some (.bool j1) := (b7.out).cell 0
    have x7_1 : W10.cell? ⟨W5.heap.size + 1, 1, none⟩ = some (.slice B1 o1 e1) := (b7.out).cell 1
    have szb : w.heap.size ≤ W10.heap.size := HB11.out.size
    have s3 : w.heap.size < W10.heap.size := (b3.out).lt
    have s6 : W5.heap.size < W10.heap.size := (b6.out).lt
    have s7 : W5.heap.size + 1 < W10.heap.size := (b7.out).lt
    obtain rfl : bb = false := HBB.out
    go_wp2_with fail
    have hkeep := (Keep.refl W10)
    have hbel := HB11.out
    refine bodyPost_ret (v := .tuple #[.int .i64 0, .int .i64 2]) (by simp [results, Tryd.results15, go_sem]) rfl ⟨rfl, hbel⟩
/-- An amount times a number, rounded; the error. -/
def scaleN (a : Int) (x : Rat) : Int := if amt a && amt (rndQ ((a : Rat) * x)) then rndQ ((a : Rat) * x) else 0
def scaleE (a : Int) (x : Rat) : Int := if amt a then (if amt (rndQ ((a : Rat) * x)) then 0 else 2) else 1
theorem scale_rnd (a : Int) (x : Rat) : rndI (a * x.num) (x.den : Int) = rndQ ((a : Rat) * x) := by
  rw [← rndQ_divInt _ _ (Int.natCast_pos.2 x.den_pos)]
  congr 1
  have h := mul_terms (a : Rat) x
  rw [← h]
  simp
theorem amt_range {a : Int} (h : amt a = true) : -1000000000000 ≤ a ∧ a ≤ 1000000000000 := by unfold amt at h; simpa using h
theorem ratScale_fact {a : Int} {x : Rat} {n : Nat} {v : Value} {w : World} (h : PRat x n v w) (hn3 : 3 ≤ n) (hn : n ≤ 10000) :
    Calls Tryd.prog 15 #[.int .i64 a, v] w fun e w' => e = .returned (.tuple #[.int .i64 (scaleN a x), .int .i64 (scaleE a x)]) ∧ Below w.heap.size w w' := by
  cases ham : amt a with
  | false =>
    have e1 : scaleN a x = 0 := by unfold scaleN; rw [ham]; rfl
    have e2 : scaleE a x = 1 := by unfold scaleE; rw [ham]; rfl
    rw [e1, e2]
    exact scale_arg h hn3 hn ham
  | true =>
    have har := amt_range ham
    have hz := scale_rnd a x
    cases hzm : amt (rndQ ((a : Rat) * x)) with
    | true =>
      have hr := amt_range hzm
      have e1 : scaleN a x = rndQ ((a : Rat) * x) := by unfold scaleN; rw [ham, hzm]; rfl
      have e2 : scaleE a x = 0 := by unfold scaleE; rw [ham, hzm]; rfl
      rw [e1, e2]
      have hb : smB (rndQ ((a : Rat) * x)) = true := by unfold smB; simp; omega
      exact scale_ok h hn3 hn ham (by omega) ⟨by rw [hz]; unfold smN; rw [if_pos hb], by rw [hz]; exact hb⟩ rfl hzm
    | false =>
      have e1 : scaleN a x = 0 := by unfold scaleN; rw [ham, hzm]; rfl
      have e2 : scaleE a x = 2 := by unfold scaleE; rw [ham, hzm]; rfl
      rw [e1, e2]
      cases hb : smB (rndQ ((a : Rat) * x)) with
      | true => exact scale_big h hn3 hn ham (by omega) ⟨by rw [hz]; unfold smN; rw [if_pos hb], by rw [hz]; exact hb⟩ rfl hzm
      | false => exact scale_not h hn3 hn ham (by omega) ⟨rfl, by rw [hz]; exact hb⟩ rfl
end Go.Proofs.YtmpdpfiokjepaaaDoor

/- Text of rational numbers. -/
namespace Go.Proofs.YtmpdpfiokjepaaaDoor
open Go.RowKit
open AS (Keep NoInt)

/-- The text of a rational number. -/
def ratText (x : Rat) : List UInt8 := if x.den = 1 then decZ x.num else decZ x.num ++ 47 :: decZ (x.den : Int)
def ratTextFL1 (x : Rat) (n : Nat) : List (Nat × AS.Fact) := [(10, AS.Fact.int ((x.den : Int)) n), (11, AS.Fact.int (1) 3), (12, AS.Fact.is (.int .i64 0)), (13, AS.Fact.is (.bool true))]
set_option maxRecDepth 20000 in
set_option maxHeartbeats 3200000 in
theorem ratText_int {x : Rat} {n : Nat} {v : Value} {w : World} (h : PRat x n v w) (hn3 : 3 ≤ n) (hn : n ≤ 10000) (ht : Tab w.heap.size w) (hd : x.den = 1) (hcm : cmpI (x.den : Int) 1 = 0) :
    Calls Tryd.prog 14 #[v] w fun e w' => e = .returned (.string ⟨(ratText x).toArray⟩) ∧ Below w.heap.size w w' := by
  obtain ⟨k, A, l, c, k', A', l', c', rfl⟩ := h.open
  have H1 := Lib.hid h
  have HT := Lib.hid ht
  clear h ht
  go_enter Tryd.func14, Tryd.ntmps14
  go_upto_region 1 with (fail)
  change Code.wp Tryd.prog _ _ _ (w.alloc (.cells #[.bool k, .slice A l c, .bool k', .slice A' l' c'] 27))
  have nb1 := (Bx.new 27 w [.bool k, .slice A l c, .bool k', .slice A' l' c'] (leaf4 (Leaf.bool k) (Leaf.slice A l c) (Leaf.bool k') (Leaf.slice A' l' c')))
  have nkeep := (Keep.alloc (Keep.refl w) (.cells #[.bool k, .slice A l c, .bool k', .slice A' l' c'] 27))
  have nbel : Below w.heap.size w (w.alloc (.cells #[.bool k, .slice A l c, .bool k', .slice A' l' c'] 27)) := (Below.alloc (Below.refl w.heap.size w) (by first | omega | (simp; done) | (simp; omega) | (simp [World.setCell]; done) | (simp [World.setCell]; omega)) (.cells #[.bool k, .slice A l c, .bool k', .slice A' l' c'] 27))
  generalize w.alloc (.cells #[.bool k, .slice A l c, .bool k', .slice A' l' c'] 27) = W1 at *
  have b1 := Lib.hid nb1
  clear nb1
  have f_ := Lib.hid (H1.out.kept nkeep)
  clear H1
  have H1 := f_
  clear f_
  clear nkeep
  have HB2 := Lib.hid nbel
  clear nbel
  have x1_0 : W1.cell? ⟨w.heap.size, 0, none⟩ = some (.bool k) := (b1.out).cell 0
  have x1_1 : W1.cell? ⟨w.heap.size, 1, none⟩ = some (.slice A l c) := (b1.out).cell 1
  have x1_2 : W1.cell? ⟨w.heap.size, 2, none⟩ = some (.bool k') := (b1.out).cell 2
  have x1_3 : W1.cell? ⟨w.heap.size, 3, none⟩ = some (.slice A' l' c') := (b1.out).cell 3
  have szb : w.heap.size ≤ W1.heap.size := HB2.out.size
  have s1 : w.heap.size < W1.heap.size := (b1.out).lt
  go_wp2_with fail
  refine (terms_fact H1.out hn3).mono ?_
  rintro e W3 ⟨k1, A1, l1, c1, j1, B1, o1, e1, rfl, ha_, hc_, hb⟩
  have nb := Lib.hid ((b1.out).up hb)
  clear b1
  have b1 := nb
  clear nb
  have f_ := Lib.hid (H1.out.kept (Keep.ofBelow hb))
  clear H1
  have H1 := f_
  clear f_
  have nbel := below_then HB2.out hb HB2.out.size
  have HB4 := Lib.hid nbel
  clear nbel
  clear HB2
  clear hb
  clear x1_0 x1_1 x1_2 x1_3 szb s1
  have x1_0 : W3.cell? ⟨w.heap.size, 0, none⟩ = some (.bool k) := (b1.out).cell 0
  have x1_1 : W3.cell? ⟨w.heap.size, 1, none⟩ = some (.slice A l c) := (b1.out).cell 1
  have x1_2 : W3.cell? ⟨w.heap.size, 2, none⟩ = some (.bool k') := (b1.out).cell 2
  have x1_3 : W3.cell? ⟨w.heap.size, 3, none⟩ = some (.slice A' l' c') := (b1.out).cell 3
  have szb : w.heap.size ≤ W3.heap.size := HB4.out.size
  have s1 : w.heap.size < W3.heap.size := (b1.out).lt
  have HA := Lib.hid ha_
  have HB := Lib.hid hc_
  clear ha_ hc_
  go_upto_region 2 with (fail)
  have q5 : w.heap.size < W3.heap.size := (b1.out).lt
  change Code.wp Tryd.prog _ _ _ ((W3.alloc (.cells #[.bool k1, .slice A1 l1 c1] 25)).alloc (.cells #[.bool j1, .slice B1 o1 e1] 25))
  have nb1 : Bx 27 ((W3.alloc (.cells #[.bool k1, .slice A1 l1 c1] 25)).alloc (.cells #[.bool j1, .slice B1 o1 e1] 25)) w.heap.size [.bool k, .slice A l c, .bool k', .slice A' l' c'] := (Bx.alloc (Bx.alloc b1.out (.cells #[.bool k1, .slice A1 l1 c1] 25)) (.cells #[.bool j1, .slice B1 o1 e1] 25))
  have nb3 := (Bx.alloc (Bx.new 25 W3 [.bool k1, .slice A1 l1 c1] (leaf2 (Leaf.bool k1) (Leaf.slice A1 l1 c1))) (.cells #[.bool j1, .slice B1 o1 e1] 25))
  have nb4 := (Bx.new 25 (W3.alloc (.cells #[.bool k1, .slice A1 l1 c1] 25)) [.bool j1, .slice B1 o1 e1] (leaf2 (Leaf.bool j1) (Leaf.slice B1 o1 e1)))
  rw [show (W3.alloc (.cells #[.bool k1, .slice A1 l1 c1] 25)).heap.size = W3.heap.size + 1 by simp] at nb4
  have nkeep := (Keep.alloc (Keep.alloc (Keep.refl W3) (.cells #[.bool k1, .slice A1 l1 c1] 25)) (.cells #[.bool j1, .slice B1 o1 e1] 25))
  have nbel : Below w.heap.size w ((W3.alloc (.cells #[.bool k1, .slice A1 l1 c1] 25)).alloc (.cells #[.bool j1, .slice B1 o1 e1] 25)) := (Below.alloc (Below.alloc HB4.out (by first | omega | (simp; done) | (simp; omega) | (simp [World.setCell]; done) | (simp [World.setCell]; omega)) (.cells #[.bool k1, .slice A1 l1 c1] 25)) (by first | omega | (simp; done) | (simp; omega) | (simp [World.setCell]; done) | (simp [World.setCell]; omega)) (.cells #[.bool j1, .slice B1 o1 e1] 25))
  generalize (W3.alloc (.cells #[.bool k1, .slice A1 l1 c1] 25)).alloc (.cells #[.bool j1, .slice B1 o1 e1] 25) = W6 at *
  clear x1_0 x1_1 x1_2 x1_3 szb s1
  clear b1
  have b1 := Lib.hid nb1
  have b3 := Lib.hid nb3
  have b4 := Lib.hid nb4
  clear nb1 nb3 nb4
  have f_ := Lib.hid (H1.out.kept nkeep)
  clear H1
  have H1 := f_
  clear f_
  have f_ := Lib.hid (HA.out.kept nkeep)
  clear HA
  have HA := f_
  clear f_
  have f_ := Lib.hid (HB.out.kept nkeep)
  clear HB
  have HB := f_
  clear f_
  clear nkeep
  have HB7 := Lib.hid nbel
  clear nbel
  clear HB4
  have x1_0 : W6.cell? ⟨w.heap.size, 0, none⟩ = some (.bool k) := (b1.out).cell 0
  have x1_1 : W6.cell? ⟨w.heap.size, 1, none⟩ = some (.slice A l c) := (b1.out).cell 1
  have x1_2 : W6.cell? ⟨w.heap.size, 2, none⟩ = some (.bool k') := (b1.out).cell 2
  have x1_3 : W6.cell? ⟨w.heap.size, 3, none⟩ = some (.slice A' l' c') := (b1.out).cell 3
  have x3_0 : W6.cell? ⟨W3.heap.size, 0, none⟩ = some (.bool k1) := (b3.out).cell 0
  have x3_1 : W6.cell? ⟨W3.heap.size, 1, none⟩ = some (.slice A1 l1 c1) := (b3.out).cell 1
  have x4_0 : W6.cell? ⟨W3.heap.size + 1, 0, none⟩ = some (.bool j1) := (b4.out).cell 0
  have x4_1 : W6.cell? ⟨W3.heap.size + 1, 1, none⟩ = some (.slice B1 o1 e1) := (b4.out).cell 1
  have szb : w.heap.size ≤ W6.heap.size := HB7.out.size
  have s1 : w.heap.size < W6.heap.size := (b1.out).lt
  have s3 : W3.heap.size < W6.heap.size := (b3.out).lt
  have s4 : W3.heap.size + 1 < W6.heap.size := (b4.out).lt
  refine AS.region_facts (ratTextFL1 x n) (JNo W6) [[], [], [10, 11], [12]] [] [[]] [0, 0, 0, 0] [] (fun u => by simp only [ratTextFL1, AS.temps, List.map_cons, List.map_nil, fillL, List.setIfInBounds_toArray, List.set_cons_zero, List.set_cons_succ]; rfl) (by kernel_rfl) (by kernel_rfl) (JNo.st W6) (below_drew (Below.refl _ _)) ?_ ?_
  · refine AS.StepsOk.cons rfl rfl rfl ?_ ?_
    · intro k_ u w_ hk hJ hF K hK
      clear hF
      obtain rfl : k_ = 0 := Nat.le_zero.1 hk
      have hJ0 : Below W6.heap.size W6 w_ := hJ
      have y0 : w_.cell? ⟨W3.heap.size + 1, 0, none⟩ = some (.bool j1) := ((b4.out).up hJ0).cell 0
      have y1 : w_.cell? ⟨W3.heap.size + 1, 1, none⟩ = some (.slice B1 o1 e1) := ((b4.out).up hJ0).cell 1
      go_simp
      exact hK.out _ _ (Below.refl _ _) ((HB.out).kept (Keep.ofBelow hJ0)) trivial
    refine AS.StepsOk.cons rfl rfl rfl ?_ ?_
    · intro k_ u w_ hk hJ hF K hK
      clear hF
      go_simp
      refine (of_fact (n := 1) (by decide) (by decide)).mono ?_
      rintro e w' ⟨v, rfl, hv, hb⟩
      exact hK.out _ _ hb (hv) trivial
    refine AS.StepsOk.cons rfl rfl rfl ?_ ?_
    · intro k_ u w_ hk hJ hF K hK
      have h10 : PInt ((x.den : Int)) n (u 10) w_ := AS.facts_get hF 10 (by simp)
      have h11 : PInt (1) 3 (u 11) w_ := AS.facts_get hF 11 (by simp)
      clear hF
      go_simp
      refine (cmp_is h10 h11 (by omega) (by omega) hcm).mono ?_
      rintro e w' ⟨rfl, hb⟩
      exact hK.out _ _ hb (rfl) trivial
    refine AS.StepsOk.cons rfl rfl rfl ?_ ?_
    · intro k_ u w_ hk hJ hF K hK
      have h12 : u 12 = .int .i64 0 := AS.facts_get hF 12 (by simp)
      clear hF
      simp only [h12] at hK ⊢
      clear h12
      go_simp
      exact hK.out _ _ (Below.refl _ _) (rfl) trivial
    exact AS.StepsOk.nil
  · intro u W8 hJ9 hF
    have h13 : u 13 = .bool true := AS.facts_get hF 13 (by simp [ratTextFL1, AS.temps])
    clear hF
    have nb := Lib.hid ((b1.out).up hJ9)
    clear b1
    have b1 := nb
    clear nb
    have nb := Lib.hid ((b3.out).up hJ9)
    clear b3
    have b3 := nb
    clear nb
    have nb := Lib.hid ((b4.out).up hJ9)
    clear b4
    have b4 := nb
    clear nb
    have f_ := Lib.hid (H1.out.kept (Keep.ofBelow hJ9))
    clear H1
    have H1 := f_
    clear f_
    have f_ := Lib.hid (HA.out.kept (Keep.ofBelow hJ9))
    clear HA
    have HA := f_
    clear f_
    have f_ := Lib.hid (HB.out.kept (Keep.ofBelow hJ9))
    clear HB
    have HB := f_
    clear f_
    have nbel := below_then HB7.out hJ9 HB7.out.size
    have HB9 := Lib.hid nbel
    clear nbel
    clear HB7
    clear hJ9
    clear x1_0 x1_1 x1_2 x1_3 x3_0 x3_1 x4_0 x4_1 szb s1 s3 s4
    have x1_0 : W8.cell? ⟨w.heap.size, 0, none⟩ = some (.bool k) := (b1.out).cell 0
    have x1_1 : W8.cell? ⟨w.heap.size, 1, none⟩ = some (.slice A l c) := (b1.out).cell 1
    have x1_2 : W8.cell? ⟨w.heap.size, 2, none⟩ = some (.bool k') := (b1.out).cell 2
    have x1_3 : W8.cell? ⟨w.heap.size, 3, none⟩ = some (.slice A' l' c') := (b1.out).cell 3
    have x3_0 : W8.cell? ⟨W3.heap.size, 0, none⟩ = some (.bool k1) := (b3.out).cell 0
    have x3_1 : W8.cell? ⟨W3.heap.size, 1, none⟩ = some (.slice A1 l1 c1) := (b3.out).cell 1
    have x4_0 : W8.cell? ⟨W3.heap.size + 1, 0, none⟩ = some (.bool j1) := (b4.out).cell 0
    have x4_1 : W8.cell? ⟨W3.heap.size + 1, 1, none⟩ = some (.slice B1 o1 e1) := (b4.out).cell 1
    have szb : w.heap.size ≤ W8.heap.size := HB9.out.size
    have s1 : w.heap.size < W8.heap.size := (b1.out).lt
    have s3 : W3.heap.size < W8.heap.size := (b3.out).lt
    have s4 : W3.heap.size + 1 < W8.heap.size := (b4.out).lt
    rw [show u 13 = _ from h13]
    clear h13
    go_wp2_with fail
    refine (text_fact HA.out (by omega) (tab_up HT.out HB9.out)).mono ?_
    rintro e W10 ⟨rfl, hb⟩
    have nb := Lib.hid ((b1.out).up hb)
    clear b1
    have b1 := nb
    clear nb
    have nb := Lib.hid ((b3.out).up hb)
    clear b3
    have b3 := nb
    clear nb
    have nb := Lib.hid ((b4.out).up hb)
    clear b4
    have b4 := nb
    clear nb
    have f_ := Lib.hid (H1.out.kept (Keep.ofBelow hb))
    clear H1
    have H1 := f_
    clear f_
    have f_ := Lib.hid (HA.out.kept (Keep.ofBelow hb))
    clear HA
    have HA := f_
    clear f_
    have f_ := Lib.hid (HB.out.kept (Keep.ofBelow hb))
    clear HB
    have HB := f_
    clear f_
    have nbel := below_then HB9.out hb HB9.out.size
    have HB11 := Lib.hid nbel
    clear nbel
    clear HB9
    clear hb
    clear x1_0 x1_1 x1_2 x1_3 x3_0 x3_1 x4_0 x4_1 szb s1 s3 s4
    have x1_0 : W10.cell? ⟨w.heap.size, 0, none⟩ = some (.bool k) := (b1.out).cell 0
    have x1_1 : W10.cell? ⟨w.heap.size, 1, none⟩ = some (.slice A l c) := (b1.out).cell 1
    have x1_2 : W10.cell? ⟨w.heap.size, 2, none⟩ = some (.bool k') := (b1.out).cell 2
    have x1_3 : W10.cell? ⟨w.heap.size, 3, none⟩ = some (.slice A' l' c') := (b1.out).cell 3
    have x3_0 : W10.cell? ⟨W3.heap.size, 0, none⟩ = some (.bool k1) := (b3.out).cell 0
    have x3_1 : W10.cell? ⟨W3.heap.size, 1, none⟩ = some (.slice A1 l1 c1) := (b3.out).cell 1
    have x4_0 : W10.cell? ⟨W3.heap.size + 1, 0, none⟩ = some (.bool j1) := (b4.out).cell 0
    have x4_1 : W10.cell? ⟨W3.heap.size + 1, 1, none⟩ = some (.slice B1 o1 e1) := (b4.out).cell 1
    have szb : w.heap.size ≤ W10.heap.size := HB11.out.size
    have s1 : w.heap.size < W10.heap.size := (b1.out).lt
    have s3 : W3.heap.size < W10.heap.size := (b3.out).lt
    have s4 : W3.heap.size + 1 < W10.heap.size := (b4.out).lt
    go_wp2_with fail
    have hkeep := (Keep.refl W10)
    have hbel := HB11.out
    refine bodyPost_ret (v := .string ⟨(decZ x.num).toArray⟩) (by simp [results, Tryd.results14, go_sem]) rfl ⟨by unfold ratText; rw [if_pos hd], hbel⟩
def ratTextFL2 (x : Rat) (n : Nat) : List (Nat × AS.Fact) := [(10, AS.Fact.int ((x.den : Int)) n), (11, AS.Fact.int (1) 3), (12, AS.Fact.is (.int .i64 1)), (13, AS.Fact.is (.bool false))]
def ratTextFL3 (x : Rat) (n : Nat) : List (Nat × AS.Fact) := [(16, AS.Fact.int (x.num) n), (17, AS.Fact.is (.string ⟨(decZ (x.num)).toArray⟩)), (18, AS.Fact.is (.string ⟨(decZ x.num ++ [47]).toArray⟩)), (19, AS.Fact.int ((x.den : Int)) n), (20, AS.Fact.is (.string ⟨(decZ ((x.den : Int))).toArray⟩)), (21, AS.Fact.is (.string ⟨(decZ x.num ++ 47 :: decZ (x.den : Int)).toArray⟩)), (2, AS.Fact.is (.string ⟨(decZ x.num ++ 47 :: decZ (x.den : Int)).toArray⟩))]
set_option maxRecDepth 20000 in
set_option maxHeartbeats 3200000 in
theorem ratText_quo {x : Rat} {n : Nat} {v : Value} {w : World} (h : PRat x n v w) (hn3 : 3 ≤ n) (hn : n ≤ 10000) (ht : Tab w.heap.size w) (hd : x.den ≠ 1) (hcm : cmpI (x.den : Int) 1 = 1) :
    Calls Tryd.prog 14 #[v] w fun e w' => e = .returned (.string ⟨(ratText x).toArray⟩) ∧ Below w.heap.size w w' := by
  obtain ⟨k, A, l, c, k', A', l', c', rfl⟩ := h.open
  have H1 := Lib.hid h
  have HT := Lib.hid ht
  clear h ht
  go_enter Tryd.func14, Tryd.ntmps14
  go_upto_region 1 with (fail)
  change Code.wp Tryd.prog _ _ _ (w.alloc (.cells #[.bool k, .slice A l c, .bool k', .slice A' l' c'] 27))
  have nb1 := (Bx.new 27 w [.bool k, .slice A l c, .bool k', .slice A' l' c'] (leaf4 (Leaf.bool k) (Leaf.slice A l c) (Leaf.bool k') (Leaf.slice A' l' c')))
  have nkeep := (Keep.alloc (Keep.refl w) (.cells #[.bool k, .slice A l c, .bool k', .slice A' l' c'] 27))
  have nbel : Below w.heap.size w (w.alloc (.cells #[.bool k, .slice A l c, .bool k', .slice A' l' c'] 27)) := (Below.alloc (Below.refl w.heap.size w) (by first | omega | (simp; done) | (simp; omega) | (simp [World.setCell]; done) | (simp [World.setCell]; omega)) (.cells #[.bool k, .slice A l c, .bool k', .slice A' l' c'] 27))
  generalize w.alloc (.cells #[.bool k, .slice A l c, .bool k', .slice A' l' c'] 27) = W1 at *
  have b1 := Lib.hid nb1
  clear nb1
  have f_ := Lib.hid (H1.out.kept nkeep)
  clear H1
  have H1 := f_
  clear f_
  clear nkeep
  have HB2 := Lib.hid nbel
  clear nbel
  have x1_0 : W1.cell? ⟨w.heap.size, 0, none⟩ = some (.bool k) := (b1.out).cell 0
  have x1_1 : W1.cell? ⟨w.heap.size, 1, none⟩ = some (.slice A l c) := (b1.out).cell 1
  have x1_2 : W1.cell? ⟨w.heap.size, 2, none⟩ = some (.bool k') := (b1.out).cell 2
  have x1_3 : W1.cell? ⟨w.heap.size, 3, none⟩ = some (.slice A' l' c') := (b1.out).cell 3
  have szb : w.heap.size ≤ W1.heap.size := HB2.out.size
  have s1 : w.heap.size < W1.heap.size := (b1.out).lt
  go_wp2_with fail
  refine (terms_fact H1.out hn3).mono ?_
  rintro e W3 ⟨k1, A1, l1, c1, j1, B1, o1, e1, rfl, ha_, hc_, hb⟩
  have nb := Lib.hid ((b1.out).up hb)
  clear b1
  have b1 := nb
  clear nb
  have f_ := Lib.hid (H1.out.kept (Keep.ofBelow hb))
  clear H1
  have H1 := f_
  clear f_
  have nbel := below_then HB2.out hb HB2.out.size
  have HB4 := Lib.hid nbel
  clear nbel
  clear HB2
  clear hb
  clear x1_0 x1_1 x1_2 x1_3 szb s1
  have x1_0 : W3.cell? ⟨w.heap.size, 0, none⟩ = some (.bool k) := (b1.out).cell 0
  have x1_1 : W3.cell? ⟨w.heap.size, 1, none⟩ = some (.slice A l c) := (b1.out).cell 1
  have x1_2 : W3.cell? ⟨w.heap.size, 2, none⟩ = some (.bool k') := (b1.out).cell 2
  have x1_3 : W3.cell? ⟨w.heap.size, 3, none⟩ = some (.slice A' l' c') := (b1.out).cell 3
  have szb : w.heap.size ≤ W3.heap.size := HB4.out.size
  have s1 : w.heap.size < W3.heap.size := (b1.out).lt
  have HA := Lib.hid ha_
  have HB := Lib.hid hc_
  clear ha_ hc_
  go_upto_region 2 with (fail)
  have q5 : w.heap.size < W3.heap.size := (b1.out).lt
  change Code.wp Tryd.prog _ _ _ ((W3.alloc (.cells #[.bool k1, .slice A1 l1 c1] 25)).alloc (.cells #[.bool j1, .slice B1 o1 e1] 25))
  have nb1 : Bx 27 ((W3.alloc (.cells #[.bool k1, .slice A1 l1 c1] 25)).alloc (.cells #[.bool j1, .slice B1 o1 e1] 25)) w.heap.size [.bool k, .slice A l c, .bool k', .slice A' l' c'] := (Bx.alloc (Bx.alloc b1.out (.cells #[.bool k1, .slice A1 l1 c1] 25)) (.cells #[.bool j1, .slice B1 o1 e1] 25))
  have nb3 := (Bx.alloc (Bx.new 25 W3 [.bool k1, .slice A1 l1 c1] (leaf2 (Leaf.bool k1) (Leaf.slice A1 l1 c1))) (.cells #[.bool j1, .slice B1 o1 e1] 25))
  have nb4 := (Bx.new 25 (W3.alloc (.cells #[.bool k1, .slice A1 l1 c1] 25)) [.bool j1, .slice B1 o1 e1] (leaf2 (Leaf.bool j1) (Leaf.slice B1 o1 e1)))
  rw [show (W3.alloc (.cells #[.bool k1, .slice A1 l1 c1] 25)).heap.size = W3.heap.size + 1 by simp] at nb4
  have nkeep := (Keep.alloc (Keep.alloc (Keep.refl W3) (.cells #[.bool k1, .slice A1 l1 c1] 25)) (.cells #[.bool j1, .slice B1 o1 e1] 25))
  have nbel : Below w.heap.size w ((W3.alloc (.cells #[.bool k1, .slice A1 l1 c1] 25)).alloc (.cells #[.bool j1, .slice B1 o1 e1] 25)) := (Below.alloc (Below.alloc HB4.out (by first | omega | (simp; done) | (simp; omega) | (simp [World.setCell]; done) | (simp [World.setCell]; omega)) (.cells #[.bool k1, .slice A1 l1 c1] 25)) (by first | omega | (simp; done) | (simp; omega) | (simp [World.setCell]; done) | (simp [World.setCell]; omega)) (.cells #[.bool j1, .slice B1 o1 e1] 25))
  generalize (W3.alloc (.cells #[.bool k1, .slice A1 l1 c1] 25)).alloc (.cells #[.bool j1, .slice B1 o1 e1] 25) = W6 at *
  clear x1_0 x1_1 x1_2 x1_3 szb s1
  clear b1
  have b1 := Lib.hid nb1
  have b3 := Lib.hid nb3
  have b4 := Lib.hid nb4
  clear nb1 nb3 nb4
  have f_ := Lib.hid (H1.out.kept nkeep)
  clear H1
  have H1 := f_
  clear f_
  have f_ := Lib.hid (HA.out.kept nkeep)
  clear HA
  have HA := f_
  clear f_
  have f_ := Lib.hid (HB.out.kept nkeep)
  clear HB
  have HB := f_
  clear f_
  clear nkeep
  have HB7 := Lib.hid nbel
  clear nbel
  clear HB4
  have x1_0 : W6.cell? ⟨w.heap.size, 0, none⟩ = some (.bool k) := (b1.out).cell 0
  have x1_1 : W6.cell? ⟨w.heap.size, 1, none⟩ = some (.slice A l c) := (b1.out).cell 1
  have x1_2 : W6.cell? ⟨w.heap.size, 2, none⟩ = some (.bool k') := (b1.out).cell 2
  have x1_3 : W6.cell? ⟨w.heap.size, 3, none⟩ = some (.slice A' l' c') := (b1.out).cell 3
  have x3_0 : W6.cell? ⟨W3.heap.size, 0, none⟩ = some (.bool k1) := (b3.out).cell 0
  have x3_1 : W6.cell? ⟨W3.heap.size, 1, none⟩ = some (.slice A1 l1 c1) := (b3.out).cell 1
  have x4_0 : W6.cell? ⟨W3.heap.size + 1, 0, none⟩ = some (.bool j1) := (b4.out).cell 0
  have x4_1 : W6.cell? ⟨W3.heap.size + 1, 1, none⟩ = some (.slice B1 o1 e1) := (b4.out).cell 1
  have szb : w.heap.size ≤ W6.heap.size := HB7.out.size
  have s1 : w.heap.size < W6.heap.size := (b1.out).lt
  have s3 : W3.heap.size < W6.heap.size := (b3.out).lt
  have s4 : W3.heap.size + 1 < W6.heap.size := (b4.out).lt
  refine AS.region_facts (ratTextFL2 x n) (JNo W6) [[], [], [10, 11], [12]] [] [[]] [0, 0, 0, 0] [] (fun u => by simp only [ratTextFL2, AS.temps, List.map_cons, List.map_nil, fillL, List.setIfInBounds_toArray, List.set_cons_zero, List.set_cons_succ]; rfl) (by kernel_rfl) (by kernel_rfl) (JNo.st W6) (below_drew (Below.refl _ _)) ?_ ?_
  · refine AS.StepsOk.cons rfl rfl rfl ?_ ?_
    · intro k_ u w_ hk hJ hF K hK
      clear hF
      obtain rfl : k_ = 0 := Nat.le_zero.1 hk
      have hJ0 : Below W6.heap.size W6 w_ := hJ
      have y0 : w_.cell? ⟨W3.heap.size + 1, 0, none⟩ = some (.bool j1) := ((b4.out).up hJ0).cell 0
      have y1 : w_.cell? ⟨W3.heap.size + 1, 1, none⟩ = some (.slice B1 o1 e1) := ((b4.out).up hJ0).cell 1
      go_simp
      exact hK.out _ _ (Below.refl _ _) ((HB.out).kept (Keep.ofBelow hJ0)) trivial
    refine AS.StepsOk.cons rfl rfl rfl ?_ ?_
    · intro k_ u w_ hk hJ hF K hK
      clear hF
      go_simp
      refine (of_fact (n := 1) (by decide) (by decide)).mono ?_
      rintro e w' ⟨v, rfl, hv, hb⟩
      exact hK.out _ _ hb (hv) trivial
    refine AS.StepsOk.cons rfl rfl rfl ?_ ?_
    · intro k_ u w_ hk hJ hF K hK
      have h10 : PInt ((x.den : Int)) n (u 10) w_ := AS.facts_get hF 10 (by simp)
      have h11 : PInt (1) 3 (u 11) w_ := AS.facts_get hF 11 (by simp)
      clear hF
      go_simp
      refine (cmp_is h10 h11 (by omega) (by omega) hcm).mono ?_
      rintro e w' ⟨rfl, hb⟩
      exact hK.out _ _ hb (rfl) trivial
    refine AS.StepsOk.cons rfl rfl rfl ?_ ?_
    · intro k_ u w_ hk hJ hF K hK
      have h12 : u 12 = .int .i64 1 := AS.facts_get hF 12 (by simp)
      clear hF
      simp only [h12] at hK ⊢
      clear h12
      go_simp
      exact hK.out _ _ (Below.refl _ _) (rfl) trivial
    exact AS.StepsOk.nil
  · intro u W8 hJ9 hF
    have h13 : u 13 = .bool false := AS.facts_get hF 13 (by simp [ratTextFL2, AS.temps])
    clear hF
    have nb := Lib.hid ((b1.out).up hJ9)
    clear b1
    have b1 := nb
    clear nb
    have nb := Lib.hid ((b3.out).up hJ9)
    clear b3
    have b3 := nb
    clear nb
    have nb := Lib.hid ((b4.out).up hJ9)
    clear b4
    have b4 := nb
    clear nb
    have f_ := Lib.hid (H1.out.kept (Keep.ofBelow hJ9))
    clear H1
    have H1 := f_
    clear f_
    have f_ := Lib.hid (HA.out.kept (Keep.ofBelow hJ9))
    clear HA
    have HA := f_
    clear f_
    have f_ := Lib.hid (HB.out.kept (Keep.ofBelow hJ9))
    clear HB
    have HB := f_
    clear f_
    have nbel := below_then HB7.out hJ9 HB7.out.size
    have HB9 := Lib.hid nbel
    clear nbel
    clear HB7
    clear hJ9
    clear x1_0 x1_1 x1_2 x1_3 x3_0 x3_1 x4_0 x4_1 szb s1 s3 s4
    have x1_0 : W8.cell? ⟨w.heap.size, 0, none⟩ = some (.bool k) := (b1.out).cell 0
    have x1_1 : W8.cell? ⟨w.heap.size, 1, none⟩ = some (.slice A l c) := (b1.out).cell 1
    have x1_2 : W8.cell? ⟨w.heap.size, 2, none⟩ = some (.bool k') := (b1.out).cell 2
    have x1_3 : W8.cell? ⟨w.heap.size, 3, none⟩ = some (.slice A' l' c') := (b1.out).cell 3
    have x3_0 : W8.cell? ⟨W3.heap.size, 0, none⟩ = some (.bool k1) := (b3.out).cell 0
    have x3_1 : W8.cell? ⟨W3.heap.size, 1, none⟩ = some (.slice A1 l1 c1) := (b3.out).cell 1
    have x4_0 : W8.cell? ⟨W3.heap.size + 1, 0, none⟩ = some (.bool j1) := (b4.out).cell 0
    have x4_1 : W8.cell? ⟨W3.heap.size + 1, 1, none⟩ = some (.slice B1 o1 e1) := (b4.out).cell 1
    have szb : w.heap.size ≤ W8.heap.size := HB9.out.size
    have s1 : w.heap.size < W8.heap.size := (b1.out).lt
    have s3 : W3.heap.size < W8.heap.size := (b3.out).lt
    have s4 : W3.heap.size + 1 < W8.heap.size := (b4.out).lt
    rw [show u 13 = _ from h13]
    clear h13
    have HTW := Lib.hid (tab_up HT.out HB9.out)
    have HL1 := Lib.hid (decZ_len HA.out)
    have HL2 := Lib.hid (decZ_len HB.out)
    go_upto_region 4 with (fail)
    refine AS.region_facts (ratTextFL3 x n) (JNo W8) [[], [16], [17], [], [19], [18, 20], [21]] [] [[]] [0, 0, 0, 0, 0, 0, 0] [] (fun u => by simp only [ratTextFL3, AS.temps, List.map_cons, List.map_nil, fillL, List.setIfInBounds_toArray, List.set_cons_zero, List.set_cons_succ]; rfl) (by kernel_rfl) (by kernel_rfl) (JNo.st W8) (below_drew (Below.refl _ _)) ?_ ?_
    · refine AS.StepsOk.cons rfl rfl rfl ?_ ?_
      · intro k_ u w_ hk hJ hF K hK
        clear hF
        obtain rfl : k_ = 0 := Nat.le_zero.1 hk
        have hJ0 : Below W8.heap.size W8 w_ := hJ
        have y0 : w_.cell? ⟨W3.heap.size, 0, none⟩ = some (.bool k1) := ((b3.out).up hJ0).cell 0
        have y1 : w_.cell? ⟨W3.heap.size, 1, none⟩ = some (.slice A1 l1 c1) := ((b3.out).up hJ0).cell 1
        go_simp
        exact hK.out _ _ (Below.refl _ _) ((HA.out).kept (Keep.ofBelow hJ0)) trivial
      refine AS.StepsOk.cons rfl rfl rfl ?_ ?_
      · intro k_ u w_ hk hJ hF K hK
        have h16 : PInt (x.num) n (u 16) w_ := AS.facts_get hF 16 (by simp)
        clear hF
        go_simp
        refine (text_fact h16 (by omega) (tab_up HTW.out hJ)).mono ?_
        rintro e w' ⟨rfl, hb⟩
        exact hK.out _ _ hb (rfl) trivial
      refine AS.StepsOk.cons rfl rfl rfl ?_ ?_
      · intro k_ u w_ hk hJ hF K hK
        have h17 : u 17 = .string ⟨(decZ (x.num)).toArray⟩ := AS.facts_get hF 17 (by simp)
        clear hF
        simp only [h17] at hK ⊢
        clear h17
        have hz1 := run_string_add_lists (P := Tryd.prog) w_ (decZ x.num) [47] (by have := HL1.out; omega) (by simp)
        go_simp
        exact hK.out _ _ (Below.refl _ _) (rfl) trivial
      refine AS.StepsOk.cons rfl rfl rfl ?_ ?_
      · intro k_ u w_ hk hJ hF K hK
        clear hF
        obtain rfl : k_ = 0 := Nat.le_zero.1 hk
        have hJ0 : Below W8.heap.size W8 w_ := hJ
        have y0 : w_.cell? ⟨W3.heap.size + 1, 0, none⟩ = some (.bool j1) := ((b4.out).up hJ0).cell 0
        have y1 : w_.cell? ⟨W3.heap.size + 1, 1, none⟩ = some (.slice B1 o1 e1) := ((b4.out).up hJ0).cell 1
        go_simp
        exact hK.out _ _ (Below.refl _ _) ((HB.out).kept (Keep.ofBelow hJ0)) trivial
      refine AS.StepsOk.cons rfl rfl rfl ?_ ?_
      · intro k_ u w_ hk hJ hF K hK
        have h19 : PInt ((x.den : Int)) n (u 19) w_ := AS.facts_get hF 19 (by simp)
        clear hF
        go_simp
        refine (text_fact h19 (by omega) (tab_up HTW.out hJ)).mono ?_
        rintro e w' ⟨rfl, hb⟩
        exact hK.out _ _ hb (rfl) trivial
      refine AS.StepsOk.cons rfl rfl rfl ?_ ?_
      · intro k_ u w_ hk hJ hF K hK
        have h18 : u 18 = .string ⟨(decZ x.num ++ [47]).toArray⟩ := AS.facts_get hF 18 (by simp)
        have h20 : u 20 = .string ⟨(decZ ((x.den : Int))).toArray⟩ := AS.facts_get hF 20 (by simp)
        clear hF
        simp only [h18, h20] at hK ⊢
        clear h18 h20
        have hz1 := run_string_add_lists (P := Tryd.prog) w_ (decZ x.num ++ [47]) (decZ (x.den : Int)) (by have := HL1.out; rw [List.length_append]; simp; omega) (by have := HL2.out; omega)
        go_simp
        exact hK.out _ _ (Below.refl _ _) (rfl) trivial
      refine AS.StepsOk.cons rfl rfl rfl ?_ ?_
      · intro k_ u w_ hk hJ hF K hK
        have h21 : u 21 = .string ⟨(decZ x.num ++ 47 :: decZ (x.den : Int)).toArray⟩ := AS.facts_get hF 21 (by simp)
        clear hF
        simp only [h21] at hK ⊢
        clear h21
        go_simp
        exact hK.out _ _ (Below.refl _ _) (rfl) trivial
      exact AS.StepsOk.nil
    · intro u W10 hJ9 hF
      have h2 : u 2 = .string ⟨(decZ x.num ++ 47 :: decZ (x.den : Int)).toArray⟩ := AS.facts_get hF 2 (by simp [ratTextFL3, AS.temps])
      clear hF
      rw [show u 2 = _ from h2]
      clear h2
      have nb := Lib.hid ((b1.out).up hJ9)
      clear b1
      have b1 := nb
      clear nb
      have nb := Lib.hid ((b3.out).up hJ9)
      clear b3
      have b3 := nb
      clear nb
      have nb := Lib.hid ((b4.out).up hJ9)
      clear b4
      have b4 := nb
      clear nb
      have f_ := Lib.hid (H1.out.kept (Keep.ofBelow hJ9))
      clear H1
      have H1 := f_
      clear f_
      have f_ := Lib.hid (HA.out.kept (Keep.ofBelow hJ9))
      clear HA
      have HA := f_
      clear f_
      have f_ := Lib.hid (HB.out.kept (Keep.ofBelow hJ9))
      clear HB
      have HB := f_
      clear f_
      have nbel := below_then HB9.out hJ9 HB9.out.size
      have HB11 := Lib.hid nbel
      clear nbel
      clear HB9
      clear hJ9
      clear x1_0 x1_1 x1_2 x1_3 x3_0 x3_1 x4_0 x4_1 szb s1 s3 s4
      have x1_0 : W10.cell? ⟨w.heap.size, 0, none⟩ = some (.bool k) := (b1.out).cell 0
      have x1_1 : W10.cell? ⟨w.heap.size, 1, none⟩ = some (.slice A l c) := (b1.out).cell 1
      have x1_2 : W10.cell? ⟨w.heap.size, 2, none⟩ = some (.bool k') := (b1.out).cell 2
      have x1_3 : W10.cell? ⟨w.heap.size, 3, none⟩ = some (.slice A' l' c') := (b1.out).cell 3
      have x3_0 : W10.cell? ⟨W3.heap.size, 0, none⟩ = some (.bool k1) := (b3.out).cell 0
      have x3_1 : W10.cell? ⟨W3.heap.size, 1, none⟩ = some (.slice A1 l1 c1) := (b3.out).cell 1
      have x4_0 : W10.cell? ⟨W3.heap.size + 1, 0, none⟩ = some (.bool j1) := (b4.out).cell 0
      have x4_1 : W10.cell? ⟨W3.heap.size + 1, 1, none⟩ = some (.slice B1 o1 e1) := (b4.out).cell 1
      have szb : w.heap.size ≤ W10.heap.size := HB11.out.size
      have s1 : w.heap.size < W10.heap.size := (b1.out).lt
      have s3 : W3.heap.size < W10.heap.size := (b3.out).lt
      have s4 : W3.heap.size + 1 < W10.heap.size := (b4.out).lt
      go_wp2_with fail
      have hkeep := (Keep.refl W10)
      have hbel := HB11.out
      refine bodyPost_ret (v := .string ⟨(decZ x.num ++ 47 :: decZ (x.den : Int)).toArray⟩) (by simp [results, Tryd.results14, go_sem]) rfl ⟨by unfold ratText; rw [if_neg hd], hbel⟩
theorem ratText_fact {x : Rat} {n : Nat} {v : Value} {w : World} (h : PRat x n v w) (hn3 : 3 ≤ n) (hn : n ≤ 10000) (ht : Tab w.heap.size w) :
    Calls Tryd.prog 14 #[v] w fun e w' => e = .returned (.string ⟨(ratText x).toArray⟩) ∧ Below w.heap.size w w' := by
  by_cases hd : x.den = 1
  · exact ratText_int h hn3 hn ht hd (by rw [hd]; rfl)
  · exact ratText_quo h hn3 hn ht hd (by unfold cmpI; have := x.den_pos; rw [if_neg (by omega), if_neg (by omega)])
end Go.Proofs.YtmpdpfiokjepaaaDoor

/- awake holds. -/
namespace Go.Proofs.YtmpdpfiokjepaaaDoor
open Go.RowKit
open AS (Keep NoInt)

theorem ofq_any {a b : Int} {w : World} (ha : -9223372036854775808 ≤ a) (ha' : a ≤ 9223372036854775807) (hb1 : -9223372036854775808 ≤ b) (hb' : b ≤ 9223372036854775807) :
    Calls Tryd.prog 5 #[.int .i64 a, .int .i64 b] w fun e w' => ∃ v, e = .returned (.tuple #[v, .int .i64 (if b = 0 then 10 else 0)]) ∧ PRat (Rat.divInt a b) 4 v w' ∧ Below w.heap.size w w' := by
  by_cases hq : b = 0
  · subst hq
    refine (ofq_zero ha ha').mono ?_
    rintro e w' ⟨rfl, hb⟩
    exact ⟨_, rfl, by rw [Rat.divInt_zero]; exact PRat.zero _ _, hb⟩
  · rw [if_neg hq]
    exact ofq_fact ha ha' hb1 hb' hq
theorem ratScale_is {a r s : Int} {x : Rat} {n : Nat} {v : Value} {w : World} (h : PRat x n v w) (hn3 : 3 ≤ n) (hn : n ≤ 10000) (hrs : scaleN a x = r ∧ scaleE a x = s) :
    Calls Tryd.prog 15 #[.int .i64 a, v] w fun e w' => e = .returned (.tuple #[.int .i64 r, .int .i64 s]) ∧ Below w.heap.size w w' := by
  obtain ⟨rfl, rfl⟩ := hrs
  exact ratScale_fact h hn3 hn
theorem ratText_is {x : Rat} {n : Nat} {v : Value} {w : World} {T : List UInt8} (h : PRat x n v w) (hn3 : 3 ≤ n) (hn : n ≤ 10000) (ht : Tab w.heap.size w) (hT : ratText x = T) :
    Calls Tryd.prog 14 #[v] w fun e w' => e = .returned (.string ⟨T.toArray⟩) ∧ Below w.heap.size w w' := hT ▸ ratText_fact h hn3 hn ht
theorem awake_scale : scaleN 100 (Rat.divInt 1 3 + Rat.divInt 1 3) = 67 ∧ scaleE 100 (Rat.divInt 1 3 + Rat.divInt 1 3) = 0 := by decide +kernel
theorem awake_text : ratText (Rat.divInt 1 3 + Rat.divInt 1 6) = [49, 47, 50] := by decide +kernel
set_option maxRecDepth 20000 in
set_option maxHeartbeats 3200000 in
theorem awake_fact {w : World} (ht : Tab w.heap.size w) :
    Calls Tryd.prog 4 #[] w fun e w' => e = .returned (.bool true) ∧ Below w.heap.size w w' := by
  have HT := Lib.hid ht
  clear ht
  go_enter Tryd.func4, Tryd.ntmps4
  go_wp2_with fail
  refine (ofq_fact (a := 1) (b := 3) (by decide) (by decide) (by decide) (by decide) (by decide)).mono ?_
  rintro e W1 ⟨v, rfl, hv, hb⟩
  have nbel := hb
  have HB2 := Lib.hid nbel
  clear nbel
  clear hb
  have szb : w.heap.size ≤ W1.heap.size := HB2.out.size
  obtain ⟨k1, A1, l1, c1, k2, A2, l2, c2, rfl⟩ := hv.open
  have HX := Lib.hid hv
  clear hv
  go_upto_region 2 with (fail)
  change Code.wp Tryd.prog _ _ _ (W1.alloc (.cells #[.bool k1, .slice A1 l1 c1, .bool k2, .slice A2 l2 c2] 27))
  have nb1 := (Bx.new 27 W1 [.bool k1, .slice A1 l1 c1, .bool k2, .slice A2 l2 c2] (leaf4 (Leaf.bool k1) (Leaf.slice A1 l1 c1) (Leaf.bool k2) (Leaf.slice A2 l2 c2)))
  have nkeep := (Keep.alloc (Keep.refl W1) (.cells #[.bool k1, .slice A1 l1 c1, .bool k2, .slice A2 l2 c2] 27))
  have nbel : Below w.heap.size w (W1.alloc (.cells #[.bool k1, .slice A1 l1 c1, .bool k2, .slice A2 l2 c2] 27)) := (Below.alloc HB2.out (by first | omega | (simp; done) | (simp; omega) | (simp [World.setCell]; done) | (simp [World.setCell]; omega)) (.cells #[.bool k1, .slice A1 l1 c1, .bool k2, .slice A2 l2 c2] 27))
  generalize W1.alloc (.cells #[.bool k1, .slice A1 l1 c1, .bool k2, .slice A2 l2 c2] 27) = W3 at *
  clear szb
  have b1 := Lib.hid nb1
  clear nb1
  have f_ := Lib.hid (HX.out.kept nkeep)
  clear HX
  have HX := f_
  clear f_
  clear nkeep
  have HB4 := Lib.hid nbel
  clear nbel
  clear HB2
  have x1_0 : W3.cell? ⟨W1.heap.size, 0, none⟩ = some (.bool k1) := (b1.out).cell 0
  have x1_1 : W3.cell? ⟨W1.heap.size, 1, none⟩ = some (.slice A1 l1 c1) := (b1.out).cell 1
  have x1_2 : W3.cell? ⟨W1.heap.size, 2, none⟩ = some (.bool k2) := (b1.out).cell 2
  have x1_3 : W3.cell? ⟨W1.heap.size, 3, none⟩ = some (.slice A2 l2 c2) := (b1.out).cell 3
  have szb : w.heap.size ≤ W3.heap.size := HB4.out.size
  have s1 : W1.heap.size < W3.heap.size := (b1.out).lt
  go_wp2_with fail
  refine (ofq_fact (a := 1) (b := 6) (by decide) (by decide) (by decide) (by decide) (by decide)).mono ?_
  rintro e W5 ⟨v, rfl, hv, hb⟩
  have nb := Lib.hid ((b1.out).up hb)
  clear b1
  have b1 := nb
  clear nb
  have f_ := Lib.hid (HX.out.kept (Keep.ofBelow hb))
  clear HX
  have HX := f_
  clear f_
  have nbel := below_then HB4.out hb HB4.out.size
  have HB6 := Lib.hid nbel
  clear nbel
  clear HB4
  clear hb
  clear x1_0 x1_1 x1_2 x1_3 szb s1
  have x1_0 : W5.cell? ⟨W1.heap.size, 0, none⟩ = some (.bool k1) := (b1.out).cell 0
  have x1_1 : W5.cell? ⟨W1.heap.size, 1, none⟩ = some (.slice A1 l1 c1) := (b1.out).cell 1
  have x1_2 : W5.cell? ⟨W1.heap.size, 2, none⟩ = some (.bool k2) := (b1.out).cell 2
  have x1_3 : W5.cell? ⟨W1.heap.size, 3, none⟩ = some (.slice A2 l2 c2) := (b1.out).cell 3
  have szb : w.heap.size ≤ W5.heap.size := HB6.out.size
  have s1 : W1.heap.size < W5.heap.size := (b1.out).lt
  obtain ⟨k3, A3, l3, c3, k4, A4, l4, c4, rfl⟩ := hv.open
  have HY := Lib.hid hv
  clear hv
  go_upto_region 3 with (fail)
  have q7 : W1.heap.size < W5.heap.size := (b1.out).lt
  change Code.wp Tryd.prog _ _ _ (W5.alloc (.cells #[.bool k3, .slice A3 l3 c3, .bool k4, .slice A4 l4 c4] 27))
  have nb1 : Bx 27 (W5.alloc (.cells #[.bool k3, .slice A3 l3 c3, .bool k4, .slice A4 l4 c4] 27)) W1.heap.size [.bool k1, .slice A1 l1 c1, .bool k2, .slice A2 l2 c2] := (Bx.alloc b1.out (.cells #[.bool k3, .slice A3 l3 c3, .bool k4, .slice A4 l4 c4] 27))
  have nb3 := (Bx.new 27 W5 [.bool k3, .slice A3 l3 c3, .bool k4, .slice A4 l4 c4] (leaf4 (Leaf.bool k3) (Leaf.slice A3 l3 c3) (Leaf.bool k4) (Leaf.slice A4 l4 c4)))
  have nkeep := (Keep.alloc (Keep.refl W5) (.cells #[.bool k3, .slice A3 l3 c3, .bool k4, .slice A4 l4 c4] 27))
  have nbel : Below w.heap.size w (W5.alloc (.cells #[.bool k3, .slice A3 l3 c3, .bool k4, .slice A4 l4 c4] 27)) := (Below.alloc HB6.out (by first | omega | (simp; done) | (simp; omega) | (simp [World.setCell]; done) | (simp [World.setCell]; omega)) (.cells #[.bool k3, .slice A3 l3 c3, .bool k4, .slice A4 l4 c4] 27))
  generalize W5.alloc (.cells #[.bool k3, .slice A3 l3 c3, .bool k4, .slice A4 l4 c4] 27) = W8 at *
  clear x1_0 x1_1 x1_2 x1_3 szb s1
  clear b1
  have b1 := Lib.hid nb1
  have b3 := Lib.hid nb3
  clear nb1 nb3
  have f_ := Lib.hid (HX.out.kept nkeep)
  clear HX
  have HX := f_
  clear f_
  have f_ := Lib.hid (HY.out.kept nkeep)
  clear HY
  have HY := f_
  clear f_
  clear nkeep
  have HB9 := Lib.hid nbel
  clear nbel
  clear HB6
  have x1_0 : W8.cell? ⟨W1.heap.size, 0, none⟩ = some (.bool k1) := (b1.out).cell 0
  have x1_1 : W8.cell? ⟨W1.heap.size, 1, none⟩ = some (.slice A1 l1 c1) := (b1.out).cell 1
  have x1_2 : W8.cell? ⟨W1.heap.size, 2, none⟩ = some (.bool k2) := (b1.out).cell 2
  have x1_3 : W8.cell? ⟨W1.heap.size, 3, none⟩ = some (.slice A2 l2 c2) := (b1.out).cell 3
  have x3_0 : W8.cell? ⟨W5.heap.size, 0, none⟩ = some (.bool k3) := (b3.out).cell 0
  have x3_1 : W8.cell? ⟨W5.heap.size, 1, none⟩ = some (.slice A3 l3 c3) := (b3.out).cell 1
  have x3_2 : W8.cell? ⟨W5.heap.size, 2, none⟩ = some (.bool k4) := (b3.out).cell 2
  have x3_3 : W8.cell? ⟨W5.heap.size, 3, none⟩ = some (.slice A4 l4 c4) := (b3.out).cell 3
  have szb : w.heap.size ≤ W8.heap.size := HB9.out.size
  have s1 : W1.heap.size < W8.heap.size := (b1.out).lt
  have s3 : W5.heap.size < W8.heap.size := (b3.out).lt
  go_wp2_with fail
  refine (ratAdd_fact HX.out HX.out (by decide) (by decide)).mono ?_
  rintro e W10 ⟨v, rfl, hv, hb⟩
  have nb := Lib.hid ((b1.out).up hb)
  clear b1
  have b1 := nb
  clear nb
  have nb := Lib.hid ((b3.out).up hb)
  clear b3
  have b3 := nb
  clear nb
  have f_ := Lib.hid (HX.out.kept (Keep.ofBelow hb))
  clear HX
  have HX := f_
  clear f_
  have f_ := Lib.hid (HY.out.kept (Keep.ofBelow hb))
  clear HY
  have HY := f_
  clear f_
  have nbel := below_then HB9.out hb HB9.out.size
  have HB11 := Lib.hid nbel
  clear nbel
  clear HB9
  clear hb
  clear x1_0 x1_1 x1_2 x1_3 x3_0 x3_1 x3_2 x3_3 szb s1 s3
  have x1_0 : W10.cell? ⟨W1.heap.size, 0, none⟩ = some (.bool k1) := (b1.out).cell 0
  have x1_1 : W10.cell? ⟨W1.heap.size, 1, none⟩ = some (.slice A1 l1 c1) := (b1.out).cell 1
  have x1_2 : W10.cell? ⟨W1.heap.size, 2, none⟩ = some (.bool k2) := (b1.out).cell 2
  have x1_3 : W10.cell? ⟨W1.heap.size, 3, none⟩ = some (.slice A2 l2 c2) := (b1.out).cell 3
  have x3_0 : W10.cell? ⟨W5.heap.size, 0, none⟩ = some (.bool k3) := (b3.out).cell 0
  have x3_1 : W10.cell? ⟨W5.heap.size, 1, none⟩ = some (.slice A3 l3 c3) := (b3.out).cell 1
  have x3_2 : W10.cell? ⟨W5.heap.size, 2, none⟩ = some (.bool k4) := (b3.out).cell 2
  have x3_3 : W10.cell? ⟨W5.heap.size, 3, none⟩ = some (.slice A4 l4 c4) := (b3.out).cell 3
  have szb : w.heap.size ≤ W10.heap.size := HB11.out.size
  have s1 : W1.heap.size < W10.heap.size := (b1.out).lt
  have s3 : W5.heap.size < W10.heap.size := (b3.out).lt
  obtain ⟨k5, A5, l5, c5, k6, A6, l6, c6, rfl⟩ := hv.open
  have HS := Lib.hid hv
  clear hv
  go_wp2_with fail
  refine (ratScale_is HS.out (by decide) (by decide) awake_scale).mono ?_
  rintro e W12 ⟨rfl, hb⟩
  have nb := Lib.hid ((b1.out).up hb)
  clear b1
  have b1 := nb
  clear nb
  have nb := Lib.hid ((b3.out).up hb)
  clear b3
  have b3 := nb
  clear nb
  have f_ := Lib.hid (HX.out.kept (Keep.ofBelow hb))
  clear HX
  have HX := f_
  clear f_
  have f_ := Lib.hid (HY.out.kept (Keep.ofBelow hb))
  clear HY
  have HY := f_
  clear f_
  have f_ := Lib.hid (HS.out.kept (Keep.ofBelow hb))
  clear HS
  have HS := f_
  clear f_
  have nbel := below_then HB11.out hb HB11.out.size
  have HB13 := Lib.hid nbel
  clear nbel
  clear HB11
  clear hb
  clear x1_0 x1_1 x1_2 x1_3 x3_0 x3_1 x3_2 x3_3 szb s1 s3
  have x1_0 : W12.cell? ⟨W1.heap.size, 0, none⟩ = some (.bool k1) := (b1.out).cell 0
  have x1_1 : W12.cell? ⟨W1.heap.size, 1, none⟩ = some (.slice A1 l1 c1) := (b1.out).cell 1
  have x1_2 : W12.cell? ⟨W1.heap.size, 2, none⟩ = some (.bool k2) := (b1.out).cell 2
  have x1_3 : W12.cell? ⟨W1.heap.size, 3, none⟩ = some (.slice A2 l2 c2) := (b1.out).cell 3
  have x3_0 : W12.cell? ⟨W5.heap.size, 0, none⟩ = some (.bool k3) := (b3.out).cell 0
  have x3_1 : W12.cell? ⟨W5.heap.size, 1, none⟩ = some (.slice A3 l3 c3) := (b3.out).cell 1
  have x3_2 : W12.cell? ⟨W5.heap.size, 2, none⟩ = some (.bool k4) := (b3.out).cell 2
  have x3_3 : W12.cell? ⟨W5.heap.size, 3, none⟩ = some (.slice A4 l4 c4) := (b3.out).cell 3
  have szb : w.heap.size ≤ W12.heap.size := HB13.out.size
  have s1 : W1.heap.size < W12.heap.size := (b1.out).lt
  have s3 : W5.heap.size < W12.heap.size := (b3.out).lt
  go_wp2_with fail
  refine (ratAdd_fact HX.out HY.out (by decide) (by decide)).mono ?_
  rintro e W14 ⟨v, rfl, hv, hb⟩
  have nb := Lib.hid ((b1.out).up hb)
  clear b1
  have b1 := nb
  clear nb
  have nb := Lib.hid ((b3.out).up hb)
  clear b3
  have b3 := nb
  clear nb
  have f_ := Lib.hid (HX.out.kept (Keep.ofBelow hb))
  clear HX
  have HX := f_
  clear f_
  have f_ := Lib.hid (HY.out.kept (Keep.ofBelow hb))
  clear HY
  have HY := f_
  clear f_
  have f_ := Lib.hid (HS.out.kept (Keep.ofBelow hb))
  clear HS
  have HS := f_
  clear f_
  have nbel := below_then HB13.out hb HB13.out.size
  have HB15 := Lib.hid nbel
  clear nbel
  clear HB13
  clear hb
  clear x1_0 x1_1 x1_2 x1_3 x3_0 x3_1 x3_2 x3_3 szb s1 s3
  have x1_0 : W14.cell? ⟨W1.heap.size, 0, none⟩ = some (.bool k1) := (b1.out).cell 0
  have x1_1 : W14.cell? ⟨W1.heap.size, 1, none⟩ = some (.slice A1 l1 c1) := (b1.out).cell 1
  have x1_2 : W14.cell? ⟨W1.heap.size, 2, none⟩ = some (.bool k2) := (b1.out).cell 2
  have x1_3 : W14.cell? ⟨W1.heap.size, 3, none⟩ = some (.slice A2 l2 c2) := (b1.out).cell 3
  have x3_0 : W14.cell? ⟨W5.heap.size, 0, none⟩ = some (.bool k3) := (b3.out).cell 0
  have x3_1 : W14.cell? ⟨W5.heap.size, 1, none⟩ = some (.slice A3 l3 c3) := (b3.out).cell 1
  have x3_2 : W14.cell? ⟨W5.heap.size, 2, none⟩ = some (.bool k4) := (b3.out).cell 2
  have x3_3 : W14.cell? ⟨W5.heap.size, 3, none⟩ = some (.slice A4 l4 c4) := (b3.out).cell 3
  have szb : w.heap.size ≤ W14.heap.size := HB15.out.size
  have s1 : W1.heap.size < W14.heap.size := (b1.out).lt
  have s3 : W5.heap.size < W14.heap.size := (b3.out).lt
  obtain ⟨k7, A7, l7, c7, k8, A8, l8, c8, rfl⟩ := hv.open
  have HU := Lib.hid hv
  clear hv
  go_wp2_with fail
  refine (ratText_is HU.out (by decide) (by decide) (tab_up HT.out HB15.out) awake_text).mono ?_
  rintro e W16 ⟨rfl, hb⟩
  have nb := Lib.hid ((b1.out).up hb)
  clear b1
  have b1 := nb
  clear nb
  have nb := Lib.hid ((b3.out).up hb)
  clear b3
  have b3 := nb
  clear nb
  have f_ := Lib.hid (HX.out.kept (Keep.ofBelow hb))
  clear HX
  have HX := f_
  clear f_
  have f_ := Lib.hid (HY.out.kept (Keep.ofBelow hb))
  clear HY
  have HY := f_
  clear f_
  have f_ := Lib.hid (HS.out.kept (Keep.ofBelow hb))
  clear HS
  have HS := f_
  clear f_
  have f_ := Lib.hid (HU.out.kept (Keep.ofBelow hb))
  clear HU
  have HU := f_
  clear f_
  have nbel := below_then HB15.out hb HB15.out.size
  have HB17 := Lib.hid nbel
  clear nbel
  clear HB15
  clear hb
  clear x1_0 x1_1 x1_2 x1_3 x3_0 x3_1 x3_2 x3_3 szb s1 s3
  have x1_0 : W16.cell? ⟨W1.heap.size, 0, none⟩ = some (.bool k1) := (b1.out).cell 0
  have x1_1 : W16.cell? ⟨W1.heap.size, 1, none⟩ = some (.slice A1 l1 c1) := (b1.out).cell 1
  have x1_2 : W16.cell? ⟨W1.heap.size, 2, none⟩ = some (.bool k2) := (b1.out).cell 2
  have x1_3 : W16.cell? ⟨W1.heap.size, 3, none⟩ = some (.slice A2 l2 c2) := (b1.out).cell 3
  have x3_0 : W16.cell? ⟨W5.heap.size, 0, none⟩ = some (.bool k3) := (b3.out).cell 0
  have x3_1 : W16.cell? ⟨W5.heap.size, 1, none⟩ = some (.slice A3 l3 c3) := (b3.out).cell 1
  have x3_2 : W16.cell? ⟨W5.heap.size, 2, none⟩ = some (.bool k4) := (b3.out).cell 2
  have x3_3 : W16.cell? ⟨W5.heap.size, 3, none⟩ = some (.slice A4 l4 c4) := (b3.out).cell 3
  have szb : w.heap.size ≤ W16.heap.size := HB17.out.size
  have s1 : W1.heap.size < W16.heap.size := (b1.out).lt
  have s3 : W5.heap.size < W16.heap.size := (b3.out).lt
  go_wp2_with fail
  have hkeep := (Keep.refl W16)
  have hbel := HB17.out
  refine bodyPost_ret (v := .bool true) (by simp [results, Tryd.results4, go_sem]) rfl ⟨rfl, hbel⟩
end Go.Proofs.YtmpdpfiokjepaaaDoor

/- Parts of the reference. -/
namespace Go.Proofs.YtmpdpfiokjepaaaDoor
open Go.RowKit
open AS (Keep NoInt)

def rpartsFL (n : Nat) (g : Nat) : List (Nat × AS.Fact) := [(8, AS.Fact.is (.pointer (some ⟨g, 0, none⟩))), (9, AS.Fact.ref (0) n), (10, AS.Fact.ref (1) 5)]
set_option maxRecDepth 20000 in
set_option maxHeartbeats 3200000 in
theorem rparts_fact {x : Rat} {n : Nat} {v : Value} {w : World} (h : RRat x n v w) (hn : 5 ≤ n) :
    Calls Tryd.prog 8 #[v] w fun e w' => ∃ (k : Bool) (A : Option Addr) (l c : Nat) (k' : Bool) (A' : Option Addr) (l' c' : Nat), e = .returned (.tuple #[.agg #[.bool k, .slice A l c], .agg #[.bool k', .slice A' l' c']]) ∧ PRef x.num n (.agg #[.bool k, .slice A l c]) w' ∧ PRef x.den n (.agg #[.bool k', .slice A' l' c']) w' ∧ Below w.heap.size w w' := by
  obtain ⟨k, A, l, c, k', A', l', c', rfl⟩ := h.open
  obtain ⟨p, q, h1, h2, h3⟩ := h.parts
  have H1 := Lib.hid h1
  have H2 := Lib.hid h2
  clear h h1 h2
  go_enter Tryd.func8, Tryd.ntmps8
  go_upto_region 1 with (fail)
  change Code.wp Tryd.prog _ _ _ (((w.alloc (.cells #[.bool k, .slice A l c, .bool k', .slice A' l' c'] 35)).alloc (.cells #[.bool false, .slice none 0 0] 33)).alloc (.cells #[.bool false, .slice none 0 0] 33))
  have nb1 := (Bx.alloc (Bx.alloc (Bx.new 35 w [.bool k, .slice A l c, .bool k', .slice A' l' c'] (leaf4 (Leaf.bool k) (Leaf.slice A l c) (Leaf.bool k') (Leaf.slice A' l' c'))) (.cells #[.bool false, .slice none 0 0] 33)) (.cells #[.bool false, .slice none 0 0] 33))
  have nb2 := (Bx.alloc (Bx.new 33 (w.alloc (.cells #[.bool k, .slice A l c, .bool k', .slice A' l' c'] 35)) [.bool false, .slice none 0 0] (leaf2 (Leaf.bool false) (Leaf.slice none 0 0))) (.cells #[.bool false, .slice none 0 0] 33))
  rw [show (w.alloc (.cells #[.bool k, .slice A l c, .bool k', .slice A' l' c'] 35)).heap.size = w.heap.size + 1 by simp] at nb2
  have nb3 := (Bx.new 33 ((w.alloc (.cells #[.bool k, .slice A l c, .bool k', .slice A' l' c'] 35)).alloc (.cells #[.bool false, .slice none 0 0] 33)) [.bool false, .slice none 0 0] (leaf2 (Leaf.bool false) (Leaf.slice none 0 0)))
  rw [show ((w.alloc (.cells #[.bool k, .slice A l c, .bool k', .slice A' l' c'] 35)).alloc (.cells #[.bool false, .slice none 0 0] 33)).heap.size = w.heap.size + 1 + 1 by simp] at nb3
  have nkeep := (Keep.alloc (Keep.alloc (Keep.alloc (Keep.refl w) (.cells #[.bool k, .slice A l c, .bool k', .slice A' l' c'] 35)) (.cells #[.bool false, .slice none 0 0] 33)) (.cells #[.bool false, .slice none 0 0] 33))
  have nbel : Below w.heap.size w (((w.alloc (.cells #[.bool k, .slice A l c, .bool k', .slice A' l' c'] 35)).alloc (.cells #[.bool false, .slice none 0 0] 33)).alloc (.cells #[.bool false, .slice none 0 0] 33)) := (Below.alloc (Below.alloc (Below.alloc (Below.refl w.heap.size w) (by first | omega | (simp; done) | (simp; omega) | (simp [World.setCell]; done) | (simp [World.setCell]; omega)) (.cells #[.bool k, .slice A l c, .bool k', .slice A' l' c'] 35)) (by first | omega | (simp; done) | (simp; omega) | (simp [World.setCell]; done) | (simp [World.setCell]; omega)) (.cells #[.bool false, .slice none 0 0] 33)) (by first | omega | (simp; done) | (simp; omega) | (simp [World.setCell]; done) | (simp [World.setCell]; omega)) (.cells #[.bool false, .slice none 0 0] 33))
  generalize ((w.alloc (.cells #[.bool k, .slice A l c, .bool k', .slice A' l' c'] 35)).alloc (.cells #[.bool false, .slice none 0 0] 33)).alloc (.cells #[.bool false, .slice none 0 0] 33) = W1 at *
  have b1 := Lib.hid nb1
  have b2 := Lib.hid nb2
  have b3 := Lib.hid nb3
  clear nb1 nb2 nb3
  have f_ := Lib.hid (H1.out.kept nkeep)
  clear H1
  have H1 := f_
  clear f_
  have f_ := Lib.hid (H2.out.kept nkeep)
  clear H2
  have H2 := f_
  clear f_
  clear nkeep
  have HB2 := Lib.hid nbel
  clear nbel
  have x1_0 : W1.cell? ⟨w.heap.size, 0, none⟩ = some (.bool k) := (b1.out).cell 0
  have x1_1 : W1.cell? ⟨w.heap.size, 1, none⟩ = some (.slice A l c) := (b1.out).cell 1
  have x1_2 : W1.cell? ⟨w.heap.size, 2, none⟩ = some (.bool k') := (b1.out).cell 2
  have x1_3 : W1.cell? ⟨w.heap.size, 3, none⟩ = some (.slice A' l' c') := (b1.out).cell 3
  have x2_0 : W1.cell? ⟨w.heap.size + 1, 0, none⟩ = some (.bool false) := (b2.out).cell 0
  have x2_1 : W1.cell? ⟨w.heap.size + 1, 1, none⟩ = some (.slice none 0 0) := (b2.out).cell 1
  have x3_0 : W1.cell? ⟨w.heap.size + 1 + 1, 0, none⟩ = some (.bool false) := (b3.out).cell 0
  have x3_1 : W1.cell? ⟨w.heap.size + 1 + 1, 1, none⟩ = some (.slice none 0 0) := (b3.out).cell 1
  have szb : w.heap.size ≤ W1.heap.size := HB2.out.size
  have s1 : w.heap.size < W1.heap.size := (b1.out).lt
  have s2 : w.heap.size + 1 < W1.heap.size := (b2.out).lt
  have s3 : w.heap.size + 1 + 1 < W1.heap.size := (b3.out).lt
  clear x1_0 x1_1 x1_2 x1_3 x2_0 x2_1 x3_0 x3_1 szb s1 s2 s3
  have x1_0 : W1.cell? ⟨w.heap.size, 0, none⟩ = some (.bool k) := (b1.out).cell 0
  have x1_1 : W1.cell? ⟨w.heap.size, 1, none⟩ = some (.slice A l c) := (b1.out).cell 1
  have x1_2 : W1.cell? ⟨w.heap.size, 2, none⟩ = some (.bool k') := (b1.out).cell 2
  have x1_3 : W1.cell? ⟨w.heap.size, 3, none⟩ = some (.slice A' l' c') := (b1.out).cell 3
  have x2_0 : W1.cell? ⟨w.heap.size + 1, 0, none⟩ = some (.bool false) := (b2.out).cell 0
  have x2_1 : W1.cell? ⟨w.heap.size + 1, 1, none⟩ = some (.slice none 0 0) := (b2.out).cell 1
  have z2_0 : W1.frozen? ⟨w.heap.size + 1, 0, none⟩ = false := (b2.out).frozen 0
  have z2_1 : W1.frozen? ⟨w.heap.size + 1, 1, none⟩ = false := (b2.out).frozen 1
  have x3_0 : W1.cell? ⟨w.heap.size + 1 + 1, 0, none⟩ = some (.bool false) := (b3.out).cell 0
  have x3_1 : W1.cell? ⟨w.heap.size + 1 + 1, 1, none⟩ = some (.slice none 0 0) := (b3.out).cell 1
  have z3_0 : W1.frozen? ⟨w.heap.size + 1 + 1, 0, none⟩ = false := (b3.out).frozen 0
  have z3_1 : W1.frozen? ⟨w.heap.size + 1 + 1, 1, none⟩ = false := (b3.out).frozen 1
  have szb : w.heap.size ≤ W1.heap.size := HB2.out.size
  have s1 : w.heap.size < W1.heap.size := (b1.out).lt
  have s2 : w.heap.size + 1 < W1.heap.size := (b2.out).lt
  have s3 : w.heap.size + 1 + 1 < W1.heap.size := (b3.out).lt
  rcases h3 with ⟨rfl, rfl⟩ | ⟨rfl, rfl, rfl⟩
  · have hc : cmpI (x.den : Int) 0 = 1 := by unfold cmpI; have := x.den_pos; rw [if_neg (by omega), if_neg (by omega)]
    go_wp2_with fail
    refine (rsign_is H2.out hc).mono ?_
    rintro e W3 ⟨rfl, hb⟩
    have nb := Lib.hid ((b1.out).up hb)
    clear b1
    have b1 := nb
    clear nb
    have nb := Lib.hid ((b2.out).up hb)
    clear b2
    have b2 := nb
    clear nb
    have nb := Lib.hid ((b3.out).up hb)
    clear b3
    have b3 := nb
    clear nb
    have f_ := Lib.hid (H1.out.kept (Keep.ofBelow hb))
    clear H1
    have H1 := f_
    clear f_
    have f_ := Lib.hid (H2.out.kept (Keep.ofBelow hb))
    clear H2
    have H2 := f_
    clear f_
    have nbel := below_then HB2.out hb HB2.out.size
    have HB4 := Lib.hid nbel
    clear nbel
    clear HB2
    clear hb
    clear x1_0 x1_1 x1_2 x1_3 x2_0 x2_1 z2_0 z2_1 x3_0 x3_1 z3_0 z3_1 szb s1 s2 s3
    have x1_0 : W3.cell? ⟨w.heap.size, 0, none⟩ = some (.bool k) := (b1.out).cell 0
    have x1_1 : W3.cell? ⟨w.heap.size, 1, none⟩ = some (.slice A l c) := (b1.out).cell 1
    have x1_2 : W3.cell? ⟨w.heap.size, 2, none⟩ = some (.bool k') := (b1.out).cell 2
    have x1_3 : W3.cell? ⟨w.heap.size, 3, none⟩ = some (.slice A' l' c') := (b1.out).cell 3
    have x2_0 : W3.cell? ⟨w.heap.size + 1, 0, none⟩ = some (.bool false) := (b2.out).cell 0
    have x2_1 : W3.cell? ⟨w.heap.size + 1, 1, none⟩ = some (.slice none 0 0) := (b2.out).cell 1
    have z2_0 : W3.frozen? ⟨w.heap.size + 1, 0, none⟩ = false := (b2.out).frozen 0
    have z2_1 : W3.frozen? ⟨w.heap.size + 1, 1, none⟩ = false := (b2.out).frozen 1
    have x3_0 : W3.cell? ⟨w.heap.size + 1 + 1, 0, none⟩ = some (.bool false) := (b3.out).cell 0
    have x3_1 : W3.cell? ⟨w.heap.size + 1 + 1, 1, none⟩ = some (.slice none 0 0) := (b3.out).cell 1
    have z3_0 : W3.frozen? ⟨w.heap.size + 1 + 1, 0, none⟩ = false := (b3.out).frozen 0
    have z3_1 : W3.frozen? ⟨w.heap.size + 1 + 1, 1, none⟩ = false := (b3.out).frozen 1
    have szb : w.heap.size ≤ W3.heap.size := HB4.out.size
    have s1 : w.heap.size < W3.heap.size := (b1.out).lt
    have s2 : w.heap.size + 1 < W3.heap.size := (b2.out).lt
    have s3 : w.heap.size + 1 + 1 < W3.heap.size := (b3.out).lt
    go_wp2
    go_region
    go_wp2
    have hkeep := (Keep.drew (Keep.set (Keep.set (Keep.set (Keep.set (Keep.refl W3) b2.out 0 (Leaf.bool k)) (Bx.set b2.out 0 (Leaf.bool k)) 1 (Leaf.slice A l c)) (Bx.far (g' := w.heap.size + 1) (Bx.far (g' := w.heap.size + 1) b3.out (by omega) 0 (.bool k)) (by omega) 1 (.slice A l c)) 0 (Leaf.bool k')) (Bx.set (Bx.far (g' := w.heap.size + 1) (Bx.far (g' := w.heap.size + 1) b3.out (by omega) 0 (.bool k)) (by omega) 1 (.slice A l c)) 0 (Leaf.bool k')) 1 (Leaf.slice A' l' c')))
    have hbel := (below_drew (Below.setCell (p := ⟨w.heap.size + 1 + 1, 1, none⟩) (Below.setCell (p := ⟨w.heap.size + 1 + 1, 0, none⟩) (Below.setCell (p := ⟨w.heap.size + 1, 1, none⟩) (Below.setCell (p := ⟨w.heap.size + 1, 0, none⟩) HB4.out (by first | omega | (simp; done) | (simp; omega)) (.bool k)) (by first | omega | (simp; done) | (simp; omega)) (.slice A l c)) (by first | omega | (simp; done) | (simp; omega)) (.bool k')) (by first | omega | (simp; done) | (simp; omega)) (.slice A' l' c')))
    refine bodyPost_ret (v := .tuple #[.agg #[.bool k, .slice A l c], .agg #[.bool k', .slice A' l' c']]) (by simp [results, Tryd.results8, go_sem, x2_0, x2_1, x3_0, x3_1]) rfl ⟨_, _, _, _, _, _, _, _, rfl, H1.out.kept hkeep, H2.out.kept hkeep, hbel⟩
  · go_wp2_with fail
    refine (rsign_is H2.out (c := 0) (by decide)).mono ?_
    rintro e W3 ⟨rfl, hb⟩
    have nb := Lib.hid ((b1.out).up hb)
    clear b1
    have b1 := nb
    clear nb
    have nb := Lib.hid ((b2.out).up hb)
    clear b2
    have b2 := nb
    clear nb
    have nb := Lib.hid ((b3.out).up hb)
    clear b3
    have b3 := nb
    clear nb
    have f_ := Lib.hid (H1.out.kept (Keep.ofBelow hb))
    clear H1
    have H1 := f_
    clear f_
    have f_ := Lib.hid (H2.out.kept (Keep.ofBelow hb))
    clear H2
    have H2 := f_
    clear f_
    have nbel := below_then HB2.out hb HB2.out.size
    have HB4 := Lib.hid nbel
    clear nbel
    clear HB2
    clear hb
    clear x1_0 x1_1 x1_2 x1_3 x2_0 x2_1 z2_0 z2_1 x3_0 x3_1 z3_0 z3_1 szb s1 s2 s3
    have x1_0 : W3.cell? ⟨w.heap.size, 0, none⟩ = some (.bool k) := (b1.out).cell 0
    have x1_1 : W3.cell? ⟨w.heap.size, 1, none⟩ = some (.slice A l c) := (b1.out).cell 1
    have x1_2 : W3.cell? ⟨w.heap.size, 2, none⟩ = some (.bool k') := (b1.out).cell 2
    have x1_3 : W3.cell? ⟨w.heap.size, 3, none⟩ = some (.slice A' l' c') := (b1.out).cell 3
    have x2_0 : W3.cell? ⟨w.heap.size + 1, 0, none⟩ = some (.bool false) := (b2.out).cell 0
    have x2_1 : W3.cell? ⟨w.heap.size + 1, 1, none⟩ = some (.slice none 0 0) := (b2.out).cell 1
    have z2_0 : W3.frozen? ⟨w.heap.size + 1, 0, none⟩ = false := (b2.out).frozen 0
    have z2_1 : W3.frozen? ⟨w.heap.size + 1, 1, none⟩ = false := (b2.out).frozen 1
    have x3_0 : W3.cell? ⟨w.heap.size + 1 + 1, 0, none⟩ = some (.bool false) := (b3.out).cell 0
    have x3_1 : W3.cell? ⟨w.heap.size + 1 + 1, 1, none⟩ = some (.slice none 0 0) := (b3.out).cell 1
    have z3_0 : W3.frozen? ⟨w.heap.size + 1 + 1, 0, none⟩ = false := (b3.out).frozen 0
    have z3_1 : W3.frozen? ⟨w.heap.size + 1 + 1, 1, none⟩ = false := (b3.out).frozen 1
    have szb : w.heap.size ≤ W3.heap.size := HB4.out.size
    have s1 : w.heap.size < W3.heap.size := (b1.out).lt
    have s2 : w.heap.size + 1 < W3.heap.size := (b2.out).lt
    have s3 : w.heap.size + 1 + 1 < W3.heap.size := (b3.out).lt
    go_upto_region 2 with (fail)
    refine AS.region_facts (rpartsFL n w.heap.size) (JRes2 w W3 33 33 (w.heap.size + 1) (w.heap.size + 1 + 1) [(35, w.heap.size, [.bool k, .slice A l c, .bool k', .slice A' l' c'])]) [[], [8], [], [9], [10]] [3, 4] [[], [9], [9, 10]] [2, 0, 2, 2, 2] [] (fun u => by simp only [rpartsFL, AS.temps, List.map_cons, List.map_nil, fillL, List.setIfInBounds_toArray, List.set_cons_zero, List.set_cons_succ]; rfl) (by kernel_rfl) (by kernel_rfl) (JRes2.st w W3 33 33 (w.heap.size + 1) (w.heap.size + 1 + 1) [(35, w.heap.size, [.bool k, .slice A l c, .bool k', .slice A' l' c'])]) (below_drew (Below.refl _ _)) ?_ ?_
    · refine AS.StepsOk.cons rfl rfl rfl ?_ ?_
      · intro k_ u w_ hk hJ hF K hK
        clear hF
        go_simp
        exact hK.out _ _ (Below.refl _ _) (rfl) trivial
      refine AS.StepsOk.cons rfl rfl rfl ?_ ?_
      · intro k_ u w_ hk hJ hF K hK
        have h8 : u 8 = .pointer (some ⟨w.heap.size, 0, none⟩) := AS.facts_get hF 8 (by simp)
        clear hF
        simp only [h8] at hK ⊢
        clear h8
        obtain rfl : k_ = 0 := Nat.le_zero.1 hk
        have hJ0 : Below W3.heap.size W3 w_ := hJ
        have y0 : w_.cell? ⟨w.heap.size, 0, none⟩ = some (.bool k) := ((b1.out).up hJ0).cell 0
        have y1 : w_.cell? ⟨w.heap.size, 1, none⟩ = some (.slice A l c) := ((b1.out).up hJ0).cell 1
        have y2 : w_.cell? ⟨w.heap.size, 2, none⟩ = some (.bool k') := ((b1.out).up hJ0).cell 2
        have y3 : w_.cell? ⟨w.heap.size, 3, none⟩ = some (.slice A' l' c') := ((b1.out).up hJ0).cell 3
        go_simp
        exact hK.out _ _ (Below.refl _ _) ((H1.out).kept (Keep.ofBelow hJ0)) trivial
      refine AS.StepsOk.cons rfl rfl rfl ?_ ?_
      · intro k_ u w_ hk hJ hF K hK
        clear hF
        go_simp
        refine (rof_fact (n := 1) (by decide) (by decide)).mono ?_
        rintro e w' ⟨v, rfl, hv, hb⟩
        exact hK.out _ _ hb (hv) trivial
      refine AS.StepsOk.store rfl rfl ?_ ?_
      · intro u w_ hJ hAp hF K hK
        have h9 : PRef (0) n (u 9) w_ := AS.facts_get hF 9 (by simp)
        clear hF
        obtain ⟨k1, A1, l1, c1, e_⟩ := h9.open
        have hJ0 : Below W3.heap.size W3 w_ := hJ
        have bx := (b2.out).up hJ0
        have hbel := below_then HB4.out hJ0 HB4.out.size
        have bx2 := (b3.out).up hJ0
        have ob1 := (b1.out).up hJ0
        have y0 := bx.cell 0
        have z0 := bx.frozen 0
        have y1 := bx.cell 1
        have z1 := bx.frozen 1
        simp only [List.getElem?_cons_zero, List.getElem?_cons_succ] at y0 y1
        have hob2 : ∀ b_ ∈ ([(35, w.heap.size, [.bool k, .slice A l c, .bool k', .slice A' l' c'])] : List (TypeId × Nat × List Value)), Bx b_.1 ((w_.setCell ⟨w.heap.size + 1, 0, none⟩ (.bool k1)).setCell ⟨w.heap.size + 1, 1, none⟩ (.slice A1 l1 c1)) b_.2.1 b_.2.2 := by
          intro b_ hb_
          simp only [List.mem_cons, List.not_mem_nil, or_false] at hb_
          rcases hb_ with rfl
          · exact (Bx.far (g' := w.heap.size + 1) (Bx.far (g' := w.heap.size + 1) ob1 (show w.heap.size + 1 ≠ w.heap.size by omega) 0 (.bool k1)) (show w.heap.size + 1 ≠ w.heap.size by omega) 1 (.slice A1 l1 c1))
        simp only [e_] at hK ⊢
        go_simp
        exact hK.out undef _ ⟨⟨(Below.setCell (p := ⟨w.heap.size + 1, 1, none⟩) (Below.setCell (p := ⟨w.heap.size + 1, 0, none⟩) hbel (by first | omega | (simp; done) | (simp; omega)) (.bool k1)) (by first | omega | (simp; done) | (simp; omega)) (.slice A1 l1 c1)), (by simp only [setCell_size]; first | exact hsz | exact Nat.le_trans HB4.out.size hJ0.size)⟩, hob2, ⟨[.bool k1, .slice A1 l1 c1], by simp [e_], (Bx.set (Bx.set bx 0 (Leaf.bool k1)) 1 (Leaf.slice A1 l1 c1))⟩, _, _, (Bx.far (g' := w.heap.size + 1) (Bx.far (g' := w.heap.size + 1) bx2 (by omega) 0 (.bool k1)) (by omega) 1 (.slice A1 l1 c1))⟩ (Keep.set (Keep.set (Keep.refl w_) bx 0 (Leaf.bool k1)) (Bx.set bx 0 (Leaf.bool k1)) 1 (Leaf.slice A1 l1 c1))
      refine AS.StepsOk.store rfl rfl ?_ ?_
      · intro u w_ hJ hAp hF K hK
        have h10 : PRef (1) 5 (u 10) w_ := AS.facts_get hF 10 (by simp)
        clear hF
        obtain ⟨k1, A1, l1, c1, e_⟩ := h10.open
        obtain ⟨⟨hbel, hsz⟩, hob, ⟨vs, hvs, bx1⟩, x_, y_, bx⟩ := hJ
        have ob1 := hob (35, w.heap.size, [.bool k, .slice A l c, .bool k', .slice A' l' c']) (by simp)
        clear hob
        have y0 := bx.cell 0
        have z0 := bx.frozen 0
        have y1 := bx.cell 1
        have z1 := bx.frozen 1
        simp only [List.getElem?_cons_zero, List.getElem?_cons_succ] at y0 y1
        have hob2 : ∀ b_ ∈ ([(35, w.heap.size, [.bool k, .slice A l c, .bool k', .slice A' l' c'])] : List (TypeId × Nat × List Value)), Bx b_.1 ((w_.setCell ⟨w.heap.size + 1 + 1, 0, none⟩ (.bool k1)).setCell ⟨w.heap.size + 1 + 1, 1, none⟩ (.slice A1 l1 c1)) b_.2.1 b_.2.2 := by
          intro b_ hb_
          simp only [List.mem_cons, List.not_mem_nil, or_false] at hb_
          rcases hb_ with rfl
          · exact (Bx.far (g' := w.heap.size + 1 + 1) (Bx.far (g' := w.heap.size + 1 + 1) ob1 (show w.heap.size + 1 + 1 ≠ w.heap.size by omega) 0 (.bool k1)) (show w.heap.size + 1 + 1 ≠ w.heap.size by omega) 1 (.slice A1 l1 c1))
        simp only [e_] at hK ⊢
        go_simp
        exact hK.out undef _ ⟨⟨(Below.setCell (p := ⟨w.heap.size + 1 + 1, 1, none⟩) (Below.setCell (p := ⟨w.heap.size + 1 + 1, 0, none⟩) hbel (by first | omega | (simp; done) | (simp; omega)) (.bool k1)) (by first | omega | (simp; done) | (simp; omega)) (.slice A1 l1 c1)), (by simp only [setCell_size]; first | exact hsz | exact Nat.le_trans HB4.out.size hJ0.size)⟩, hob2, vs, [.bool k1, .slice A1 l1 c1], by simp [e_, List.cons.inj hvs], (Bx.far (g' := w.heap.size + 1 + 1) (Bx.far (g' := w.heap.size + 1 + 1) bx1 (by omega) 0 (.bool k1)) (by omega) 1 (.slice A1 l1 c1)), (Bx.set (Bx.set bx 0 (Leaf.bool k1)) 1 (Leaf.slice A1 l1 c1))⟩ (Keep.set (Keep.set (Keep.refl w_) bx 0 (Leaf.bool k1)) (Bx.set bx 0 (Leaf.bool k1)) 1 (Leaf.slice A1 l1 c1))
      exact AS.StepsOk.nil
    · intro u W5 hJ9 hF
      have h9 : PRef (0) n (u 9) W5 := AS.facts_get hF 9 (by simp [rpartsFL, AS.temps])
      have h10 : PRef (1) 5 (u 10) W5 := AS.facts_get hF 10 (by simp [rpartsFL, AS.temps])
      clear hF
      obtain ⟨⟨hbel, -⟩, -, vs, vs2, hvs, hbx, hbx2⟩ := hJ9
      obtain ⟨ka, Aa, la, ca, ea⟩ := h9.open
      obtain ⟨kb, Ab, lb, cb, eb⟩ := h10.open
      rw [ea] at h9
      rw [eb] at h10
      obtain rfl : vs = [.bool ka, .slice Aa la ca] := by
        have e1 := (List.cons.inj hvs).1
        rw [show u 9 = _ from ea] at e1
        have e2 := congrArg Array.toList (Value.agg.inj e1)
        simpa using e2.symm
      obtain rfl : vs2 = [.bool kb, .slice Ab lb cb] := by
        have e1 := (List.cons.inj (List.cons.inj hvs).2).1
        rw [show u 10 = _ from eb] at e1
        have e2 := congrArg Array.toList (Value.agg.inj e1)
        simpa using e2.symm
      have y0 := hbx.cell 0
      have z0 := hbx2.cell 0
      have y1 := hbx.cell 1
      have z1 := hbx2.cell 1
      simp only [List.getElem?_cons_zero, List.getElem?_cons_succ] at y0 y1 z0 z1
      go_wp2_with fail
      refine bodyPost_ret (v := .tuple #[.agg #[.bool ka, .slice Aa la ca], .agg #[.bool kb, .slice Ab lb cb]]) (by simp [results, Tryd.results8, go_sem, y0, y1, z0, z1]) rfl ⟨_, _, _, _, _, _, _, _, rfl, h9, h10.more hn, hbel⟩
end Go.Proofs.YtmpdpfiokjepaaaDoor

/- Texts of different integers differ. -/
namespace Go.Proofs.YtmpdpfiokjepaaaDoor
open Go.RowKit

theorem decDig_pos : ∀ (u : Nat), Lib.decDigits u ≠ [] := by
  intro u
  rw [Lib.decDigits]
  split <;> simp
theorem ofNat_dig {a b : Nat} (ha : a < 10) (hb : b < 10) (h : UInt8.ofNat (48 + a) = UInt8.ofNat (48 + b)) : a = b := by
  have := congrArg UInt8.toNat h
  simp at this
  omega
theorem decDig_inj : ∀ (u v : Nat), Lib.decDigits u = Lib.decDigits v → u = v := by
  intro u
  induction u using Nat.strongRecOn with
  | _ u ih =>
    intro v h
    rw [Lib.decDigits, Lib.decDigits.eq_def v] at h
    split at h
    · rename_i hu
      split at h
      · rename_i hv
        exact ofNat_dig hu hv (List.cons.inj h).1
      · exfalso
        have h1 := congrArg List.length h
        have h2 := List.length_pos_iff.2 (decDig_pos (v / 10))
        rw [List.length_append, List.length_singleton, List.length_singleton] at h1
        omega
    · rename_i hu
      split at h
      · exfalso
        have h1 := congrArg List.length h
        have h2 := List.length_pos_iff.2 (decDig_pos (u / 10))
        rw [List.length_append, List.length_singleton, List.length_singleton] at h1
        omega
      · obtain ⟨h1, h2⟩ := List.append_inj' h rfl
        have h3 := ih (u / 10) (by omega) _ h1
        have h4 := ofNat_dig (by omega) (by omega) (List.cons.inj h2).1
        omega
theorem decDig_ge : ∀ (u : Nat), ∀ c ∈ Lib.decDigits u, c ≠ 45 := by
  intro u
  induction u using Nat.strongRecOn with
  | _ u ih =>
    intro c hc
    rw [Lib.decDigits] at hc
    have hd : ∀ a : Nat, a < 10 → UInt8.ofNat (48 + a) ≠ 45 := by
      intro a ha h
      have := congrArg UInt8.toNat h
      simp at this
      omega
    split at hc
    · rename_i hu
      rw [List.mem_singleton.1 hc]; exact hd u hu
    · rcases List.mem_append.1 hc with h | h
      · exact ih (u / 10) (by omega) c h
      · rw [List.mem_singleton.1 h]; exact hd _ (by omega)
theorem decZ_inj {a b : Int} (h : decZ a = decZ b) : a = b := by
  unfold decZ decI at h
  have hh : ∀ (u v : Nat), [45] ++ Lib.decDigits u ≠ [] ++ Lib.decDigits v := by
    intro u v h
    have : (45 : UInt8) ∈ Lib.decDigits v := by
      have h2 : (45 : UInt8) ∈ [45] ++ Lib.decDigits u := by simp
      rw [h] at h2
      simpa using h2
    exact decDig_ge v _ this rfl
  by_cases ha : a < 0 <;> by_cases hb : b < 0
  · simp [ha, hb] at h
    have := decDig_inj _ _ h
    omega
  · simp only [ha, hb, decide_true, decide_false, Bool.false_eq_true, if_true, if_false] at h
    exact absurd h (hh _ _)
  · simp only [ha, hb, decide_true, decide_false, Bool.false_eq_true, if_true, if_false] at h
    exact absurd h.symm (hh _ _)
  · simp [ha, hb] at h
    have := decDig_inj _ _ h
    omega
end Go.Proofs.YtmpdpfiokjepaaaDoor

/- Text of the reference. -/
namespace Go.Proofs.YtmpdpfiokjepaaaDoor
open Go.RowKit
open AS (Keep NoInt)

theorem rtext_is {z : Int} {n : Nat} {a : Value} {w : World} {T : List UInt8} (h1 : PRef z n a w) (hn : n ≤ 1000000) (hT : decZ z = T) :
    Calls Tryd.prog 11 #[a] w fun e w' => e = .returned (.string ⟨T.toArray⟩) ∧ Below w.heap.size w w' := hT ▸ rtext_fact h1 hn
set_option maxRecDepth 20000 in
set_option maxHeartbeats 3200000 in
theorem rratText_int {x : Rat} {n : Nat} {v : Value} {w : World} (h : RRat x n v w) (hn5 : 5 ≤ n) (hn : n ≤ 10000) (hd : x.den = 1) (hT : decZ (x.den : Int) = [49]) :
    Calls Tryd.prog 24 #[v] w fun e w' => e = .returned (.string ⟨(ratText x).toArray⟩) ∧ Below w.heap.size w w' := by
  obtain ⟨k, A, l, c, k', A', l', c', rfl⟩ := h.open
  have H1 := Lib.hid h
  have HTT := Lib.hid hT
  clear h hT
  go_enter Tryd.func24, Tryd.ntmps24
  go_upto_region 1 with (fail)
  change Code.wp Tryd.prog _ _ _ (w.alloc (.cells #[.bool k, .slice A l c, .bool k', .slice A' l' c'] 35))
  have nb1 := (Bx.new 35 w [.bool k, .slice A l c, .bool k', .slice A' l' c'] (leaf4 (Leaf.bool k) (Leaf.slice A l c) (Leaf.bool k') (Leaf.slice A' l' c')))
  have nkeep := (Keep.alloc (Keep.refl w) (.cells #[.bool k, .slice A l c, .bool k', .slice A' l' c'] 35))
  have nbel : Below w.heap.size w (w.alloc (.cells #[.bool k, .slice A l c, .bool k', .slice A' l' c'] 35)) := (Below.alloc (Below.refl w.heap.size w) (by first | omega | (simp; done) | (simp; omega) | (simp [World.setCell]; done) | (simp [World.setCell]; omega)) (.cells #[.bool k, .slice A l c, .bool k', .slice A' l' c'] 35))
  generalize w.alloc (.cells #[.bool k, .slice A l c, .bool k', .slice A' l' c'] 35) = W1 at *
  have b1 := Lib.hid nb1
  clear nb1
  have f_ := Lib.hid (H1.out.kept nkeep)
  clear H1
  have H1 := f_
  clear f_
  clear nkeep
  have HB2 := Lib.hid nbel
  clear nbel
  have x1_0 : W1.cell? ⟨w.heap.size, 0, none⟩ = some (.bool k) := (b1.out).cell 0
  have x1_1 : W1.cell? ⟨w.heap.size, 1, none⟩ = some (.slice A l c) := (b1.out).cell 1
  have x1_2 : W1.cell? ⟨w.heap.size, 2, none⟩ = some (.bool k') := (b1.out).cell 2
  have x1_3 : W1.cell? ⟨w.heap.size, 3, none⟩ = some (.slice A' l' c') := (b1.out).cell 3
  have szb : w.heap.size ≤ W1.heap.size := HB2.out.size
  have s1 : w.heap.size < W1.heap.size := (b1.out).lt
  go_wp2_with fail
  refine (rparts_fact H1.out hn5).mono ?_
  rintro e W3 ⟨k1, A1, l1, c1, j1, B1, o1, e1, rfl, ha_, hc_, hb⟩
  have nb := Lib.hid ((b1.out).up hb)
  clear b1
  have b1 := nb
  clear nb
  have f_ := Lib.hid (H1.out.kept (Keep.ofBelow hb))
  clear H1
  have H1 := f_
  clear f_
  have nbel := below_then HB2.out hb HB2.out.size
  have HB4 := Lib.hid nbel
  clear nbel
  clear HB2
  clear hb
  clear x1_0 x1_1 x1_2 x1_3 szb s1
  have x1_0 : W3.cell? ⟨w.heap.size, 0, none⟩ = some (.bool k) := (b1.out).cell 0
  have x1_1 : W3.cell? ⟨w.heap.size, 1, none⟩ = some (.slice A l c) := (b1.out).cell 1
  have x1_2 : W3.cell? ⟨w.heap.size, 2, none⟩ = some (.bool k') := (b1.out).cell 2
  have x1_3 : W3.cell? ⟨w.heap.size, 3, none⟩ = some (.slice A' l' c') := (b1.out).cell 3
  have szb : w.heap.size ≤ W3.heap.size := HB4.out.size
  have s1 : w.heap.size < W3.heap.size := (b1.out).lt
  have HA := Lib.hid ha_
  have HB := Lib.hid hc_
  clear ha_ hc_
  go_upto_region 2 with (fail)
  have q5 : w.heap.size < W3.heap.size := (b1.out).lt
  change Code.wp Tryd.prog _ _ _ ((W3.alloc (.cells #[.bool k1, .slice A1 l1 c1] 33)).alloc (.cells #[.bool j1, .slice B1 o1 e1] 33))
  have nb1 : Bx 35 ((W3.alloc (.cells #[.bool k1, .slice A1 l1 c1] 33)).alloc (.cells #[.bool j1, .slice B1 o1 e1] 33)) w.heap.size [.bool k, .slice A l c, .bool k', .slice A' l' c'] := (Bx.alloc (Bx.alloc b1.out (.cells #[.bool k1, .slice A1 l1 c1] 33)) (.cells #[.bool j1, .slice B1 o1 e1] 33))
  have nb3 := (Bx.alloc (Bx.new 33 W3 [.bool k1, .slice A1 l1 c1] (leaf2 (Leaf.bool k1) (Leaf.slice A1 l1 c1))) (.cells #[.bool j1, .slice B1 o1 e1] 33))
  have nb4 := (Bx.new 33 (W3.alloc (.cells #[.bool k1, .slice A1 l1 c1] 33)) [.bool j1, .slice B1 o1 e1] (leaf2 (Leaf.bool j1) (Leaf.slice B1 o1 e1)))
  rw [show (W3.alloc (.cells #[.bool k1, .slice A1 l1 c1] 33)).heap.size = W3.heap.size + 1 by simp] at nb4
  have nkeep := (Keep.alloc (Keep.alloc (Keep.refl W3) (.cells #[.bool k1, .slice A1 l1 c1] 33)) (.cells #[.bool j1, .slice B1 o1 e1] 33))
  have nbel : Below w.heap.size w ((W3.alloc (.cells #[.bool k1, .slice A1 l1 c1] 33)).alloc (.cells #[.bool j1, .slice B1 o1 e1] 33)) := (Below.alloc (Below.alloc HB4.out (by first | omega | (simp; done) | (simp; omega) | (simp [World.setCell]; done) | (simp [World.setCell]; omega)) (.cells #[.bool k1, .slice A1 l1 c1] 33)) (by first | omega | (simp; done) | (simp; omega) | (simp [World.setCell]; done) | (simp [World.setCell]; omega)) (.cells #[.bool j1, .slice B1 o1 e1] 33))
  generalize (W3.alloc (.cells #[.bool k1, .slice A1 l1 c1] 33)).alloc (.cells #[.bool j1, .slice B1 o1 e1] 33) = W6 at *
  clear x1_0 x1_1 x1_2 x1_3 szb s1
  clear b1
  have b1 := Lib.hid nb1
  have b3 := Lib.hid nb3
  have b4 := Lib.hid nb4
  clear nb1 nb3 nb4
  have f_ := Lib.hid (H1.out.kept nkeep)
  clear H1
  have H1 := f_
  clear f_
  have f_ := Lib.hid (HA.out.kept nkeep)
  clear HA
  have HA := f_
  clear f_
  have f_ := Lib.hid (HB.out.kept nkeep)
  clear HB
  have HB := f_
  clear f_
  clear nkeep
  have HB7 := Lib.hid nbel
  clear nbel
  clear HB4
  have x1_0 : W6.cell? ⟨w.heap.size, 0, none⟩ = some (.bool k) := (b1.out).cell 0
  have x1_1 : W6.cell? ⟨w.heap.size, 1, none⟩ = some (.slice A l c) := (b1.out).cell 1
  have x1_2 : W6.cell? ⟨w.heap.size, 2, none⟩ = some (.bool k') := (b1.out).cell 2
  have x1_3 : W6.cell? ⟨w.heap.size, 3, none⟩ = some (.slice A' l' c') := (b1.out).cell 3
  have x3_0 : W6.cell? ⟨W3.heap.size, 0, none⟩ = some (.bool k1) := (b3.out).cell 0
  have x3_1 : W6.cell? ⟨W3.heap.size, 1, none⟩ = some (.slice A1 l1 c1) := (b3.out).cell 1
  have x4_0 : W6.cell? ⟨W3.heap.size + 1, 0, none⟩ = some (.bool j1) := (b4.out).cell 0
  have x4_1 : W6.cell? ⟨W3.heap.size + 1, 1, none⟩ = some (.slice B1 o1 e1) := (b4.out).cell 1
  have szb : w.heap.size ≤ W6.heap.size := HB7.out.size
  have s1 : w.heap.size < W6.heap.size := (b1.out).lt
  have s3 : W3.heap.size < W6.heap.size := (b3.out).lt
  have s4 : W3.heap.size + 1 < W6.heap.size := (b4.out).lt
  go_wp2_with fail
  refine (rtext_is HB.out (by omega) HTT.out).mono ?_
  rintro e W8 ⟨rfl, hb⟩
  have nb := Lib.hid ((b1.out).up hb)
  clear b1
  have b1 := nb
  clear nb
  have nb := Lib.hid ((b3.out).up hb)
  clear b3
  have b3 := nb
  clear nb
  have nb := Lib.hid ((b4.out).up hb)
  clear b4
  have b4 := nb
  clear nb
  have f_ := Lib.hid (H1.out.kept (Keep.ofBelow hb))
  clear H1
  have H1 := f_
  clear f_
  have f_ := Lib.hid (HA.out.kept (Keep.ofBelow hb))
  clear HA
  have HA := f_
  clear f_
  have f_ := Lib.hid (HB.out.kept (Keep.ofBelow hb))
  clear HB
  have HB := f_
  clear f_
  have nbel := below_then HB7.out hb HB7.out.size
  have HB9 := Lib.hid nbel
  clear nbel
  clear HB7
  clear hb
  clear x1_0 x1_1 x1_2 x1_3 x3_0 x3_1 x4_0 x4_1 szb s1 s3 s4
  have x1_0 : W8.cell? ⟨w.heap.size, 0, none⟩ = some (.bool k) := (b1.out).cell 0
  have x1_1 : W8.cell? ⟨w.heap.size, 1, none⟩ = some (.slice A l c) := (b1.out).cell 1
  have x1_2 : W8.cell? ⟨w.heap.size, 2, none⟩ = some (.bool k') := (b1.out).cell 2
  have x1_3 : W8.cell? ⟨w.heap.size, 3, none⟩ = some (.slice A' l' c') := (b1.out).cell 3
  have x3_0 : W8.cell? ⟨W3.heap.size, 0, none⟩ = some (.bool k1) := (b3.out).cell 0
  have x3_1 : W8.cell? ⟨W3.heap.size, 1, none⟩ = some (.slice A1 l1 c1) := (b3.out).cell 1
  have x4_0 : W8.cell? ⟨W3.heap.size + 1, 0, none⟩ = some (.bool j1) := (b4.out).cell 0
  have x4_1 : W8.cell? ⟨W3.heap.size + 1, 1, none⟩ = some (.slice B1 o1 e1) := (b4.out).cell 1
  have szb : w.heap.size ≤ W8.heap.size := HB9.out.size
  have s1 : w.heap.size < W8.heap.size := (b1.out).lt
  have s3 : W3.heap.size < W8.heap.size := (b3.out).lt
  have s4 : W3.heap.size + 1 < W8.heap.size := (b4.out).lt
  go_wp2_with fail
  refine (rtext_fact HA.out (by omega)).mono ?_
  rintro e W10 ⟨rfl, hb⟩
  have nb := Lib.hid ((b1.out).up hb)
  clear b1
  have b1 := nb
  clear nb
  have nb := Lib.hid ((b3.out).up hb)
  clear b3
  have b3 := nb
  clear nb
  have nb := Lib.hid ((b4.out).up hb)
  clear b4
  have b4 := nb
  clear nb
  have f_ := Lib.hid (H1.out.kept (Keep.ofBelow hb))
  clear H1
  have H1 := f_
  clear f_
  have f_ := Lib.hid (HA.out.kept (Keep.ofBelow hb))
  clear HA
  have HA := f_
  clear f_
  have f_ := Lib.hid (HB.out.kept (Keep.ofBelow hb))
  clear HB
  have HB := f_
  clear f_
  have nbel := below_then HB9.out hb HB9.out.size
  have HB11 := Lib.hid nbel
  clear nbel
  clear HB9
  clear hb
  clear x1_0 x1_1 x1_2 x1_3 x3_0 x3_1 x4_0 x4_1 szb s1 s3 s4
  have x1_0 : W10.cell? ⟨w.heap.size, 0, none⟩ = some (.bool k) := (b1.out).cell 0
  have x1_1 : W10.cell? ⟨w.heap.size, 1, none⟩ = some (.slice A l c) := (b1.out).cell 1
  have x1_2 : W10.cell? ⟨w.heap.size, 2, none⟩ = some (.bool k') := (b1.out).cell 2
  have x1_3 : W10.cell? ⟨w.heap.size, 3, none⟩ = some (.slice A' l' c') := (b1.out).cell 3
  have x3_0 : W10.cell? ⟨W3.heap.size, 0, none⟩ = some (.bool k1) := (b3.out).cell 0
  have x3_1 : W10.cell? ⟨W3.heap.size, 1, none⟩ = some (.slice A1 l1 c1) := (b3.out).cell 1
  have x4_0 : W10.cell? ⟨W3.heap.size + 1, 0, none⟩ = some (.bool j1) := (b4.out).cell 0
  have x4_1 : W10.cell? ⟨W3.heap.size + 1, 1, none⟩ = some (.slice B1 o1 e1) := (b4.out).cell 1
  have szb : w.heap.size ≤ W10.heap.size := HB11.out.size
  have s1 : w.heap.size < W10.heap.size := (b1.out).lt
  have s3 : W3.heap.size < W10.heap.size := (b3.out).lt
  have s4 : W3.heap.size + 1 < W10.heap.size := (b4.out).lt
  go_wp2_with fail
  have hkeep := (Keep.refl W10)
  have hbel := HB11.out
  refine bodyPost_ret (v := .string ⟨(decZ x.num).toArray⟩) (by simp [results, Tryd.results24, go_sem]) rfl ⟨by unfold ratText; rw [if_pos hd], hbel⟩
def rtextFL3 (x : Rat) (n : Nat) : List (Nat × AS.Fact) := [(15, AS.Fact.ref (x.num) n), (16, AS.Fact.is (.string ⟨(decZ (x.num)).toArray⟩)), (17, AS.Fact.is (.string ⟨(decZ x.num ++ [47]).toArray⟩)), (18, AS.Fact.ref ((x.den : Int)) n), (19, AS.Fact.is (.string ⟨(decZ ((x.den : Int))).toArray⟩)), (20, AS.Fact.is (.string ⟨(decZ x.num ++ 47 :: decZ (x.den : Int)).toArray⟩)), (2, AS.Fact.is (.string ⟨(decZ x.num ++ 47 :: decZ (x.den : Int)).toArray⟩))]
set_option maxRecDepth 20000 in
set_option maxHeartbeats 3200000 in
theorem rratText_quo {x : Rat} {n : Nat} {v : Value} {w : World} (h : RRat x n v w) (hn5 : 5 ≤ n) (hn : n ≤ 10000) (hd : x.den ≠ 1) {T : List UInt8} (hT : decZ (x.den : Int) = T) (hne : (T == [49]) = false) :
    Calls Tryd.prog 24 #[v] w fun e w' => e = .returned (.string ⟨(ratText x).toArray⟩) ∧ Below w.heap.size w w' := by
  obtain ⟨k, A, l, c, k', A', l', c', rfl⟩ := h.open
  have H1 := Lib.hid h
  have HTT := Lib.hid hT
  clear h hT
  go_enter Tryd.func24, Tryd.ntmps24
  go_upto_region 1 with (fail)
  change Code.wp Tryd.prog _ _ _ (w.alloc (.cells #[.bool k, .slice A l c, .bool k', .slice A' l' c'] 35))
  have nb1 := (Bx.new 35 w [.bool k, .slice A l c, .bool k', .slice A' l' c'] (leaf4 (Leaf.bool k) (Leaf.slice A l c) (Leaf.bool k') (Leaf.slice A' l' c')))
  have nkeep := (Keep.alloc (Keep.refl w) (.cells #[.bool k, .slice A l c, .bool k', .slice A' l' c'] 35))
  have nbel : Below w.heap.size w (w.alloc (.cells #[.bool k, .slice A l c, .bool k', .slice A' l' c'] 35)) := (Below.alloc (Below.refl w.heap.size w) (by first | omega | (simp; done) | (simp; omega) | (simp [World.setCell]; done) | (simp [World.setCell]; omega)) (.cells #[.bool k, .slice A l c, .bool k', .slice A' l' c'] 35))
  generalize w.alloc (.cells #[.bool k, .slice A l c, .bool k', .slice A' l' c'] 35) = W1 at *
  have b1 := Lib.hid nb1
  clear nb1
  have f_ := Lib.hid (H1.out.kept nkeep)
  clear H1
  have H1 := f_
  clear f_
  clear nkeep
  have HB2 := Lib.hid nbel
  clear nbel
  have x1_0 : W1.cell? ⟨w.heap.size, 0, none⟩ = some (.bool k) := (b1.out).cell 0
  have x1_1 : W1.cell? ⟨w.heap.size, 1, none⟩ = some (.slice A l c) := (b1.out).cell 1
  have x1_2 : W1.cell? ⟨w.heap.size, 2, none⟩ = some (.bool k') := (b1.out).cell 2
  have x1_3 : W1.cell? ⟨w.heap.size, 3, none⟩ = some (.slice A' l' c') := (b1.out).cell 3
  have szb : w.heap.size ≤ W1.heap.size := HB2.out.size
  have s1 : w.heap.size < W1.heap.size := (b1.out).lt
  go_wp2_with fail
  refine (rparts_fact H1.out hn5).mono ?_
  rintro e W3 ⟨k1, A1, l1, c1, j1, B1, o1, e1, rfl, ha_, hc_, hb⟩
  have nb := Lib.hid ((b1.out).up hb)
  clear b1
  have b1 := nb
  clear nb
  have f_ := Lib.hid (H1.out.kept (Keep.ofBelow hb))
  clear H1
  have H1 := f_
  clear f_
  have nbel := below_then HB2.out hb HB2.out.size
  have HB4 := Lib.hid nbel
  clear nbel
  clear HB2
  clear hb
  clear x1_0 x1_1 x1_2 x1_3 szb s1
  have x1_0 : W3.cell? ⟨w.heap.size, 0, none⟩ = some (.bool k) := (b1.out).cell 0
  have x1_1 : W3.cell? ⟨w.heap.size, 1, none⟩ = some (.slice A l c) := (b1.out).cell 1
  have x1_2 : W3.cell? ⟨w.heap.size, 2, none⟩ = some (.bool k') := (b1.out).cell 2
  have x1_3 : W3.cell? ⟨w.heap.size, 3, none⟩ = some (.slice A' l' c') := (b1.out).cell 3
  have szb : w.heap.size ≤ W3.heap.size := HB4.out.size
  have s1 : w.heap.size < W3.heap.size := (b1.out).lt
  have HA := Lib.hid ha_
  have HB := Lib.hid hc_
  clear ha_ hc_
  go_upto_region 2 with (fail)
  have q5 : w.heap.size < W3.heap.size := (b1.out).lt
  change Code.wp Tryd.prog _ _ _ ((W3.alloc (.cells #[.bool k1, .slice A1 l1 c1] 33)).alloc (.cells #[.bool j1, .slice B1 o1 e1] 33))
  have nb1 : Bx 35 ((W3.alloc (.cells #[.bool k1, .slice A1 l1 c1] 33)).alloc (.cells #[.bool j1, .slice B1 o1 e1] 33)) w.heap.size [.bool k, .slice A l c, .bool k', .slice A' l' c'] := (Bx.alloc (Bx.alloc b1.out (.cells #[.bool k1, .slice A1 l1 c1] 33)) (.cells #[.bool j1, .slice B1 o1 e1] 33))
  have nb3 := (Bx.alloc (Bx.new 33 W3 [.bool k1, .slice A1 l1 c1] (leaf2 (Leaf.bool k1) (Leaf.slice A1 l1 c1))) (.cells #[.bool j1, .slice B1 o1 e1] 33))
  have nb4 := (Bx.new 33 (W3.alloc (.cells #[.bool k1, .slice A1 l1 c1] 33)) [.bool j1, .slice B1 o1 e1] (leaf2 (Leaf.bool j1) (Leaf.slice B1 o1 e1)))
  rw [show (W3.alloc (.cells #[.bool k1, .slice A1 l1 c1] 33)).heap.size = W3.heap.size + 1 by simp] at nb4
  have nkeep := (Keep.alloc (Keep.alloc (Keep.refl W3) (.cells #[.bool k1, .slice A1 l1 c1] 33)) (.cells #[.bool j1, .slice B1 o1 e1] 33))
  have nbel : Below w.heap.size w ((W3.alloc (.cells #[.bool k1, .slice A1 l1 c1] 33)).alloc (.cells #[.bool j1, .slice B1 o1 e1] 33)) := (Below.alloc (Below.alloc HB4.out (by first | omega | (simp; done) | (simp; omega) | (simp [World.setCell]; done) | (simp [World.setCell]; omega)) (.cells #[.bool k1, .slice A1 l1 c1] 33)) (by first | omega | (simp; done) | (simp; omega) | (simp [World.setCell]; done) | (simp [World.setCell]; omega)) (.cells #[.bool j1, .slice B1 o1 e1] 33))
  generalize (W3.alloc (.cells #[.bool k1, .slice A1 l1 c1] 33)).alloc (.cells #[.bool j1, .slice B1 o1 e1] 33) = W6 at *
  clear x1_0 x1_1 x1_2 x1_3 szb s1
  clear b1
  have b1 := Lib.hid nb1
  have b3 := Lib.hid nb3
  have b4 := Lib.hid nb4
  clear nb1 nb3 nb4
  have f_ := Lib.hid (H1.out.kept nkeep)
  clear H1
  have H1 := f_
  clear f_
  have f_ := Lib.hid (HA.out.kept nkeep)
  clear HA
  have HA := f_
  clear f_
  have f_ := Lib.hid (HB.out.kept nkeep)
  clear HB
  have HB := f_
  clear f_
  clear nkeep
  have HB7 := Lib.hid nbel
  clear nbel
  clear HB4
  have x1_0 : W6.cell? ⟨w.heap.size, 0, none⟩ = some (.bool k) := (b1.out).cell 0
  have x1_1 : W6.cell? ⟨w.heap.size, 1, none⟩ = some (.slice A l c) := (b1.out).cell 1
  have x1_2 : W6.cell? ⟨w.heap.size, 2, none⟩ = some (.bool k') := (b1.out).cell 2
  have x1_3 : W6.cell? ⟨w.heap.size, 3, none⟩ = some (.slice A' l' c') := (b1.out).cell 3
  have x3_0 : W6.cell? ⟨W3.heap.size, 0, none⟩ = some (.bool k1) := (b3.out).cell 0
  have x3_1 : W6.cell? ⟨W3.heap.size, 1, none⟩ = some (.slice A1 l1 c1) := (b3.out).cell 1
  have x4_0 : W6.cell? ⟨W3.heap.size + 1, 0, none⟩ = some (.bool j1) := (b4.out).cell 0
  have x4_1 : W6.cell? ⟨W3.heap.size + 1, 1, none⟩ = some (.slice B1 o1 e1) := (b4.out).cell 1
  have szb : w.heap.size ≤ W6.heap.size := HB7.out.size
  have s1 : w.heap.size < W6.heap.size := (b1.out).lt
  have s3 : W3.heap.size < W6.heap.size := (b3.out).lt
  have s4 : W3.heap.size + 1 < W6.heap.size := (b4.out).lt
  go_wp2_with fail
  refine (rtext_is HB.out (by omega) HTT.out).mono ?_
  rintro e W8 ⟨rfl, hb⟩
  have nb := Lib.hid ((b1.out).up hb)
  clear b1
  have b1 := nb
  clear nb
  have nb := Lib.hid ((b3.out).up hb)
  clear b3
  have b3 := nb
  clear nb
  have nb := Lib.hid ((b4.out).up hb)
  clear b4
  have b4 := nb
  clear nb
  have f_ := Lib.hid (H1.out.kept (Keep.ofBelow hb))
  clear H1
  have H1 := f_
  clear f_
  have f_ := Lib.hid (HA.out.kept (Keep.ofBelow hb))
  clear HA
  have HA := f_
  clear f_
  have f_ := Lib.hid (HB.out.kept (Keep.ofBelow hb))
  clear HB
  have HB := f_
  clear f_
  have nbel := below_then HB7.out hb HB7.out.size
  have HB9 := Lib.hid nbel
  clear nbel
  clear HB7
  clear hb
  clear x1_0 x1_1 x1_2 x1_3 x3_0 x3_1 x4_0 x4_1 szb s1 s3 s4
  have x1_0 : W8.cell? ⟨w.heap.size, 0, none⟩ = some (.bool k) := (b1.out).cell 0
  have x1_1 : W8.cell? ⟨w.heap.size, 1, none⟩ = some (.slice A l c) := (b1.out).cell 1
  have x1_2 : W8.cell? ⟨w.heap.size, 2, none⟩ = some (.bool k') := (b1.out).cell 2
  have x1_3 : W8.cell? ⟨w.heap.size, 3, none⟩ = some (.slice A' l' c') := (b1.out).cell 3
  have x3_0 : W8.cell? ⟨W3.heap.size, 0, none⟩ = some (.bool k1) := (b3.out).cell 0
  have x3_1 : W8.cell? ⟨W3.heap.size, 1, none⟩ = some (.slice A1 l1 c1) := (b3.out).cell 1
  have x4_0 : W8.cell? ⟨W3.heap.size + 1, 0, none⟩ = some (.bool j1) := (b4.out).cell 0
  have x4_1 : W8.cell? ⟨W3.heap.size + 1, 1, none⟩ = some (.slice B1 o1 e1) := (b4.out).cell 1
  have szb : w.heap.size ≤ W8.heap.size := HB9.out.size
  have s1 : w.heap.size < W8.heap.size := (b1.out).lt
  have s3 : W3.heap.size < W8.heap.size := (b3.out).lt
  have s4 : W3.heap.size + 1 < W8.heap.size := (b4.out).lt
  have HL1 := Lib.hid (decZ_lenR HA.out)
  have HL2 := Lib.hid (decZ_lenR HB.out)
  go_upto_region 4 with (fail)
  refine AS.region_facts (rtextFL3 x n) (JNo W8) [[], [15], [16], [], [18], [17, 19], [20]] [] [[]] [0, 0, 0, 0, 0, 0, 0] [] (fun u => by simp only [rtextFL3, AS.temps, List.map_cons, List.map_nil, fillL, List.setIfInBounds_toArray, List.set_cons_zero, List.set_cons_succ]; rfl) (by kernel_rfl) (by kernel_rfl) (JNo.st W8) (below_drew (Below.refl _ _)) ?_ ?_
  · refine AS.StepsOk.cons rfl rfl rfl ?_ ?_
    · intro k_ u w_ hk hJ hF K hK
      clear hF
      obtain rfl : k_ = 0 := Nat.le_zero.1 hk
      have hJ0 : Below W8.heap.size W8 w_ := hJ
      have y0 : w_.cell? ⟨W3.heap.size, 0, none⟩ = some (.bool k1) := ((b3.out).up hJ0).cell 0
      have y1 : w_.cell? ⟨W3.heap.size, 1, none⟩ = some (.slice A1 l1 c1) := ((b3.out).up hJ0).cell 1
      go_simp
      exact hK.out _ _ (Below.refl _ _) ((HA.out).kept (Keep.ofBelow hJ0)) trivial
    refine AS.StepsOk.cons rfl rfl rfl ?_ ?_
    · intro k_ u w_ hk hJ hF K hK
      have h15 : PRef (x.num) n (u 15) w_ := AS.facts_get hF 15 (by simp)
      clear hF
      go_simp
      refine (rtext_fact h15 (by omega)).mono ?_
      rintro e w' ⟨rfl, hb⟩
      exact hK.out _ _ hb (rfl) trivial
    refine AS.StepsOk.cons rfl rfl rfl ?_ ?_
    · intro k_ u w_ hk hJ hF K hK
      have h16 : u 16 = .string ⟨(decZ (x.num)).toArray⟩ := AS.facts_get hF 16 (by simp)
      clear hF
      simp only [h16] at hK ⊢
      clear h16
      have hz1 := run_string_add_lists (P := Tryd.prog) w_ (decZ x.num) [47] (by have := HL1.out; omega) (by simp)
      go_simp
      exact hK.out _ _ (Below.refl _ _) (rfl) trivial
    refine AS.StepsOk.cons rfl rfl rfl ?_ ?_
    · intro k_ u w_ hk hJ hF K hK
      clear hF
      obtain rfl : k_ = 0 := Nat.le_zero.1 hk
      have hJ0 : Below W8.heap.size W8 w_ := hJ
      have y0 : w_.cell? ⟨W3.heap.size + 1, 0, none⟩ = some (.bool j1) := ((b4.out).up hJ0).cell 0
      have y1 : w_.cell? ⟨W3.heap.size + 1, 1, none⟩ = some (.slice B1 o1 e1) := ((b4.out).up hJ0).cell 1
      go_simp
      exact hK.out _ _ (Below.refl _ _) ((HB.out).kept (Keep.ofBelow hJ0)) trivial
    refine AS.StepsOk.cons rfl rfl rfl ?_ ?_
    · intro k_ u w_ hk hJ hF K hK
      have h18 : PRef ((x.den : Int)) n (u 18) w_ := AS.facts_get hF 18 (by simp)
      clear hF
      go_simp
      refine (rtext_fact h18 (by omega)).mono ?_
      rintro e w' ⟨rfl, hb⟩
      exact hK.out _ _ hb (rfl) trivial
    refine AS.StepsOk.cons rfl rfl rfl ?_ ?_
    · intro k_ u w_ hk hJ hF K hK
      have h17 : u 17 = .string ⟨(decZ x.num ++ [47]).toArray⟩ := AS.facts_get hF 17 (by simp)
      have h19 : u 19 = .string ⟨(decZ ((x.den : Int))).toArray⟩ := AS.facts_get hF 19 (by simp)
      clear hF
      simp only [h17, h19] at hK ⊢
      clear h17 h19
      have hz1 := run_string_add_lists (P := Tryd.prog) w_ (decZ x.num ++ [47]) (decZ (x.den : Int)) (by have := HL1.out; rw [List.length_append]; simp; omega) (by have := HL2.out; omega)
      go_simp
      exact hK.out _ _ (Below.refl _ _) (rfl) trivial
    refine AS.StepsOk.cons rfl rfl rfl ?_ ?_
    · intro k_ u w_ hk hJ hF K hK
      have h20 : u 20 = .string ⟨(decZ x.num ++ 47 :: decZ (x.den : Int)).toArray⟩ := AS.facts_get hF 20 (by simp)
      clear hF
      simp only [h20] at hK ⊢
      clear h20
      go_simp
      exact hK.out _ _ (Below.refl _ _) (rfl) trivial
    exact AS.StepsOk.nil
  · intro u W10 hJ9 hF
    have h2 : u 2 = .string ⟨(decZ x.num ++ 47 :: decZ (x.den : Int)).toArray⟩ := AS.facts_get hF 2 (by simp [rtextFL3, AS.temps])
    clear hF
    rw [show u 2 = _ from h2]
    clear h2
    have nb := Lib.hid ((b1.out).up hJ9)
    clear b1
    have b1 := nb
    clear nb
    have nb := Lib.hid ((b3.out).up hJ9)
    clear b3
    have b3 := nb
    clear nb
    have nb := Lib.hid ((b4.out).up hJ9)
    clear b4
    have b4 := nb
    clear nb
    have f_ := Lib.hid (H1.out.kept (Keep.ofBelow hJ9))
    clear H1
    have H1 := f_
    clear f_
    have f_ := Lib.hid (HA.out.kept (Keep.ofBelow hJ9))
    clear HA
    have HA := f_
    clear f_
    have f_ := Lib.hid (HB.out.kept (Keep.ofBelow hJ9))
    clear HB
    have HB := f_
    clear f_
    have nbel := below_then HB9.out hJ9 HB9.out.size
    have HB11 := Lib.hid nbel
    clear nbel
    clear HB9
    clear hJ9
    clear x1_0 x1_1 x1_2 x1_3 x3_0 x3_1 x4_0 x4_1 szb s1 s3 s4
    have x1_0 : W10.cell? ⟨w.heap.size, 0, none⟩ = some (.bool k) := (b1.out).cell 0
    have x1_1 : W10.cell? ⟨w.heap.size, 1, none⟩ = some (.slice A l c) := (b1.out).cell 1
    have x1_2 : W10.cell? ⟨w.heap.size, 2, none⟩ = some (.bool k') := (b1.out).cell 2
    have x1_3 : W10.cell? ⟨w.heap.size, 3, none⟩ = some (.slice A' l' c') := (b1.out).cell 3
    have x3_0 : W10.cell? ⟨W3.heap.size, 0, none⟩ = some (.bool k1) := (b3.out).cell 0
    have x3_1 : W10.cell? ⟨W3.heap.size, 1, none⟩ = some (.slice A1 l1 c1) := (b3.out).cell 1
    have x4_0 : W10.cell? ⟨W3.heap.size + 1, 0, none⟩ = some (.bool j1) := (b4.out).cell 0
    have x4_1 : W10.cell? ⟨W3.heap.size + 1, 1, none⟩ = some (.slice B1 o1 e1) := (b4.out).cell 1
    have szb : w.heap.size ≤ W10.heap.size := HB11.out.size
    have s1 : w.heap.size < W10.heap.size := (b1.out).lt
    have s3 : W3.heap.size < W10.heap.size := (b3.out).lt
    have s4 : W3.heap.size + 1 < W10.heap.size := (b4.out).lt
    go_wp2_with fail
    have hkeep := (Keep.refl W10)
    have hbel := HB11.out
    refine bodyPost_ret (v := .string ⟨(decZ x.num ++ 47 :: decZ (x.den : Int)).toArray⟩) (by simp [results, Tryd.results24, go_sem]) rfl ⟨by unfold ratText; rw [if_neg hd], hbel⟩
theorem rratText_fact {x : Rat} {n : Nat} {v : Value} {w : World} (h : RRat x n v w) (hn5 : 5 ≤ n) (hn : n ≤ 10000) :
    Calls Tryd.prog 24 #[v] w fun e w' => e = .returned (.string ⟨(ratText x).toArray⟩) ∧ Below w.heap.size w w' := by
  have h1 : decZ 1 = [49] := by decide +kernel
  by_cases hd : x.den = 1
  · exact rratText_int h hn5 hn hd (by rw [hd]; exact h1)
  · refine rratText_quo h hn5 hn hd rfl ?_
    simp only [beq_eq_false_iff_ne, ne_eq]
    intro h2
    rw [← h1] at h2
    have := decZ_inj h2
    omega
end Go.Proofs.YtmpdpfiokjepaaaDoor
