/- Contracts of the functions that the statement reaches, part 9: what was proved of each, callees first. -/
import Derived.Test.YtmpdpfiokjepaaaDoorM8
/- same: equal numbers have equal texts. -/
namespace Go.Proofs.YtmpdpfiokjepaaaDoor
open Go.RowKit
open AS (Keep NoInt)

def sameFL (x : Rat) (n : Nat) : List (Nat × AS.Fact) := [(5, AS.Fact.rat (x) n), (6, AS.Fact.is (.string ⟨(ratText x).toArray⟩)), (7, AS.Fact.rrat (x) n), (8, AS.Fact.is (.string ⟨(ratText x).toArray⟩)), (9, AS.Fact.is (.bool true)), (4, AS.Fact.is (.bool true))]
set_option maxRecDepth 20000 in
set_option maxHeartbeats 3200000 in
theorem same_fact {x : Rat} {n : Nat} {v v2 : Value} {w : World} (h : PRat x n v w) (h2 : RRat x n v2 w) (hn5 : 5 ≤ n) (hn : n ≤ 10000) (ht : Tab w.heap.size w) :
    Calls Tryd.prog 9 #[v, v2] w fun e w' => e = .returned (.bool true) ∧ Below w.heap.size w w' := by
  obtain ⟨k, A, l, c, k', A', l', c', rfl⟩ := h.open
  obtain ⟨r, E, m, d, r', E', m', d', rfl⟩ := h2.open
  have H1 := Lib.hid h
  have H2 := Lib.hid h2
  have HT := Lib.hid ht
  clear h h2 ht
  go_enter Tryd.func9, Tryd.ntmps9
  go_upto_region 1 with (fail)
  change Code.wp Tryd.prog _ _ _ ((w.alloc (.cells #[.bool k, .slice A l c, .bool k', .slice A' l' c'] 27)).alloc (.cells #[.bool r, .slice E m d, .bool r', .slice E' m' d'] 35))
  have nb2 := (Bx.alloc (Bx.new 27 w [.bool k, .slice A l c, .bool k', .slice A' l' c'] (leaf4 (Leaf.bool k) (Leaf.slice A l c) (Leaf.bool k') (Leaf.slice A' l' c'))) (.cells #[.bool r, .slice E m d, .bool r', .slice E' m' d'] 35))
  have nb3 := (Bx.new 35 (w.alloc (.cells #[.bool k, .slice A l c, .bool k', .slice A' l' c'] 27)) [.bool r, .slice E m d, .bool r', .slice E' m' d'] (leaf4 (Leaf.bool r) (Leaf.slice E m d) (Leaf.bool r') (Leaf.slice E' m' d')))
  rw [show (w.alloc (.cells #[.bool k, .slice A l c, .bool k', .slice A' l' c'] 27)).heap.size = w.heap.size + 1 by simp] at nb3
  have nkeep := (Keep.alloc (Keep.alloc (Keep.refl w) (.cells #[.bool k, .slice A l c, .bool k', .slice A' l' c'] 27)) (.cells #[.bool r, .slice E m d, .bool r', .slice E' m' d'] 35))
  have nbel : Below w.heap.size w ((w.alloc (.cells #[.bool k, .slice A l c, .bool k', .slice A' l' c'] 27)).alloc (.cells #[.bool r, .slice E m d, .bool r', .slice E' m' d'] 35)) := (Below.alloc (Below.alloc (Below.refl w.heap.size w) (by first | omega | (simp; done) | (simp; omega) | (simp [World.setCell]; done) | (simp [World.setCell]; omega)) (.cells #[.bool k, .slice A l c, .bool k', .slice A' l' c'] 27)) (by first | omega | (simp; done) | (simp; omega) | (simp [World.setCell]; done) | (simp [World.setCell]; omega)) (.cells #[.bool r, .slice E m d, .bool r', .slice E' m' d'] 35))
  generalize (w.alloc (.cells #[.bool k, .slice A l c, .bool k', .slice A' l' c'] 27)).alloc (.cells #[.bool r, .slice E m d, .bool r', .slice E' m' d'] 35) = W1 at *
  have b2 := Lib.hid nb2
  have b3 := Lib.hid nb3
  clear nb2 nb3
  have f_ := Lib.hid (H1.out.kept nkeep)
  clear H1
  have H1 := f_
  clear f_
  have f_ := Lib.hid (H2.out.kept nkeep)
  clear H2
  have H2 := f_
  clear f_
  clear nkeep
  have HB2 := Lib.hid nbel
  clear nbel
  have x2_0 : W1.cell? ⟨w.heap.size, 0, none⟩ = some (.bool k) := (b2.out).cell 0
  have x2_1 : W1.cell? ⟨w.heap.size, 1, none⟩ = some (.slice A l c) := (b2.out).cell 1
  have x2_2 : W1.cell? ⟨w.heap.size, 2, none⟩ = some (.bool k') := (b2.out).cell 2
  have x2_3 : W1.cell? ⟨w.heap.size, 3, none⟩ = some (.slice A' l' c') := (b2.out).cell 3
  have x3_0 : W1.cell? ⟨w.heap.size + 1, 0, none⟩ = some (.bool r) := (b3.out).cell 0
  have x3_1 : W1.cell? ⟨w.heap.size + 1, 1, none⟩ = some (.slice E m d) := (b3.out).cell 1
  have x3_2 : W1.cell? ⟨w.heap.size + 1, 2, none⟩ = some (.bool r') := (b3.out).cell 2
  have x3_3 : W1.cell? ⟨w.heap.size + 1, 3, none⟩ = some (.slice E' m' d') := (b3.out).cell 3
  have szb : w.heap.size ≤ W1.heap.size := HB2.out.size
  have s2 : w.heap.size < W1.heap.size := (b2.out).lt
  have s3 : w.heap.size + 1 < W1.heap.size := (b3.out).lt
  have HTW := Lib.hid (tab_up HT.out HB2.out)
  refine AS.region_facts (sameFL x n) (JNo W1) [[], [5], [], [7], [6, 8], [9]] [] [[]] [0, 0, 0, 0, 0, 0] [] (fun u => by simp only [sameFL, AS.temps, List.map_cons, List.map_nil, fillL, List.setIfInBounds_toArray, List.set_cons_zero, List.set_cons_succ]; rfl) (by kernel_rfl) (by kernel_rfl) (JNo.st W1) (below_drew (Below.refl _ _)) ?_ ?_
  · refine AS.StepsOk.cons rfl rfl rfl ?_ ?_
    · intro k_ u w_ hk hJ hF K hK
      clear hF
      obtain rfl : k_ = 0 := Nat.le_zero.1 hk
      have hJ0 : Below W1.heap.size W1 w_ := hJ
      have y0 : w_.cell? ⟨w.heap.size, 0, none⟩ = some (.bool k) := ((b2.out).up hJ0).cell 0
      have y1 : w_.cell? ⟨w.heap.size, 1, none⟩ = some (.slice A l c) := ((b2.out).up hJ0).cell 1
      have y2 : w_.cell? ⟨w.heap.size, 2, none⟩ = some (.bool k') := ((b2.out).up hJ0).cell 2
      have y3 : w_.cell? ⟨w.heap.size, 3, none⟩ = some (.slice A' l' c') := ((b2.out).up hJ0).cell 3
      go_simp
      exact hK.out _ _ (Below.refl _ _) ((H1.out).kept (Keep.ofBelow hJ0)) trivial
    refine AS.StepsOk.cons rfl rfl rfl ?_ ?_
    · intro k_ u w_ hk hJ hF K hK
      have h5 : PRat (x) n (u 5) w_ := AS.facts_get hF 5 (by simp)
      clear hF
      go_simp
      refine (ratText_fact h5 (by omega) hn (tab_up HTW.out hJ)).mono ?_
      rintro e w' ⟨rfl, hb⟩
      exact hK.out _ _ hb (rfl) trivial
    refine AS.StepsOk.cons rfl rfl rfl ?_ ?_
    · intro k_ u w_ hk hJ hF K hK
      clear hF
      obtain rfl : k_ = 0 := Nat.le_zero.1 hk
      have hJ0 : Below W1.heap.size W1 w_ := hJ
      have y0 : w_.cell? ⟨w.heap.size + 1, 0, none⟩ = some (.bool r) := ((b3.out).up hJ0).cell 0
      have y1 : w_.cell? ⟨w.heap.size + 1, 1, none⟩ = some (.slice E m d) := ((b3.out).up hJ0).cell 1
      have y2 : w_.cell? ⟨w.heap.size + 1, 2, none⟩ = some (.bool r') := ((b3.out).up hJ0).cell 2
      have y3 : w_.cell? ⟨w.heap.size + 1, 3, none⟩ = some (.slice E' m' d') := ((b3.out).up hJ0).cell 3
      go_simp
      exact hK.out _ _ (Below.refl _ _) ((H2.out).kept (Keep.ofBelow hJ0)) trivial
    refine AS.StepsOk.cons rfl rfl rfl ?_ ?_
    · intro k_ u w_ hk hJ hF K hK
      have h7 : RRat (x) n (u 7) w_ := AS.facts_get hF 7 (by simp)
      clear hF
      go_simp
      refine (rratText_fact h7 hn5 hn).mono ?_
      rintro e w' ⟨rfl, hb⟩
      exact hK.out _ _ hb (rfl) trivial
    refine AS.StepsOk.cons rfl rfl rfl ?_ ?_
    · intro k_ u w_ hk hJ hF K hK
      have h6 : u 6 = .string ⟨(ratText x).toArray⟩ := AS.facts_get hF 6 (by simp)
      have h8 : u 8 = .string ⟨(ratText x).toArray⟩ := AS.facts_get hF 8 (by simp)
      clear hF
      simp only [h6, h8] at hK ⊢
      clear h6 h8
      go_simp
      exact hK.out _ _ (Below.refl _ _) (rfl) trivial
    refine AS.StepsOk.cons rfl rfl rfl ?_ ?_
    · intro k_ u w_ hk hJ hF K hK
      have h9 : u 9 = .bool true := AS.facts_get hF 9 (by simp)
      clear hF
      simp only [h9] at hK ⊢
      clear h9
      go_simp
      exact hK.out _ _ (Below.refl _ _) (rfl) trivial
    exact AS.StepsOk.nil
  · intro u W3 hJ9 hF
    have h4 : u 4 = .bool true := AS.facts_get hF 4 (by simp [sameFL, AS.temps])
    clear hF
    rw [show u 4 = _ from h4]
    clear h4
    have nb := Lib.hid ((b2.out).up hJ9)
    clear b2
    have b2 := nb
    clear nb
    have nb := Lib.hid ((b3.out).up hJ9)
    clear b3
    have b3 := nb
    clear nb
    have f_ := Lib.hid (H1.out.kept (Keep.ofBelow hJ9))
    clear H1
    have H1 := f_
    clear f_
    have f_ := Lib.hid (H2.out.kept (Keep.ofBelow hJ9))
    clear H2
    have H2 := f_
    clear f_
    have nbel := below_then HB2.out hJ9 HB2.out.size
    have HB4 := Lib.hid nbel
    clear nbel
    clear HB2
    clear hJ9
    clear x2_0 x2_1 x2_2 x2_3 x3_0 x3_1 x3_2 x3_3 szb s2 s3
    have x2_0 : W3.cell? ⟨w.heap.size, 0, none⟩ = some (.bool k) := (b2.out).cell 0
    have x2_1 : W3.cell? ⟨w.heap.size, 1, none⟩ = some (.slice A l c) := (b2.out).cell 1
    have x2_2 : W3.cell? ⟨w.heap.size, 2, none⟩ = some (.bool k') := (b2.out).cell 2
    have x2_3 : W3.cell? ⟨w.heap.size, 3, none⟩ = some (.slice A' l' c') := (b2.out).cell 3
    have x3_0 : W3.cell? ⟨w.heap.size + 1, 0, none⟩ = some (.bool r) := (b3.out).cell 0
    have x3_1 : W3.cell? ⟨w.heap.size + 1, 1, none⟩ = some (.slice E m d) := (b3.out).cell 1
    have x3_2 : W3.cell? ⟨w.heap.size + 1, 2, none⟩ = some (.bool r') := (b3.out).cell 2
    have x3_3 : W3.cell? ⟨w.heap.size + 1, 3, none⟩ = some (.slice E' m' d') := (b3.out).cell 3
    have szb : w.heap.size ≤ W3.heap.size := HB4.out.size
    have s2 : w.heap.size < W3.heap.size := (b2.out).lt
    have s3 : w.heap.size + 1 < W3.heap.size := (b3.out).lt
    go_wp2_with fail
    have hkeep := (Keep.refl W3)
    have hbel := HB4.out
    refine bodyPost_ret (v := .bool true) (by simp [results, Tryd.results9, go_sem]) rfl ⟨rfl, hbel⟩
end Go.Proofs.YtmpdpfiokjepaaaDoor

/- New of the reference. -/
namespace Go.Proofs.YtmpdpfiokjepaaaDoor
open Go.RowKit
open AS (Keep NoInt)

def RRatOk (x : Rat) (n : Nat) (v : Value) (w : World) : Prop := ∃ v0, v = .tuple #[v0, .int .i64 0] ∧ RRat x n v0 w
def AS.Fact.rrok (x : Rat) (n : Nat) : AS.Fact := ⟨RRatOk x n, fun _ _ _ hk ⟨v0, e, h⟩ => ⟨v0, e, h.kept hk⟩⟩
set_option maxRecDepth 20000 in
set_option maxHeartbeats 3200000 in
theorem rnew_pos {p q : Int} {n : Nat} {k : Bool} {A : Option Addr} {l c : Nat} {k' : Bool} {A' : Option Addr} {l' c' : Nat} {w : World} (h1 : PRef p n (.agg #[.bool k, .slice A l c]) w) (h2 : PRef q n (.agg #[.bool k', .slice A' l' c']) w) (hn : n ≤ 20000) (hlt : 0 < q) (hc : cmpI q 0 = 1) (hq : q ≠ 0) (hne : (Int.gcd p q : Int) ≠ 0) :
    Calls Tryd.prog 19 #[.agg #[.bool k, .slice A l c], .agg #[.bool k', .slice A' l' c']] w fun e w' => ∃ v, e = .returned (.tuple #[v, .int .i64 0]) ∧ RRat (Rat.divInt p q) n v w' ∧ Below w.heap.size w w' := by
  have H1 := Lib.hid h1
  have H2 := Lib.hid h2
  clear h1 h2
  go_enter Tryd.func19, Tryd.ntmps19
  go_upto_region 1 with (fail)
  change Code.wp Tryd.prog _ _ _ (((w.alloc (.cells #[.bool k, .slice A l c] 33)).alloc (.cells #[.bool k', .slice A' l' c'] 33)).alloc (.cells #[.bool false, .slice none 0 0, .bool false, .slice none 0 0] 35))
  have nb2 := (Bx.alloc (Bx.alloc (Bx.new 33 w [.bool k, .slice A l c] (leaf2 (Leaf.bool k) (Leaf.slice A l c))) (.cells #[.bool k', .slice A' l' c'] 33)) (.cells #[.bool false, .slice none 0 0, .bool false, .slice none 0 0] 35))
  have nb3 := (Bx.alloc (Bx.new 33 (w.alloc (.cells #[.bool k, .slice A l c] 33)) [.bool k', .slice A' l' c'] (leaf2 (Leaf.bool k') (Leaf.slice A' l' c'))) (.cells #[.bool false, .slice none 0 0, .bool false, .slice none 0 0] 35))
  rw [show (w.alloc (.cells #[.bool k, .slice A l c] 33)).heap.size = w.heap.size + 1 by simp] at nb3
  have nb4 := (Bx.new 35 ((w.alloc (.cells #[.bool k, .slice A l c] 33)).alloc (.cells #[.bool k', .slice A' l' c'] 33)) [.bool false, .slice none 0 0, .bool false, .slice none 0 0] (leaf4 (Leaf.bool false) (Leaf.slice none 0 0) (Leaf.bool false) (Leaf.slice none 0 0)))
  rw [show ((w.alloc (.cells #[.bool k, .slice A l c] 33)).alloc (.cells #[.bool k', .slice A' l' c'] 33)).heap.size = w.heap.size + 1 + 1 by simp] at nb4
  have nkeep := (Keep.alloc (Keep.alloc (Keep.alloc (Keep.refl w) (.cells #[.bool k, .slice A l c] 33)) (.cells #[.bool k', .slice A' l' c'] 33)) (.cells #[.bool false, .slice none 0 0, .bool false, .slice none 0 0] 35))
  have nbel : Below w.heap.size w (((w.alloc (.cells #[.bool k, .slice A l c] 33)).alloc (.cells #[.bool k', .slice A' l' c'] 33)).alloc (.cells #[.bool false, .slice none 0 0, .bool false, .slice none 0 0] 35)) := (Below.alloc (Below.alloc (Below.alloc (Below.refl w.heap.size w) (by first | omega | (simp; done) | (simp; omega) | (simp [World.setCell]; done) | (simp [World.setCell]; omega)) (.cells #[.bool k, .slice A l c] 33)) (by first | omega | (simp; done) | (simp; omega) | (simp [World.setCell]; done) | (simp [World.setCell]; omega)) (.cells #[.bool k', .slice A' l' c'] 33)) (by first | omega | (simp; done) | (simp; omega) | (simp [World.setCell]; done) | (simp [World.setCell]; omega)) (.cells #[.bool false, .slice none 0 0, .bool false, .slice none 0 0] 35))
  generalize ((w.alloc (.cells #[.bool k, .slice A l c] 33)).alloc (.cells #[.bool k', .slice A' l' c'] 33)).alloc (.cells #[.bool false, .slice none 0 0, .bool false, .slice none 0 0] 35) = W1 at *
  have b2 := Lib.hid nb2
  have b3 := Lib.hid nb3
  have b4 := Lib.hid nb4
  clear nb2 nb3 nb4
  have f_ := Lib.hid (H1.out.kept nkeep)
  clear H1
  have H1 := f_
  clear f_
  have f_ := Lib.hid (H2.out.kept nkeep)
  clear H2
  have H2 := f_
  clear f_
  clear nkeep
  have HB2 := Lib.hid nbel
  clear nbel
  have x2_0 : W1.cell? ⟨w.heap.size, 0, none⟩ = some (.bool k) := (b2.out).cell 0
  have x2_1 : W1.cell? ⟨w.heap.size, 1, none⟩ = some (.slice A l c) := (b2.out).cell 1
  have x3_0 : W1.cell? ⟨w.heap.size + 1, 0, none⟩ = some (.bool k') := (b3.out).cell 0
  have x3_1 : W1.cell? ⟨w.heap.size + 1, 1, none⟩ = some (.slice A' l' c') := (b3.out).cell 1
  have x4_0 : W1.cell? ⟨w.heap.size + 1 + 1, 0, none⟩ = some (.bool false) := (b4.out).cell 0
  have x4_1 : W1.cell? ⟨w.heap.size + 1 + 1, 1, none⟩ = some (.slice none 0 0) := (b4.out).cell 1
  have x4_2 : W1.cell? ⟨w.heap.size + 1 + 1, 2, none⟩ = some (.bool false) := (b4.out).cell 2
  have x4_3 : W1.cell? ⟨w.heap.size + 1 + 1, 3, none⟩ = some (.slice none 0 0) := (b4.out).cell 3
  have szb : w.heap.size ≤ W1.heap.size := HB2.out.size
  have s2 : w.heap.size < W1.heap.size := (b2.out).lt
  have s3 : w.heap.size + 1 < W1.heap.size := (b3.out).lt
  have s4 : w.heap.size + 1 + 1 < W1.heap.size := (b4.out).lt
  clear x2_0 x2_1 x3_0 x3_1 x4_0 x4_1 x4_2 x4_3 szb s2 s3 s4
  have x2_0 : W1.cell? ⟨w.heap.size, 0, none⟩ = some (.bool k) := (b2.out).cell 0
  have x2_1 : W1.cell? ⟨w.heap.size, 1, none⟩ = some (.slice A l c) := (b2.out).cell 1
  have z2_0 : W1.frozen? ⟨w.heap.size, 0, none⟩ = false := (b2.out).frozen 0
  have z2_1 : W1.frozen? ⟨w.heap.size, 1, none⟩ = false := (b2.out).frozen 1
  have x3_0 : W1.cell? ⟨w.heap.size + 1, 0, none⟩ = some (.bool k') := (b3.out).cell 0
  have x3_1 : W1.cell? ⟨w.heap.size + 1, 1, none⟩ = some (.slice A' l' c') := (b3.out).cell 1
  have z3_0 : W1.frozen? ⟨w.heap.size + 1, 0, none⟩ = false := (b3.out).frozen 0
  have z3_1 : W1.frozen? ⟨w.heap.size + 1, 1, none⟩ = false := (b3.out).frozen 1
  have x4_0 : W1.cell? ⟨w.heap.size + 1 + 1, 0, none⟩ = some (.bool false) := (b4.out).cell 0
  have x4_1 : W1.cell? ⟨w.heap.size + 1 + 1, 1, none⟩ = some (.slice none 0 0) := (b4.out).cell 1
  have x4_2 : W1.cell? ⟨w.heap.size + 1 + 1, 2, none⟩ = some (.bool false) := (b4.out).cell 2
  have x4_3 : W1.cell? ⟨w.heap.size + 1 + 1, 3, none⟩ = some (.slice none 0 0) := (b4.out).cell 3
  have z4_0 : W1.frozen? ⟨w.heap.size + 1 + 1, 0, none⟩ = false := (b4.out).frozen 0
  have z4_1 : W1.frozen? ⟨w.heap.size + 1 + 1, 1, none⟩ = false := (b4.out).frozen 1
  have z4_2 : W1.frozen? ⟨w.heap.size + 1 + 1, 2, none⟩ = false := (b4.out).frozen 2
  have z4_3 : W1.frozen? ⟨w.heap.size + 1 + 1, 3, none⟩ = false := (b4.out).frozen 3
  have szb : w.heap.size ≤ W1.heap.size := HB2.out.size
  have s2 : w.heap.size < W1.heap.size := (b2.out).lt
  have s3 : w.heap.size + 1 < W1.heap.size := (b3.out).lt
  have s4 : w.heap.size + 1 + 1 < W1.heap.size := (b4.out).lt
  go_wp2_with fail
  refine (rsign_is H2.out hc).mono ?_
  rintro e W3 ⟨rfl, hb⟩
  have nb := Lib.hid ((b2.out).up hb)
  clear b2
  have b2 := nb
  clear nb
  have nb := Lib.hid ((b3.out).up hb)
  clear b3
  have b3 := nb
  clear nb
  have nb := Lib.hid ((b4.out).up hb)
  clear b4
  have b4 := nb
  clear nb
  have f_ := Lib.hid (H1.out.kept (Keep.ofBelow hb))
  clear H1
  have H1 := f_
  clear f_
  have f_ := Lib.hid (H2.out.kept (Keep.ofBelow hb))
  clear H2
  have H2 := f_
  clear f_
  have nbel := below_then HB2.out hb HB2.out.size
  have HB4 := Lib.hid nbel
  clear nbel
  clear HB2
  clear hb
  clear x2_0 x2_1 z2_0 z2_1 x3_0 x3_1 z3_0 z3_1 x4_0 x4_1 x4_2 x4_3 z4_0 z4_1 z4_2 z4_3 szb s2 s3 s4
  have x2_0 : W3.cell? ⟨w.heap.size, 0, none⟩ = some (.bool k) := (b2.out).cell 0
  have x2_1 : W3.cell? ⟨w.heap.size, 1, none⟩ = some (.slice A l c) := (b2.out).cell 1
  have z2_0 : W3.frozen? ⟨w.heap.size, 0, none⟩ = false := (b2.out).frozen 0
  have z2_1 : W3.frozen? ⟨w.heap.size, 1, none⟩ = false := (b2.out).frozen 1
  have x3_0 : W3.cell? ⟨w.heap.size + 1, 0, none⟩ = some (.bool k') := (b3.out).cell 0
  have x3_1 : W3.cell? ⟨w.heap.size + 1, 1, none⟩ = some (.slice A' l' c') := (b3.out).cell 1
  have z3_0 : W3.frozen? ⟨w.heap.size + 1, 0, none⟩ = false := (b3.out).frozen 0
  have z3_1 : W3.frozen? ⟨w.heap.size + 1, 1, none⟩ = false := (b3.out).frozen 1
  have x4_0 : W3.cell? ⟨w.heap.size + 1 + 1, 0, none⟩ = some (.bool false) := (b4.out).cell 0
  have x4_1 : W3.cell? ⟨w.heap.size + 1 + 1, 1, none⟩ = some (.slice none 0 0) := (b4.out).cell 1
  have x4_2 : W3.cell? ⟨w.heap.size + 1 + 1, 2, none⟩ = some (.bool false) := (b4.out).cell 2
  have x4_3 : W3.cell? ⟨w.heap.size + 1 + 1, 3, none⟩ = some (.slice none 0 0) := (b4.out).cell 3
  have z4_0 : W3.frozen? ⟨w.heap.size + 1 + 1, 0, none⟩ = false := (b4.out).frozen 0
  have z4_1 : W3.frozen? ⟨w.heap.size + 1 + 1, 1, none⟩ = false := (b4.out).frozen 1
  have z4_2 : W3.frozen? ⟨w.heap.size + 1 + 1, 2, none⟩ = false := (b4.out).frozen 2
  have z4_3 : W3.frozen? ⟨w.heap.size + 1 + 1, 3, none⟩ = false := (b4.out).frozen 3
  have szb : w.heap.size ≤ W3.heap.size := HB4.out.size
  have s2 : w.heap.size < W3.heap.size := (b2.out).lt
  have s3 : w.heap.size + 1 < W3.heap.size := (b3.out).lt
  have s4 : w.heap.size + 1 + 1 < W3.heap.size := (b4.out).lt
  go_wp2_with fail
  refine (rsign_is H2.out hc).mono ?_
  rintro e W5 ⟨rfl, hb⟩
  have nb := Lib.hid ((b2.out).up hb)
  clear b2
  have b2 := nb
  clear nb
  have nb := Lib.hid ((b3.out).up hb)
  clear b3
  have b3 := nb
  clear nb
  have nb := Lib.hid ((b4.out).up hb)
  clear b4
  have b4 := nb
  clear nb
  have f_ := Lib.hid (H1.out.kept (Keep.ofBelow hb))
  clear H1
  have H1 := f_
  clear f_
  have f_ := Lib.hid (H2.out.kept (Keep.ofBelow hb))
  clear H2
  have H2 := f_
  clear f_
  have nbel := below_then HB4.out hb HB4.out.size
  have HB6 := Lib.hid nbel
  clear nbel
  clear HB4
  clear hb
  clear x2_0 x2_1 z2_0 z2_1 x3_0 x3_1 z3_0 z3_1 x4_0 x4_1 x4_2 x4_3 z4_0 z4_1 z4_2 z4_3 szb s2 s3 s4
  have x2_0 : W5.cell? ⟨w.heap.size, 0, none⟩ = some (.bool k) := (b2.out).cell 0
  have x2_1 : W5.cell? ⟨w.heap.size, 1, none⟩ = some (.slice A l c) := (b2.out).cell 1
  have z2_0 : W5.frozen? ⟨w.heap.size, 0, none⟩ = false := (b2.out).frozen 0
  have z2_1 : W5.frozen? ⟨w.heap.size, 1, none⟩ = false := (b2.out).frozen 1
  have x3_0 : W5.cell? ⟨w.heap.size + 1, 0, none⟩ = some (.bool k') := (b3.out).cell 0
  have x3_1 : W5.cell? ⟨w.heap.size + 1, 1, none⟩ = some (.slice A' l' c') := (b3.out).cell 1
  have z3_0 : W5.frozen? ⟨w.heap.size + 1, 0, none⟩ = false := (b3.out).frozen 0
  have z3_1 : W5.frozen? ⟨w.heap.size + 1, 1, none⟩ = false := (b3.out).frozen 1
  have x4_0 : W5.cell? ⟨w.heap.size + 1 + 1, 0, none⟩ = some (.bool false) := (b4.out).cell 0
  have x4_1 : W5.cell? ⟨w.heap.size + 1 + 1, 1, none⟩ = some (.slice none 0 0) := (b4.out).cell 1
  have x4_2 : W5.cell? ⟨w.heap.size + 1 + 1, 2, none⟩ = some (.bool false) := (b4.out).cell 2
  have x4_3 : W5.cell? ⟨w.heap.size + 1 + 1, 3, none⟩ = some (.slice none 0 0) := (b4.out).cell 3
  have z4_0 : W5.frozen? ⟨w.heap.size + 1 + 1, 0, none⟩ = false := (b4.out).frozen 0
  have z4_1 : W5.frozen? ⟨w.heap.size + 1 + 1, 1, none⟩ = false := (b4.out).frozen 1
  have z4_2 : W5.frozen? ⟨w.heap.size + 1 + 1, 2, none⟩ = false := (b4.out).frozen 2
  have z4_3 : W5.frozen? ⟨w.heap.size + 1 + 1, 3, none⟩ = false := (b4.out).frozen 3
  have szb : w.heap.size ≤ W5.heap.size := HB6.out.size
  have s2 : w.heap.size < W5.heap.size := (b2.out).lt
  have s3 : w.heap.size + 1 < W5.heap.size := (b3.out).lt
  have s4 : w.heap.size + 1 + 1 < W5.heap.size := (b4.out).lt
  go_wp2_with fail
  refine (rgcd_fact H1.out H2.out (by omega) (by omega)).mono ?_
  rintro e W7 ⟨v1, rfl, hv1, hb⟩
  have nb := Lib.hid ((b2.out).up hb)
  clear b2
  have b2 := nb
  clear nb
  have nb := Lib.hid ((b3.out).up hb)
  clear b3
  have b3 := nb
  clear nb
  have nb := Lib.hid ((b4.out).up hb)
  clear b4
  have b4 := nb
  clear nb
  have f_ := Lib.hid (H1.out.kept (Keep.ofBelow hb))
  clear H1
  have H1 := f_
  clear f_
  have f_ := Lib.hid (H2.out.kept (Keep.ofBelow hb))
  clear H2
  have H2 := f_
  clear f_
  have nbel := below_then HB6.out hb HB6.out.size
  have HB8 := Lib.hid nbel
  clear nbel
  clear HB6
  clear hb
  clear x2_0 x2_1 z2_0 z2_1 x3_0 x3_1 z3_0 z3_1 x4_0 x4_1 x4_2 x4_3 z4_0 z4_1 z4_2 z4_3 szb s2 s3 s4
  have x2_0 : W7.cell? ⟨w.heap.size, 0, none⟩ = some (.bool k) := (b2.out).cell 0
  have x2_1 : W7.cell? ⟨w.heap.size, 1, none⟩ = some (.slice A l c) := (b2.out).cell 1
  have z2_0 : W7.frozen? ⟨w.heap.size, 0, none⟩ = false := (b2.out).frozen 0
  have z2_1 : W7.frozen? ⟨w.heap.size, 1, none⟩ = false := (b2.out).frozen 1
  have x3_0 : W7.cell? ⟨w.heap.size + 1, 0, none⟩ = some (.bool k') := (b3.out).cell 0
  have x3_1 : W7.cell? ⟨w.heap.size + 1, 1, none⟩ = some (.slice A' l' c') := (b3.out).cell 1
  have z3_0 : W7.frozen? ⟨w.heap.size + 1, 0, none⟩ = false := (b3.out).frozen 0
  have z3_1 : W7.frozen? ⟨w.heap.size + 1, 1, none⟩ = false := (b3.out).frozen 1
  have x4_0 : W7.cell? ⟨w.heap.size + 1 + 1, 0, none⟩ = some (.bool false) := (b4.out).cell 0
  have x4_1 : W7.cell? ⟨w.heap.size + 1 + 1, 1, none⟩ = some (.slice none 0 0) := (b4.out).cell 1
  have x4_2 : W7.cell? ⟨w.heap.size + 1 + 1, 2, none⟩ = some (.bool false) := (b4.out).cell 2
  have x4_3 : W7.cell? ⟨w.heap.size + 1 + 1, 3, none⟩ = some (.slice none 0 0) := (b4.out).cell 3
  have z4_0 : W7.frozen? ⟨w.heap.size + 1 + 1, 0, none⟩ = false := (b4.out).frozen 0
  have z4_1 : W7.frozen? ⟨w.heap.size + 1 + 1, 1, none⟩ = false := (b4.out).frozen 1
  have z4_2 : W7.frozen? ⟨w.heap.size + 1 + 1, 2, none⟩ = false := (b4.out).frozen 2
  have z4_3 : W7.frozen? ⟨w.heap.size + 1 + 1, 3, none⟩ = false := (b4.out).frozen 3
  have szb : w.heap.size ≤ W7.heap.size := HB8.out.size
  have s2 : w.heap.size < W7.heap.size := (b2.out).lt
  have s3 : w.heap.size + 1 < W7.heap.size := (b3.out).lt
  have s4 : w.heap.size + 1 + 1 < W7.heap.size := (b4.out).lt
  obtain ⟨k5, A5, l5, c5, rfl⟩ := hv1.open
  have HG := Lib.hid hv1
  clear hv1
  go_upto_region 6 with (fail)
  have q9 : w.heap.size < W7.heap.size := (b2.out).lt
  have q10 : w.heap.size + 1 < W7.heap.size := (b3.out).lt
  have q11 : w.heap.size + 1 + 1 < W7.heap.size := (b4.out).lt
  change Code.wp Tryd.prog _ _ _ (W7.alloc (.cells #[.bool k5, .slice A5 l5 c5] 33))
  have nb2 : Bx 33 (W7.alloc (.cells #[.bool k5, .slice A5 l5 c5] 33)) w.heap.size [.bool k, .slice A l c] := (Bx.alloc b2.out (.cells #[.bool k5, .slice A5 l5 c5] 33))
  have nb3 : Bx 33 (W7.alloc (.cells #[.bool k5, .slice A5 l5 c5] 33)) (w.heap.size + 1) [.bool k', .slice A' l' c'] := (Bx.alloc b3.out (.cells #[.bool k5, .slice A5 l5 c5] 33))
  have nb4 : Bx 35 (W7.alloc (.cells #[.bool k5, .slice A5 l5 c5] 33)) (w.heap.size + 1 + 1) [.bool false, .slice none 0 0, .bool false, .slice none 0 0] := (Bx.alloc b4.out (.cells #[.bool k5, .slice A5 l5 c5] 33))
  have nb6 := (Bx.new 33 W7 [.bool k5, .slice A5 l5 c5] (leaf2 (Leaf.bool k5) (Leaf.slice A5 l5 c5)))
  have nkeep := (Keep.alloc (Keep.refl W7) (.cells #[.bool k5, .slice A5 l5 c5] 33))
  have nbel : Below w.heap.size w (W7.alloc (.cells #[.bool k5, .slice A5 l5 c5] 33)) := (Below.alloc HB8.out (by first | omega | (simp; done) | (simp; omega) | (simp [World.setCell]; done) | (simp [World.setCell]; omega)) (.cells #[.bool k5, .slice A5 l5 c5] 33))
  generalize W7.alloc (.cells #[.bool k5, .slice A5 l5 c5] 33) = W12 at *
  clear x2_0 x2_1 z2_0 z2_1 x3_0 x3_1 z3_0 z3_1 x4_0 x4_1 x4_2 x4_3 z4_0 z4_1 z4_2 z4_3 szb s2 s3 s4
  clear b2 b3 b4
  have b2 := Lib.hid nb2
  have b3 := Lib.hid nb3
  have b4 := Lib.hid nb4
  have b6 := Lib.hid nb6
  clear nb2 nb3 nb4 nb6
  have f_ := Lib.hid (H1.out.kept nkeep)
  clear H1
  have H1 := f_
  clear f_
  have f_ := Lib.hid (H2.out.kept nkeep)
  clear H2
  have H2 := f_
  clear f_
  have f_ := Lib.hid (HG.out.kept nkeep)
  clear HG
  have HG := f_
  clear f_
  clear nkeep
  have HB13 := Lib.hid nbel
  clear nbel
  clear HB8
  have x2_0 : W12.cell? ⟨w.heap.size, 0, none⟩ = some (.bool k) := (b2.out).cell 0
  have x2_1 : W12.cell? ⟨w.heap.size, 1, none⟩ = some (.slice A l c) := (b2.out).cell 1
  have z2_0 : W12.frozen? ⟨w.heap.size, 0, none⟩ = false := (b2.out).frozen 0
  have z2_1 : W12.frozen? ⟨w.heap.size, 1, none⟩ = false := (b2.out).frozen 1
  have x3_0 : W12.cell? ⟨w.heap.size + 1, 0, none⟩ = some (.bool k') := (b3.out).cell 0
  have x3_1 : W12.cell? ⟨w.heap.size + 1, 1, none⟩ = some (.slice A' l' c') := (b3.out).cell 1
  have z3_0 : W12.frozen? ⟨w.heap.size + 1, 0, none⟩ = false := (b3.out).frozen 0
  have z3_1 : W12.frozen? ⟨w.heap.size + 1, 1, none⟩ = false := (b3.out).frozen 1
  have x4_0 : W12.cell? ⟨w.heap.size + 1 + 1, 0, none⟩ = some (.bool false) := (b4.out).cell 0
  have x4_1 : W12.cell? ⟨w.heap.size + 1 + 1, 1, none⟩ = some (.slice none 0 0) := (b4.out).cell 1
  have x4_2 : W12.cell? ⟨w.heap.size + 1 + 1, 2, none⟩ = some (.bool false) := (b4.out).cell 2
  have x4_3 : W12.cell? ⟨w.heap.size + 1 + 1, 3, none⟩ = some (.slice none 0 0) := (b4.out).cell 3
  have z4_0 : W12.frozen? ⟨w.heap.size + 1 + 1, 0, none⟩ = false := (b4.out).frozen 0
  have z4_1 : W12.frozen? ⟨w.heap.size + 1 + 1, 1, none⟩ = false := (b4.out).frozen 1
  have z4_2 : W12.frozen? ⟨w.heap.size + 1 + 1, 2, none⟩ = false := (b4.out).frozen 2
  have z4_3 : W12.frozen? ⟨w.heap.size + 1 + 1, 3, none⟩ = false := (b4.out).frozen 3
  have x6_0 : W12.cell? ⟨W7.heap.size, 0, none⟩ = some (.bool k5) := (b6.out).cell 0
  have x6_1 : W12.cell? ⟨W7.heap.size, 1, none⟩ = some (.slice A5 l5 c5) := (b6.out).cell 1
  have szb : w.heap.size ≤ W12.heap.size := HB13.out.size
  have s2 : w.heap.size < W12.heap.size := (b2.out).lt
  have s3 : w.heap.size + 1 < W12.heap.size := (b3.out).lt
  have s4 : w.heap.size + 1 + 1 < W12.heap.size := (b4.out).lt
  have s6 : W7.heap.size < W12.heap.size := (b6.out).lt
  go_wp2_with fail
  refine (rquo_fact H1.out HG.out (by omega) (by omega) hne).mono ?_
  rintro e W14 ⟨k6, A6, l6, c6, k7, A7, l7, c7, rfl, hv3, hb⟩
  have nb := Lib.hid ((b2.out).up hb)
  clear b2
  have b2 := nb
  clear nb
  have nb := Lib.hid ((b3.out).up hb)
  clear b3
  have b3 := nb
  clear nb
  have nb := Lib.hid ((b4.out).up hb)
  clear b4
  have b4 := nb
  clear nb
  have nb := Lib.hid ((b6.out).up hb)
  clear b6
  have b6 := nb
  clear nb
  have f_ := Lib.hid (H1.out.kept (Keep.ofBelow hb))
  clear H1
  have H1 := f_
  clear f_
  have f_ := Lib.hid (H2.out.kept (Keep.ofBelow hb))
  clear H2
  have H2 := f_
  clear f_
  have f_ := Lib.hid (HG.out.kept (Keep.ofBelow hb))
  clear HG
  have HG := f_
  clear f_
  have nbel := below_then HB13.out hb HB13.out.size
  have HB15 := Lib.hid nbel
  clear nbel
  clear HB13
  clear hb
  clear x2_0 x2_1 z2_0 z2_1 x3_0 x3_1 z3_0 z3_1 x4_0 x4_1 x4_2 x4_3 z4_0 z4_1 z4_2 z4_3 x6_0 x6_1 szb s2 s3 s4 s6
  have x2_0 : W14.cell? ⟨w.heap.size, 0, none⟩ = some (.bool k) := (b2.out).cell 0
  have x2_1 : W14.cell? ⟨w.heap.size, 1, none⟩ = some (.slice A l c) := (b2.out).cell 1
  have z2_0 : W14.frozen? ⟨w.heap.size, 0, none⟩ = false := (b2.out).frozen 0
  have z2_1 : W14.frozen? ⟨w.heap.size, 1, none⟩ = false := (b2.out).frozen 1
  have x3_0 : W14.cell? ⟨w.heap.size + 1, 0, none⟩ = some (.bool k') := (b3.out).cell 0
  have x3_1 : W14.cell? ⟨w.heap.size + 1, 1, none⟩ = some (.slice A' l' c') := (b3.out).cell 1
  have z3_0 : W14.frozen? ⟨w.heap.size + 1, 0, none⟩ = false := (b3.out).frozen 0
  have z3_1 : W14.frozen? ⟨w.heap.size + 1, 1, none⟩ = false := (b3.out).frozen 1
  have x4_0 : W14.cell? ⟨w.heap.size + 1 + 1, 0, none⟩ = some (.bool false) := (b4.out).cell 0
  have x4_1 : W14.cell? ⟨w.heap.size + 1 + 1, 1, none⟩ = some (.slice none 0 0) := (b4.out).cell 1
  have x4_2 : W14.cell? ⟨w.heap.size + 1 + 1, 2, none⟩ = some (.bool false) := (b4.out).cell 2
  have x4_3 : W14.cell? ⟨w.heap.size + 1 + 1, 3, none⟩ = some (.slice none 0 0) := (b4.out).cell 3
  have z4_0 : W14.frozen? ⟨w.heap.size + 1 + 1, 0, none⟩ = false := (b4.out).frozen 0
  have z4_1 : W14.frozen? ⟨w.heap.size + 1 + 1, 1, none⟩ = false := (b4.out).frozen 1
  have z4_2 : W14.frozen? ⟨w.heap.size + 1 + 1, 2, none⟩ = false := (b4.out).frozen 2
  have z4_3 : W14.frozen? ⟨w.heap.size + 1 + 1, 3, none⟩ = false := (b4.out).frozen 3
  have x6_0 : W14.cell? ⟨W7.heap.size, 0, none⟩ = some (.bool k5) := (b6.out).cell 0
  have x6_1 : W14.cell? ⟨W7.heap.size, 1, none⟩ = some (.slice A5 l5 c5) := (b6.out).cell 1
  have szb : w.heap.size ≤ W14.heap.size := HB15.out.size
  have s2 : w.heap.size < W14.heap.size := (b2.out).lt
  have s3 : w.heap.size + 1 < W14.heap.size := (b3.out).lt
  have s4 : w.heap.size + 1 + 1 < W14.heap.size := (b4.out).lt
  have s6 : W7.heap.size < W14.heap.size := (b6.out).lt
  have HN := Lib.hid hv3
  clear hv3
  go_upto_region 7 with (fail)
  change Code.wp Tryd.prog _ _ _ ((W14.setCell ⟨w.heap.size, 0, none⟩ (.bool k6)).setCell ⟨w.heap.size, 1, none⟩ (.slice A6 l6 c6))
  have nb2 : Bx 33 ((W14.setCell ⟨w.heap.size, 0, none⟩ (.bool k6)).setCell ⟨w.heap.size, 1, none⟩ (.slice A6 l6 c6)) w.heap.size [.bool k6, .slice A6 l6 c6] := (Bx.set (Bx.set b2.out 0 (Leaf.bool k6)) 1 (Leaf.slice A6 l6 c6))
  have nb3 : Bx 33 ((W14.setCell ⟨w.heap.size, 0, none⟩ (.bool k6)).setCell ⟨w.heap.size, 1, none⟩ (.slice A6 l6 c6)) (w.heap.size + 1) [.bool k', .slice A' l' c'] := (Bx.far (g' := w.heap.size) (Bx.far (g' := w.heap.size) b3.out (by omega) 0 (.bool k6)) (by omega) 1 (.slice A6 l6 c6))
  have nb4 : Bx 35 ((W14.setCell ⟨w.heap.size, 0, none⟩ (.bool k6)).setCell ⟨w.heap.size, 1, none⟩ (.slice A6 l6 c6)) (w.heap.size + 1 + 1) [.bool false, .slice none 0 0, .bool false, .slice none 0 0] := (Bx.far (g' := w.heap.size) (Bx.far (g' := w.heap.size) b4.out (by omega) 0 (.bool k6)) (by omega) 1 (.slice A6 l6 c6))
  have nb6 : Bx 33 ((W14.setCell ⟨w.heap.size, 0, none⟩ (.bool k6)).setCell ⟨w.heap.size, 1, none⟩ (.slice A6 l6 c6)) W7.heap.size [.bool k5, .slice A5 l5 c5] := (Bx.far (g' := w.heap.size) (Bx.far (g' := w.heap.size) b6.out (by omega) 0 (.bool k6)) (by omega) 1 (.slice A6 l6 c6))
  have nkeep := (Keep.set (Keep.set (Keep.refl W14) b2.out 0 (Leaf.bool k6)) (Bx.set b2.out 0 (Leaf.bool k6)) 1 (Leaf.slice A6 l6 c6))
  have nbel : Below w.heap.size w ((W14.setCell ⟨w.heap.size, 0, none⟩ (.bool k6)).setCell ⟨w.heap.size, 1, none⟩ (.slice A6 l6 c6)) := (Below.setCell (p := ⟨w.heap.size, 1, none⟩) (Below.setCell (p := ⟨w.heap.size, 0, none⟩) HB15.out (by first | omega | (simp; done) | (simp; omega)) (.bool k6)) (by first | omega | (simp; done) | (simp; omega)) (.slice A6 l6 c6))
  generalize (W14.setCell ⟨w.heap.size, 0, none⟩ (.bool k6)).setCell ⟨w.heap.size, 1, none⟩ (.slice A6 l6 c6) = W16 at *
  clear x2_0 x2_1 z2_0 z2_1 x3_0 x3_1 z3_0 z3_1 x4_0 x4_1 x4_2 x4_3 z4_0 z4_1 z4_2 z4_3 x6_0 x6_1 szb s2 s3 s4 s6
  clear b2 b3 b4 b6
  have b2 := Lib.hid nb2
  have b3 := Lib.hid nb3
  have b4 := Lib.hid nb4
  have b6 := Lib.hid nb6
  clear nb2 nb3 nb4 nb6
  have f_ := Lib.hid (H1.out.kept nkeep)
  clear H1
  have H1 := f_
  clear f_
  have f_ := Lib.hid (H2.out.kept nkeep)
  clear H2
  have H2 := f_
  clear f_
  have f_ := Lib.hid (HG.out.kept nkeep)
  clear HG
  have HG := f_
  clear f_
  have f_ := Lib.hid (HN.out.kept nkeep)
  clear HN
  have HN := f_
  clear f_
  clear nkeep
  have HB17 := Lib.hid nbel
  clear nbel
  clear HB15
  have x2_0 : W16.cell? ⟨w.heap.size, 0, none⟩ = some (.bool k6) := (b2.out).cell 0
  have x2_1 : W16.cell? ⟨w.heap.size, 1, none⟩ = some (.slice A6 l6 c6) := (b2.out).cell 1
  have z2_0 : W16.frozen? ⟨w.heap.size, 0, none⟩ = false := (b2.out).frozen 0
  have z2_1 : W16.frozen? ⟨w.heap.size, 1, none⟩ = false := (b2.out).frozen 1
  have x3_0 : W16.cell? ⟨w.heap.size + 1, 0, none⟩ = some (.bool k') := (b3.out).cell 0
  have x3_1 : W16.cell? ⟨w.heap.size + 1, 1, none⟩ = some (.slice A' l' c') := (b3.out).cell 1
  have z3_0 : W16.frozen? ⟨w.heap.size + 1, 0, none⟩ = false := (b3.out).frozen 0
  have z3_1 : W16.frozen? ⟨w.heap.size + 1, 1, none⟩ = false := (b3.out).frozen 1
  have x4_0 : W16.cell? ⟨w.heap.size + 1 + 1, 0, none⟩ = some (.bool false) := (b4.out).cell 0
  have x4_1 : W16.cell? ⟨w.heap.size + 1 + 1, 1, none⟩ = some (.slice none 0 0) := (b4.out).cell 1
  have x4_2 : W16.cell? ⟨w.heap.size + 1 + 1, 2, none⟩ = some (.bool false) := (b4.out).cell 2
  have x4_3 : W16.cell? ⟨w.heap.size + 1 + 1, 3, none⟩ = some (.slice none 0 0) := (b4.out).cell 3
  have z4_0 : W16.frozen? ⟨w.heap.size + 1 + 1, 0, none⟩ = false := (b4.out).frozen 0
  have z4_1 : W16.frozen? ⟨w.heap.size + 1 + 1, 1, none⟩ = false := (b4.out).frozen 1
  have z4_2 : W16.frozen? ⟨w.heap.size + 1 + 1, 2, none⟩ = false := (b4.out).frozen 2
  have z4_3 : W16.frozen? ⟨w.heap.size + 1 + 1, 3, none⟩ = false := (b4.out).frozen 3
  have x6_0 : W16.cell? ⟨W7.heap.size, 0, none⟩ = some (.bool k5) := (b6.out).cell 0
  have x6_1 : W16.cell? ⟨W7.heap.size, 1, none⟩ = some (.slice A5 l5 c5) := (b6.out).cell 1
  have szb : w.heap.size ≤ W16.heap.size := HB17.out.size
  have s2 : w.heap.size < W16.heap.size := (b2.out).lt
  have s3 : w.heap.size + 1 < W16.heap.size := (b3.out).lt
  have s4 : w.heap.size + 1 + 1 < W16.heap.size := (b4.out).lt
  have s6 : W7.heap.size < W16.heap.size := (b6.out).lt
  go_wp2_with fail
  refine (rquo_fact H2.out HG.out (by omega) (by omega) hne).mono ?_
  rintro e W18 ⟨k8, A8, l8, c8, k9, A9, l9, c9, rfl, hv3, hb⟩
  have nb := Lib.hid ((b2.out).up hb)
  clear b2
  have b2 := nb
  clear nb
  have nb := Lib.hid ((b3.out).up hb)
  clear b3
  have b3 := nb
  clear nb
  have nb := Lib.hid ((b4.out).up hb)
  clear b4
  have b4 := nb
  clear nb
  have nb := Lib.hid ((b6.out).up hb)
  clear b6
  have b6 := nb
  clear nb
  have f_ := Lib.hid (H1.out.kept (Keep.ofBelow hb))
  clear H1
  have H1 := f_
  clear f_
  have f_ := Lib.hid (H2.out.kept (Keep.ofBelow hb))
  clear H2
  have H2 := f_
  clear f_
  have f_ := Lib.hid (HG.out.kept (Keep.ofBelow hb))
  clear HG
  have HG := f_
  clear f_
  have f_ := Lib.hid (HN.out.kept (Keep.ofBelow hb))
  clear HN
  have HN := f_
  clear f_
  have nbel := below_then HB17.out hb HB17.out.size
  have HB19 := Lib.hid nbel
  clear nbel
  clear HB17
  clear hb
  clear x2_0 x2_1 z2_0 z2_1 x3_0 x3_1 z3_0 z3_1 x4_0 x4_1 x4_2 x4_3 z4_0 z4_1 z4_2 z4_3 x6_0 x6_1 szb s2 s3 s4 s6
  have x2_0 : W18.cell? ⟨w.heap.size, 0, none⟩ = some (.bool k6) := (b2.out).cell 0
  have x2_1 : W18.cell? ⟨w.heap.size, 1, none⟩ = some (.slice A6 l6 c6) := (b2.out).cell 1
  have z2_0 : W18.frozen? ⟨w.heap.size, 0, none⟩ = false := (b2.out).frozen 0
  have z2_1 : W18.frozen? ⟨w.heap.size, 1, none⟩ = false := (b2.out).frozen 1
  have x3_0 : W18.cell? ⟨w.heap.size + 1, 0, none⟩ = some (.bool k') := (b3.out).cell 0
  have x3_1 : W18.cell? ⟨w.heap.size + 1, 1, none⟩ = some (.slice A' l' c') := (b3.out).cell 1
  have z3_0 : W18.frozen? ⟨w.heap.size + 1, 0, none⟩ = false := (b3.out).frozen 0
  have z3_1 : W18.frozen? ⟨w.heap.size + 1, 1, none⟩ = false := (b3.out).frozen 1
  have x4_0 : W18.cell? ⟨w.heap.size + 1 + 1, 0, none⟩ = some (.bool false) := (b4.out).cell 0
  have x4_1 : W18.cell? ⟨w.heap.size + 1 + 1, 1, none⟩ = some (.slice none 0 0) := (b4.out).cell 1
  have x4_2 : W18.cell? ⟨w.heap.size + 1 + 1, 2, none⟩ = some (.bool false) := (b4.out).cell 2
  have x4_3 : W18.cell? ⟨w.heap.size + 1 + 1, 3, none⟩ = some (.slice none 0 0) := (b4.out).cell 3
  have z4_0 : W18.frozen? ⟨w.heap.size + 1 + 1, 0, none⟩ = false := (b4.out).frozen 0
  have z4_1 : W18.frozen? ⟨w.heap.size + 1 + 1, 1, none⟩ = false := (b4.out).frozen 1
  have z4_2 : W18.frozen? ⟨w.heap.size + 1 + 1, 2, none⟩ = false := (b4.out).frozen 2
  have z4_3 : W18.frozen? ⟨w.heap.size + 1 + 1, 3, none⟩ = false := (b4.out).frozen 3
  have x6_0 : W18.cell? ⟨W7.heap.size, 0, none⟩ = some (.bool k5) := (b6.out).cell 0
  have x6_1 : W18.cell? ⟨W7.heap.size, 1, none⟩ = some (.slice A5 l5 c5) := (b6.out).cell 1
  have szb : w.heap.size ≤ W18.heap.size := HB19.out.size
  have s2 : w.heap.size < W18.heap.size := (b2.out).lt
  have s3 : w.heap.size + 1 < W18.heap.size := (b3.out).lt
  have s4 : w.heap.size + 1 + 1 < W18.heap.size := (b4.out).lt
  have s6 : W7.heap.size < W18.heap.size := (b6.out).lt
  have HD := Lib.hid hv3
  clear hv3
  go_upto_region 8 with (fail)
  change Code.wp Tryd.prog _ _ _ ((W18.setCell ⟨w.heap.size + 1, 0, none⟩ (.bool k8)).setCell ⟨w.heap.size + 1, 1, none⟩ (.slice A8 l8 c8))
  have nb2 : Bx 33 ((W18.setCell ⟨w.heap.size + 1, 0, none⟩ (.bool k8)).setCell ⟨w.heap.size + 1, 1, none⟩ (.slice A8 l8 c8)) w.heap.size [.bool k6, .slice A6 l6 c6] := (Bx.far (g' := w.heap.size + 1) (Bx.far (g' := w.heap.size + 1) b2.out (by omega) 0 (.bool k8)) (by omega) 1 (.slice A8 l8 c8))
  have nb3 : Bx 33 ((W18.setCell ⟨w.heap.size + 1, 0, none⟩ (.bool k8)).setCell ⟨w.heap.size + 1, 1, none⟩ (.slice A8 l8 c8)) (w.heap.size + 1) [.bool k8, .slice A8 l8 c8] := (Bx.set (Bx.set b3.out 0 (Leaf.bool k8)) 1 (Leaf.slice A8 l8 c8))
  have nb4 : Bx 35 ((W18.setCell ⟨w.heap.size + 1, 0, none⟩ (.bool k8)).setCell ⟨w.heap.size + 1, 1, none⟩ (.slice A8 l8 c8)) (w.heap.size + 1 + 1) [.bool false, .slice none 0 0, .bool false, .slice none 0 0] := (Bx.far (g' := w.heap.size + 1) (Bx.far (g' := w.heap.size + 1) b4.out (by omega) 0 (.bool k8)) (by omega) 1 (.slice A8 l8 c8))
  have nb6 : Bx 33 ((W18.setCell ⟨w.heap.size + 1, 0, none⟩ (.bool k8)).setCell ⟨w.heap.size + 1, 1, none⟩ (.slice A8 l8 c8)) W7.heap.size [.bool k5, .slice A5 l5 c5] := (Bx.far (g' := w.heap.size + 1) (Bx.far (g' := w.heap.size + 1) b6.out (by omega) 0 (.bool k8)) (by omega) 1 (.slice A8 l8 c8))
  have nkeep := (Keep.set (Keep.set (Keep.refl W18) b3.out 0 (Leaf.bool k8)) (Bx.set b3.out 0 (Leaf.bool k8)) 1 (Leaf.slice A8 l8 c8))
  have nbel : Below w.heap.size w ((W18.setCell ⟨w.heap.size + 1, 0, none⟩ (.bool k8)).setCell ⟨w.heap.size + 1, 1, none⟩ (.slice A8 l8 c8)) := (Below.setCell (p := ⟨w.heap.size + 1, 1, none⟩) (Below.setCell (p := ⟨w.heap.size + 1, 0, none⟩) HB19.out (by first | omega | (simp; done) | (simp; omega)) (.bool k8)) (by first | omega | (simp; done) | (simp; omega)) (.slice A8 l8 c8))
  generalize (W18.setCell ⟨w.heap.size + 1, 0, none⟩ (.bool k8)).setCell ⟨w.heap.size + 1, 1, none⟩ (.slice A8 l8 c8) = W20 at *
  clear x2_0 x2_1 z2_0 z2_1 x3_0 x3_1 z3_0 z3_1 x4_0 x4_1 x4_2 x4_3 z4_0 z4_1 z4_2 z4_3 x6_0 x6_1 szb s2 s3 s4 s6
  clear b2 b3 b4 b6
  have b2 := Lib.hid nb2
  have b3 := Lib.hid nb3
  have b4 := Lib.hid nb4
  have b6 := Lib.hid nb6
  clear nb2 nb3 nb4 nb6
  have f_ := Lib.hid (H1.out.kept nkeep)
  clear H1
  have H1 := f_
  clear f_
  have f_ := Lib.hid (H2.out.kept nkeep)
  clear H2
  have H2 := f_
  clear f_
  have f_ := Lib.hid (HG.out.kept nkeep)
  clear HG
  have HG := f_
  clear f_
  have f_ := Lib.hid (HN.out.kept nkeep)
  clear HN
  have HN := f_
  clear f_
  have f_ := Lib.hid (HD.out.kept nkeep)
  clear HD
  have HD := f_
  clear f_
  clear nkeep
  have HB21 := Lib.hid nbel
  clear nbel
  clear HB19
  have x2_0 : W20.cell? ⟨w.heap.size, 0, none⟩ = some (.bool k6) := (b2.out).cell 0
  have x2_1 : W20.cell? ⟨w.heap.size, 1, none⟩ = some (.slice A6 l6 c6) := (b2.out).cell 1
  have z2_0 : W20.frozen? ⟨w.heap.size, 0, none⟩ = false := (b2.out).frozen 0
  have z2_1 : W20.frozen? ⟨w.heap.size, 1, none⟩ = false := (b2.out).frozen 1
  have x3_0 : W20.cell? ⟨w.heap.size + 1, 0, none⟩ = some (.bool k8) := (b3.out).cell 0
  have x3_1 : W20.cell? ⟨w.heap.size + 1, 1, none⟩ = some (.slice A8 l8 c8) := (b3.out).cell 1
  have z3_0 : W20.frozen? ⟨w.heap.size + 1, 0, none⟩ = false := (b3.out).frozen 0
  have z3_1 : W20.frozen? ⟨w.heap.size + 1, 1, none⟩ = false := (b3.out).frozen 1
  have x4_0 : W20.cell? ⟨w.heap.size + 1 + 1, 0, none⟩ = some (.bool false) := (b4.out).cell 0
  have x4_1 : W20.cell? ⟨w.heap.size + 1 + 1, 1, none⟩ = some (.slice none 0 0) := (b4.out).cell 1
  have x4_2 : W20.cell? ⟨w.heap.size + 1 + 1, 2, none⟩ = some (.bool false) := (b4.out).cell 2
  have x4_3 : W20.cell? ⟨w.heap.size + 1 + 1, 3, none⟩ = some (.slice none 0 0) := (b4.out).cell 3
  have z4_0 : W20.frozen? ⟨w.heap.size + 1 + 1, 0, none⟩ = false := (b4.out).frozen 0
  have z4_1 : W20.frozen? ⟨w.heap.size + 1 + 1, 1, none⟩ = false := (b4.out).frozen 1
  have z4_2 : W20.frozen? ⟨w.heap.size + 1 + 1, 2, none⟩ = false := (b4.out).frozen 2
  have z4_3 : W20.frozen? ⟨w.heap.size + 1 + 1, 3, none⟩ = false := (b4.out).frozen 3
  have x6_0 : W20.cell? ⟨W7.heap.size, 0, none⟩ = some (.bool k5) := (b6.out).cell 0
  have x6_1 : W20.cell? ⟨W7.heap.size, 1, none⟩ = some (.slice A5 l5 c5) := (b6.out).cell 1
  have szb : w.heap.size ≤ W20.heap.size := HB21.out.size
  have s2 : w.heap.size < W20.heap.size := (b2.out).lt
  have s3 : w.heap.size + 1 < W20.heap.size := (b3.out).lt
  have s4 : w.heap.size + 1 + 1 < W20.heap.size := (b4.out).lt
  have s6 : W7.heap.size < W20.heap.size := (b6.out).lt
  go_wp2_with fail
  have hkeep := (Keep.set (Keep.set (Keep.set (Keep.set (Keep.refl W20) b4.out 0 (Leaf.bool k6)) (Bx.set b4.out 0 (Leaf.bool k6)) 1 (Leaf.slice A6 l6 c6)) (Bx.set (Bx.set b4.out 0 (Leaf.bool k6)) 1 (Leaf.slice A6 l6 c6)) 2 (Leaf.bool k8)) (Bx.set (Bx.set (Bx.set b4.out 0 (Leaf.bool k6)) 1 (Leaf.slice A6 l6 c6)) 2 (Leaf.bool k8)) 3 (Leaf.slice A8 l8 c8))
  have hbel := (Below.setCell (p := ⟨w.heap.size + 1 + 1, 3, none⟩) (Below.setCell (p := ⟨w.heap.size + 1 + 1, 2, none⟩) (Below.setCell (p := ⟨w.heap.size + 1 + 1, 1, none⟩) (Below.setCell (p := ⟨w.heap.size + 1 + 1, 0, none⟩) HB21.out (by first | omega | (simp; done) | (simp; omega)) (.bool k6)) (by first | omega | (simp; done) | (simp; omega)) (.slice A6 l6 c6)) (by first | omega | (simp; done) | (simp; omega)) (.bool k8)) (by first | omega | (simp; done) | (simp; omega)) (.slice A8 l8 c8))
  refine bodyPost_ret (v := .tuple #[.agg #[.bool k6, .slice A6 l6 c6, .bool k8, .slice A8 l8 c8], .int .i64 0]) (by simp [results, Tryd.results19, go_sem, x4_0, x4_1, x4_2, x4_3]) rfl ⟨_, rfl, RRat.mk (HN.out.kept hkeep) (HD.out.kept hkeep) (by rw [← red_num hq]; unfold divr; rw [if_neg (by omega)]) (by rw [← red_den hq]; unfold divr; rw [if_neg (by omega)]), hbel⟩
def rnewFL (p q : Int) (n : Nat) : List (Nat × AS.Fact) := [(14, AS.Fact.ref (p) n), (15, AS.Fact.ref (-(p)) n), (16, AS.Fact.ref (q) n), (17, AS.Fact.ref (-(q)) n)]
set_option maxRecDepth 20000 in
set_option maxHeartbeats 3200000 in
theorem rnew_neg {p q : Int} {n : Nat} {k : Bool} {A : Option Addr} {l c : Nat} {k' : Bool} {A' : Option Addr} {l' c' : Nat} {w : World} (h1 : PRef p n (.agg #[.bool k, .slice A l c]) w) (h2 : PRef q n (.agg #[.bool k', .slice A' l' c']) w) (hn : n ≤ 20000) (hlt : q < 0) (hc : cmpI q 0 = -1) (hq : q ≠ 0) (hne : (Int.gcd (-p) (-q) : Int) ≠ 0) :
    Calls Tryd.prog 19 #[.agg #[.bool k, .slice A l c], .agg #[.bool k', .slice A' l' c']] w fun e w' => ∃ v, e = .returned (.tuple #[v, .int .i64 0]) ∧ RRat (Rat.divInt p q) n v w' ∧ Below w.heap.size w w' := by
  have H1 := Lib.hid h1
  have H2 := Lib.hid h2
  clear h1 h2
  go_enter Tryd.func19, Tryd.ntmps19
  go_upto_region 1 with (fail)
  change Code.wp Tryd.prog _ _ _ (((w.alloc (.cells #[.bool k, .slice A l c] 33)).alloc (.cells #[.bool k', .slice A' l' c'] 33)).alloc (.cells #[.bool false, .slice none 0 0, .bool false, .slice none 0 0] 35))
  have nb2 := (Bx.alloc (Bx.alloc (Bx.new 33 w [.bool k, .slice A l c] (leaf2 (Leaf.bool k) (Leaf.slice A l c))) (.cells #[.bool k', .slice A' l' c'] 33)) (.cells #[.bool false, .slice none 0 0, .bool false, .slice none 0 0] 35))
  have nb3 := (Bx.alloc (Bx.new 33 (w.alloc (.cells #[.bool k, .slice A l c] 33)) [.bool k', .slice A' l' c'] (leaf2 (Leaf.bool k') (Leaf.slice A' l' c'))) (.cells #[.bool false, .slice none 0 0, .bool false, .slice none 0 0] 35))
  rw [show (w.alloc (.cells #[.bool k, .slice A l c] 33)).heap.size = w.heap.size + 1 by simp] at nb3
  have nb4 := (Bx.new 35 ((w.alloc (.cells #[.bool k, .slice A l c] 33)).alloc (.cells #[.bool k', .slice A' l' c'] 33)) [.bool false, .slice none 0 0, .bool false, .slice none 0 0] (leaf4 (Leaf.bool false) (Leaf.slice none 0 0) (Leaf.bool false) (Leaf.slice none 0 0)))
  rw [show ((w.alloc (.cells #[.bool k, .slice A l c] 33)).alloc (.cells #[.bool k', .slice A' l' c'] 33)).heap.size = w.heap.size + 1 + 1 by simp] at nb4
  have nkeep := (Keep.alloc (Keep.alloc (Keep.alloc (Keep.refl w) (.cells #[.bool k, .slice A l c] 33)) (.cells #[.bool k', .slice A' l' c'] 33)) (.cells #[.bool false, .slice none 0 0, .bool false, .slice none 0 0] 35))
  have nbel : Below w.heap.size w (((w.alloc (.cells #[.bool k, .slice A l c] 33)).alloc (.cells #[.bool k', .slice A' l' c'] 33)).alloc (.cells #[.bool false, .slice none 0 0, .bool false, .slice none 0 0] 35)) := (Below.alloc (Below.alloc (Below.alloc (Below.refl w.heap.size w) (by first | omega | (simp; done) | (simp; omega) | (simp [World.setCell]; done) | (simp [World.setCell]; omega)) (.cells #[.bool k, .slice A l c] 33)) (by first | omega | (simp; done) | (simp; omega) | (simp [World.setCell]; done) | (simp [World.setCell]; omega)) (.cells #[.bool k', .slice A' l' c'] 33)) (by first | omega | (simp; done) | (simp; omega) | (simp [World.setCell]; done) | (simp [World.setCell]; omega)) (.cells #[.bool false, .slice none 0 0, .bool false, .slice none 0 0] 35))
  generalize ((w.alloc (.cells #[.bool k, .slice A l c] 33)).alloc (.cells #[.bool k', .slice A' l' c'] 33)).alloc (.cells #[.bool false, .slice none 0 0, .bool false, .slice none 0 0] 35) = W1 at *
  have b2 := Lib.hid nb2
  have b3 := Lib.hid nb3
  have b4 := Lib.hid nb4
  clear nb2 nb3 nb4
  have f_ := Lib.hid (H1.out.kept nkeep)
  clear H1
  have H1 := f_
  clear f_
  have f_ := Lib.hid (H2.out.kept nkeep)
  clear H2
  have H2 := f_
  clear f_
  clear nkeep
  have HB2 := Lib.hid nbel
  clear nbel
  have x2_0 : W1.cell? ⟨w.heap.size, 0, none⟩ = some (.bool k) := (b2.out).cell 0
  have x2_1 : W1.cell? ⟨w.heap.size, 1, none⟩ = some (.slice A l c) := (b2.out).cell 1
  have x3_0 : W1.cell? ⟨w.heap.size + 1, 0, none⟩ = some (.bool k') := (b3.out).cell 0
  have x3_1 : W1.cell? ⟨w.heap.size + 1, 1, none⟩ = some (.slice A' l' c') := (b3.out).cell 1
  have x4_0 : W1.cell? ⟨w.heap.size + 1 + 1, 0, none⟩ = some (.bool false) := (b4.out).cell 0
  have x4_1 : W1.cell? ⟨w.heap.size + 1 + 1, 1, none⟩ = some (.slice none 0 0) := (b4.out).cell 1
  have x4_2 : W1.cell? ⟨w.heap.size + 1 + 1, 2, none⟩ = some (.bool false) := (b4.out).cell 2
  have x4_3 : W1.cell? ⟨w.heap.size + 1 + 1, 3, none⟩ = some (.slice none 0 0) := (b4.out).cell 3
  have szb : w.heap.size ≤ W1.heap.size := HB2.out.size
  have s2 : w.heap.size < W1.heap.size := (b2.out).lt
  have s3 : w.heap.size + 1 < W1.heap.size := (b3.out).lt
  have s4 : w.heap.size + 1 + 1 < W1.heap.size := (b4.out).lt
  clear x2_0 x2_1 x3_0 x3_1 x4_0 x4_1 x4_2 x4_3 szb s2 s3 s4
  have x2_0 : W1.cell? ⟨w.heap.size, 0, none⟩ = some (.bool k) := (b2.out).cell 0
  have x2_1 : W1.cell? ⟨w.heap.size, 1, none⟩ = some (.slice A l c) := (b2.out).cell 1
  have z2_0 : W1.frozen? ⟨w.heap.size, 0, none⟩ = false := (b2.out).frozen 0
  have z2_1 : W1.frozen? ⟨w.heap.size, 1, none⟩ = false := (b2.out).frozen 1
  have x3_0 : W1.cell? ⟨w.heap.size + 1, 0, none⟩ = some (.bool k') := (b3.out).cell 0
  have x3_1 : W1.cell? ⟨w.heap.size + 1, 1, none⟩ = some (.slice A' l' c') := (b3.out).cell 1
  have z3_0 : W1.frozen? ⟨w.heap.size + 1, 0, none⟩ = false := (b3.out).frozen 0
  have z3_1 : W1.frozen? ⟨w.heap.size + 1, 1, none⟩ = false := (b3.out).frozen 1
  have x4_0 : W1.cell? ⟨w.heap.size + 1 + 1, 0, none⟩ = some (.bool false) := (b4.out).cell 0
  have x4_1 : W1.cell? ⟨w.heap.size + 1 + 1, 1, none⟩ = some (.slice none 0 0) := (b4.out).cell 1
  have x4_2 : W1.cell? ⟨w.heap.size + 1 + 1, 2, none⟩ = some (.bool false) := (b4.out).cell 2
  have x4_3 : W1.cell? ⟨w.heap.size + 1 + 1, 3, none⟩ = some (.slice none 0 0) := (b4.out).cell 3
  have z4_0 : W1.frozen? ⟨w.heap.size + 1 + 1, 0, none⟩ = false := (b4.out).frozen 0
  have z4_1 : W1.frozen? ⟨w.heap.size + 1 + 1, 1, none⟩ = false := (b4.out).frozen 1
  have z4_2 : W1.frozen? ⟨w.heap.size + 1 + 1, 2, none⟩ = false := (b4.out).frozen 2
  have z4_3 : W1.frozen? ⟨w.heap.size + 1 + 1, 3, none⟩ = false := (b4.out).frozen 3
  have szb : w.heap.size ≤ W1.heap.size := HB2.out.size
  have s2 : w.heap.size < W1.heap.size := (b2.out).lt
  have s3 : w.heap.size + 1 < W1.heap.size := (b3.out).lt
  have s4 : w.heap.size + 1 + 1 < W1.heap.size := (b4.out).lt
  go_wp2_with fail
  refine (rsign_is H2.out hc).mono ?_
  rintro e W3 ⟨rfl, hb⟩
  have nb := Lib.hid ((b2.out).up hb)
  clear b2
  have b2 := nb
  clear nb
  have nb := Lib.hid ((b3.out).up hb)
  clear b3
  have b3 := nb
  clear nb
  have nb := Lib.hid ((b4.out).up hb)
  clear b4
  have b4 := nb
  clear nb
  have f_ := Lib.hid (H1.out.kept (Keep.ofBelow hb))
  clear H1
  have H1 := f_
  clear f_
  have f_ := Lib.hid (H2.out.kept (Keep.ofBelow hb))
  clear H2
  have H2 := f_
  clear f_
  have nbel := below_then HB2.out hb HB2.out.size
  have HB4 := Lib.hid nbel
  clear nbel
  clear HB2
  clear hb
  clear x2_0 x2_1 z2_0 z2_1 x3_0 x3_1 z3_0 z3_1 x4_0 x4_1 x4_2 x4_3 z4_0 z4_1 z4_2 z4_3 szb s2 s3 s4
  have x2_0 : W3.cell? ⟨w.heap.size, 0, none⟩ = some (.bool k) := (b2.out).cell 0
  have x2_1 : W3.cell? ⟨w.heap.size, 1, none⟩ = some (.slice A l c) := (b2.out).cell 1
  have z2_0 : W3.frozen? ⟨w.heap.size, 0, none⟩ = false := (b2.out).frozen 0
  have z2_1 : W3.frozen? ⟨w.heap.size, 1, none⟩ = false := (b2.out).frozen 1
  have x3_0 : W3.cell? ⟨w.heap.size + 1, 0, none⟩ = some (.bool k') := (b3.out).cell 0
  have x3_1 : W3.cell? ⟨w.heap.size + 1, 1, none⟩ = some (.slice A' l' c') := (b3.out).cell 1
  have z3_0 : W3.frozen? ⟨w.heap.size + 1, 0, none⟩ = false := (b3.out).frozen 0
  have z3_1 : W3.frozen? ⟨w.heap.size + 1, 1, none⟩ = false := (b3.out).frozen 1
  have x4_0 : W3.cell? ⟨w.heap.size + 1 + 1, 0, none⟩ = some (.bool false) := (b4.out).cell 0
  have x4_1 : W3.cell? ⟨w.heap.size + 1 + 1, 1, none⟩ = some (.slice none 0 0) := (b4.out).cell 1
  have x4_2 : W3.cell? ⟨w.heap.size + 1 + 1, 2, none⟩ = some (.bool false) := (b4.out).cell 2
  have x4_3 : W3.cell? ⟨w.heap.size + 1 + 1, 3, none⟩ = some (.slice none 0 0) := (b4.out).cell 3
  have z4_0 : W3.frozen? ⟨w.heap.size + 1 + 1, 0, none⟩ = false := (b4.out).frozen 0
  have z4_1 : W3.frozen? ⟨w.heap.size + 1 + 1, 1, none⟩ = false := (b4.out).frozen 1
  have z4_2 : W3.frozen? ⟨w.heap.size + 1 + 1, 2, none⟩ = false := (b4.out).frozen 2
  have z4_3 : W3.frozen? ⟨w.heap.size + 1 + 1, 3, none⟩ = false := (b4.out).frozen 3
  have szb : w.heap.size ≤ W3.heap.size := HB4.out.size
  have s2 : w.heap.size < W3.heap.size := (b2.out).lt
  have s3 : w.heap.size + 1 < W3.heap.size := (b3.out).lt
  have s4 : w.heap.size + 1 + 1 < W3.heap.size := (b4.out).lt
  go_wp2_with fail
  refine (rsign_is H2.out hc).mono ?_
  rintro e W5 ⟨rfl, hb⟩
  have nb := Lib.hid ((b2.out).up hb)
  clear b2
  have b2 := nb
  clear nb
  have nb := Lib.hid ((b3.out).up hb)
  clear b3
  have b3 := nb
  clear nb
  have nb := Lib.hid ((b4.out).up hb)
  clear b4
  have b4 := nb
  clear nb
  have f_ := Lib.hid (H1.out.kept (Keep.ofBelow hb))
  clear H1
  have H1 := f_
  clear f_
  have f_ := Lib.hid (H2.out.kept (Keep.ofBelow hb))
  clear H2
  have H2 := f_
  clear f_
  have nbel := below_then HB4.out hb HB4.out.size
  have HB6 := Lib.hid nbel
  clear nbel
  clear HB4
  clear hb
  clear x2_0 x2_1 z2_0 z2_1 x3_0 x3_1 z3_0 z3_1 x4_0 x4_1 x4_2 x4_3 z4_0 z4_1 z4_2 z4_3 szb s2 s3 s4
  have x2_0 : W5.cell? ⟨w.heap.size, 0, none⟩ = some (.bool k) := (b2.out).cell 0
  have x2_1 : W5.cell? ⟨w.heap.size, 1, none⟩ = some (.slice A l c) := (b2.out).cell 1
  have z2_0 : W5.frozen? ⟨w.heap.size, 0, none⟩ = false := (b2.out).frozen 0
  have z2_1 : W5.frozen? ⟨w.heap.size, 1, none⟩ = false := (b2.out).frozen 1
  have x3_0 : W5.cell? ⟨w.heap.size + 1, 0, none⟩ = some (.bool k') := (b3.out).cell 0
  have x3_1 : W5.cell? ⟨w.heap.size + 1, 1, none⟩ = some (.slice A' l' c') := (b3.out).cell 1
  have z3_0 : W5.frozen? ⟨w.heap.size + 1, 0, none⟩ = false := (b3.out).frozen 0
  have z3_1 : W5.frozen? ⟨w.heap.size + 1, 1, none⟩ = false := (b3.out).frozen 1
  have x4_0 : W5.cell? ⟨w.heap.size + 1 + 1, 0, none⟩ = some (.bool false) := (b4.out).cell 0
  have x4_1 : W5.cell? ⟨w.heap.size + 1 + 1, 1, none⟩ = some (.slice none 0 0) := (b4.out).cell 1
  have x4_2 : W5.cell? ⟨w.heap.size + 1 + 1, 2, none⟩ = some (.bool false) := (b4.out).cell 2
  have x4_3 : W5.cell? ⟨w.heap.size + 1 + 1, 3, none⟩ = some (.slice none 0 0) := (b4.out).cell 3
  have z4_0 : W5.frozen? ⟨w.heap.size + 1 + 1, 0, none⟩ = false := (b4.out).frozen 0
  have z4_1 : W5.frozen? ⟨w.heap.size + 1 + 1, 1, none⟩ = false := (b4.out).frozen 1
  have z4_2 : W5.frozen? ⟨w.heap.size + 1 + 1, 2, none⟩ = false := (b4.out).frozen 2
  have z4_3 : W5.frozen? ⟨w.heap.size + 1 + 1, 3, none⟩ = false := (b4.out).frozen 3
  have szb : w.heap.size ≤ W5.heap.size := HB6.out.size
  have s2 : w.heap.size < W5.heap.size := (b2.out).lt
  have s3 : w.heap.size + 1 < W5.heap.size := (b3.out).lt
  have s4 : w.heap.size + 1 + 1 < W5.heap.size := (b4.out).lt
  go_upto_region 4 with (fail)
  refine AS.region_facts (rnewFL p q n) (JRes2 w W5 33 33 w.heap.size (w.heap.size + 1) [(35, w.heap.size + 1 + 1, [.bool false, .slice none 0 0, .bool false, .slice none 0 0])]) [[], [14], [], [16], [15], [17]] [4, 5] [[], [15], [15, 17]] [0, 2, 0, 2, 2, 2] [] (fun u => by simp only [rnewFL, AS.temps, List.map_cons, List.map_nil, fillL, List.setIfInBounds_toArray, List.set_cons_zero, List.set_cons_succ]; rfl) (by kernel_rfl) (by kernel_rfl) (JRes2.st w W5 33 33 w.heap.size (w.heap.size + 1) [(35, w.heap.size + 1 + 1, [.bool false, .slice none 0 0, .bool false, .slice none 0 0])]) (below_drew (Below.refl _ _)) ?_ ?_
  · refine AS.StepsOk.cons rfl rfl rfl ?_ ?_
    · intro k_ u w_ hk hJ hF K hK
      clear hF
      obtain rfl : k_ = 0 := Nat.le_zero.1 hk
      have hJ0 : Below W5.heap.size W5 w_ := hJ
      have y0 : w_.cell? ⟨w.heap.size, 0, none⟩ = some (.bool k) := ((b2.out).up hJ0).cell 0
      have y1 : w_.cell? ⟨w.heap.size, 1, none⟩ = some (.slice A l c) := ((b2.out).up hJ0).cell 1
      go_simp
      exact hK.out _ _ (Below.refl _ _) ((H1.out).kept (Keep.ofBelow hJ0)) trivial
    refine AS.StepsOk.cons rfl rfl rfl ?_ ?_
    · intro k_ u w_ hk hJ hF K hK
      have h14 : PRef (p) n (u 14) w_ := AS.facts_get hF 14 (by simp)
      clear hF
      go_simp
      refine (rneg_fact h14 (by omega)).mono ?_
      rintro e w' ⟨v, rfl, hv, hb⟩
      exact hK.out _ _ hb (hv) trivial
    refine AS.StepsOk.cons rfl rfl rfl ?_ ?_
    · intro k_ u w_ hk hJ hF K hK
      clear hF
      obtain rfl : k_ = 0 := Nat.le_zero.1 hk
      have hJ0 : Below W5.heap.size W5 w_ := hJ
      have y0 : w_.cell? ⟨w.heap.size + 1, 0, none⟩ = some (.bool k') := ((b3.out).up hJ0).cell 0
      have y1 : w_.cell? ⟨w.heap.size + 1, 1, none⟩ = some (.slice A' l' c') := ((b3.out).up hJ0).cell 1
      go_simp
      exact hK.out _ _ (Below.refl _ _) ((H2.out).kept (Keep.ofBelow hJ0)) trivial
    refine AS.StepsOk.cons rfl rfl rfl ?_ ?_
    · intro k_ u w_ hk hJ hF K hK
      have h16 : PRef (q) n (u 16) w_ := AS.facts_get hF 16 (by simp)
      clear hF
      go_simp
      refine (rneg_fact h16 (by omega)).mono ?_
      rintro e w' ⟨v, rfl, hv, hb⟩
      exact hK.out _ _ hb (hv) trivial
    refine AS.StepsOk.store rfl rfl ?_ ?_
    · intro u w_ hJ hAp hF K hK
      have h15 : PRef (-(p)) n (u 15) w_ := AS.facts_get hF 15 (by simp)
      clear hF
      obtain ⟨k1, A1, l1, c1, e_⟩ := h15.open
      have hJ0 : Below W5.heap.size W5 w_ := hJ
      have bx := (b2.out).up hJ0
      have hbel := below_then HB6.out hJ0 HB6.out.size
      have bx2 := (b3.out).up hJ0
      have ob4 := (b4.out).up hJ0
      have y0 := bx.cell 0
      have z0 := bx.frozen 0
      have y1 := bx.cell 1
      have z1 := bx.frozen 1
      simp only [List.getElem?_cons_zero, List.getElem?_cons_succ] at y0 y1
      have hob2 : ∀ b_ ∈ ([(35, w.heap.size + 1 + 1, [.bool false, .slice none 0 0, .bool false, .slice none 0 0])] : List (TypeId × Nat × List Value)), Bx b_.1 ((w_.setCell ⟨w.heap.size, 0, none⟩ (.bool k1)).setCell ⟨w.heap.size, 1, none⟩ (.slice A1 l1 c1)) b_.2.1 b_.2.2 := by
        intro b_ hb_
        simp only [List.mem_cons, List.not_mem_nil, or_false] at hb_
        rcases hb_ with rfl
        · exact (Bx.far (g' := w.heap.size) (Bx.far (g' := w.heap.size) ob4 (show w.heap.size ≠ w.heap.size + 1 + 1 by omega) 0 (.bool k1)) (show w.heap.size ≠ w.heap.size + 1 + 1 by omega) 1 (.slice A1 l1 c1))
      simp only [e_] at hK ⊢
      go_simp
      exact hK.out undef _ ⟨⟨(Below.setCell (p := ⟨w.heap.size, 1, none⟩) (Below.setCell (p := ⟨w.heap.size, 0, none⟩) hbel (by first | omega | (simp; done) | (simp; omega)) (.bool k1)) (by first | omega | (simp; done) | (simp; omega)) (.slice A1 l1 c1)), (by simp only [setCell_size]; first | exact hsz | exact Nat.le_trans HB6.out.size hJ0.size)⟩, hob2, ⟨[.bool k1, .slice A1 l1 c1], by simp [e_], (Bx.set (Bx.set bx 0 (Leaf.bool k1)) 1 (Leaf.slice A1 l1 c1))⟩, _, _, (Bx.far (g' := w.heap.size) (Bx.far (g' := w.heap.size) bx2 (by omega) 0 (.bool k1)) (by omega) 1 (.slice A1 l1 c1))⟩ (Keep.set (Keep.set (Keep.refl w_) bx 0 (Leaf.bool k1)) (Bx.set bx 0 (Leaf.bool k1)) 1 (Leaf.slice A1 l1 c1))
    refine AS.StepsOk.store rfl rfl ?_ ?_
    · intro u w_ hJ hAp hF K hK
      have h17 : PRef (-(q)) n (u 17) w_ := AS.facts_get hF 17 (by simp)
      clear hF
      obtain ⟨k1, A1, l1, c1, e_⟩ := h17.open
      obtain ⟨⟨hbel, hsz⟩, hob, ⟨vs, hvs, bx1⟩, x_, y_, bx⟩ := hJ
      have ob4 := hob (35, w.heap.size + 1 + 1, [.bool false, .slice none 0 0, .bool false, .slice none 0 0]) (by simp)
      clear hob
      have y0 := bx.cell 0
      have z0 := bx.frozen 0
      have y1 := bx.cell 1
      have z1 := bx.frozen 1
      simp only [List.getElem?_cons_zero, List.getElem?_cons_succ] at y0 y1
      have hob2 : ∀ b_ ∈ ([(35, w.heap.size + 1 + 1, [.bool false, .slice none 0 0, .bool false, .slice none 0 0])] : List (TypeId × Nat × List Value)), Bx b_.1 ((w_.setCell ⟨w.heap.size + 1, 0, none⟩ (.bool k1)).setCell ⟨w.heap.size + 1, 1, none⟩ (.slice A1 l1 c1)) b_.2.1 b_.2.2 := by
        intro b_ hb_
        simp only [List.mem_cons, List.not_mem_nil, or_false] at hb_
        rcases hb_ with rfl
        · exact (Bx.far (g' := w.heap.size + 1) (Bx.far (g' := w.heap.size + 1) ob4 (show w.heap.size + 1 ≠ w.heap.size + 1 + 1 by omega) 0 (.bool k1)) (show w.heap.size + 1 ≠ w.heap.size + 1 + 1 by omega) 1 (.slice A1 l1 c1))
      simp only [e_] at hK ⊢
      go_simp
      exact hK.out undef _ ⟨⟨(Below.setCell (p := ⟨w.heap.size + 1, 1, none⟩) (Below.setCell (p := ⟨w.heap.size + 1, 0, none⟩) hbel (by first | omega | (simp; done) | (simp; omega)) (.bool k1)) (by first | omega | (simp; done) | (simp; omega)) (.slice A1 l1 c1)), (by simp only [setCell_size]; first | exact hsz | exact Nat.le_trans HB6.out.size hJ0.size)⟩, hob2, vs, [.bool k1, .slice A1 l1 c1], by simp [e_, List.cons.inj hvs], (Bx.far (g' := w.heap.size + 1) (Bx.far (g' := w.heap.size + 1) bx1 (by omega) 0 (.bool k1)) (by omega) 1 (.slice A1 l1 c1)), (Bx.set (Bx.set bx 0 (Leaf.bool k1)) 1 (Leaf.slice A1 l1 c1))⟩ (Keep.set (Keep.set (Keep.refl w_) bx 0 (Leaf.bool k1)) (Bx.set bx 0 (Leaf.bool k1)) 1 (Leaf.slice A1 l1 c1))
    exact AS.StepsOk.nil
  · intro u W7 hJ9 hF
    have h15 : PRef (-(p)) n (u 15) W7 := AS.facts_get hF 15 (by simp [rnewFL, AS.temps])
    have h17 : PRef (-(q)) n (u 17) W7 := AS.facts_get hF 17 (by simp [rnewFL, AS.temps])
    clear hF
    obtain ⟨⟨hbel, hsz⟩, hob, vs, vs2, hvs, hbx, hbx2⟩ := hJ9
    obtain ⟨k3, A3, l3, c3, ea⟩ := h15.open
    obtain ⟨k4, A4, l4, c4, eb⟩ := h17.open
    rw [ea] at h15
    rw [eb] at h17
    obtain rfl : vs = [.bool k3, .slice A3 l3 c3] := by
      have e1 := (List.cons.inj hvs).1
      rw [show u 15 = _ from ea] at e1
      have e2 := congrArg Array.toList (Value.agg.inj e1)
      simpa using e2.symm
    obtain rfl : vs2 = [.bool k4, .slice A4 l4 c4] := by
      have e1 := (List.cons.inj (List.cons.inj hvs).2).1
      rw [show u 17 = _ from eb] at e1
      have e2 := congrArg Array.toList (Value.agg.inj e1)
      simpa using e2.symm
    have hbx4 := hob (35, w.heap.size + 1 + 1, [.bool false, .slice none 0 0, .bool false, .slice none 0 0]) (by simp)
    clear hob hvs ea eb
    clear b2 b3 b4 HB6
    clear x2_0 x2_1 z2_0 z2_1 x3_0 x3_1 z3_0 z3_1 x4_0 x4_1 x4_2 x4_3 z4_0 z4_1 z4_2 z4_3 szb s2 s3 s4
    clear H1 H2
    have b2 := Lib.hid hbx
    have b3 := Lib.hid hbx2
    have b4 : Hid (Bx 35 W7 (w.heap.size + 1 + 1) [.bool false, .slice none 0 0, .bool false, .slice none 0 0]) := hbx4
    have HB := Lib.hid hbel
    have H1 := Lib.hid h15
    have H2 := Lib.hid h17
    clear hbx hbx2 hbx4 hbel h15 h17
    have x2_0 : W7.cell? ⟨w.heap.size, 0, none⟩ = some (.bool k3) := (b2.out).cell 0
    have x2_1 : W7.cell? ⟨w.heap.size, 1, none⟩ = some (.slice A3 l3 c3) := (b2.out).cell 1
    have z2_0 : W7.frozen? ⟨w.heap.size, 0, none⟩ = false := (b2.out).frozen 0
    have z2_1 : W7.frozen? ⟨w.heap.size, 1, none⟩ = false := (b2.out).frozen 1
    have x3_0 : W7.cell? ⟨w.heap.size + 1, 0, none⟩ = some (.bool k4) := (b3.out).cell 0
    have x3_1 : W7.cell? ⟨w.heap.size + 1, 1, none⟩ = some (.slice A4 l4 c4) := (b3.out).cell 1
    have z3_0 : W7.frozen? ⟨w.heap.size + 1, 0, none⟩ = false := (b3.out).frozen 0
    have z3_1 : W7.frozen? ⟨w.heap.size + 1, 1, none⟩ = false := (b3.out).frozen 1
    have x4_0 : W7.cell? ⟨w.heap.size + 1 + 1, 0, none⟩ = some (.bool false) := (b4.out).cell 0
    have x4_1 : W7.cell? ⟨w.heap.size + 1 + 1, 1, none⟩ = some (.slice none 0 0) := (b4.out).cell 1
    have x4_2 : W7.cell? ⟨w.heap.size + 1 + 1, 2, none⟩ = some (.bool false) := (b4.out).cell 2
    have x4_3 : W7.cell? ⟨w.heap.size + 1 + 1, 3, none⟩ = some (.slice none 0 0) := (b4.out).cell 3
    have z4_0 : W7.frozen? ⟨w.heap.size + 1 + 1, 0, none⟩ = false := (b4.out).frozen 0
    have z4_1 : W7.frozen? ⟨w.heap.size + 1 + 1, 1, none⟩ = false := (b4.out).frozen 1
    have z4_2 : W7.frozen? ⟨w.heap.size + 1 + 1, 2, none⟩ = false := (b4.out).frozen 2
    have z4_3 : W7.frozen? ⟨w.heap.size + 1 + 1, 3, none⟩ = false := (b4.out).frozen 3
    have szb : w.heap.size ≤ W7.heap.size := HB.out.size
    have s2 : w.heap.size < W7.heap.size := (b2.out).lt
    have s3 : w.heap.size + 1 < W7.heap.size := (b3.out).lt
    have s4 : w.heap.size + 1 + 1 < W7.heap.size := (b4.out).lt
    go_wp2_with fail
    refine (rgcd_fact H1.out H2.out (by omega) (by omega)).mono ?_
    rintro e W8 ⟨v1, rfl, hv1, hb⟩
    have nb := Lib.hid ((b2.out).up hb)
    clear b2
    have b2 := nb
    clear nb
    have nb := Lib.hid ((b3.out).up hb)
    clear b3
    have b3 := nb
    clear nb
    have nb := Lib.hid ((b4.out).up hb)
    clear b4
    have b4 := nb
    clear nb
    have f_ := Lib.hid (H1.out.kept (Keep.ofBelow hb))
    clear H1
    have H1 := f_
    clear f_
    have f_ := Lib.hid (H2.out.kept (Keep.ofBelow hb))
    clear H2
    have H2 := f_
    clear f_
    have nbel := below_then HB.out hb HB.out.size
    have HB9 := Lib.hid nbel
    clear nbel
    clear HB
    clear hb
    clear x2_0 x2_1 z2_0 z2_1 x3_0 x3_1 z3_0 z3_1 x4_0 x4_1 x4_2 x4_3 z4_0 z4_1 z4_2 z4_3 szb s2 s3 s4
    have x2_0 : W8.cell? ⟨w.heap.size, 0, none⟩ = some (.bool k3) := (b2.out).cell 0
    have x2_1 : W8.cell? ⟨w.heap.size, 1, none⟩ = some (.slice A3 l3 c3) := (b2.out).cell 1
    have z2_0 : W8.frozen? ⟨w.heap.size, 0, none⟩ = false := (b2.out).frozen 0
    have z2_1 : W8.frozen? ⟨w.heap.size, 1, none⟩ = false := (b2.out).frozen 1
    have x3_0 : W8.cell? ⟨w.heap.size + 1, 0, none⟩ = some (.bool k4) := (b3.out).cell 0
    have x3_1 : W8.cell? ⟨w.heap.size + 1, 1, none⟩ = some (.slice A4 l4 c4) := (b3.out).cell 1
    have z3_0 : W8.frozen? ⟨w.heap.size + 1, 0, none⟩ = false := (b3.out).frozen 0
    have z3_1 : W8.frozen? ⟨w.heap.size + 1, 1, none⟩ = false := (b3.out).frozen 1
    have x4_0 : W8.cell? ⟨w.heap.size + 1 + 1, 0, none⟩ = some (.bool false) := (b4.out).cell 0
    have x4_1 : W8.cell? ⟨w.heap.size + 1 + 1, 1, none⟩ = some (.slice none 0 0) := (b4.out).cell 1
    have x4_2 : W8.cell? ⟨w.heap.size + 1 + 1, 2, none⟩ = some (.bool false) := (b4.out).cell 2
    have x4_3 : W8.cell? ⟨w.heap.size + 1 + 1, 3, none⟩ = some (.slice none 0 0) := (b4.out).cell 3
    have z4_0 : W8.frozen? ⟨w.heap.size + 1 + 1, 0, none⟩ = false := (b4.out).frozen 0
    have z4_1 : W8.frozen? ⟨w.heap.size + 1 + 1, 1, none⟩ = false := (b4.out).frozen 1
    have z4_2 : W8.frozen? ⟨w.heap.size + 1 + 1, 2, none⟩ = false := (b4.out).frozen 2
    have z4_3 : W8.frozen? ⟨w.heap.size + 1 + 1, 3, none⟩ = false := (b4.out).frozen 3
    have szb : w.heap.size ≤ W8.heap.size := HB9.out.size
    have s2 : w.heap.size < W8.heap.size := (b2.out).lt
    have s3 : w.heap.size + 1 < W8.heap.size := (b3.out).lt
    have s4 : w.heap.size + 1 + 1 < W8.heap.size := (b4.out).lt
    obtain ⟨k5, A5, l5, c5, rfl⟩ := hv1.open
    have HG := Lib.hid hv1
    clear hv1
    go_upto_region 6 with (fail)
    have q10 : w.heap.size < W8.heap.size := (b2.out).lt
    have q11 : w.heap.size + 1 < W8.heap.size := (b3.out).lt
    have q12 : w.heap.size + 1 + 1 < W8.heap.size := (b4.out).lt
    change Code.wp Tryd.prog _ _ _ (W8.alloc (.cells #[.bool k5, .slice A5 l5 c5] 33))
    have nb2 : Bx 33 (W8.alloc (.cells #[.bool k5, .slice A5 l5 c5] 33)) w.heap.size [.bool k3, .slice A3 l3 c3] := (Bx.alloc b2.out (.cells #[.bool k5, .slice A5 l5 c5] 33))
    have nb3 : Bx 33 (W8.alloc (.cells #[.bool k5, .slice A5 l5 c5] 33)) (w.heap.size + 1) [.bool k4, .slice A4 l4 c4] := (Bx.alloc b3.out (.cells #[.bool k5, .slice A5 l5 c5] 33))
    have nb4 : Bx 35 (W8.alloc (.cells #[.bool k5, .slice A5 l5 c5] 33)) (w.heap.size + 1 + 1) [.bool false, .slice none 0 0, .bool false, .slice none 0 0] := (Bx.alloc b4.out (.cells #[.bool k5, .slice A5 l5 c5] 33))
    have nb6 := (Bx.new 33 W8 [.bool k5, .slice A5 l5 c5] (leaf2 (Leaf.bool k5) (Leaf.slice A5 l5 c5)))
    have nkeep := (Keep.alloc (Keep.refl W8) (.cells #[.bool k5, .slice A5 l5 c5] 33))
    have nbel : Below w.heap.size w (W8.alloc (.cells #[.bool k5, .slice A5 l5 c5] 33)) := (Below.alloc HB9.out (by first | omega | (simp; done) | (simp; omega) | (simp [World.setCell]; done) | (simp [World.setCell]; omega)) (.cells #[.bool k5, .slice A5 l5 c5] 33))
    generalize W8.alloc (.cells #[.bool k5, .slice A5 l5 c5] 33) = W13 at *
    clear x2_0 x2_1 z2_0 z2_1 x3_0 x3_1 z3_0 z3_1 x4_0 x4_1 x4_2 x4_3 z4_0 z4_1 z4_2 z4_3 szb s2 s3 s4
    clear b2 b3 b4
    have b2 := Lib.hid nb2
    have b3 := Lib.hid nb3
    have b4 := Lib.hid nb4
    have b6 := Lib.hid nb6
    clear nb2 nb3 nb4 nb6
    have f_ := Lib.hid (H1.out.kept nkeep)
    clear H1
    have H1 := f_
    clear f_
    have f_ := Lib.hid (H2.out.kept nkeep)
    clear H2
    have H2 := f_
    clear f_
    have f_ := Lib.hid (HG.out.kept nkeep)
    clear HG
    have HG := f_
    clear f_
    clear nkeep
    have HB14 := Lib.hid nbel
    clear nbel
    clear HB9
    have x2_0 : W13.cell? ⟨w.heap.size, 0, none⟩ = some (.bool k3) := (b2.out).cell 0
    have x2_1 : W13.cell? ⟨w.heap.size, 1, none⟩ = some (.slice A3 l3 c3) := (b2.out).cell 1
    have z2_0 : W13.frozen? ⟨w.heap.size, 0, none⟩ = false := (b2.out).frozen 0
    have z2_1 : W13.frozen? ⟨w.heap.size, 1, none⟩ = false := (b2.out).frozen 1
    have x3_0 : W13.cell? ⟨w.heap.size + 1, 0, none⟩ = some (.bool k4) := (b3.out).cell 0
    have x3_1 : W13.cell? ⟨w.heap.size + 1, 1, none⟩ = some (.slice A4 l4 c4) := (b3.out).cell 1
    have z3_0 : W13.frozen? ⟨w.heap.size + 1, 0, none⟩ = false := (b3.out).frozen 0
    have z3_1 : W13.frozen? ⟨w.heap.size + 1, 1, none⟩ = false := (b3.out).frozen 1
    have x4_0 : W13.cell? ⟨w.heap.size + 1 + 1, 0, none⟩ = some (.bool false) := (b4.out).cell 0
    have x4_1 : W13.cell? ⟨w.heap.size + 1 + 1, 1, none⟩ = some (.slice none 0 0) := (b4.out).cell 1
    have x4_2 : W13.cell? ⟨w.heap.size + 1 + 1, 2, none⟩ = some (.bool false) := (b4.out).cell 2
    have x4_3 : W13.cell? ⟨w.heap.size + 1 + 1, 3, none⟩ = some (.slice none 0 0) := (b4.out).cell 3
    have z4_0 : W13.frozen? ⟨w.heap.size + 1 + 1, 0, none⟩ = false := (b4.out).frozen 0
    have z4_1 : W13.frozen? ⟨w.heap.size + 1 + 1, 1, none⟩ = false := (b4.out).frozen 1
    have z4_2 : W13.frozen? ⟨w.heap.size + 1 + 1, 2, none⟩ = false := (b4.out).frozen 2
    have z4_3 : W13.frozen? ⟨w.heap.size + 1 + 1, 3, none⟩ = false := (b4.out).frozen 3
    have x6_0 : W13.cell? ⟨W8.heap.size, 0, none⟩ = some (.bool k5) := (b6.out).cell 0
    have x6_1 : W13.cell? ⟨W8.heap.size, 1, none⟩ = some (.slice A5 l5 c5) := (b6.out).cell 1
    have szb : w.heap.size ≤ W13.heap.size := HB14.out.size
    have s2 : w.heap.size < W13.heap.size := (b2.out).lt
    have s3 : w.heap.size + 1 < W13.heap.size := (b3.out).lt
    have s4 : w.heap.size + 1 + 1 < W13.heap.size := (b4.out).lt
    have s6 : W8.heap.size < W13.heap.size := (b6.out).lt
    go_wp2_with fail
    refine (rquo_fact H1.out HG.out (by omega) (by omega) hne).mono ?_
    rintro e W15 ⟨k6, A6, l6, c6, k7, A7, l7, c7, rfl, hv3, hb⟩
    have nb := Lib.hid ((b2.out).up hb)
    clear b2
    have b2 := nb
    clear nb
    have nb := Lib.hid ((b3.out).up hb)
    clear b3
    have b3 := nb
    clear nb
    have nb := Lib.hid ((b4.out).up hb)
    clear b4
    have b4 := nb
    clear nb
    have nb := Lib.hid ((b6.out).up hb)
    clear b6
    have b6 := nb
    clear nb
    have f_ := Lib.hid (H1.out.kept (Keep.ofBelow hb))
    clear H1
    have H1 := f_
    clear f_
    have f_ := Lib.hid (H2.out.kept (Keep.ofBelow hb))
    clear H2
    have H2 := f_
    clear f_
    have f_ := Lib.hid (HG.out.kept (Keep.ofBelow hb))
    clear HG
    have HG := f_
    clear f_
    have nbel := below_then HB14.out hb HB14.out.size
    have HB16 := Lib.hid nbel
    clear nbel
    clear HB14
    clear hb
    clear x2_0 x2_1 z2_0 z2_1 x3_0 x3_1 z3_0 z3_1 x4_0 x4_1 x4_2 x4_3 z4_0 z4_1 z4_2 z4_3 x6_0 x6_1 szb s2 s3 s4 s6
    have x2_0 : W15.cell? ⟨w.heap.size, 0, none⟩ = some (.bool k3) := (b2.out).cell 0
    have x2_1 : W15.cell? ⟨w.heap.size, 1, none⟩ = some (.slice A3 l3 c3) := (b2.out).cell 1
    have z2_0 : W15.frozen? ⟨w.heap.size, 0, none⟩ = false := (b2.out).frozen 0
    have z2_1 : W15.frozen? ⟨w.heap.size, 1, none⟩ = false := (b2.out).frozen 1
    have x3_0 : W15.cell? ⟨w.heap.size + 1, 0, none⟩ = some (.bool k4) := (b3.out).cell 0
    have x3_1 : W15.cell? ⟨w.heap.size + 1, 1, none⟩ = some (.slice A4 l4 c4) := (b3.out).cell 1
    have z3_0 : W15.frozen? ⟨w.heap.size + 1, 0, none⟩ = false := (b3.out).frozen 0
    have z3_1 : W15.frozen? ⟨w.heap.size + 1, 1, none⟩ = false := (b3.out).frozen 1
    have x4_0 : W15.cell? ⟨w.heap.size + 1 + 1, 0, none⟩ = some (.bool false) := (b4.out).cell 0
    have x4_1 : W15.cell? ⟨w.heap.size + 1 + 1, 1, none⟩ = some (.slice none 0 0) := (b4.out).cell 1
    have x4_2 : W15.cell? ⟨w.heap.size + 1 + 1, 2, none⟩ = some (.bool false) := (b4.out).cell 2
    have x4_3 : W15.cell? ⟨w.heap.size + 1 + 1, 3, none⟩ = some (.slice none 0 0) := (b4.out).cell 3
    have z4_0 : W15.frozen? ⟨w.heap.size + 1 + 1, 0, none⟩ = false := (b4.out).frozen 0
    have z4_1 : W15.frozen? ⟨w.heap.size + 1 + 1, 1, none⟩ = false := (b4.out).frozen 1
    have z4_2 : W15.frozen? ⟨w.heap.size + 1 + 1, 2, none⟩ = false := (b4.out).frozen 2
    have z4_3 : W15.frozen? ⟨w.heap.size + 1 + 1, 3, none⟩ = false := (b4.out).frozen 3
    have x6_0 : W15.cell? ⟨W8.heap.size, 0, none⟩ = some (.bool k5) := (b6.out).cell 0
    have x6_1 : W15.cell? ⟨W8.heap.size, 1, none⟩ = some (.slice A5 l5 c5) := (b6.out).cell 1
    have szb : w.heap.size ≤ W15.heap.size := HB16.out.size
    have s2 : w.heap.size < W15.heap.size := (b2.out).lt
    have s3 : w.heap.size + 1 < W15.heap.size := (b3.out).lt
    have s4 : w.heap.size + 1 + 1 < W15.heap.size := (b4.out).lt
    have s6 : W8.heap.size < W15.heap.size := (b6.out).lt
    have HN := Lib.hid hv3
    clear hv3
    go_upto_region 7 with (fail)
    change Code.wp Tryd.prog _ _ _ ((W15.setCell ⟨w.heap.size, 0, none⟩ (.bool k6)).setCell ⟨w.heap.size, 1, none⟩ (.slice A6 l6 c6))
    have nb2 : Bx 33 ((W15.setCell ⟨w.heap.size, 0, none⟩ (.bool k6)).setCell ⟨w.heap.size, 1, none⟩ (.slice A6 l6 c6)) w.heap.size [.bool k6, .slice A6 l6 c6] := (Bx.set (Bx.set b2.out 0 (Leaf.bool k6)) 1 (Leaf.slice A6 l6 c6))
    have nb3 : Bx 33 ((W15.setCell ⟨w.heap.size, 0, none⟩ (.bool k6)).setCell ⟨w.heap.size, 1, none⟩ (.slice A6 l6 c6)) (w.heap.size + 1) [.bool k4, .slice A4 l4 c4] := (Bx.far (g' := w.heap.size) (Bx.far (g' := w.heap.size) b3.out (by omega) 0 (.bool k6)) (by omega) 1 (.slice A6 l6 c6))
    have nb4 : Bx 35 ((W15.setCell ⟨w.heap.size, 0, none⟩ (.bool k6)).setCell ⟨w.heap.size, 1, none⟩ (.slice A6 l6 c6)) (w.heap.size + 1 + 1) [.bool false, .slice none 0 0, .bool false, .slice none 0 0] := (Bx.far (g' := w.heap.size) (Bx.far (g' := w.heap.size) b4.out (by omega) 0 (.bool k6)) (by omega) 1 (.slice A6 l6 c6))
    have nb6 : Bx 33 ((W15.setCell ⟨w.heap.size, 0, none⟩ (.bool k6)).setCell ⟨w.heap.size, 1, none⟩ (.slice A6 l6 c6)) W8.heap.size [.bool k5, .slice A5 l5 c5] := (Bx.far (g' := w.heap.size) (Bx.far (g' := w.heap.size) b6.out (by omega) 0 (.bool k6)) (by omega) 1 (.slice A6 l6 c6))
    have nkeep := (Keep.set (Keep.set (Keep.refl W15) b2.out 0 (Leaf.bool k6)) (Bx.set b2.out 0 (Leaf.bool k6)) 1 (Leaf.slice A6 l6 c6))
    have nbel : Below w.heap.size w ((W15.setCell ⟨w.heap.size, 0, none⟩ (.bool k6)).setCell ⟨w.heap.size, 1, none⟩ (.slice A6 l6 c6)) := (Below.setCell (p := ⟨w.heap.size, 1, none⟩) (Below.setCell (p := ⟨w.heap.size, 0, none⟩) HB16.out (by first | omega | (simp; done) | (simp; omega)) (.bool k6)) (by first | omega | (simp; done) | (simp; omega)) (.slice A6 l6 c6))
    generalize (W15.setCell ⟨w.heap.size, 0, none⟩ (.bool k6)).setCell ⟨w.heap.size, 1, none⟩ (.slice A6 l6 c6) = W17 at *
    clear x2_0 x2_1 z2_0 z2_1 x3_0 x3_1 z3_0 z3_1 x4_0 x4_1 x4_2 x4_3 z4_0 z4_1 z4_2 z4_3 x6_0 x6_1 szb s2 s3 s4 s6
    clear b2 b3 b4 b6
    have b2 := Lib.hid nb2
    have b3 := Lib.hid nb3
    have b4 := Lib.hid nb4
    have b6 := Lib.hid nb6
    clear nb2 nb3 nb4 nb6
    have f_ := Lib.hid (H1.out.kept nkeep)
    clear H1
    have H1 := f_
    clear f_
    have f_ := Lib.hid (H2.out.kept nkeep)
    clear H2
    have H2 := f_
    clear f_
    have f_ := Lib.hid (HG.out.kept nkeep)
    clear HG
    have HG := f_
    clear f_
    have f_ := Lib.hid (HN.out.kept nkeep)
    clear HN
    have HN := f_
    clear f_
    clear nkeep
    have HB18 := Lib.hid nbel
    clear nbel
    clear HB16
    have x2_0 : W17.cell? ⟨w.heap.size, 0, none⟩ = some (.bool k6) := (b2.out).cell 0
    have x2_1 : W17.cell? ⟨w.heap.size, 1, none⟩ = some (.slice A6 l6 c6) := (b2.out).cell 1
    have z2_0 : W17.frozen? ⟨w.heap.size, 0, none⟩ = false := (b2.out).frozen 0
    have z2_1 : W17.frozen? ⟨w.heap.size, 1, none⟩ = false := (b2.out).frozen 1
    have x3_0 : W17.cell? ⟨w.heap.size + 1, 0, none⟩ = some (.bool k4) := (b3.out).cell 0
    have x3_1 : W17.cell? ⟨w.heap.size + 1, 1, none⟩ = some (.slice A4 l4 c4) := (b3.out).cell 1
    have z3_0 : W17.frozen? ⟨w.heap.size + 1, 0, none⟩ = false := (b3.out).frozen 0
    have z3_1 : W17.frozen? ⟨w.heap.size + 1, 1, none⟩ = false := (b3.out).frozen 1
    have x4_0 : W17.cell? ⟨w.heap.size + 1 + 1, 0, none⟩ = some (.bool false) := (b4.out).cell 0
    have x4_1 : W17.cell? ⟨w.heap.size + 1 + 1, 1, none⟩ = some (.slice none 0 0) := (b4.out).cell 1
    have x4_2 : W17.cell? ⟨w.heap.size + 1 + 1, 2, none⟩ = some (.bool false) := (b4.out).cell 2
    have x4_3 : W17.cell? ⟨w.heap.size + 1 + 1, 3, none⟩ = some (.slice none 0 0) := (b4.out).cell 3
    have z4_0 : W17.frozen? ⟨w.heap.size + 1 + 1, 0, none⟩ = false := (b4.out).frozen 0
    have z4_1 : W17.frozen? ⟨w.heap.size + 1 + 1, 1, none⟩ = false := (b4.out).frozen 1
    have z4_2 : W17.frozen? ⟨w.heap.size + 1 + 1, 2, none⟩ = false := (b4.out).frozen 2
    have z4_3 : W17.frozen? ⟨w.heap.size + 1 + 1, 3, none⟩ = false := (b4.out).frozen 3
    have x6_0 : W17.cell? ⟨W8.heap.size, 0, none⟩ = some (.bool k5) := (b6.out).cell 0
    have x6_1 : W17.cell? ⟨W8.heap.size, 1, none⟩ = some (.slice A5 l5 c5) := (b6.out).cell 1
    have szb : w.heap.size ≤ W17.heap.size := HB18.out.size
    have s2 : w.heap.size < W17.heap.size := (b2.out).lt
    have s3 : w.heap.size + 1 < W17.heap.size := (b3.out).lt
    have s4 : w.heap.size + 1 + 1 < W17.heap.size := (b4.out).lt
    have s6 : W8.heap.size < W17.heap.size := (b6.out).lt
    go_wp2_with fail
    refine (rquo_fact H2.out HG.out (by omega) (by omega) hne).mono ?_
    rintro e W19 ⟨k8, A8, l8, c8, k9, A9, l9, c9, rfl, hv3, hb⟩
    have nb := Lib.hid ((b2.out).up hb)
    clear b2
    have b2 := nb
    clear nb
    have nb := Lib.hid ((b3.out).up hb)
    clear b3
    have b3 := nb
    clear nb
    have nb := Lib.hid ((b4.out).up hb)
    clear b4
    have b4 := nb
    clear nb
    have nb := Lib.hid ((b6.out).up hb)
    clear b6
    have b6 := nb
    clear nb
    have f_ := Lib.hid (H1.out.kept (Keep.ofBelow hb))
    clear H1
    have H1 := f_
    clear f_
    have f_ := Lib.hid (H2.out.kept (Keep.ofBelow hb))
    clear H2
    have H2 := f_
    clear f_
    have f_ := Lib.hid (HG.out.kept (Keep.ofBelow hb))
    clear HG
    have HG := f_
    clear f_
    have f_ := Lib.hid (HN.out.kept (Keep.ofBelow hb))
    clear HN
    have HN := f_
    clear f_
    have nbel := below_then HB18.out hb HB18.out.size
    have HB20 := Lib.hid nbel
    clear nbel
    clear HB18
    clear hb
    clear x2_0 x2_1 z2_0 z2_1 x3_0 x3_1 z3_0 z3_1 x4_0 x4_1 x4_2 x4_3 z4_0 z4_1 z4_2 z4_3 x6_0 x6_1 szb s2 s3 s4 s6
    have x2_0 : W19.cell? ⟨w.heap.size, 0, none⟩ = some (.bool k6) := (b2.out).cell 0
    have x2_1 : W19.cell? ⟨w.heap.size, 1, none⟩ = some (.slice A6 l6 c6) := (b2.out).cell 1
    have z2_0 : W19.frozen? ⟨w.heap.size, 0, none⟩ = false := (b2.out).frozen 0
    have z2_1 : W19.frozen? ⟨w.heap.size, 1, none⟩ = false := (b2.out).frozen 1
    have x3_0 : W19.cell? ⟨w.heap.size + 1, 0, none⟩ = some (.bool k4) := (b3.out).cell 0
    have x3_1 : W19.cell? ⟨w.heap.size + 1, 1, none⟩ = some (.slice A4 l4 c4) := (b3.out).cell 1
    have z3_0 : W19.frozen? ⟨w.heap.size + 1, 0, none⟩ = false := (b3.out).frozen 0
    have z3_1 : W19.frozen? ⟨w.heap.size + 1, 1, none⟩ = false := (b3.out).frozen 1
    have x4_0 : W19.cell? ⟨w.heap.size + 1 + 1, 0, none⟩ = some (.bool false) := (b4.out).cell 0
    have x4_1 : W19.cell? ⟨w.heap.size + 1 + 1, 1, none⟩ = some (.slice none 0 0) := (b4.out).cell 1
    have x4_2 : W19.cell? ⟨w.heap.size + 1 + 1, 2, none⟩ = some (.bool false) := (b4.out).cell 2
    have x4_3 : W19.cell? ⟨w.heap.size + 1 + 1, 3, none⟩ = some (.slice none 0 0) := (b4.out).cell 3
    have z4_0 : W19.frozen? ⟨w.heap.size + 1 + 1, 0, none⟩ = false := (b4.out).frozen 0
    have z4_1 : W19.frozen? ⟨w.heap.size + 1 + 1, 1, none⟩ = false := (b4.out).frozen 1
    have z4_2 : W19.frozen? ⟨w.heap.size + 1 + 1, 2, none⟩ = false := (b4.out).frozen 2
    have z4_3 : W19.frozen? ⟨w.heap.size + 1 + 1, 3, none⟩ = false := (b4.out).frozen 3
    have x6_0 : W19.cell? ⟨W8.heap.size, 0, none⟩ = some (.bool k5) := (b6.out).cell 0
    have x6_1 : W19.cell? ⟨W8.heap.size, 1, none⟩ = some (.slice A5 l5 c5) := (b6.out).cell 1
    have szb : w.heap.size ≤ W19.heap.size := HB20.out.size
    have s2 : w.heap.size < W19.heap.size := (b2.out).lt
    have s3 : w.heap.size + 1 < W19.heap.size := (b3.out).lt
    have s4 : w.heap.size + 1 + 1 < W19.heap.size := (b4.out).lt
    have s6 : W8.heap.size < W19.heap.size := (b6.out).lt
    have HD := Lib.hid hv3
    clear hv3
    go_upto_region 8 with (fail)
    change Code.wp Tryd.prog _ _ _ ((W19.setCell ⟨w.heap.size + 1, 0, none⟩ (.bool k8)).setCell ⟨w.heap.size + 1, 1, none⟩ (.slice A8 l8 c8))
    have nb2 : Bx 33 ((W19.setCell ⟨w.heap.size + 1, 0, none⟩ (.bool k8)).setCell ⟨w.heap.size + 1, 1, none⟩ (.slice A8 l8 c8)) w.heap.size [.bool k6, .slice A6 l6 c6] := (Bx.far (g' := w.heap.size + 1) (Bx.far (g' := w.heap.size + 1) b2.out (by omega) 0 (.bool k8)) (by omega) 1 (.slice A8 l8 c8))
    have nb3 : Bx 33 ((W19.setCell ⟨w.heap.size + 1, 0, none⟩ (.bool k8)).setCell ⟨w.heap.size + 1, 1, none⟩ (.slice A8 l8 c8)) (w.heap.size + 1) [.bool k8, .slice A8 l8 c8] := (Bx.set (Bx.set b3.out 0 (Leaf.bool k8)) 1 (Leaf.slice A8 l8 c8))
    have nb4 : Bx 35 ((W19.setCell ⟨w.heap.size + 1, 0, none⟩ (.bool k8)).setCell ⟨w.heap.size + 1, 1, none⟩ (.slice A8 l8 c8)) (w.heap.size + 1 + 1) [.bool false, .slice none 0 0, .bool false, .slice none 0 0] := (Bx.far (g' := w.heap.size + 1) (Bx.far (g' := w.heap.size + 1) b4.out (by omega) 0 (.bool k8)) (by omega) 1 (.slice A8 l8 c8))
    have nb6 : Bx 33 ((W19.setCell ⟨w.heap.size + 1, 0, none⟩ (.bool k8)).setCell ⟨w.heap.size + 1, 1, none⟩ (.slice A8 l8 c8)) W8.heap.size [.bool k5, .slice A5 l5 c5] := (Bx.far (g' := w.heap.size + 1) (Bx.far (g' := w.heap.size + 1) b6.out (by omega) 0 (.bool k8)) (by omega) 1 (.slice A8 l8 c8))
    have nkeep := (Keep.set (Keep.set (Keep.refl W19) b3.out 0 (Leaf.bool k8)) (Bx.set b3.out 0 (Leaf.bool k8)) 1 (Leaf.slice A8 l8 c8))
    have nbel : Below w.heap.size w ((W19.setCell ⟨w.heap.size + 1, 0, none⟩ (.bool k8)).setCell ⟨w.heap.size + 1, 1, none⟩ (.slice A8 l8 c8)) := (Below.setCell (p := ⟨w.heap.size + 1, 1, none⟩) (Below.setCell (p := ⟨w.heap.size + 1, 0, none⟩) HB20.out (by first | omega | (simp; done) | (simp; omega)) (.bool k8)) (by first | omega | (simp; done) | (simp; omega)) (.slice A8 l8 c8))
    generalize (W19.setCell ⟨w.heap.size + 1, 0, none⟩ (.bool k8)).setCell ⟨w.heap.size + 1, 1, none⟩ (.slice A8 l8 c8) = W21 at *
    clear x2_0 x2_1 z2_0 z2_1 x3_0 x3_1 z3_0 z3_1 x4_0 x4_1 x4_2 x4_3 z4_0 z4_1 z4_2 z4_3 x6_0 x6_1 szb s2 s3 s4 s6
    clear b2 b3 b4 b6
    have b2 := Lib.hid nb2
    have b3 := Lib.hid nb3
    have b4 := Lib.hid nb4
    have b6 := Lib.hid nb6
    clear nb2 nb3 nb4 nb6
    have f_ := Lib.hid (H1.out.kept nkeep)
    clear H1
    have H1 := f_
    clear f_
    have f_ := Lib.hid (H2.out.kept nkeep)
    clear H2
    have H2 := f_
    clear f_
    have f_ := Lib.hid (HG.out.kept nkeep)
    clear HG
    have HG := f_
    clear f_
    have f_ := Lib.hid (HN.out.kept nkeep)
    clear HN
    have HN := f_
    clear f_
    have f_ := Lib.hid (HD.out.kept nkeep)
    clear HD
    have HD := f_
    clear f_
    clear nkeep
    have HB22 := Lib.hid nbel
    clear nbel
    clear HB20
    have x2_0 : W21.cell? ⟨w.heap.size, 0, none⟩ = some (.bool k6) := (b2.out).cell 0
    have x2_1 : W21.cell? ⟨w.heap.size, 1, none⟩ = some (.slice A6 l6 c6) := (b2.out).cell 1
    have z2_0 : W21.frozen? ⟨w.heap.size, 0, none⟩ = false := (b2.out).frozen 0
    have z2_1 : W21.frozen? ⟨w.heap.size, 1, none⟩ = false := (b2.out).frozen 1
    have x3_0 : W21.cell? ⟨w.heap.size + 1, 0, none⟩ = some (.bool k8) := (b3.out).cell 0
    have x3_1 : W21.cell? ⟨w.heap.size + 1, 1, none⟩ = some (.slice A8 l8 c8) := (b3.out).cell 1
    have z3_0 : W21.frozen? ⟨w.heap.size + 1, 0, none⟩ = false := (b3.out).frozen 0
    have z3_1 : W21.frozen? ⟨w.heap.size + 1, 1, none⟩ = false := (b3.out).frozen 1
    have x4_0 : W21.cell? ⟨w.heap.size + 1 + 1, 0, none⟩ = some (.bool false) := (b4.out).cell 0
    have x4_1 : W21.cell? ⟨w.heap.size + 1 + 1, 1, none⟩ = some (.slice none 0 0) := (b4.out).cell 1
    have x4_2 : W21.cell? ⟨w.heap.size + 1 + 1, 2, none⟩ = some (.bool false) := (b4.out).cell 2
    have x4_3 : W21.cell? ⟨w.heap.size + 1 + 1, 3, none⟩ = some (.slice none 0 0) := (b4.out).cell 3
    have z4_0 : W21.frozen? ⟨w.heap.size + 1 + 1, 0, none⟩ = false := (b4.out).frozen 0
    have z4_1 : W21.frozen? ⟨w.heap.size + 1 + 1, 1, none⟩ = false := (b4.out).frozen 1
    have z4_2 : W21.frozen? ⟨w.heap.size + 1 + 1, 2, none⟩ = false := (b4.out).frozen 2
    have z4_3 : W21.frozen? ⟨w.heap.size + 1 + 1, 3, none⟩ = false := (b4.out).frozen 3
    have x6_0 : W21.cell? ⟨W8.heap.size, 0, none⟩ = some (.bool k5) := (b6.out).cell 0
    have x6_1 : W21.cell? ⟨W8.heap.size, 1, none⟩ = some (.slice A5 l5 c5) := (b6.out).cell 1
    have szb : w.heap.size ≤ W21.heap.size := HB22.out.size
    have s2 : w.heap.size < W21.heap.size := (b2.out).lt
    have s3 : w.heap.size + 1 < W21.heap.size := (b3.out).lt
    have s4 : w.heap.size + 1 + 1 < W21.heap.size := (b4.out).lt
    have s6 : W8.heap.size < W21.heap.size := (b6.out).lt
    go_wp2_with fail
    have hkeep := (Keep.set (Keep.set (Keep.set (Keep.set (Keep.refl W21) b4.out 0 (Leaf.bool k6)) (Bx.set b4.out 0 (Leaf.bool k6)) 1 (Leaf.slice A6 l6 c6)) (Bx.set (Bx.set b4.out 0 (Leaf.bool k6)) 1 (Leaf.slice A6 l6 c6)) 2 (Leaf.bool k8)) (Bx.set (Bx.set (Bx.set b4.out 0 (Leaf.bool k6)) 1 (Leaf.slice A6 l6 c6)) 2 (Leaf.bool k8)) 3 (Leaf.slice A8 l8 c8))
    have hbel := (Below.setCell (p := ⟨w.heap.size + 1 + 1, 3, none⟩) (Below.setCell (p := ⟨w.heap.size + 1 + 1, 2, none⟩) (Below.setCell (p := ⟨w.heap.size + 1 + 1, 1, none⟩) (Below.setCell (p := ⟨w.heap.size + 1 + 1, 0, none⟩) HB22.out (by first | omega | (simp; done) | (simp; omega)) (.bool k6)) (by first | omega | (simp; done) | (simp; omega)) (.slice A6 l6 c6)) (by first | omega | (simp; done) | (simp; omega)) (.bool k8)) (by first | omega | (simp; done) | (simp; omega)) (.slice A8 l8 c8))
    refine bodyPost_ret (v := .tuple #[.agg #[.bool k6, .slice A6 l6 c6, .bool k8, .slice A8 l8 c8], .int .i64 0]) (by simp [results, Tryd.results19, go_sem, x4_0, x4_1, x4_2, x4_3]) rfl ⟨_, rfl, RRat.mk (HN.out.kept hkeep) (HD.out.kept hkeep) (by rw [← red_num hq]; unfold divr; rw [if_pos hlt, Int.gcd_neg, Int.neg_gcd, Int.neg_tdiv, Int.tdiv_neg]) (by rw [← red_den hq]; unfold divr; rw [if_pos hlt, Int.gcd_neg, Int.neg_gcd, Int.neg_tdiv, Int.tdiv_neg]), hbel⟩
set_option maxRecDepth 20000 in
set_option maxHeartbeats 3200000 in
theorem rnew_zero {p : Int} {n m : Nat} {k : Bool} {A : Option Addr} {l c : Nat} {k' : Bool} {A' : Option Addr} {l' c' : Nat} {w : World} (h1 : PRef p n (.agg #[.bool k, .slice A l c]) w) (h2 : PRef 0 m (.agg #[.bool k', .slice A' l' c']) w) :
    Calls Tryd.prog 19 #[.agg #[.bool k, .slice A l c], .agg #[.bool k', .slice A' l' c']] w fun e w' => e = .returned (.tuple #[.agg #[.bool false, .slice none 0 0, .bool false, .slice none 0 0], .int .i64 10]) ∧ Below w.heap.size w w' := by
  have H1 := Lib.hid h1
  have H2 := Lib.hid h2
  clear h1 h2
  go_enter Tryd.func19, Tryd.ntmps19
  go_upto_region 1 with (fail)
  change Code.wp Tryd.prog _ _ _ (((w.alloc (.cells #[.bool k, .slice A l c] 33)).alloc (.cells #[.bool k', .slice A' l' c'] 33)).alloc (.cells #[.bool false, .slice none 0 0, .bool false, .slice none 0 0] 35))
  have nb2 := (Bx.alloc (Bx.alloc (Bx.new 33 w [.bool k, .slice A l c] (leaf2 (Leaf.bool k) (Leaf.slice A l c))) (.cells #[.bool k', .slice A' l' c'] 33)) (.cells #[.bool false, .slice none 0 0, .bool false, .slice none 0 0] 35))
  have nb3 := (Bx.alloc (Bx.new 33 (w.alloc (.cells #[.bool k, .slice A l c] 33)) [.bool k', .slice A' l' c'] (leaf2 (Leaf.bool k') (Leaf.slice A' l' c'))) (.cells #[.bool false, .slice none 0 0, .bool false, .slice none 0 0] 35))
  rw [show (w.alloc (.cells #[.bool k, .slice A l c] 33)).heap.size = w.heap.size + 1 by simp] at nb3
  have nb4 := (Bx.new 35 ((w.alloc (.cells #[.bool k, .slice A l c] 33)).alloc (.cells #[.bool k', .slice A' l' c'] 33)) [.bool false, .slice none 0 0, .bool false, .slice none 0 0] (leaf4 (Leaf.bool false) (Leaf.slice none 0 0) (Leaf.bool false) (Leaf.slice none 0 0)))
  rw [show ((w.alloc (.cells #[.bool k, .slice A l c] 33)).alloc (.cells #[.bool k', .slice A' l' c'] 33)).heap.size = w.heap.size + 1 + 1 by simp] at nb4
  have nkeep := (Keep.alloc (Keep.alloc (Keep.alloc (Keep.refl w) (.cells #[.bool k, .slice A l c] 33)) (.cells #[.bool k', .slice A' l' c'] 33)) (.cells #[.bool false, .slice none 0 0, .bool false, .slice none 0 0] 35))
  have nbel : Below w.heap.size w (((w.alloc (.cells #[.bool k, .slice A l c] 33)).alloc (.cells #[.bool k', .slice A' l' c'] 33)).alloc (.cells #[.bool false, .slice none 0 0, .bool false, .slice none 0 0] 35)) := (Below.alloc (Below.alloc (Below.alloc (Below.refl w.heap.size w) (by first | omega | (simp; done) | (simp; omega) | (simp [World.setCell]; done) | (simp [World.setCell]; omega)) (.cells #[.bool k, .slice A l c] 33)) (by first | omega | (simp; done) | (simp; omega) | (simp [World.setCell]; done) | (simp [World.setCell]; omega)) (.cells #[.bool k', .slice A' l' c'] 33)) (by first | omega | (simp; done) | (simp; omega) | (simp [World.setCell]; done) | (simp [World.setCell]; omega)) (.cells #[.bool false, .slice none 0 0, .bool false, .slice none 0 0] 35))
  generalize ((w.alloc (.cells #[.bool k, .slice A l c] 33)).alloc (.cells #[.bool k', .slice A' l' c'] 33)).alloc (.cells #[.bool false, .slice none 0 0, .bool false, .slice none 0 0] 35) = W1 at *
  have b2 := Lib.hid nb2
  have b3 := Lib.hid nb3
  have b4 := Lib.hid nb4
  clear nb2 nb3 nb4
  have f_ := Lib.hid (H1.out.kept nkeep)
  clear H1
  have H1 := f_
  clear f_
  have f_ := Lib.hid (H2.out.kept nkeep)
  clear H2
  have H2 := f_
  clear f_
  clear nkeep
  have HB2 := Lib.hid nbel
  clear nbel
  have x2_0 : W1.cell? ⟨w.heap.size, 0, none⟩ = some (.bool k) := (b2.out).cell 0
  have x2_1 : W1.cell? ⟨w.heap.size, 1, none⟩ = some (.slice A l c) := (b2.out).cell 1
  have x3_0 : W1.cell? ⟨w.heap.size + 1, 0, none⟩ = some (.bool k') := (b3.out).cell 0
  have x3_1 : W1.cell? ⟨w.heap.size + 1, 1, none⟩ = some (.slice A' l' c') := (b3.out).cell 1
  have x4_0 : W1.cell? ⟨w.heap.size + 1 + 1, 0, none⟩ = some (.bool false) := (b4.out).cell 0
  have x4_1 : W1.cell? ⟨w.heap.size + 1 + 1, 1, none⟩ = some (.slice none 0 0) := (b4.out).cell 1
  have x4_2 : W1.cell? ⟨w.heap.size + 1 + 1, 2, none⟩ = some (.bool false) := (b4.out).cell 2
  have x4_3 : W1.cell? ⟨w.heap.size + 1 + 1, 3, none⟩ = some (.slice none 0 0) := (b4.out).cell 3
  have szb : w.heap.size ≤ W1.heap.size := HB2.out.size
  have s2 : w.heap.size < W1.heap.size := (b2.out).lt
  have s3 : w.heap.size + 1 < W1.heap.size := (b3.out).lt
  have s4 : w.heap.size + 1 + 1 < W1.heap.size := (b4.out).lt
  clear x2_0 x2_1 x3_0 x3_1 x4_0 x4_1 x4_2 x4_3 szb s2 s3 s4
  have x2_0 : W1.cell? ⟨w.heap.size, 0, none⟩ = some (.bool k) := (b2.out).cell 0
  have x2_1 : W1.cell? ⟨w.heap.size, 1, none⟩ = some (.slice A l c) := (b2.out).cell 1
  have z2_0 : W1.frozen? ⟨w.heap.size, 0, none⟩ = false := (b2.out).frozen 0
  have z2_1 : W1.frozen? ⟨w.heap.size, 1, none⟩ = false := (b2.out).frozen 1
  have x3_0 : W1.cell? ⟨w.heap.size + 1, 0, none⟩ = some (.bool k') := (b3.out).cell 0
  have x3_1 : W1.cell? ⟨w.heap.size + 1, 1, none⟩ = some (.slice A' l' c') := (b3.out).cell 1
  have z3_0 : W1.frozen? ⟨w.heap.size + 1, 0, none⟩ = false := (b3.out).frozen 0
  have z3_1 : W1.frozen? ⟨w.heap.size + 1, 1, none⟩ = false := (b3.out).frozen 1
  have x4_0 : W1.cell? ⟨w.heap.size + 1 + 1, 0, none⟩ = some (.bool false) := (b4.out).cell 0
  have x4_1 : W1.cell? ⟨w.heap.size + 1 + 1, 1, none⟩ = some (.slice none 0 0) := (b4.out).cell 1
  have x4_2 : W1.cell? ⟨w.heap.size + 1 + 1, 2, none⟩ = some (.bool false) := (b4.out).cell 2
  have x4_3 : W1.cell? ⟨w.heap.size + 1 + 1, 3, none⟩ = some (.slice none 0 0) := (b4.out).cell 3
  have z4_0 : W1.frozen? ⟨w.heap.size + 1 + 1, 0, none⟩ = false := (b4.out).frozen 0
  have z4_1 : W1.frozen? ⟨w.heap.size + 1 + 1, 1, none⟩ = false := (b4.out).frozen 1
  have z4_2 : W1.frozen? ⟨w.heap.size + 1 + 1, 2, none⟩ = false := (b4.out).frozen 2
  have z4_3 : W1.frozen? ⟨w.heap.size + 1 + 1, 3, none⟩ = false := (b4.out).frozen 3
  have szb : w.heap.size ≤ W1.heap.size := HB2.out.size
  have s2 : w.heap.size < W1.heap.size := (b2.out).lt
  have s3 : w.heap.size + 1 < W1.heap.size := (b3.out).lt
  have s4 : w.heap.size + 1 + 1 < W1.heap.size := (b4.out).lt
  go_wp2_with fail
  refine (rsign_is H2.out (c := 0) (by decide)).mono ?_
  rintro e W3 ⟨rfl, hb⟩
  have nb := Lib.hid ((b2.out).up hb)
  clear b2
  have b2 := nb
  clear nb
  have nb := Lib.hid ((b3.out).up hb)
  clear b3
  have b3 := nb
  clear nb
  have nb := Lib.hid ((b4.out).up hb)
  clear b4
  have b4 := nb
  clear nb
  have f_ := Lib.hid (H1.out.kept (Keep.ofBelow hb))
  clear H1
  have H1 := f_
  clear f_
  have f_ := Lib.hid (H2.out.kept (Keep.ofBelow hb))
  clear H2
  have H2 := f_
  clear f_
  have nbel := below_then HB2.out hb HB2.out.size
  have HB4 := Lib.hid nbel
  clear nbel
  clear HB2
  clear hb
  clear x2_0 x2_1 z2_0 z2_1 x3_0 x3_1 z3_0 z3_1 x4_0 x4_1 x4_2 x4_3 z4_0 z4_1 z4_2 z4_3 szb s2 s3 s4
  have x2_0 : W3.cell? ⟨w.heap.size, 0, none⟩ = some (.bool k) := (b2.out).cell 0
  have x2_1 : W3.cell? ⟨w.heap.size, 1, none⟩ = some (.slice A l c) := (b2.out).cell 1
  have z2_0 : W3.frozen? ⟨w.heap.size, 0, none⟩ = false := (b2.out).frozen 0
  have z2_1 : W3.frozen? ⟨w.heap.size, 1, none⟩ = false := (b2.out).frozen 1
  have x3_0 : W3.cell? ⟨w.heap.size + 1, 0, none⟩ = some (.bool k') := (b3.out).cell 0
  have x3_1 : W3.cell? ⟨w.heap.size + 1, 1, none⟩ = some (.slice A' l' c') := (b3.out).cell 1
  have z3_0 : W3.frozen? ⟨w.heap.size + 1, 0, none⟩ = false := (b3.out).frozen 0
  have z3_1 : W3.frozen? ⟨w.heap.size + 1, 1, none⟩ = false := (b3.out).frozen 1
  have x4_0 : W3.cell? ⟨w.heap.size + 1 + 1, 0, none⟩ = some (.bool false) := (b4.out).cell 0
  have x4_1 : W3.cell? ⟨w.heap.size + 1 + 1, 1, none⟩ = some (.slice none 0 0) := (b4.out).cell 1
  have x4_2 : W3.cell? ⟨w.heap.size + 1 + 1, 2, none⟩ = some (.bool false) := (b4.out).cell 2
  have x4_3 : W3.cell? ⟨w.heap.size + 1 + 1, 3, none⟩ = some (.slice none 0 0) := (b4.out).cell 3
  have z4_0 : W3.frozen? ⟨w.heap.size + 1 + 1, 0, none⟩ = false := (b4.out).frozen 0
  have z4_1 : W3.frozen? ⟨w.heap.size + 1 + 1, 1, none⟩ = false := (b4.out).frozen 1
  have z4_2 : W3.frozen? ⟨w.heap.size + 1 + 1, 2, none⟩ = false := (b4.out).frozen 2
  have z4_3 : W3.frozen? ⟨w.heap.size + 1 + 1, 3, none⟩ = false := (b4.out).frozen 3
  have szb : w.heap.size ≤ W3.heap.size := HB4.out.size
  have s2 : w.heap.size < W3.heap.size := (b2.out).lt
  have s3 : w.heap.size + 1 < W3.heap.size := (b3.out).lt
  have s4 : w.heap.size + 1 + 1 < W3.heap.size := (b4.out).lt
  go_wp2_with fail
  have hkeep := (Keep.set (Keep.set (Keep.set (Keep.set (Keep.refl W3) b4.out 0 (Leaf.bool false)) (Bx.set b4.out 0 (Leaf.bool false)) 1 (Leaf.slice none 0 0)) (Bx.set (Bx.set b4.out 0 (Leaf.bool false)) 1 (Leaf.slice none 0 0)) 2 (Leaf.bool false)) (Bx.set (Bx.set (Bx.set b4.out 0 (Leaf.bool false)) 1 (Leaf.slice none 0 0)) 2 (Leaf.bool false)) 3 (Leaf.slice none 0 0))
  have hbel := (Below.setCell (p := ⟨w.heap.size + 1 + 1, 3, none⟩) (Below.setCell (p := ⟨w.heap.size + 1 + 1, 2, none⟩) (Below.setCell (p := ⟨w.heap.size + 1 + 1, 1, none⟩) (Below.setCell (p := ⟨w.heap.size + 1 + 1, 0, none⟩) HB4.out (by first | omega | (simp; done) | (simp; omega)) (.bool false)) (by first | omega | (simp; done) | (simp; omega)) (.slice none 0 0)) (by first | omega | (simp; done) | (simp; omega)) (.bool false)) (by first | omega | (simp; done) | (simp; omega)) (.slice none 0 0))
  refine bodyPost_ret (v := .tuple #[.agg #[.bool false, .slice none 0 0, .bool false, .slice none 0 0], .int .i64 10]) (by simp [results, Tryd.results19, go_sem, x4_0, x4_1, x4_2, x4_3]) rfl ⟨rfl, hbel⟩
theorem rnew_ok {p q : Int} {n : Nat} {a b : Value} {w : World} (h1 : PRef p n a w) (h2 : PRef q n b w) (hn : n ≤ 20000) (hq : q ≠ 0) :
    Calls Tryd.prog 19 #[a, b] w fun e w' => ∃ v, e = .returned v ∧ RRatOk (Rat.divInt p q) n v w' ∧ Below w.heap.size w w' := by
  obtain ⟨k, A, l, c, rfl⟩ := h1.open
  obtain ⟨k', A', l', c', rfl⟩ := h2.open
  have hg : (Int.gcd p q : Int) ≠ 0 := by have := Int.gcd_ne_zero_right (a := p) hq; omega
  have hc : Calls Tryd.prog 19 #[.agg #[.bool k, .slice A l c], .agg #[.bool k', .slice A' l' c']] w fun e w' => ∃ v, e = .returned (.tuple #[v, .int .i64 0]) ∧ RRat (Rat.divInt p q) n v w' ∧ Below w.heap.size w w' := by
    rcases Int.lt_trichotomy q 0 with h | h | h
    · exact rnew_neg h1 h2 hn h (by unfold cmpI; rw [if_pos h]) hq (by rw [Int.gcd_neg, Int.neg_gcd]; exact hg)
    · exact absurd h hq
    · exact rnew_pos h1 h2 hn h (by unfold cmpI; rw [if_neg (by omega), if_neg (by omega)]) hq hg
  refine hc.mono ?_
  rintro e w' ⟨v, rfl, hv, hb⟩
  exact ⟨_, rfl, ⟨v, rfl, hv⟩, hb⟩
theorem rnew_zero2 {p q : Int} {n m : Nat} {a b : Value} {w : World} (h1 : PRef p n a w) (h2 : PRef q m b w) (hq : q = 0) :
    Calls Tryd.prog 19 #[a, b] w fun e w' => e = .returned (.tuple #[.agg #[.bool false, .slice none 0 0, .bool false, .slice none 0 0], .int .i64 10]) ∧ Below w.heap.size w w' := by
  obtain ⟨k, A, l, c, rfl⟩ := h1.open
  obtain ⟨k', A', l', c', rfl⟩ := h2.open
  subst hq
  exact rnew_zero h1 h2
end Go.Proofs.YtmpdpfiokjepaaaDoor

/- Of of the reference. -/
namespace Go.Proofs.YtmpdpfiokjepaaaDoor
open Go.RowKit
open AS (Keep NoInt)

set_option maxRecDepth 20000 in
set_option maxHeartbeats 3200000 in
theorem rofq_fact {a b : Int} {w : World} (ha : -9223372036854775808 ≤ a) (ha' : a ≤ 9223372036854775807) (hb1 : -9223372036854775808 ≤ b) (hb' : b ≤ 9223372036854775807) (hq : b ≠ 0) :
    Calls Tryd.prog 6 #[.int .i64 a, .int .i64 b] w fun e w' => ∃ v, e = .returned (.tuple #[v, .int .i64 0]) ∧ RRat (Rat.divInt a b) 5 v w' ∧ Below w.heap.size w w' := by
  have HA : Hid (-9223372036854775808 ≤ a ∧ a ≤ 9223372036854775807) := ⟨ha, ha'⟩
  clear ha ha'
  have HB : Hid (-9223372036854775808 ≤ b ∧ b ≤ 9223372036854775807) := ⟨hb1, hb'⟩
  clear hb1 hb'
  go_enter Tryd.func6, Tryd.ntmps6
  go_upto_region 1 with (fail)
  change Code.wp Tryd.prog _ _ _ (w.alloc (.cells #[.bool false, .slice none 0 0, .bool false, .slice none 0 0] 35))
  have nb4 := (Bx.new 35 w [.bool false, .slice none 0 0, .bool false, .slice none 0 0] (leaf4 (Leaf.bool false) (Leaf.slice none 0 0) (Leaf.bool false) (Leaf.slice none 0 0)))
  have nkeep := (Keep.alloc (Keep.refl w) (.cells #[.bool false, .slice none 0 0, .bool false, .slice none 0 0] 35))
  have nbel : Below w.heap.size w (w.alloc (.cells #[.bool false, .slice none 0 0, .bool false, .slice none 0 0] 35)) := (Below.alloc (Below.refl w.heap.size w) (by first | omega | (simp; done) | (simp; omega) | (simp [World.setCell]; done) | (simp [World.setCell]; omega)) (.cells #[.bool false, .slice none 0 0, .bool false, .slice none 0 0] 35))
  generalize w.alloc (.cells #[.bool false, .slice none 0 0, .bool false, .slice none 0 0] 35) = W1 at *
  have b4 := Lib.hid nb4
  clear nb4
  clear nkeep
  have HB2 := Lib.hid nbel
  clear nbel
  have x4_0 : W1.cell? ⟨w.heap.size, 0, none⟩ = some (.bool false) := (b4.out).cell 0
  have x4_1 : W1.cell? ⟨w.heap.size, 1, none⟩ = some (.slice none 0 0) := (b4.out).cell 1
  have x4_2 : W1.cell? ⟨w.heap.size, 2, none⟩ = some (.bool false) := (b4.out).cell 2
  have x4_3 : W1.cell? ⟨w.heap.size, 3, none⟩ = some (.slice none 0 0) := (b4.out).cell 3
  have szb : w.heap.size ≤ W1.heap.size := HB2.out.size
  have s4 : w.heap.size < W1.heap.size := (b4.out).lt
  clear x4_0 x4_1 x4_2 x4_3 szb s4
  have x4_0 : W1.cell? ⟨w.heap.size, 0, none⟩ = some (.bool false) := (b4.out).cell 0
  have x4_1 : W1.cell? ⟨w.heap.size, 1, none⟩ = some (.slice none 0 0) := (b4.out).cell 1
  have x4_2 : W1.cell? ⟨w.heap.size, 2, none⟩ = some (.bool false) := (b4.out).cell 2
  have x4_3 : W1.cell? ⟨w.heap.size, 3, none⟩ = some (.slice none 0 0) := (b4.out).cell 3
  have z4_0 : W1.frozen? ⟨w.heap.size, 0, none⟩ = false := (b4.out).frozen 0
  have z4_1 : W1.frozen? ⟨w.heap.size, 1, none⟩ = false := (b4.out).frozen 1
  have z4_2 : W1.frozen? ⟨w.heap.size, 2, none⟩ = false := (b4.out).frozen 2
  have z4_3 : W1.frozen? ⟨w.heap.size, 3, none⟩ = false := (b4.out).frozen 3
  have szb : w.heap.size ≤ W1.heap.size := HB2.out.size
  have s4 : w.heap.size < W1.heap.size := (b4.out).lt
  go_wp2_with fail
  refine (rof_fact HA.out.1 HA.out.2).mono ?_
  rintro e W3 ⟨v, rfl, hv, hb⟩
  have nb := Lib.hid ((b4.out).up hb)
  clear b4
  have b4 := nb
  clear nb
  have nbel := below_then HB2.out hb HB2.out.size
  have HB4 := Lib.hid nbel
  clear nbel
  clear HB2
  clear hb
  clear x4_0 x4_1 x4_2 x4_3 z4_0 z4_1 z4_2 z4_3 szb s4
  have x4_0 : W3.cell? ⟨w.heap.size, 0, none⟩ = some (.bool false) := (b4.out).cell 0
  have x4_1 : W3.cell? ⟨w.heap.size, 1, none⟩ = some (.slice none 0 0) := (b4.out).cell 1
  have x4_2 : W3.cell? ⟨w.heap.size, 2, none⟩ = some (.bool false) := (b4.out).cell 2
  have x4_3 : W3.cell? ⟨w.heap.size, 3, none⟩ = some (.slice none 0 0) := (b4.out).cell 3
  have z4_0 : W3.frozen? ⟨w.heap.size, 0, none⟩ = false := (b4.out).frozen 0
  have z4_1 : W3.frozen? ⟨w.heap.size, 1, none⟩ = false := (b4.out).frozen 1
  have z4_2 : W3.frozen? ⟨w.heap.size, 2, none⟩ = false := (b4.out).frozen 2
  have z4_3 : W3.frozen? ⟨w.heap.size, 3, none⟩ = false := (b4.out).frozen 3
  have szb : w.heap.size ≤ W3.heap.size := HB4.out.size
  have s4 : w.heap.size < W3.heap.size := (b4.out).lt
  obtain ⟨k1, A1, l1, c1, rfl⟩ := hv.open
  have HV := Lib.hid hv
  clear hv
  go_wp2_with fail
  refine (rof_fact HB.out.1 HB.out.2).mono ?_
  rintro e W5 ⟨v, rfl, hv, hb⟩
  have nb := Lib.hid ((b4.out).up hb)
  clear b4
  have b4 := nb
  clear nb
  have f_ := Lib.hid (HV.out.kept (Keep.ofBelow hb))
  clear HV
  have HV := f_
  clear f_
  have nbel := below_then HB4.out hb HB4.out.size
  have HB6 := Lib.hid nbel
  clear nbel
  clear HB4
  clear hb
  clear x4_0 x4_1 x4_2 x4_3 z4_0 z4_1 z4_2 z4_3 szb s4
  have x4_0 : W5.cell? ⟨w.heap.size, 0, none⟩ = some (.bool false) := (b4.out).cell 0
  have x4_1 : W5.cell? ⟨w.heap.size, 1, none⟩ = some (.slice none 0 0) := (b4.out).cell 1
  have x4_2 : W5.cell? ⟨w.heap.size, 2, none⟩ = some (.bool false) := (b4.out).cell 2
  have x4_3 : W5.cell? ⟨w.heap.size, 3, none⟩ = some (.slice none 0 0) := (b4.out).cell 3
  have z4_0 : W5.frozen? ⟨w.heap.size, 0, none⟩ = false := (b4.out).frozen 0
  have z4_1 : W5.frozen? ⟨w.heap.size, 1, none⟩ = false := (b4.out).frozen 1
  have z4_2 : W5.frozen? ⟨w.heap.size, 2, none⟩ = false := (b4.out).frozen 2
  have z4_3 : W5.frozen? ⟨w.heap.size, 3, none⟩ = false := (b4.out).frozen 3
  have szb : w.heap.size ≤ W5.heap.size := HB6.out.size
  have s4 : w.heap.size < W5.heap.size := (b4.out).lt
  obtain ⟨k2, A2, l2, c2, rfl⟩ := hv.open
  have HU := Lib.hid hv
  clear hv
  go_wp2_with fail
  refine (rnew_ok HV.out HU.out (by omega) hq).mono ?_
  rintro e W7 ⟨v, rfl, ⟨v0, rfl, hv⟩, hb⟩
  have nb := Lib.hid ((b4.out).up hb)
  clear b4
  have b4 := nb
  clear nb
  have f_ := Lib.hid (HV.out.kept (Keep.ofBelow hb))
  clear HV
  have HV := f_
  clear f_
  have f_ := Lib.hid (HU.out.kept (Keep.ofBelow hb))
  clear HU
  have HU := f_
  clear f_
  have nbel := below_then HB6.out hb HB6.out.size
  have HB8 := Lib.hid nbel
  clear nbel
  clear HB6
  clear hb
  clear x4_0 x4_1 x4_2 x4_3 z4_0 z4_1 z4_2 z4_3 szb s4
  have x4_0 : W7.cell? ⟨w.heap.size, 0, none⟩ = some (.bool false) := (b4.out).cell 0
  have x4_1 : W7.cell? ⟨w.heap.size, 1, none⟩ = some (.slice none 0 0) := (b4.out).cell 1
  have x4_2 : W7.cell? ⟨w.heap.size, 2, none⟩ = some (.bool false) := (b4.out).cell 2
  have x4_3 : W7.cell? ⟨w.heap.size, 3, none⟩ = some (.slice none 0 0) := (b4.out).cell 3
  have z4_0 : W7.frozen? ⟨w.heap.size, 0, none⟩ = false := (b4.out).frozen 0
  have z4_1 : W7.frozen? ⟨w.heap.size, 1, none⟩ = false := (b4.out).frozen 1
  have z4_2 : W7.frozen? ⟨w.heap.size, 2, none⟩ = false := (b4.out).frozen 2
  have z4_3 : W7.frozen? ⟨w.heap.size, 3, none⟩ = false := (b4.out).frozen 3
  have szb : w.heap.size ≤ W7.heap.size := HB8.out.size
  have s4 : w.heap.size < W7.heap.size := (b4.out).lt
  obtain ⟨k3, A3, l3, c3, k4, A4, l4, c4, rfl⟩ := hv.open
  have HR := Lib.hid hv
  clear hv
  go_wp2_with fail
  have hkeep := (Keep.set (Keep.set (Keep.set (Keep.set (Keep.refl W7) b4.out 0 (Leaf.bool k3)) (Bx.set b4.out 0 (Leaf.bool k3)) 1 (Leaf.slice A3 l3 c3)) (Bx.set (Bx.set b4.out 0 (Leaf.bool k3)) 1 (Leaf.slice A3 l3 c3)) 2 (Leaf.bool k4)) (Bx.set (Bx.set (Bx.set b4.out 0 (Leaf.bool k3)) 1 (Leaf.slice A3 l3 c3)) 2 (Leaf.bool k4)) 3 (Leaf.slice A4 l4 c4))
  have hbel := (Below.setCell (p := ⟨w.heap.size, 3, none⟩) (Below.setCell (p := ⟨w.heap.size, 2, none⟩) (Below.setCell (p := ⟨w.heap.size, 1, none⟩) (Below.setCell (p := ⟨w.heap.size, 0, none⟩) HB8.out (by first | omega | (simp; done) | (simp; omega)) (.bool k3)) (by first | omega | (simp; done) | (simp; omega)) (.slice A3 l3 c3)) (by first | omega | (simp; done) | (simp; omega)) (.bool k4)) (by first | omega | (simp; done) | (simp; omega)) (.slice A4 l4 c4))
  refine bodyPost_ret (v := .tuple #[.agg #[.bool k3, .slice A3 l3 c3, .bool k4, .slice A4 l4 c4], .int .i64 0]) (by simp [results, Tryd.results6, go_sem, x4_0, x4_1, x4_2, x4_3]) rfl ⟨_, rfl, HR.out.kept hkeep, hbel⟩
set_option maxRecDepth 20000 in
set_option maxHeartbeats 3200000 in
theorem rofq_zero {a : Int} {w : World} (ha : -9223372036854775808 ≤ a) (ha' : a ≤ 9223372036854775807) :
    Calls Tryd.prog 6 #[.int .i64 a, .int .i64 0] w fun e w' => e = .returned (.tuple #[.agg #[.bool false, .slice none 0 0, .bool false, .slice none 0 0], .int .i64 10]) ∧ Below w.heap.size w w' := by
  have HA : Hid (-9223372036854775808 ≤ a ∧ a ≤ 9223372036854775807) := ⟨ha, ha'⟩
  clear ha ha'
  go_enter Tryd.func6, Tryd.ntmps6
  go_upto_region 1 with (fail)
  change Code.wp Tryd.prog _ _ _ (w.alloc (.cells #[.bool false, .slice none 0 0, .bool false, .slice none 0 0] 35))
  have nb4 := (Bx.new 35 w [.bool false, .slice none 0 0, .bool false, .slice none 0 0] (leaf4 (Leaf.bool false) (Leaf.slice none 0 0) (Leaf.bool false) (Leaf.slice none 0 0)))
  have nkeep := (Keep.alloc (Keep.refl w) (.cells #[.bool false, .slice none 0 0, .bool false, .slice none 0 0] 35))
  have nbel : Below w.heap.size w (w.alloc (.cells #[.bool false, .slice none 0 0, .bool false, .slice none 0 0] 35)) := (Below.alloc (Below.refl w.heap.size w) (by first | omega | (simp; done) | (simp; omega) | (simp [World.setCell]; done) | (simp [World.setCell]; omega)) (.cells #[.bool false, .slice none 0 0, .bool false, .slice none 0 0] 35))
  generalize w.alloc (.cells #[.bool false, .slice none 0 0, .bool false, .slice none 0 0] 35) = W1 at *
  have b4 := Lib.hid nb4
  clear nb4
  clear nkeep
  have HB2 := Lib.hid nbel
  clear nbel
  have x4_0 : W1.cell? ⟨w.heap.size, 0, none⟩ = some (.bool false) := (b4.out).cell 0
  have x4_1 : W1.cell? ⟨w.heap.size, 1, none⟩ = some (.slice none 0 0) := (b4.out).cell 1
  have x4_2 : W1.cell? ⟨w.heap.size, 2, none⟩ = some (.bool false) := (b4.out).cell 2
  have x4_3 : W1.cell? ⟨w.heap.size, 3, none⟩ = some (.slice none 0 0) := (b4.out).cell 3
  have szb : w.heap.size ≤ W1.heap.size := HB2.out.size
  have s4 : w.heap.size < W1.heap.size := (b4.out).lt
  clear x4_0 x4_1 x4_2 x4_3 szb s4
  have x4_0 : W1.cell? ⟨w.heap.size, 0, none⟩ = some (.bool false) := (b4.out).cell 0
  have x4_1 : W1.cell? ⟨w.heap.size, 1, none⟩ = some (.slice none 0 0) := (b4.out).cell 1
  have x4_2 : W1.cell? ⟨w.heap.size, 2, none⟩ = some (.bool false) := (b4.out).cell 2
  have x4_3 : W1.cell? ⟨w.heap.size, 3, none⟩ = some (.slice none 0 0) := (b4.out).cell 3
  have z4_0 : W1.frozen? ⟨w.heap.size, 0, none⟩ = false := (b4.out).frozen 0
  have z4_1 : W1.frozen? ⟨w.heap.size, 1, none⟩ = false := (b4.out).frozen 1
  have z4_2 : W1.frozen? ⟨w.heap.size, 2, none⟩ = false := (b4.out).frozen 2
  have z4_3 : W1.frozen? ⟨w.heap.size, 3, none⟩ = false := (b4.out).frozen 3
  have szb : w.heap.size ≤ W1.heap.size := HB2.out.size
  have s4 : w.heap.size < W1.heap.size := (b4.out).lt
  go_wp2_with fail
  refine (rof_fact HA.out.1 HA.out.2).mono ?_
  rintro e W3 ⟨v, rfl, hv, hb⟩
  have nb := Lib.hid ((b4.out).up hb)
  clear b4
  have b4 := nb
  clear nb
  have nbel := below_then HB2.out hb HB2.out.size
  have HB4 := Lib.hid nbel
  clear nbel
  clear HB2
  clear hb
  clear x4_0 x4_1 x4_2 x4_3 z4_0 z4_1 z4_2 z4_3 szb s4
  have x4_0 : W3.cell? ⟨w.heap.size, 0, none⟩ = some (.bool false) := (b4.out).cell 0
  have x4_1 : W3.cell? ⟨w.heap.size, 1, none⟩ = some (.slice none 0 0) := (b4.out).cell 1
  have x4_2 : W3.cell? ⟨w.heap.size, 2, none⟩ = some (.bool false) := (b4.out).cell 2
  have x4_3 : W3.cell? ⟨w.heap.size, 3, none⟩ = some (.slice none 0 0) := (b4.out).cell 3
  have z4_0 : W3.frozen? ⟨w.heap.size, 0, none⟩ = false := (b4.out).frozen 0
  have z4_1 : W3.frozen? ⟨w.heap.size, 1, none⟩ = false := (b4.out).frozen 1
  have z4_2 : W3.frozen? ⟨w.heap.size, 2, none⟩ = false := (b4.out).frozen 2
  have z4_3 : W3.frozen? ⟨w.heap.size, 3, none⟩ = false := (b4.out).frozen 3
  have szb : w.heap.size ≤ W3.heap.size := HB4.out.size
  have s4 : w.heap.size < W3.heap.size := (b4.out).lt
  obtain ⟨k1, A1, l1, c1, rfl⟩ := hv.open
  have HV := Lib.hid hv
  clear hv
  go_wp2_with fail
  refine (rof_fact (n := 0) (by decide) (by decide)).mono ?_
  rintro e W5 ⟨v, rfl, hv, hb⟩
  have nb := Lib.hid ((b4.out).up hb)
  clear b4
  have b4 := nb
  clear nb
  have f_ := Lib.hid (HV.out.kept (Keep.ofBelow hb))
  clear HV
  have HV := f_
  clear f_
  have nbel := below_then HB4.out hb HB4.out.size
  have HB6 := Lib.hid nbel
  clear nbel
  clear HB4
  clear hb
  clear x4_0 x4_1 x4_2 x4_3 z4_0 z4_1 z4_2 z4_3 szb s4
  have x4_0 : W5.cell? ⟨w.heap.size, 0, none⟩ = some (.bool false) := (b4.out).cell 0
  have x4_1 : W5.cell? ⟨w.heap.size, 1, none⟩ = some (.slice none 0 0) := (b4.out).cell 1
  have x4_2 : W5.cell? ⟨w.heap.size, 2, none⟩ = some (.bool false) := (b4.out).cell 2
  have x4_3 : W5.cell? ⟨w.heap.size, 3, none⟩ = some (.slice none 0 0) := (b4.out).cell 3
  have z4_0 : W5.frozen? ⟨w.heap.size, 0, none⟩ = false := (b4.out).frozen 0
  have z4_1 : W5.frozen? ⟨w.heap.size, 1, none⟩ = false := (b4.out).frozen 1
  have z4_2 : W5.frozen? ⟨w.heap.size, 2, none⟩ = false := (b4.out).frozen 2
  have z4_3 : W5.frozen? ⟨w.heap.size, 3, none⟩ = false := (b4.out).frozen 3
  have szb : w.heap.size ≤ W5.heap.size := HB6.out.size
  have s4 : w.heap.size < W5.heap.size := (b4.out).lt
  obtain ⟨k2, A2, l2, c2, rfl⟩ := hv.open
  have HU := Lib.hid hv
  clear hv
  go_wp2_with fail
  refine (rnew_zero2 HV.out HU.out rfl).mono ?_
  rintro e W7 ⟨rfl, hb⟩
  have nb := Lib.hid ((b4.out).up hb)
  clear b4
  have b4 := nb
  clear nb
  have f_ := Lib.hid (HV.out.kept (Keep.ofBelow hb))
  clear HV
  have HV := f_
  clear f_
  have f_ := Lib.hid (HU.out.kept (Keep.ofBelow hb))
  clear HU
  have HU := f_
  clear f_
  have nbel := below_then HB6.out hb HB6.out.size
  have HB8 := Lib.hid nbel
  clear nbel
  clear HB6
  clear hb
  clear x4_0 x4_1 x4_2 x4_3 z4_0 z4_1 z4_2 z4_3 szb s4
  have x4_0 : W7.cell? ⟨w.heap.size, 0, none⟩ = some (.bool false) := (b4.out).cell 0
  have x4_1 : W7.cell? ⟨w.heap.size, 1, none⟩ = some (.slice none 0 0) := (b4.out).cell 1
  have x4_2 : W7.cell? ⟨w.heap.size, 2, none⟩ = some (.bool false) := (b4.out).cell 2
  have x4_3 : W7.cell? ⟨w.heap.size, 3, none⟩ = some (.slice none 0 0) := (b4.out).cell 3
  have z4_0 : W7.frozen? ⟨w.heap.size, 0, none⟩ = false := (b4.out).frozen 0
  have z4_1 : W7.frozen? ⟨w.heap.size, 1, none⟩ = false := (b4.out).frozen 1
  have z4_2 : W7.frozen? ⟨w.heap.size, 2, none⟩ = false := (b4.out).frozen 2
  have z4_3 : W7.frozen? ⟨w.heap.size, 3, none⟩ = false := (b4.out).frozen 3
  have szb : w.heap.size ≤ W7.heap.size := HB8.out.size
  have s4 : w.heap.size < W7.heap.size := (b4.out).lt
  go_wp2_with fail
  have hkeep := (Keep.set (Keep.set (Keep.set (Keep.set (Keep.refl W7) b4.out 0 (Leaf.bool false)) (Bx.set b4.out 0 (Leaf.bool false)) 1 (Leaf.slice none 0 0)) (Bx.set (Bx.set b4.out 0 (Leaf.bool false)) 1 (Leaf.slice none 0 0)) 2 (Leaf.bool false)) (Bx.set (Bx.set (Bx.set b4.out 0 (Leaf.bool false)) 1 (Leaf.slice none 0 0)) 2 (Leaf.bool false)) 3 (Leaf.slice none 0 0))
  have hbel := (Below.setCell (p := ⟨w.heap.size, 3, none⟩) (Below.setCell (p := ⟨w.heap.size, 2, none⟩) (Below.setCell (p := ⟨w.heap.size, 1, none⟩) (Below.setCell (p := ⟨w.heap.size, 0, none⟩) HB8.out (by first | omega | (simp; done) | (simp; omega)) (.bool false)) (by first | omega | (simp; done) | (simp; omega)) (.slice none 0 0)) (by first | omega | (simp; done) | (simp; omega)) (.bool false)) (by first | omega | (simp; done) | (simp; omega)) (.slice none 0 0))
  refine bodyPost_ret (v := .tuple #[.agg #[.bool false, .slice none 0 0, .bool false, .slice none 0 0], .int .i64 10]) (by simp [results, Tryd.results6, go_sem, x4_0, x4_1, x4_2, x4_3]) rfl ⟨rfl, hbel⟩
theorem rofq_any {a b : Int} {w : World} (ha : -9223372036854775808 ≤ a) (ha' : a ≤ 9223372036854775807) (hb1 : -9223372036854775808 ≤ b) (hb' : b ≤ 9223372036854775807) :
    Calls Tryd.prog 6 #[.int .i64 a, .int .i64 b] w fun e w' => ∃ v, e = .returned (.tuple #[v, .int .i64 (if b = 0 then 10 else 0)]) ∧ RRat (Rat.divInt a b) 5 v w' ∧ Below w.heap.size w w' := by
  by_cases hq : b = 0
  · subst hq
    refine (rofq_zero ha ha').mono ?_
    rintro e w' ⟨rfl, hb⟩
    exact ⟨_, rfl, by rw [Rat.divInt_zero]; exact RRat.zero _ _, hb⟩
  · rw [if_neg hq]
    exact rofq_fact ha ha' hb1 hb' hq
end Go.Proofs.YtmpdpfiokjepaaaDoor

/- Parts of rational numbers. -/
namespace Go.Proofs.YtmpdpfiokjepaaaDoor
open Go.RowKit
open AS (Keep NoInt)

def ratPartsFL (x : Rat) (n : Nat) : List (Nat × AS.Fact) := [(9, AS.Fact.int (x.num) n), (10, AS.Fact.int (x.num) (n + 1)), (11, AS.Fact.int ((x.den : Int)) n), (12, AS.Fact.int ((x.den : Int)) (n + 1))]
set_option maxRecDepth 20000 in
set_option maxHeartbeats 3200000 in
theorem ratParts_fact {x : Rat} {n : Nat} {v : Value} {w : World} (h : PRat x n v w) (hn3 : 3 ≤ n) (hn : n ≤ 10000) :
    Calls Tryd.prog 7 #[v] w fun e w' => ∃ a b, e = .returned (.tuple #[a, b]) ∧ PInt x.num (n + 1) a w' ∧ PInt x.den (n + 1) b w' ∧ Below w.heap.size w w' := by
  obtain ⟨k, A, l, c, k', A', l', c', rfl⟩ := h.open
  have H1 := Lib.hid h
  clear h
  go_enter Tryd.func7, Tryd.ntmps7
  go_upto_region 1 with (fail)
  change Code.wp Tryd.prog _ _ _ (((w.alloc (.cells #[.bool k, .slice A l c, .bool k', .slice A' l' c'] 27)).alloc (.cells #[.bool false, .slice none 0 0] 25)).alloc (.cells #[.bool false, .slice none 0 0] 25))
  have nb1 := (Bx.alloc (Bx.alloc (Bx.new 27 w [.bool k, .slice A l c, .bool k', .slice A' l' c'] (leaf4 (Leaf.bool k) (Leaf.slice A l c) (Leaf.bool k') (Leaf.slice A' l' c'))) (.cells #[.bool false, .slice none 0 0] 25)) (.cells #[.bool false, .slice none 0 0] 25))
  have nb2 := (Bx.alloc (Bx.new 25 (w.alloc (.cells #[.bool k, .slice A l c, .bool k', .slice A' l' c'] 27)) [.bool false, .slice none 0 0] (leaf2 (Leaf.bool false) (Leaf.slice none 0 0))) (.cells #[.bool false, .slice none 0 0] 25))
  rw [show (w.alloc (.cells #[.bool k, .slice A l c, .bool k', .slice A' l' c'] 27)).heap.size = w.heap.size + 1 by simp] at nb2
  have nb3 := (Bx.new 25 ((w.alloc (.cells #[.bool k, .slice A l c, .bool k', .slice A' l' c'] 27)).alloc (.cells #[.bool false, .slice none 0 0] 25)) [.bool false, .slice none 0 0] (leaf2 (Leaf.bool false) (Leaf.slice none 0 0)))
  rw [show ((w.alloc (.cells #[.bool k, .slice A l c, .bool k', .slice A' l' c'] 27)).alloc (.cells #[.bool false, .slice none 0 0] 25)).heap.size = w.heap.size + 1 + 1 by simp] at nb3
  have nkeep := (Keep.alloc (Keep.alloc (Keep.alloc (Keep.refl w) (.cells #[.bool k, .slice A l c, .bool k', .slice A' l' c'] 27)) (.cells #[.bool false, .slice none 0 0] 25)) (.cells #[.bool false, .slice none 0 0] 25))
  have nbel : Below w.heap.size w (((w.alloc (.cells #[.bool k, .slice A l c, .bool k', .slice A' l' c'] 27)).alloc (.cells #[.bool false, .slice none 0 0] 25)).alloc (.cells #[.bool false, .slice none 0 0] 25)) := (Below.alloc (Below.alloc (Below.alloc (Below.refl w.heap.size w) (by first | omega | (simp; done) | (simp; omega) | (simp [World.setCell]; done) | (simp [World.setCell]; omega)) (.cells #[.bool k, .slice A l c, .bool k', .slice A' l' c'] 27)) (by first | omega | (simp; done) | (simp; omega) | (simp [World.setCell]; done) | (simp [World.setCell]; omega)) (.cells #[.bool false, .slice none 0 0] 25)) (by first | omega | (simp; done) | (simp; omega) | (simp [World.setCell]; done) | (simp [World.setCell]; omega)) (.cells #[.bool false, .slice none 0 0] 25))
  generalize ((w.alloc (.cells #[.bool k, .slice A l c, .bool k', .slice A' l' c'] 27)).alloc (.cells #[.bool false, .slice none 0 0] 25)).alloc (.cells #[.bool false, .slice none 0 0] 25) = W1 at *
  have b1 := Lib.hid nb1
  have b2 := Lib.hid nb2
  have b3 := Lib.hid nb3
  clear nb1 nb2 nb3
  have f_ := Lib.hid (H1.out.kept nkeep)
  clear H1
  have H1 := f_
  clear f_
  clear nkeep
  have HB2 := Lib.hid nbel
  clear nbel
  have x1_0 : W1.cell? ⟨w.heap.size, 0, none⟩ = some (.bool k) := (b1.out).cell 0
  have x1_1 : W1.cell? ⟨w.heap.size, 1, none⟩ = some (.slice A l c) := (b1.out).cell 1
  have x1_2 : W1.cell? ⟨w.heap.size, 2, none⟩ = some (.bool k') := (b1.out).cell 2
  have x1_3 : W1.cell? ⟨w.heap.size, 3, none⟩ = some (.slice A' l' c') := (b1.out).cell 3
  have x2_0 : W1.cell? ⟨w.heap.size + 1, 0, none⟩ = some (.bool false) := (b2.out).cell 0
  have x2_1 : W1.cell? ⟨w.heap.size + 1, 1, none⟩ = some (.slice none 0 0) := (b2.out).cell 1
  have x3_0 : W1.cell? ⟨w.heap.size + 1 + 1, 0, none⟩ = some (.bool false) := (b3.out).cell 0
  have x3_1 : W1.cell? ⟨w.heap.size + 1 + 1, 1, none⟩ = some (.slice none 0 0) := (b3.out).cell 1
  have szb : w.heap.size ≤ W1.heap.size := HB2.out.size
  have s1 : w.heap.size < W1.heap.size := (b1.out).lt
  have s2 : w.heap.size + 1 < W1.heap.size := (b2.out).lt
  have s3 : w.heap.size + 1 + 1 < W1.heap.size := (b3.out).lt
  clear x1_0 x1_1 x1_2 x1_3 x2_0 x2_1 x3_0 x3_1 szb s1 s2 s3
  have x1_0 : W1.cell? ⟨w.heap.size, 0, none⟩ = some (.bool k) := (b1.out).cell 0
  have x1_1 : W1.cell? ⟨w.heap.size, 1, none⟩ = some (.slice A l c) := (b1.out).cell 1
  have x1_2 : W1.cell? ⟨w.heap.size, 2, none⟩ = some (.bool k') := (b1.out).cell 2
  have x1_3 : W1.cell? ⟨w.heap.size, 3, none⟩ = some (.slice A' l' c') := (b1.out).cell 3
  have x2_0 : W1.cell? ⟨w.heap.size + 1, 0, none⟩ = some (.bool false) := (b2.out).cell 0
  have x2_1 : W1.cell? ⟨w.heap.size + 1, 1, none⟩ = some (.slice none 0 0) := (b2.out).cell 1
  have z2_0 : W1.frozen? ⟨w.heap.size + 1, 0, none⟩ = false := (b2.out).frozen 0
  have z2_1 : W1.frozen? ⟨w.heap.size + 1, 1, none⟩ = false := (b2.out).frozen 1
  have x3_0 : W1.cell? ⟨w.heap.size + 1 + 1, 0, none⟩ = some (.bool false) := (b3.out).cell 0
  have x3_1 : W1.cell? ⟨w.heap.size + 1 + 1, 1, none⟩ = some (.slice none 0 0) := (b3.out).cell 1
  have z3_0 : W1.frozen? ⟨w.heap.size + 1 + 1, 0, none⟩ = false := (b3.out).frozen 0
  have z3_1 : W1.frozen? ⟨w.heap.size + 1 + 1, 1, none⟩ = false := (b3.out).frozen 1
  have szb : w.heap.size ≤ W1.heap.size := HB2.out.size
  have s1 : w.heap.size < W1.heap.size := (b1.out).lt
  have s2 : w.heap.size + 1 < W1.heap.size := (b2.out).lt
  have s3 : w.heap.size + 1 + 1 < W1.heap.size := (b3.out).lt
  go_wp2_with fail
  refine (terms_fact H1.out hn3).mono ?_
  rintro e W3 ⟨k1, A1, l1, c1, j1, B1, o1, e1, rfl, ha_, hc_, hb⟩
  have nb := Lib.hid ((b1.out).up hb)
  clear b1
  have b1 := nb
  clear nb
  have nb := Lib.hid ((b2.out).up hb)
  clear b2
  have b2 := nb
  clear nb
  have nb := Lib.hid ((b3.out).up hb)
  clear b3
  have b3 := nb
  clear nb
  have f_ := Lib.hid (H1.out.kept (Keep.ofBelow hb))
  clear H1
  have H1 := f_
  clear f_
  have nbel := below_then HB2.out hb HB2.out.size
  have HB4 := Lib.hid nbel
  clear nbel
  clear HB2
  clear hb
  clear x1_0 x1_1 x1_2 x1_3 x2_0 x2_1 z2_0 z2_1 x3_0 x3_1 z3_0 z3_1 szb s1 s2 s3
  have x1_0 : W3.cell? ⟨w.heap.size, 0, none⟩ = some (.bool k) := (b1.out).cell 0
  have x1_1 : W3.cell? ⟨w.heap.size, 1, none⟩ = some (.slice A l c) := (b1.out).cell 1
  have x1_2 : W3.cell? ⟨w.heap.size, 2, none⟩ = some (.bool k') := (b1.out).cell 2
  have x1_3 : W3.cell? ⟨w.heap.size, 3, none⟩ = some (.slice A' l' c') := (b1.out).cell 3
  have x2_0 : W3.cell? ⟨w.heap.size + 1, 0, none⟩ = some (.bool false) := (b2.out).cell 0
  have x2_1 : W3.cell? ⟨w.heap.size + 1, 1, none⟩ = some (.slice none 0 0) := (b2.out).cell 1
  have z2_0 : W3.frozen? ⟨w.heap.size + 1, 0, none⟩ = false := (b2.out).frozen 0
  have z2_1 : W3.frozen? ⟨w.heap.size + 1, 1, none⟩ = false := (b2.out).frozen 1
  have x3_0 : W3.cell? ⟨w.heap.size + 1 + 1, 0, none⟩ = some (.bool false) := (b3.out).cell 0
  have x3_1 : W3.cell? ⟨w.heap.size + 1 + 1, 1, none⟩ = some (.slice none 0 0) := (b3.out).cell 1
  have z3_0 : W3.frozen? ⟨w.heap.size + 1 + 1, 0, none⟩ = false := (b3.out).frozen 0
  have z3_1 : W3.frozen? ⟨w.heap.size + 1 + 1, 1, none⟩ = false := (b3.out).frozen 1
  have szb : w.heap.size ≤ W3.heap.size := HB4.out.size
  have s1 : w.heap.size < W3.heap.size := (b1.out).lt
  have s2 : w.heap.size + 1 < W3.heap.size := (b2.out).lt
  have s3 : w.heap.size + 1 + 1 < W3.heap.size := (b3.out).lt
  have HA := Lib.hid ha_
  have HB := Lib.hid hc_
  clear ha_ hc_
  go_upto_region 2 with (fail)
  change Code.wp Tryd.prog _ _ _ ((((W3.setCell ⟨w.heap.size + 1, 0, none⟩ (.bool k1)).setCell ⟨w.heap.size + 1, 1, none⟩ (.slice A1 l1 c1)).setCell ⟨w.heap.size + 1 + 1, 0, none⟩ (.bool j1)).setCell ⟨w.heap.size + 1 + 1, 1, none⟩ (.slice B1 o1 e1))
  have nb1 : Bx 27 ((((W3.setCell ⟨w.heap.size + 1, 0, none⟩ (.bool k1)).setCell ⟨w.heap.size + 1, 1, none⟩ (.slice A1 l1 c1)).setCell ⟨w.heap.size + 1 + 1, 0, none⟩ (.bool j1)).setCell ⟨w.heap.size + 1 + 1, 1, none⟩ (.slice B1 o1 e1)) w.heap.size [.bool k, .slice A l c, .bool k', .slice A' l' c'] := (Bx.far (g' := w.heap.size + 1 + 1) (Bx.far (g' := w.heap.size + 1 + 1) (Bx.far (g' := w.heap.size + 1) (Bx.far (g' := w.heap.size + 1) b1.out (by omega) 0 (.bool k1)) (by omega) 1 (.slice A1 l1 c1)) (by omega) 0 (.bool j1)) (by omega) 1 (.slice B1 o1 e1))
  have nb2 : Bx 25 ((((W3.setCell ⟨w.heap.size + 1, 0, none⟩ (.bool k1)).setCell ⟨w.heap.size + 1, 1, none⟩ (.slice A1 l1 c1)).setCell ⟨w.heap.size + 1 + 1, 0, none⟩ (.bool j1)).setCell ⟨w.heap.size + 1 + 1, 1, none⟩ (.slice B1 o1 e1)) (w.heap.size + 1) [.bool k1, .slice A1 l1 c1] := (Bx.far (g' := w.heap.size + 1 + 1) (Bx.far (g' := w.heap.size + 1 + 1) (Bx.set (Bx.set b2.out 0 (Leaf.bool k1)) 1 (Leaf.slice A1 l1 c1)) (by omega) 0 (.bool j1)) (by omega) 1 (.slice B1 o1 e1))
  have nb3 : Bx 25 ((((W3.setCell ⟨w.heap.size + 1, 0, none⟩ (.bool k1)).setCell ⟨w.heap.size + 1, 1, none⟩ (.slice A1 l1 c1)).setCell ⟨w.heap.size + 1 + 1, 0, none⟩ (.bool j1)).setCell ⟨w.heap.size + 1 + 1, 1, none⟩ (.slice B1 o1 e1)) (w.heap.size + 1 + 1) [.bool j1, .slice B1 o1 e1] := (Bx.set (Bx.set (Bx.far (g' := w.heap.size + 1) (Bx.far (g' := w.heap.size + 1) b3.out (by omega) 0 (.bool k1)) (by omega) 1 (.slice A1 l1 c1)) 0 (Leaf.bool j1)) 1 (Leaf.slice B1 o1 e1))
  have nkeep := (Keep.set (Keep.set (Keep.set (Keep.set (Keep.refl W3) b2.out 0 (Leaf.bool k1)) (Bx.set b2.out 0 (Leaf.bool k1)) 1 (Leaf.slice A1 l1 c1)) (Bx.far (g' := w.heap.size + 1) (Bx.far (g' := w.heap.size + 1) b3.out (by omega) 0 (.bool k1)) (by omega) 1 (.slice A1 l1 c1)) 0 (Leaf.bool j1)) (Bx.set (Bx.far (g' := w.heap.size + 1) (Bx.far (g' := w.heap.size + 1) b3.out (by omega) 0 (.bool k1)) (by omega) 1 (.slice A1 l1 c1)) 0 (Leaf.bool j1)) 1 (Leaf.slice B1 o1 e1))
  have nbel : Below w.heap.size w ((((W3.setCell ⟨w.heap.size + 1, 0, none⟩ (.bool k1)).setCell ⟨w.heap.size + 1, 1, none⟩ (.slice A1 l1 c1)).setCell ⟨w.heap.size + 1 + 1, 0, none⟩ (.bool j1)).setCell ⟨w.heap.size + 1 + 1, 1, none⟩ (.slice B1 o1 e1)) := (Below.setCell (p := ⟨w.heap.size + 1 + 1, 1, none⟩) (Below.setCell (p := ⟨w.heap.size + 1 + 1, 0, none⟩) (Below.setCell (p := ⟨w.heap.size + 1, 1, none⟩) (Below.setCell (p := ⟨w.heap.size + 1, 0, none⟩) HB4.out (by first | omega | (simp; done) | (simp; omega)) (.bool k1)) (by first | omega | (simp; done) | (simp; omega)) (.slice A1 l1 c1)) (by first | omega | (simp; done) | (simp; omega)) (.bool j1)) (by first | omega | (simp; done) | (simp; omega)) (.slice B1 o1 e1))
  generalize (((W3.setCell ⟨w.heap.size + 1, 0, none⟩ (.bool k1)).setCell ⟨w.heap.size + 1, 1, none⟩ (.slice A1 l1 c1)).setCell ⟨w.heap.size + 1 + 1, 0, none⟩ (.bool j1)).setCell ⟨w.heap.size + 1 + 1, 1, none⟩ (.slice B1 o1 e1) = W5 at *
  clear x1_0 x1_1 x1_2 x1_3 x2_0 x2_1 z2_0 z2_1 x3_0 x3_1 z3_0 z3_1 szb s1 s2 s3
  clear b1 b2 b3
  have b1 := Lib.hid nb1
  have b2 := Lib.hid nb2
  have b3 := Lib.hid nb3
  clear nb1 nb2 nb3
  have f_ := Lib.hid (H1.out.kept nkeep)
  clear H1
  have H1 := f_
  clear f_
  have f_ := Lib.hid (HA.out.kept nkeep)
  clear HA
  have HA := f_
  clear f_
  have f_ := Lib.hid (HB.out.kept nkeep)
  clear HB
  have HB := f_
  clear f_
  clear nkeep
  have HB6 := Lib.hid nbel
  clear nbel
  clear HB4
  have x1_0 : W5.cell? ⟨w.heap.size, 0, none⟩ = some (.bool k) := (b1.out).cell 0
  have x1_1 : W5.cell? ⟨w.heap.size, 1, none⟩ = some (.slice A l c) := (b1.out).cell 1
  have x1_2 : W5.cell? ⟨w.heap.size, 2, none⟩ = some (.bool k') := (b1.out).cell 2
  have x1_3 : W5.cell? ⟨w.heap.size, 3, none⟩ = some (.slice A' l' c') := (b1.out).cell 3
  have x2_0 : W5.cell? ⟨w.heap.size + 1, 0, none⟩ = some (.bool k1) := (b2.out).cell 0
  have x2_1 : W5.cell? ⟨w.heap.size + 1, 1, none⟩ = some (.slice A1 l1 c1) := (b2.out).cell 1
  have z2_0 : W5.frozen? ⟨w.heap.size + 1, 0, none⟩ = false := (b2.out).frozen 0
  have z2_1 : W5.frozen? ⟨w.heap.size + 1, 1, none⟩ = false := (b2.out).frozen 1
  have x3_0 : W5.cell? ⟨w.heap.size + 1 + 1, 0, none⟩ = some (.bool j1) := (b3.out).cell 0
  have x3_1 : W5.cell? ⟨w.heap.size + 1 + 1, 1, none⟩ = some (.slice B1 o1 e1) := (b3.out).cell 1
  have z3_0 : W5.frozen? ⟨w.heap.size + 1 + 1, 0, none⟩ = false := (b3.out).frozen 0
  have z3_1 : W5.frozen? ⟨w.heap.size + 1 + 1, 1, none⟩ = false := (b3.out).frozen 1
  have szb : w.heap.size ≤ W5.heap.size := HB6.out.size
  have s1 : w.heap.size < W5.heap.size := (b1.out).lt
  have s2 : w.heap.size + 1 < W5.heap.size := (b2.out).lt
  have s3 : w.heap.size + 1 + 1 < W5.heap.size := (b3.out).lt
  refine AS.region_facts (ratPartsFL x n) (JRes2 w W5 25 25 (w.heap.size + 1) (w.heap.size + 1 + 1) [(27, w.heap.size, [.bool k, .slice A l c, .bool k', .slice A' l' c'])]) [[], [9], [], [11], [10], [12]] [4, 5] [[], [10], [10, 12]] [0, 2, 0, 2, 2, 2] [] (fun u => by simp only [ratPartsFL, AS.temps, List.map_cons, List.map_nil, fillL, List.setIfInBounds_toArray, List.set_cons_zero, List.set_cons_succ]; rfl) (by kernel_rfl) (by kernel_rfl) (JRes2.st w W5 25 25 (w.heap.size + 1) (w.heap.size + 1 + 1) [(27, w.heap.size, [.bool k, .slice A l c, .bool k', .slice A' l' c'])]) (below_drew (Below.refl _ _)) ?_ ?_
  · refine AS.StepsOk.cons rfl rfl rfl ?_ ?_
    · intro k_ u w_ hk hJ hF K hK
      clear hF
      obtain rfl : k_ = 0 := Nat.le_zero.1 hk
      have hJ0 : Below W5.heap.size W5 w_ := hJ
      have y0 : w_.cell? ⟨w.heap.size + 1, 0, none⟩ = some (.bool k1) := ((b2.out).up hJ0).cell 0
      have y1 : w_.cell? ⟨w.heap.size + 1, 1, none⟩ = some (.slice A1 l1 c1) := ((b2.out).up hJ0).cell 1
      go_simp
      exact hK.out _ _ (Below.refl _ _) ((HA.out).kept (Keep.ofBelow hJ0)) trivial
    refine AS.StepsOk.cons rfl rfl rfl ?_ ?_
    · intro k_ u w_ hk hJ hF K hK
      have h9 : PInt (x.num) n (u 9) w_ := AS.facts_get hF 9 (by simp)
      clear hF
      go_simp
      refine (copied_fact h9 (by omega)).mono ?_
      rintro e w' ⟨v, rfl, hv, hb⟩
      exact hK.out _ _ hb (hv) trivial
    refine AS.StepsOk.cons rfl rfl rfl ?_ ?_
    · intro k_ u w_ hk hJ hF K hK
      clear hF
      obtain rfl : k_ = 0 := Nat.le_zero.1 hk
      have hJ0 : Below W5.heap.size W5 w_ := hJ
      have y0 : w_.cell? ⟨w.heap.size + 1 + 1, 0, none⟩ = some (.bool j1) := ((b3.out).up hJ0).cell 0
      have y1 : w_.cell? ⟨w.heap.size + 1 + 1, 1, none⟩ = some (.slice B1 o1 e1) := ((b3.out).up hJ0).cell 1
      go_simp
      exact hK.out _ _ (Below.refl _ _) ((HB.out).kept (Keep.ofBelow hJ0)) trivial
    refine AS.StepsOk.cons rfl rfl rfl ?_ ?_
    · intro k_ u w_ hk hJ hF K hK
      have h11 : PInt ((x.den : Int)) n (u 11) w_ := AS.facts_get hF 11 (by simp)
      clear hF
      go_simp
      refine (copied_fact h11 (by omega)).mono ?_
      rintro e w' ⟨v, rfl, hv, hb⟩
      exact hK.out _ _ hb (hv) trivial
    refine AS.StepsOk.store rfl rfl ?_ ?_
    · intro u w_ hJ hAp hF K hK
      have h10 : PInt (x.num) (n + 1) (u 10) w_ := AS.facts_get hF 10 (by simp)
      clear hF
      obtain ⟨k1, A1, l1, c1, e_⟩ := h10.open
      have hJ0 : Below W5.heap.size W5 w_ := hJ
      have bx := (b2.out).up hJ0
      have hbel := below_then HB6.out hJ0 HB6.out.size
      have bx2 := (b3.out).up hJ0
      have ob1 := (b1.out).up hJ0
      have y0 := bx.cell 0
      have z0 := bx.frozen 0
      have y1 := bx.cell 1
      have z1 := bx.frozen 1
      simp only [List.getElem?_cons_zero, List.getElem?_cons_succ] at y0 y1
      have hob2 : ∀ b_ ∈ ([(27, w.heap.size, [.bool k, .slice A l c, .bool k', .slice A' l' c'])] : List (TypeId × Nat × List Value)), Bx b_.1 ((w_.setCell ⟨w.heap.size + 1, 0, none⟩ (.bool k1)).setCell ⟨w.heap.size + 1, 1, none⟩ (.slice A1 l1 c1)) b_.2.1 b_.2.2 := by
        intro b_ hb_
        simp only [List.mem_cons, List.not_mem_nil, or_false] at hb_
        rcases hb_ with rfl
        · exact (Bx.far (g' := w.heap.size + 1) (Bx.far (g' := w.heap.size + 1) ob1 (show w.heap.size + 1 ≠ w.heap.size by omega) 0 (.bool k1)) (show w.heap.size + 1 ≠ w.heap.size by omega) 1 (.slice A1 l1 c1))
      simp only [e_] at hK ⊢
      go_simp
      exact hK.out undef _ ⟨⟨(Below.setCell (p := ⟨w.heap.size + 1, 1, none⟩) (Below.setCell (p := ⟨w.heap.size + 1, 0, none⟩) hbel (by first | omega | (simp; done) | (simp; omega)) (.bool k1)) (by first | omega | (simp; done) | (simp; omega)) (.slice A1 l1 c1)), (by simp only [setCell_size]; first | exact hsz | exact Nat.le_trans HB6.out.size hJ0.size)⟩, hob2, ⟨[.bool k1, .slice A1 l1 c1], by simp [e_], (Bx.set (Bx.set bx 0 (Leaf.bool k1)) 1 (Leaf.slice A1 l1 c1))⟩, _, _, (Bx.far (g' := w.heap.size + 1) (Bx.far (g' := w.heap.size + 1) bx2 (by omega) 0 (.bool k1)) (by omega) 1 (.slice A1 l1 c1))⟩ (Keep.set (Keep.set (Keep.refl w_) bx 0 (Leaf.bool k1)) (Bx.set bx 0 (Leaf.bool k1)) 1 (Leaf.slice A1 l1 c1))
    refine AS.StepsOk.store rfl rfl ?_ ?_
    · intro u w_ hJ hAp hF K hK
      have h12 : PInt ((x.den : Int)) (n + 1) (u 12) w_ := AS.facts_get hF 12 (by simp)
      clear hF
      obtain ⟨k1, A1, l1, c1, e_⟩ := h12.open
      obtain ⟨⟨hbel, hsz⟩, hob, ⟨vs, hvs, bx1⟩, x_, y_, bx⟩ := hJ
      have ob1 := hob (27, w.heap.size, [.bool k, .slice A l c, .bool k', .slice A' l' c']) (by simp)
      clear hob
      have y0 := bx.cell 0
      have z0 := bx.frozen 0
      have y1 := bx.cell 1
      have z1 := bx.frozen 1
      simp only [List.getElem?_cons_zero, List.getElem?_cons_succ] at y0 y1
      have hob2 : ∀ b_ ∈ ([(27, w.heap.size, [.bool k, .slice A l c, .bool k', .slice A' l' c'])] : List (TypeId × Nat × List Value)), Bx b_.1 ((w_.setCell ⟨w.heap.size + 1 + 1, 0, none⟩ (.bool k1)).setCell ⟨w.heap.size + 1 + 1, 1, none⟩ (.slice A1 l1 c1)) b_.2.1 b_.2.2 := by
        intro b_ hb_
        simp only [List.mem_cons, List.not_mem_nil, or_false] at hb_
        rcases hb_ with rfl
        · exact (Bx.far (g' := w.heap.size + 1 + 1) (Bx.far (g' := w.heap.size + 1 + 1) ob1 (show w.heap.size + 1 + 1 ≠ w.heap.size by omega) 0 (.bool k1)) (show w.heap.size + 1 + 1 ≠ w.heap.size by omega) 1 (.slice A1 l1 c1))
      simp only [e_] at hK ⊢
      go_simp
      exact hK.out undef _ ⟨⟨(Below.setCell (p := ⟨w.heap.size + 1 + 1, 1, none⟩) (Below.setCell (p := ⟨w.heap.size + 1 + 1, 0, none⟩) hbel (by first | omega | (simp; done) | (simp; omega)) (.bool k1)) (by first | omega | (simp; done) | (simp; omega)) (.slice A1 l1 c1)), (by simp only [setCell_size]; first | exact hsz | exact Nat.le_trans HB6.out.size hJ0.size)⟩, hob2, vs, [.bool k1, .slice A1 l1 c1], by simp [e_, List.cons.inj hvs], (Bx.far (g' := w.heap.size + 1 + 1) (Bx.far (g' := w.heap.size + 1 + 1) bx1 (by omega) 0 (.bool k1)) (by omega) 1 (.slice A1 l1 c1)), (Bx.set (Bx.set bx 0 (Leaf.bool k1)) 1 (Leaf.slice A1 l1 c1))⟩ (Keep.set (Keep.set (Keep.refl w_) bx 0 (Leaf.bool k1)) (Bx.set bx 0 (Leaf.bool k1)) 1 (Leaf.slice A1 l1 c1))
    exact AS.StepsOk.nil
  · intro u W7 hJ9 hF
    have h10 : PInt (x.num) (n + 1) (u 10) W7 := AS.facts_get hF 10 (by simp [ratPartsFL, AS.temps])
    have h12 : PInt ((x.den : Int)) (n + 1) (u 12) W7 := AS.facts_get hF 12 (by simp [ratPartsFL, AS.temps])
    clear hF
    obtain ⟨⟨hbel, -⟩, -, vs, vs2, hvs, hbx, hbx2⟩ := hJ9
    obtain ⟨ka, Aa, la, ca, ea⟩ := h10.open
    obtain ⟨kb, Ab, lb, cb, eb⟩ := h12.open
    rw [ea] at h10
    rw [eb] at h12
    obtain rfl : vs = [.bool ka, .slice Aa la ca] := by
      have e1 := (List.cons.inj hvs).1
      rw [show u 10 = _ from ea] at e1
      have e2 := congrArg Array.toList (Value.agg.inj e1)
      simpa using e2.symm
    obtain rfl : vs2 = [.bool kb, .slice Ab lb cb] := by
      have e1 := (List.cons.inj (List.cons.inj hvs).2).1
      rw [show u 12 = _ from eb] at e1
      have e2 := congrArg Array.toList (Value.agg.inj e1)
      simpa using e2.symm
    have y0 := hbx.cell 0
    have z0 := hbx2.cell 0
    have y1 := hbx.cell 1
    have z1 := hbx2.cell 1
    simp only [List.getElem?_cons_zero, List.getElem?_cons_succ] at y0 y1 z0 z1
    go_wp2_with fail
    refine bodyPost_ret (v := .tuple #[.agg #[.bool ka, .slice Aa la ca], .agg #[.bool kb, .slice Ab lb cb]]) (by simp [results, Tryd.results7, go_sem, y0, y1, z0, z1]) rfl ⟨_, _, rfl, h10, h12, hbel⟩
end Go.Proofs.YtmpdpfiokjepaaaDoor

/- Sign of rational numbers. -/
namespace Go.Proofs.YtmpdpfiokjepaaaDoor
open Go.RowKit
open AS (Keep NoInt)

set_option maxRecDepth 20000 in
set_option maxHeartbeats 3200000 in
theorem ratSign_fact {x : Rat} {n : Nat} {v : Value} {w : World} (h : PRat x n v w) :
    Calls Tryd.prog 12 #[v] w fun e w' => e = .returned (.int .i64 (cmpQ x 0)) ∧ Below w.heap.size w w' := by
  obtain ⟨k, A, l, c, k', A', l', c', rfl⟩ := h.open
  obtain ⟨p, q, h1, h2, h3⟩ := h.parts
  have hc : cmpI p 0 = cmpQ x 0 := by
    rcases h3 with ⟨rfl, -⟩ | ⟨rfl, -, rfl⟩
    · exact sign_terms x
    · decide +kernel
  generalize cmpQ x 0 = cc at *
  have H1 := Lib.hid h1
  clear h h1 h2 h3
  go_enter Tryd.func12, Tryd.ntmps12
  go_upto_region 1 with (fail)
  change Code.wp Tryd.prog _ _ _ (w.alloc (.cells #[.bool k, .slice A l c, .bool k', .slice A' l' c'] 27))
  have nb1 := (Bx.new 27 w [.bool k, .slice A l c, .bool k', .slice A' l' c'] (leaf4 (Leaf.bool k) (Leaf.slice A l c) (Leaf.bool k') (Leaf.slice A' l' c')))
  have nkeep := (Keep.alloc (Keep.refl w) (.cells #[.bool k, .slice A l c, .bool k', .slice A' l' c'] 27))
  have nbel : Below w.heap.size w (w.alloc (.cells #[.bool k, .slice A l c, .bool k', .slice A' l' c'] 27)) := (Below.alloc (Below.refl w.heap.size w) (by first | omega | (simp; done) | (simp; omega) | (simp [World.setCell]; done) | (simp [World.setCell]; omega)) (.cells #[.bool k, .slice A l c, .bool k', .slice A' l' c'] 27))
  generalize w.alloc (.cells #[.bool k, .slice A l c, .bool k', .slice A' l' c'] 27) = W1 at *
  have b1 := Lib.hid nb1
  clear nb1
  have f_ := Lib.hid (H1.out.kept nkeep)
  clear H1
  have H1 := f_
  clear f_
  clear nkeep
  have HB2 := Lib.hid nbel
  clear nbel
  have x1_0 : W1.cell? ⟨w.heap.size, 0, none⟩ = some (.bool k) := (b1.out).cell 0
  have x1_1 : W1.cell? ⟨w.heap.size, 1, none⟩ = some (.slice A l c) := (b1.out).cell 1
  have x1_2 : W1.cell? ⟨w.heap.size, 2, none⟩ = some (.bool k') := (b1.out).cell 2
  have x1_3 : W1.cell? ⟨w.heap.size, 3, none⟩ = some (.slice A' l' c') := (b1.out).cell 3
  have szb : w.heap.size ≤ W1.heap.size := HB2.out.size
  have s1 : w.heap.size < W1.heap.size := (b1.out).lt
  go_wp2_with fail
  refine (sign_is H1.out hc).mono ?_
  rintro e W3 ⟨rfl, hb⟩
  have nb := Lib.hid ((b1.out).up hb)
  clear b1
  have b1 := nb
  clear nb
  have f_ := Lib.hid (H1.out.kept (Keep.ofBelow hb))
  clear H1
  have H1 := f_
  clear f_
  have nbel := below_then HB2.out hb HB2.out.size
  have HB4 := Lib.hid nbel
  clear nbel
  clear HB2
  clear hb
  clear x1_0 x1_1 x1_2 x1_3 szb s1
  have x1_0 : W3.cell? ⟨w.heap.size, 0, none⟩ = some (.bool k) := (b1.out).cell 0
  have x1_1 : W3.cell? ⟨w.heap.size, 1, none⟩ = some (.slice A l c) := (b1.out).cell 1
  have x1_2 : W3.cell? ⟨w.heap.size, 2, none⟩ = some (.bool k') := (b1.out).cell 2
  have x1_3 : W3.cell? ⟨w.heap.size, 3, none⟩ = some (.slice A' l' c') := (b1.out).cell 3
  have szb : w.heap.size ≤ W3.heap.size := HB4.out.size
  have s1 : w.heap.size < W3.heap.size := (b1.out).lt
  go_wp2_with fail
  have hkeep := (Keep.refl W3)
  have hbel := HB4.out
  refine bodyPost_ret (v := .int .i64 cc) (by simp [results, Tryd.results12, go_sem]) rfl ⟨rfl, hbel⟩
end Go.Proofs.YtmpdpfiokjepaaaDoor

/- Sign of the reference. -/
namespace Go.Proofs.YtmpdpfiokjepaaaDoor
open Go.RowKit
open AS (Keep NoInt)

set_option maxRecDepth 20000 in
set_option maxHeartbeats 3200000 in
theorem rratSign_fact {x : Rat} {n : Nat} {v : Value} {w : World} (h : RRat x n v w) :
    Calls Tryd.prog 13 #[v] w fun e w' => e = .returned (.int .i64 (cmpQ x 0)) ∧ Below w.heap.size w w' := by
  obtain ⟨k, A, l, c, k', A', l', c', rfl⟩ := h.open
  obtain ⟨p, q, h1, h2, h3⟩ := h.parts
  have hc : cmpI p 0 = cmpQ x 0 := by
    rcases h3 with ⟨rfl, -⟩ | ⟨rfl, -, rfl⟩
    · exact sign_terms x
    · decide +kernel
  generalize cmpQ x 0 = cc at *
  have H1 := Lib.hid h1
  clear h h1 h2 h3
  go_enter Tryd.func13, Tryd.ntmps13
  go_upto_region 1 with (fail)
  change Code.wp Tryd.prog _ _ _ (w.alloc (.cells #[.bool k, .slice A l c, .bool k', .slice A' l' c'] 35))
  have nb1 := (Bx.new 35 w [.bool k, .slice A l c, .bool k', .slice A' l' c'] (leaf4 (Leaf.bool k) (Leaf.slice A l c) (Leaf.bool k') (Leaf.slice A' l' c')))
  have nkeep := (Keep.alloc (Keep.refl w) (.cells #[.bool k, .slice A l c, .bool k', .slice A' l' c'] 35))
  have nbel : Below w.heap.size w (w.alloc (.cells #[.bool k, .slice A l c, .bool k', .slice A' l' c'] 35)) := (Below.alloc (Below.refl w.heap.size w) (by first | omega | (simp; done) | (simp; omega) | (simp [World.setCell]; done) | (simp [World.setCell]; omega)) (.cells #[.bool k, .slice A l c, .bool k', .slice A' l' c'] 35))
  generalize w.alloc (.cells #[.bool k, .slice A l c, .bool k', .slice A' l' c'] 35) = W1 at *
  have b1 := Lib.hid nb1
  clear nb1
  have f_ := Lib.hid (H1.out.kept nkeep)
  clear H1
  have H1 := f_
  clear f_
  clear nkeep
  have HB2 := Lib.hid nbel
  clear nbel
  have x1_0 : W1.cell? ⟨w.heap.size, 0, none⟩ = some (.bool k) := (b1.out).cell 0
  have x1_1 : W1.cell? ⟨w.heap.size, 1, none⟩ = some (.slice A l c) := (b1.out).cell 1
  have x1_2 : W1.cell? ⟨w.heap.size, 2, none⟩ = some (.bool k') := (b1.out).cell 2
  have x1_3 : W1.cell? ⟨w.heap.size, 3, none⟩ = some (.slice A' l' c') := (b1.out).cell 3
  have szb : w.heap.size ≤ W1.heap.size := HB2.out.size
  have s1 : w.heap.size < W1.heap.size := (b1.out).lt
  go_wp2_with fail
  refine (rsign_is H1.out hc).mono ?_
  rintro e W3 ⟨rfl, hb⟩
  have nb := Lib.hid ((b1.out).up hb)
  clear b1
  have b1 := nb
  clear nb
  have f_ := Lib.hid (H1.out.kept (Keep.ofBelow hb))
  clear H1
  have H1 := f_
  clear f_
  have nbel := below_then HB2.out hb HB2.out.size
  have HB4 := Lib.hid nbel
  clear nbel
  clear HB2
  clear hb
  clear x1_0 x1_1 x1_2 x1_3 szb s1
  have x1_0 : W3.cell? ⟨w.heap.size, 0, none⟩ = some (.bool k) := (b1.out).cell 0
  have x1_1 : W3.cell? ⟨w.heap.size, 1, none⟩ = some (.slice A l c) := (b1.out).cell 1
  have x1_2 : W3.cell? ⟨w.heap.size, 2, none⟩ = some (.bool k') := (b1.out).cell 2
  have x1_3 : W3.cell? ⟨w.heap.size, 3, none⟩ = some (.slice A' l' c') := (b1.out).cell 3
  have szb : w.heap.size ≤ W3.heap.size := HB4.out.size
  have s1 : w.heap.size < W3.heap.size := (b1.out).lt
  go_wp2_with fail
  have hkeep := (Keep.refl W3)
  have hbel := HB4.out
  refine bodyPost_ret (v := .int .i64 cc) (by simp [results, Tryd.results13, go_sem]) rfl ⟨rfl, hbel⟩
end Go.Proofs.YtmpdpfiokjepaaaDoor
