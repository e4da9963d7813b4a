/- IntegerSmall: for every int and every text the statement about Of and Small returns true. -/
import Derived.Test.YtbfbijokhlkekaaDoorS3
import Derived.Deep.CutRange
namespace Go.Proofs.YtbfbijokhlkekaaDoor
open Go.RowKit

def smB (z : Int) : Bool := decide (-9223372036854775808 ≤ z) && decide (z ≤ 9223372036854775807)
def smN (z : Int) : Int := if smB z then z else 0
theorem smB_in {z : Int} (h : inR z) : smB z = true := by unfold inR minI maxI at h; unfold smB; simp; omega
theorem smB_out {z : Int} (h : ¬ inR z) : smB z = false := by unfold inR minI maxI at h; unfold smB; simp; omega
theorem small_fact {z : Int} {n : Nat} {a : Value} {w : World} (h1 : PInt z n a w) (hn : n ≤ 100000) :
    Calls Tryd.prog 20 #[a] w fun e w' => e = .returned (.tuple #[.int .i64 (smN z), .bool (smB z)]) ∧ Below w.heap.size w w' := by
  obtain ⟨k, A, c, L, rfl, i1, rfl, l1⟩ := h1
  unfold smN
  by_cases h : inR (zI k L)
  · rw [smB_in h, if_pos rfl]
    cases k
    · exact small_in_pos A c L w (by omega) i1 h.1 h.2
    · exact small_in_neg A c L w (by omega) i1 h.1 h.2
  · rw [smB_out h, if_neg (by simp)]
    unfold inR at h
    by_cases h2 : zI k L < minI
    · exact small_below k A c L w (by omega) i1 h2
    · exact small_above k A c L w (by omega) i1 (by omega)
theorem rsmall_fact {z : Int} {n : Nat} {a : Value} {w : World} (h1 : PRef z n a w) (hn : n ≤ 1000000) :
    Calls Tryd.prog 23 #[a] w fun e w' => e = .returned (.tuple #[.int .i64 (smN z), .bool (smB z)]) ∧ Below w.heap.size w w' := by
  obtain ⟨k, A, c, L, rfl, i1, rfl, l1⟩ := h1
  have hp : ∀ e, RSmallPost (zR k L) e → e = .returned (.tuple #[.int .i64 (smN (zR k L)), .bool (smB (zR k L))]) := by
    intro e ⟨h1, h2⟩
    unfold smN
    by_cases h : inR (zR k L)
    · rw [smB_in h, if_pos rfl]; exact h1 h
    · rw [smB_out h, if_neg (by simp)]; exact h2 h
  rcases Nat.eq_zero_or_pos L.length with h0 | h0
  · have : L = [] := List.eq_nil_of_length_eq_zero h0
    subst this
    have hk : k = false := by
      cases k
      · rfl
      · exact absurd rfl (i1.sgn rfl)
    subst hk
    refine (rsmall_nil A c w).mono fun e w' ⟨he, hb⟩ => ⟨?_, hb⟩
    rw [he]
    rfl
  · rcases Nat.lt_or_ge 5 L.length with h5 | h5
    · exact (rsmall_long k A c L w (by omega) h5 i1).mono fun e w' ⟨he, hb⟩ => ⟨hp e he, hb⟩
    · exact (rsmall_short k A c L w h5 h0 i1).mono fun e w' ⟨he, hb⟩ => ⟨hp e he, hb⟩

def smallFL (n : Int) : List (Nat × Fact) := [(26, .is (.bool true)), (27, .is (.bool false)), (28, .is (.bool false)), (29, .is (.int .i64 n)), (30, .is (.int .i64 n)), (31, .is (.bool false)), (32, .is (.bool false)), (33, .is (.bool false)), (34, .int (n) 3), (35, .is (.int .i64 n)), (36, .ref (n) 5), (37, .is (.bool true)), (38, .is (.bool false)), (39, .is (.bool false)), (40, .is (.bool false)), (41, .is (.agg #[.bool false, .slice none 0 0])), (42, .is (.int .i64 0)), (43, .is (.bool false)), (44, .is (.bool false)), (45, .is (.bool false)), (46, .is (.agg #[.bool false, .slice none 0 0])), (47, .is (.string ⟨#[48]⟩)), (48, .is (.bool false)), (49, .is (.bool false))]

theorem sign_zero (w : World) : Calls Tryd.prog 15 #[.agg #[.bool false, .slice none 0 0]] w fun e w' => e = .returned (.int .i64 0) ∧ Below w.heap.size w w' := sign_any false none 0 [] w

set_option maxRecDepth 20000 in
set_option maxHeartbeats 6400000 in
theorem law_small (n : Int) (s : ByteArray) (w : World) (hw : (Lit.int .i64 n).wf = true) (htab : Tab w.heap.size w) :
    Calls Tryd.prog 4 #[.int .i64 n, .string s] w fun e w' => e = .returned (.bool true) ∧ Below w.heap.size w w' := by
  have hw' : IntKind.i64.min ≤ n ∧ n ≤ IntKind.i64.max := by simpa [Lit.wf] using hw
  rw [show IntKind.i64.min = -9223372036854775808 by decide, show IntKind.i64.max = 9223372036854775807 by decide] at hw'
  have hn1 := hw'.1
  have hn2 := hw'.2
  clear hw'
  have HT := Lib.hid htab
  have HBU := Lib.hid (fun W => both_any s ⟨#[48]⟩ W)
  clear htab hw
  go_enter Tryd.func4, Tryd.ntmps4
  go_wp2_with fail
  refine (awake_any w HT.out).mono ?_
  rintro e w1 ⟨rfl, hb1⟩
  go_wp2_with fail
  refine (of_any n w1 hn1 hn2).mono ?_
  rintro e w2 ⟨k, A, c, rfl, I1, hz, hb2⟩
  have hlen : (limbsN n.natAbs).length ≤ 3 := limbsN_len _ (by omega)
  generalize limbsN n.natAbs = L at *
  have hb12 := hb1.trans (Below.less hb2 hb1.size)
  have HB12 := Lib.hid hb12
  clear hb1 hb2 hb12
  go_upto_region 4 with (fail)
  change Code.wp Tryd.prog _ _ _ (w2.alloc (.cells #[.bool k, .slice A (List.length L) c] 25))
  have bx := Box.new w2 (.bool k) (.slice A (List.length L) c) 25
  have hbw := below_alloc_new (w := w2) (.cells #[.bool k, .slice A (List.length L) c] 25)
  have hlt0 : w2.heap.size < (w2.alloc (.cells #[.bool k, .slice A (List.length L) c] 25)).heap.size := by simp
  generalize w2.alloc (.cells #[.bool k, .slice A (List.length L) c] 25) = V0 at *
  have p0 : PInt n 3 (.agg #[.bool k, .slice A (List.length L) c]) V0 := ⟨_, _, _, _, rfl, I1.up hbw, hz, hlen⟩
  have HBV := Lib.hid (HB12.out.trans (Below.less hbw HB12.out.size))
  have hy0 := bx.c0
  have hy1 := bx.c1
  generalize w2.heap.size = g0 at *
  generalize List.length L = nl at *
  clear hbw I1 hz hlen HB12
  go_wp2_with fail
  have hsm := small_fact p0 (by omega)
  rw [smN, smB_in (show inR n from ⟨hn1, hn2⟩), if_pos rfl] at hsm
  refine hsm.mono ?_
  rintro e W ⟨rfl, hb3⟩
  have x0 := (hb3.cell (p := ⟨g0, 0, none⟩) hlt0).trans hy0
  have x1 := (hb3.cell (p := ⟨g0, 1, none⟩) hlt0).trans hy1
  have p1 := p0.up hb3
  have HWW := Lib.hid (HBV.out.trans (Below.less hb3 HBV.out.size))
  have HTW := Lib.hid (tab_up HT.out HWW.out)
  have hltW : g0 < W.heap.size := Nat.lt_of_lt_of_le hlt0 hb3.size
  clear hy0 hy1 hb3 hsm p0 HBV hlt0
  have hy0 := x0
  have hy1 := x1
  have hlt0 := hltW
  clear x0 x1 hltW
  go_wp2_with fail
  refine region_facts (smallFL n) (fun w' => Below W.heap.size W w') [[], [26], [27], [28], [28], [28, 29, 30], [28, 31], [32], [33], [33], [33, 35], [33, 34, 36], [33, 37], [33, 38], [39], [40], [40, 41], [40, 42], [40, 43], [44], [45], [45, 46], [45, 47], [45, 48]] (fun u => by simp only [smallFL, temps, List.map_cons, List.map_nil, fillL, List.setIfInBounds_toArray, List.set_cons_zero, List.set_cons_succ]; rfl) (by kernel_rfl) (by kernel_rfl) (by kernel_rfl) (below_drew (Below.refl _ _)) ?_ ?_
  · refine StepsFr.cons ?_ ?_
    · intro u w hJ hF K hK
      clear hF
      go_simp
      exact hK.out _ _ hJ (Below.refl _ _) (rfl)
    refine StepsFr.cons ?_ ?_
    · intro u w hJ hF K hK
      have h26 : u 26 = .bool true := facts_get hF 26 (by simp)
      clear hF
      simp only [h26] at hK ⊢
      clear h26
      go_simp
      exact hK.out _ _ hJ (Below.refl _ _) rfl
    refine StepsFr.cons ?_ ?_
    · intro u w hJ hF K hK
      have h27 : u 27 = .bool false := facts_get hF 27 (by simp)
      clear hF
      simp only [h27] at hK ⊢
      clear h27
      go_simp
      exact hK.out _ _ hJ (Below.refl _ _) (rfl)
    refine StepsFr.cons ?_ ?_
    · intro u w hJ hF K hK
      have h28 : u 28 = .bool false := facts_get hF 28 (by simp)
      clear hF
      simp only [h28] at hK ⊢
      clear h28
      go_simp
      exact hK.out _ _ hJ (Below.refl _ _) (rfl)
    refine StepsFr.cons ?_ ?_
    · intro u w hJ hF K hK
      have h28 : u 28 = .bool false := facts_get hF 28 (by simp)
      clear hF
      simp only [h28] at hK ⊢
      clear h28
      go_simp
      exact hK.out _ _ hJ (Below.refl _ _) (rfl)
    refine StepsFr.cons ?_ ?_
    · intro u w hJ hF K hK
      have h28 : u 28 = .bool false := facts_get hF 28 (by simp)
      have h29 : u 29 = .int .i64 n := facts_get hF 29 (by simp)
      have h30 : u 30 = .int .i64 n := facts_get hF 30 (by simp)
      clear hF
      simp only [h28, h29, h30] at hK ⊢
      clear h28 h29 h30
      go_simp
      exact hK.out _ _ hJ (Below.refl _ _) rfl
    refine StepsFr.cons ?_ ?_
    · intro u w hJ hF K hK
      have h28 : u 28 = .bool false := facts_get hF 28 (by simp)
      have h31 : u 31 = .bool false := facts_get hF 31 (by simp)
      clear hF
      simp only [h28, h31] at hK ⊢
      clear h28 h31
      go_simp
      exact hK.out _ _ hJ (Below.refl _ _) rfl
    refine StepsFr.cons ?_ ?_
    · intro u w hJ hF K hK
      have h32 : u 32 = .bool false := facts_get hF 32 (by simp)
      clear hF
      simp only [h32] at hK ⊢
      clear h32
      go_simp
      exact hK.out _ _ hJ (Below.refl _ _) (rfl)
    refine StepsFr.cons ?_ ?_
    · intro u w hJ hF K hK
      have h33 : u 33 = .bool false := facts_get hF 33 (by simp)
      clear hF
      simp only [h33] at hK ⊢
      clear h33
      have hf0 := (hJ.cell (p := ⟨g0, 0, none⟩) hlt0).trans hy0
      have hf1 := (hJ.cell (p := ⟨g0, 1, none⟩) hlt0).trans hy1
      go_simp
      exact hK.out _ _ hJ (Below.refl _ _) (p1.up hJ)
    refine StepsFr.cons ?_ ?_
    · intro u w hJ hF K hK
      have h33 : u 33 = .bool false := facts_get hF 33 (by simp)
      clear hF
      simp only [h33] at hK ⊢
      clear h33
      go_simp
      exact hK.out _ _ hJ (Below.refl _ _) (rfl)
    refine StepsFr.cons ?_ ?_
    · intro u w hJ hF K hK
      have h33 : u 33 = .bool false := facts_get hF 33 (by simp)
      have h35 : u 35 = .int .i64 n := facts_get hF 35 (by simp)
      clear hF
      simp only [h33, h35] at hK ⊢
      clear h33 h35
      go_simp
      refine (rof_fact hn1 hn2).mono ?_
      rintro e w' ⟨v, rfl, hv, hb⟩
      exact hK.out _ _ (below_then hJ hb hJ.size) hb (hv)
    refine StepsFr.cons ?_ ?_
    · intro u w hJ hF K hK
      have h33 : u 33 = .bool false := facts_get hF 33 (by simp)
      have h34 : PInt (n) 3 (u 34) w := facts_get hF 34 (by simp)
      have h36 : PRef (n) 5 (u 36) w := facts_get hF 36 (by simp)
      clear hF
      simp only [h33] at hK ⊢
      clear h33
      go_simp
      refine (same_fact h34 h36 (by omega) (by omega) (rfl) (tab_up HTW.out hJ)).mono ?_
      rintro e w' ⟨rfl, hb⟩
      exact hK.out _ _ (below_then hJ hb hJ.size) hb (rfl)
    refine StepsFr.cons ?_ ?_
    · intro u w hJ hF K hK
      have h33 : u 33 = .bool false := facts_get hF 33 (by simp)
      have h37 : u 37 = .bool true := facts_get hF 37 (by simp)
      clear hF
      simp only [h33, h37] at hK ⊢
      clear h33 h37
      go_simp
      exact hK.out _ _ hJ (Below.refl _ _) rfl
    refine StepsFr.cons ?_ ?_
    · intro u w hJ hF K hK
      have h33 : u 33 = .bool false := facts_get hF 33 (by simp)
      have h38 : u 38 = .bool false := facts_get hF 38 (by simp)
      clear hF
      simp only [h33, h38] at hK ⊢
      clear h33 h38
      go_simp
      exact hK.out _ _ hJ (Below.refl _ _) rfl
    refine StepsFr.cons ?_ ?_
    · intro u w hJ hF K hK
      have h39 : u 39 = .bool false := facts_get hF 39 (by simp)
      clear hF
      simp only [h39] at hK ⊢
      clear h39
      go_simp
      exact hK.out _ _ hJ (Below.refl _ _) (rfl)
    refine StepsFr.cons ?_ ?_
    · intro u w hJ hF K hK
      have h40 : u 40 = .bool false := facts_get hF 40 (by simp)
      clear hF
      simp only [h40] at hK ⊢
      clear h40
      go_simp
      exact hK.out _ _ hJ (Below.refl _ _) rfl
    refine StepsFr.cons ?_ ?_
    · intro u w hJ hF K hK
      have h40 : u 40 = .bool false := facts_get hF 40 (by simp)
      have h41 : u 41 = .agg #[.bool false, .slice none 0 0] := facts_get hF 41 (by simp)
      clear hF
      simp only [h40, h41] at hK ⊢
      clear h40 h41
      go_simp
      refine (sign_zero _).mono ?_
      rintro e w' ⟨rfl, hb⟩
      exact hK.out _ _ (below_then hJ hb hJ.size) hb (rfl)
    refine StepsFr.cons ?_ ?_
    · intro u w hJ hF K hK
      have h40 : u 40 = .bool false := facts_get hF 40 (by simp)
      have h42 : u 42 = .int .i64 0 := facts_get hF 42 (by simp)
      clear hF
      simp only [h40, h42] at hK ⊢
      clear h40 h42
      go_simp
      exact hK.out _ _ hJ (Below.refl _ _) rfl
    refine StepsFr.cons ?_ ?_
    · intro u w hJ hF K hK
      have h40 : u 40 = .bool false := facts_get hF 40 (by simp)
      have h43 : u 43 = .bool false := facts_get hF 43 (by simp)
      clear hF
      simp only [h40, h43] at hK ⊢
      clear h40 h43
      go_simp
      exact hK.out _ _ hJ (Below.refl _ _) rfl
    refine StepsFr.cons ?_ ?_
    · intro u w hJ hF K hK
      have h44 : u 44 = .bool false := facts_get hF 44 (by simp)
      clear hF
      simp only [h44] at hK ⊢
      clear h44
      go_simp
      exact hK.out _ _ hJ (Below.refl _ _) (rfl)
    refine StepsFr.cons ?_ ?_
    · intro u w hJ hF K hK
      have h45 : u 45 = .bool false := facts_get hF 45 (by simp)
      clear hF
      simp only [h45] at hK ⊢
      clear h45
      go_simp
      exact hK.out _ _ hJ (Below.refl _ _) rfl
    refine StepsFr.cons ?_ ?_
    · intro u w hJ hF K hK
      have h45 : u 45 = .bool false := facts_get hF 45 (by simp)
      have h46 : u 46 = .agg #[.bool false, .slice none 0 0] := facts_get hF 46 (by simp)
      clear hF
      simp only [h45, h46] at hK ⊢
      clear h45 h46
      go_simp
      refine (text_zero _ _ _ _).mono ?_
      rintro e w' ⟨rfl, hb⟩
      exact hK.out _ _ (below_then hJ hb hJ.size) hb (rfl)
    refine StepsFr.cons ?_ ?_
    · intro u w hJ hF K hK
      have h45 : u 45 = .bool false := facts_get hF 45 (by simp)
      have h47 : u 47 = .string ⟨#[48]⟩ := facts_get hF 47 (by simp)
      clear hF
      simp only [h45, h47] at hK ⊢
      clear h45 h47
      go_simp
      exact hK.out _ _ hJ (Below.refl _ _) rfl
    refine StepsFr.cons ?_ ?_
    · intro u w hJ hF K hK
      have h45 : u 45 = .bool false := facts_get hF 45 (by simp)
      have h48 : u 48 = .bool false := facts_get hF 48 (by simp)
      clear hF
      simp only [h45, h48] at hK ⊢
      clear h45 h48
      go_simp
      exact hK.out _ _ hJ (Below.refl _ _) rfl
    exact StepsFr.nil
  · intro u w9 hJ9 hF
    have h49 : u 49 = .bool false := facts_get hF 49 (by simp [smallFL, temps])
    clear hF
    simp only [h49]
    go_wp2_with fail
    have HJ9 := Lib.hid hJ9
    clear hJ9 h49
    refine (HBU.out _).mono ?_
    rintro e w3 ⟨k5, A5, c5, L5, k6, A6, c6, L6, k7, A7, c7, L7, k8, A8, c8, L8, ok, rfl, I5, -, I7, -, hl5, -, hl7, -, hok, hb3⟩
    have F := four_boxes w3 (.bool k5) (.slice A5 (List.length L5) c5) (.bool k6) (.slice A6 (List.length L6) c6) (.bool k7) (.slice A7 (List.length L7) c7) (.bool k8) (.slice A8 (List.length L8) c8) 25 25 31 31
    have hb13 := HWW.out.trans (Below.less (below_then HJ9.out hb3 HJ9.out.size) HWW.out.size)
    cases ok
    · have HB := Lib.hid hb13
      have HF := Lib.hid F
      clear hb13 F hb3
      go_wp2_with fail
      go_ret
      exact ⟨rfl, HB.out.trans (Below.less HF.out.2.2.2.2.2 HB.out.size)⟩
    · obtain ⟨e1, -, q1, q2, -, -, q3, q4, -⟩ := hok rfl
      have HZZ : Hid (zI k5 L5 = zR k7 L7) := by show _ = _; unfold zI zR; rw [q1, q3, show val9 L5 = _ from q2, show val4 L7 = _ from q4]
      clear hok e1 q1 q2 q3 q4
      go_upto_region 10 with (fail)
      change Code.wp Tryd.prog _ _ _ ((((w3.alloc (.cells #[.bool k5, .slice A5 (List.length L5) c5] 25)).alloc (.cells #[.bool k6, .slice A6 (List.length L6) c6] 25)).alloc (.cells #[.bool k7, .slice A7 (List.length L7) c7] 31)).alloc (.cells #[.bool k8, .slice A8 (List.length L8) c8] 31))
      generalize (((w3.alloc (.cells #[.bool k5, .slice A5 (List.length L5) c5] 25)).alloc (.cells #[.bool k6, .slice A6 (List.length L6) c6] 25)).alloc (.cells #[.bool k7, .slice A7 (List.length L7) c7] 31)).alloc (.cells #[.bool k8, .slice A8 (List.length L8) c8] 31) = V at *
      obtain ⟨b2, -, b3, -, hsz, hbw⟩ := F
      have r1 : PInt (zI k5 L5) 223 (.agg #[.bool k5, .slice A5 (List.length L5) c5]) V := ⟨_, _, _, _, rfl, I5.up hbw, rfl, hl5⟩
      have r2 : PRef (zR k7 L7) 500 (.agg #[.bool k7, .slice A7 (List.length L7) c7]) V := ⟨_, _, _, _, rfl, I7.up hbw, rfl, hl7⟩
      rw [← HZZ.out] at r2
      have HBV := Lib.hid (hb13.trans (Below.less hbw hb13.size))
      have ha0 := b2.c0
      have ha1 := b2.c1
      have ha2 := b3.c0
      have ha3 := b3.c1
      have hlt2 : w3.heap.size + 1 + 1 < V.heap.size := by omega
      generalize zI k5 L5 = z at *
      generalize List.length L5 = n5 at *
      generalize List.length L7 = n7 at *
      clear HZZ hbw hb13 hb3 hsz b2 hl5 hl7 I5 I7
      go_wp2_with fail
      have B3 := Lib.hid b3
      clear b3
      refine (small_fact r1 (by omega)).mono ?_
      rintro e V2 ⟨rfl, hb4⟩
      have ha4 := (hb4.cell (p := ⟨w3.heap.size + 1 + 1, 0, none⟩) hlt2).trans ha2
      have ha5 := (hb4.cell (p := ⟨w3.heap.size + 1 + 1, 1, none⟩) hlt2).trans ha3
      have r2' := r2.up hb4
      have HB4 := Lib.hid hb4
      clear hb4 ha0 ha1 ha2 ha3 r1 r2
      generalize hsn : smN z = zn at *
      generalize hsb : smB z = zb at *
      have HSN := Lib.hid hsn
      have HSB := Lib.hid hsb
      clear hsn hsb
      go_wp2_with fail
      have hrs := rsmall_fact r2' (by omega)
      rw [HSB.out, HSN.out] at hrs
      refine hrs.mono ?_
      rintro e V3 ⟨rfl, hb5⟩
      have HB5 := Lib.hid hb5
      clear hb5 hrs r2'
      go_wp2
      go_ret
      exact ⟨rfl, HBV.out.trans (Below.less (below_then HB4.out HB5.out HB4.out.size) HBV.out.size)⟩
end Go.Proofs.YtbfbijokhlkekaaDoor
