/- The reference's 'Add' of any two integers. -/
import Derived.Test.YtbfbijokhlkekaaDoorRefCmp
import Derived.Test.YtbfbijokhlkekaaDoorLaw1
import Derived.Test.YtbfbijokhlkekaaDoorAddDiff
namespace Go.Proofs.YtbfbijokhlkekaaDoor
open Go.RowKit

theorem radd2 (A A' : Option Addr) (c c' : Nat) (L M : List Nat) (w : World) (hl : L.length ≤ 500000) (hml : M.length ≤ 500000)
    (hL : Lim4 L) (hM : Lim4 M) (hR : Row .i64 w w.heap.size A c L) (hR' : Row .i64 w w.heap.size A' c' M) :
    Calls Tryd.prog 53 #[.slice A L.length c, .slice A' M.length c'] w fun e w' => ∃ A2 c2 R, e = .returned (.slice A2 (List.length R) c2) ∧
      Row .i64 w' w'.heap.size A2 c2 R ∧ Lim4 R ∧ val4 R = val4 L + val4 M ∧ List.length R ≤ L.length + M.length + 1 ∧ Below w.heap.size w w' := by
  refine (radd_walk A A' c c' L M w (by omega) (by omega) hL hM hR hR').mono ?_
  rintro e w' ⟨v, k, rfl, h1, h2, h3, h4, ho, hb⟩
  obtain ⟨A2, c2, rfl, hrow⟩ := ho.row
  have hok := raSt_ok hL hM k
  have hv := raSt_val hL hM k
  rw [h4, valB_take_over _ _ _ h1, valB_take_over _ _ _ h2] at hv
  exact ⟨A2, c2, _, rfl, hrow, hok.1, by simpa using hv, by rw [hok.2.2]; exact h3, hb⟩
theorem rsub2 (A A' : Option Addr) (c c' : Nat) (L M : List Nat) (w : World) (hl : L.length ≤ 500000) (hml : M.length ≤ L.length)
    (hL : Lim4 L) (hM : Lim4 M) (hle : val4 M ≤ val4 L) (hR : Row .i64 w w.heap.size A c L) (hR' : Row .i64 w w.heap.size A' c' M) :
    Calls Tryd.prog 55 #[.slice A L.length c, .slice A' M.length c'] w fun e w' => ∃ A2 c2 R, e = .returned (.slice A2 (List.length R) c2) ∧
      Row .i64 w' w'.heap.size A2 c2 R ∧ Lim4 R ∧ val4 R + val4 M = val4 L ∧ List.length R ≤ L.length + M.length + 1 ∧ Below w.heap.size w w' := by
  refine (rsub_walk A A' c c' L M w (by omega) hml hL hM hR hR').mono ?_
  rintro e w' ⟨A2, c2, rfl, hrow, hb⟩
  have hok := rsSt_ok hL hM L.length
  have hv := rsSt_val hL hM L.length
  rw [valB_take_over _ _ _ (Nat.le_refl _), valB_take_over _ _ _ hml] at hv
  have hlt := valB_lt hok.1
  rw [hok.2.2] at hlt
  have hb0 : (rsSt L M L.length).2 = 0 := by
    rcases Nat.eq_zero_or_pos (rsSt L M L.length).2 with h | h
    · exact h
    · have h1 : (rsSt L M L.length).2 = 1 := by have := hok.2.1; omega
      rw [h1] at hv; simp only [val4] at hle; omega
  rw [hb0] at hv
  have htl := trimN_le (rsSt L M L.length).1 L.length
  have el : ((rsSt L M L.length).1.take (trimN (rsSt L M L.length).1 L.length)).length = trimN (rsSt L M L.length).1 L.length := by rw [List.length_take, hok.2.2]; omega
  refine ⟨A2, c2, (rsSt L M L.length).1.take (trimN (rsSt L M L.length).1 L.length), by rw [el], hrow.take _, hok.1.take _, ?_, by rw [el]; omega, hb⟩
  rw [val4, trimN_val _ _ _ (by rw [hok.2.2]; exact Nat.le_refl _), List.take_of_length_le (by rw [hok.2.2]; exact Nat.le_refl _)]
  simpa using hv
/-- 'signed' of the reference: the zeros at the end are left out. -/
theorem rsigned_pack (neg : Bool) (A : Option Addr) (c : Nat) (R : List Nat) (w : World) {n : Nat} (hl : R.length ≤ n) (hn : n ≤ 4000000) (hlim : Lim4 R) (hR : Row .i64 w w.heap.size A c R) :
    Calls Tryd.prog 44 #[.bool neg, .slice A R.length c] w fun e w' => ∃ T, e = .returned (.agg #[.bool (neg && decide (0 < List.length T)), .slice A (List.length T) c]) ∧ Row .i64 w' w'.heap.size A c T ∧ (∀ d ∈ T, d < 10000) ∧ (0 < List.length T → nth T (List.length T - 1) ≠ 0) ∧
      val4 T = val4 R ∧ List.length T ≤ R.length ∧ Below w.heap.size w w' := by
  have htl := trimN_le R R.length
  have el : (R.take (trimN R R.length)).length = trimN R R.length := by rw [List.length_take]; omega
  refine (rsigned_any neg A c R w (by omega) hR).mono ?_
  rintro e w' ⟨rfl, hb⟩
  refine ⟨R.take (trimN R R.length), by rw [el], (((hR.below hb).more hb.size).take _), fun d hd => hlim d (List.mem_of_mem_take hd), ?_, ?_, by rw [el]; exact htl, hb⟩
  · rw [el]; intro h; rw [nth_take (by omega)]; exact trimN_top _ _ h
  · rw [val4, trimN_val _ _ _ (Nat.le_refl _), List.take_of_length_le (Nat.le_refl _)]
theorem addZR (n : Bool) {L M R : List Nat} (h : val4 R = val4 L + val4 M) (h0 : R.length = 0 → val4 R = 0) : zR (n && decide (0 < R.length)) R = zR n L + zR n M := by
  unfold zR
  rcases Nat.eq_zero_or_pos R.length with h1 | h1
  · have h2 := h0 h1
    have e : (decide (0 < R.length)) = false := by rw [decide_eq_false_iff_not]; omega
    rw [e, Bool.and_false]
    cases n <;> simp <;> omega
  · have e : (decide (0 < R.length)) = true := by rw [decide_eq_true_iff]; omega
    rw [e, Bool.and_true]
    cases n <;> simp <;> omega
theorem subZR (n : Bool) {L M R : List Nat} (h : val4 R + val4 M = val4 L) (h0 : R.length = 0 → val4 R = 0) : zR (n && decide (0 < R.length)) R = zR n L + zR (!n) M := by
  unfold zR
  rcases Nat.eq_zero_or_pos R.length with h1 | h1
  · have h2 := h0 h1
    have e : (decide (0 < R.length)) = false := by rw [decide_eq_false_iff_not]; omega
    rw [e, Bool.and_false]
    cases n <;> simp <;> omega
  · have e : (decide (0 < R.length)) = true := by rw [decide_eq_true_iff]; omega
    rw [e, Bool.and_true]
    cases n <;> simp <;> omega
theorem cmp_ge' {x y : Nat} (h : y ≤ x) : 0 ≤ cmpZ x y := cmp_ge h

set_option maxRecDepth 20000 in
set_option maxHeartbeats 3200000 in
theorem radd_same (n : Bool) (A A' : Option Addr) (c c' : Nat) (L M : List Nat) (w : World) (hl : L.length ≤ 500000) (hml : M.length ≤ 500000)
    (hL : RefR w w.heap.size n A c L) (hM : RefR w w.heap.size n A' c' M) :
    Calls Tryd.prog 25 #[.agg #[.bool n, .slice A L.length c], .agg #[.bool n, .slice A' M.length c']] w fun e w' => ∃ k A c R, e = .returned (.agg #[.bool k, .slice A (List.length R) c]) ∧
      RefR w' w'.heap.size k A c R ∧ zR k R = zR n L + zR n M ∧ List.length R ≤ L.length + M.length + 1 ∧ Below w.heap.size w w' := by
  have hM2 := fun W h1 h2 => radd2 A A' c c' L M W hl hml hL.lim hM.lim h1 h2
  have HM2 := Lib.hid hM2
  clear hM2
  generalize hl' : L.length = l at *
  generalize hm' : M.length = l2 at *
  have HLL := Lib.hid hl'
  have HML := Lib.hid hm'
  clear hl' hm'
  have hbb : (n == n) = true := by simp
  go_enter Tryd.func25, Tryd.ntmps25
  go_wp2
  have hne1 : ¬ w.heap.size = w.heap.size + 1 + 1 := by omega
  have hne2 : ¬ w.heap.size + 1 + 1 = w.heap.size := by omega
  have HUP := Lib.hid (below_drew (below_a3 w (.cells #[.bool n, .slice A l c] 31) (.cells #[.bool n, .slice A' l2 c'] 31) (.cells #[.bool false, .slice none 0 0] 31)))
  go_region_held3 (fun w' => w'.cell? ⟨w.heap.size, 0, none⟩ = some (.bool n) ∧ w'.cell? ⟨w.heap.size, 1, none⟩ = some (.slice A l c) ∧
      w'.cell? ⟨w.heap.size + 1, 0, none⟩ = some (.bool n) ∧ w'.cell? ⟨w.heap.size + 1, 1, none⟩ = some (.slice A' l2 c')) (go_keep)
    (first
      | (go_at_call 53; (with_reducible refine (HM2.out _ (hL.row.up HUP.out) (hM.row.up HUP.out)).mono ?_); rintro e w1 ⟨A2, c1, R, rfl, hr1, hlim1, hv1, hl1, hb1⟩; have HB1 := Lib.hid (three (below_undrew hb1)).2.2.2.2.2.2.2.2.2; have X := three (below_undrew hb1); have hq1 := X.1; have hq2 := X.2.1; have hq3 := X.2.2.1; have hq4 := X.2.2.2.1; have hq9 := X.2.2.2.2.2.2.2.2.1; clear X hb1)
      | (go_at_call 44; refine (rsigned_pack _ _ _ R _ hl1 (by omega) hlim1 hr1).mono ?_; rintro e w2 ⟨T, rfl, hr2, hlim2, htop2, hv2, hl2, hb2⟩; have HB2 := Lib.hid (below_then HB1.out hb2 hq9); have HR2 := Lib.hid hr2; have HV2 := Lib.hid hv2; clear hq1 hq2 hq3 hq4 hr1 hr2 hv2 hb2; have X := three' HB2.out; have hq1 := X.1; have hq2 := X.2.1; have hq3 := X.2.2.1; have hq4 := X.2.2.2.1; have hq5 := X.2.2.2.2.1; have hq6 := X.2.2.2.2.2.1; have hq7 := X.2.2.2.2.2.2.1; have hq8 := X.2.2.2.2.2.2.2.1; clear X))
  all_goals
    go_wp2
    have hbw : Below w.heap.size w w2 := (below_a3 w _ _ _).trans (Below.less HB2.out (by omega))
    refine bodyPost_ret (v := .agg #[.bool (n && decide (0 < List.length T)), .slice A2 (List.length T) c1]) (by simp [results, Tryd.results25, go_sem, hq5, hq6]) rfl
      ⟨_, _, _, T, rfl, ?_, addZR n (by rw [HV2.out]; exact hv1) val4_nil, by omega, (hbw.setCell (by simp; omega) _).setCell (by simp; omega) _⟩
    rw [setCell_size, setCell_size]
    refine ⟨HR2.out.box3 HB2.out (fun _ => by simp) (fun _ => by simp) _ _, hlim2, htop2, fun hk hR => ?_⟩
    rw [hR] at hk
    simp at hk

set_option maxRecDepth 20000 in
set_option maxHeartbeats 3200000 in
theorem radd_ge (n : Bool) (A A' : Option Addr) (c c' : Nat) (L M : List Nat) (w : World) (hl : L.length ≤ 500000) (hml : M.length ≤ 500000) (hle : val4 M ≤ val4 L)
    (hL : RefR w w.heap.size n A c L) (hM : RefR w w.heap.size (!n) A' c' M) :
    Calls Tryd.prog 25 #[.agg #[.bool n, .slice A L.length c], .agg #[.bool (!n), .slice A' M.length c']] w fun e w' => ∃ k A c R, e = .returned (.agg #[.bool k, .slice A (List.length R) c]) ∧
      RefR w' w'.heap.size k A c R ∧ zR k R = zR n L + zR (!n) M ∧ List.length R ≤ L.length + M.length + 1 ∧ Below w.heap.size w w' := by
  have hM2 := fun W h1 h2 => rsub2 A A' c c' L M W hl (ref_len hL hM hle) hL.lim hM.lim hle h1 h2
  have HM2 := Lib.hid hM2
  have hC := fun W h1 h2 => rcompare_any A A' c c' L M W (by omega) (by omega) h1 h2
  have hz : cmpL L M = cmpZ (val4 L) (val4 M) := cmpL_val4 hL hM
  have hz2 : 0 ≤ cmpL L M := by rw [hz]; exact cmp_ge hle
  generalize cmpL L M = z at *
  have HC := Lib.hid hC
  clear hC hz hle
  clear hM2
  generalize hl' : L.length = l at *
  generalize hm' : M.length = l2 at *
  have HLL := Lib.hid hl'
  have HML := Lib.hid hm'
  clear hl' hm'
  have hbb : (n == !n) = false := by cases n <;> rfl
  go_enter Tryd.func25, Tryd.ntmps25
  go_wp2_with fail
  refine (HC.out _ (hL.row.up (below_a3 _ _ _ _)) (hM.row.up (below_a3 _ _ _ _))).mono ?_
  rintro e w9 ⟨rfl, nq, rfl⟩
  go_wp2_with fail
  have hne1 : ¬ w.heap.size = w.heap.size + 1 + 1 := by omega
  have hne2 : ¬ w.heap.size + 1 + 1 = w.heap.size := by omega
  have HUP := Lib.hid (below_drewN (below_a3 w (.cells #[.bool n, .slice A l c] 31) (.cells #[.bool (!n), .slice A' l2 c'] 31) (.cells #[.bool false, .slice none 0 0] 31)) (nq + 1))
  go_region_held3 (fun w' => w'.cell? ⟨w.heap.size, 0, none⟩ = some (.bool n) ∧ w'.cell? ⟨w.heap.size, 1, none⟩ = some (.slice A l c) ∧
      w'.cell? ⟨w.heap.size + 1, 0, none⟩ = some (.bool (!n)) ∧ w'.cell? ⟨w.heap.size + 1, 1, none⟩ = some (.slice A' l2 c')) (go_keep)
    (first
      | (go_at_call 55; (with_reducible refine (HM2.out _ (hL.row.up HUP.out) (hM.row.up HUP.out)).mono ?_); rintro e w1 ⟨A2, c1, R, rfl, hr1, hlim1, hv1, hl1, hb1⟩; have HB1 := Lib.hid (three (below_undrewN hb1)).2.2.2.2.2.2.2.2.2; have X := three (below_undrewN hb1); have hq1 := X.1; have hq2 := X.2.1; have hq3 := X.2.2.1; have hq4 := X.2.2.2.1; have hq9 := X.2.2.2.2.2.2.2.2.1; clear X hb1)
      | (go_at_call 44; refine (rsigned_pack _ _ _ R _ hl1 (by omega) hlim1 hr1).mono ?_; rintro e w2 ⟨T, rfl, hr2, hlim2, htop2, hv2, hl2, hb2⟩; have HB2 := Lib.hid (below_then HB1.out hb2 hq9); have HR2 := Lib.hid hr2; have HV2 := Lib.hid hv2; clear hq1 hq2 hq3 hq4 hr1 hr2 hv2 hb2; have X := three' HB2.out; have hq1 := X.1; have hq2 := X.2.1; have hq3 := X.2.2.1; have hq4 := X.2.2.2.1; have hq5 := X.2.2.2.2.1; have hq6 := X.2.2.2.2.2.1; have hq7 := X.2.2.2.2.2.2.1; have hq8 := X.2.2.2.2.2.2.2.1; clear X))
  all_goals
    go_wp2
    have hbw : Below w.heap.size w w2 := (below_a3 w _ _ _).trans (Below.less HB2.out (by omega))
    refine bodyPost_ret (v := .agg #[.bool (n && decide (0 < List.length T)), .slice A2 (List.length T) c1]) (by simp [results, Tryd.results25, go_sem, hq5, hq6]) rfl
      ⟨_, _, _, T, rfl, ?_, subZR n (by rw [HV2.out]; exact hv1) val4_nil, by omega, (hbw.setCell (by simp; omega) _).setCell (by simp; omega) _⟩
    rw [setCell_size, setCell_size]
    refine ⟨HR2.out.box3 HB2.out (fun _ => by simp) (fun _ => by simp) _ _, hlim2, htop2, fun hk hR => ?_⟩
    rw [hR] at hk
    simp at hk

set_option maxRecDepth 20000 in
set_option maxHeartbeats 3200000 in
theorem radd_lt (n : Bool) (A A' : Option Addr) (c c' : Nat) (L M : List Nat) (w : World) (hl : L.length ≤ 500000) (hml : M.length ≤ 500000) (hlt : val4 L < val4 M)
    (hL : RefR w w.heap.size n A c L) (hM : RefR w w.heap.size (!n) A' c' M) :
    Calls Tryd.prog 25 #[.agg #[.bool n, .slice A L.length c], .agg #[.bool (!n), .slice A' M.length c']] w fun e w' => ∃ k A c R, e = .returned (.agg #[.bool k, .slice A (List.length R) c]) ∧
      RefR w' w'.heap.size k A c R ∧ zR k R = zR n L + zR (!n) M ∧ List.length R ≤ L.length + M.length + 1 ∧ Below w.heap.size w w' := by
  have hM2 := fun W h1 h2 => rsub2 A' A c' c M L W hml (ref_len hM hL (by omega)) hM.lim hL.lim (by omega) h1 h2
  have HM2 := Lib.hid hM2
  have hC := fun W h1 h2 => rcompare_any A A' c c' L M W (by omega) (by omega) h1 h2
  have hz : cmpL L M = cmpZ (val4 L) (val4 M) := cmpL_val4 hL hM
  have hz2 : cmpL L M = -1 := by rw [hz]; exact cmp_lt hlt
  rw [hz2] at hC
  have HC := Lib.hid hC
  clear hC hz hz2 hlt
  clear hM2
  generalize hl' : L.length = l at *
  generalize hm' : M.length = l2 at *
  have HLL := Lib.hid hl'
  have HML := Lib.hid hm'
  clear hl' hm'
  have hbb : (n == !n) = false := by cases n <;> rfl
  go_enter Tryd.func25, Tryd.ntmps25
  go_wp2_with fail
  refine (HC.out _ (hL.row.up (below_a3 _ _ _ _)) (hM.row.up (below_a3 _ _ _ _))).mono ?_
  rintro e w9 ⟨rfl, nq, rfl⟩
  go_wp2_with fail
  have hne1 : ¬ w.heap.size = w.heap.size + 1 + 1 := by omega
  have hne2 : ¬ w.heap.size + 1 + 1 = w.heap.size := by omega
  have HUP := Lib.hid (below_drewN (below_a3 w (.cells #[.bool n, .slice A l c] 31) (.cells #[.bool (!n), .slice A' l2 c'] 31) (.cells #[.bool false, .slice none 0 0] 31)) (nq + 1))
  go_region_held3 (fun w' => w'.cell? ⟨w.heap.size, 0, none⟩ = some (.bool n) ∧ w'.cell? ⟨w.heap.size, 1, none⟩ = some (.slice A l c) ∧
      w'.cell? ⟨w.heap.size + 1, 0, none⟩ = some (.bool (!n)) ∧ w'.cell? ⟨w.heap.size + 1, 1, none⟩ = some (.slice A' l2 c')) (go_keep)
    (first
      | (go_at_call 55; (with_reducible refine (HM2.out _ (hM.row.up HUP.out) (hL.row.up HUP.out)).mono ?_); rintro e w1 ⟨A2, c1, R, rfl, hr1, hlim1, hv1, hl1, hb1⟩; have HB1 := Lib.hid (three (below_undrewN hb1)).2.2.2.2.2.2.2.2.2; have X := three (below_undrewN hb1); have hq1 := X.1; have hq2 := X.2.1; have hq3 := X.2.2.1; have hq4 := X.2.2.2.1; have hq9 := X.2.2.2.2.2.2.2.2.1; clear X hb1)
      | (go_at_call 44; refine (rsigned_pack _ _ _ R _ hl1 (by omega) hlim1 hr1).mono ?_; rintro e w2 ⟨T, rfl, hr2, hlim2, htop2, hv2, hl2, hb2⟩; have HB2 := Lib.hid (below_then HB1.out hb2 hq9); have HR2 := Lib.hid hr2; have HV2 := Lib.hid hv2; clear hq1 hq2 hq3 hq4 hr1 hr2 hv2 hb2; have X := three' HB2.out; have hq1 := X.1; have hq2 := X.2.1; have hq3 := X.2.2.1; have hq4 := X.2.2.2.1; have hq5 := X.2.2.2.2.1; have hq6 := X.2.2.2.2.2.1; have hq7 := X.2.2.2.2.2.2.1; have hq8 := X.2.2.2.2.2.2.2.1; clear X))
  all_goals
    go_wp2
    have hbw : Below w.heap.size w w2 := (below_a3 w _ _ _).trans (Below.less HB2.out (by omega))
    refine bodyPost_ret (v := .agg #[.bool ((!n) && decide (0 < List.length T)), .slice A2 (List.length T) c1]) (by simp [results, Tryd.results25, go_sem, hq5, hq6]) rfl
      ⟨_, _, _, T, rfl, ?_, ((subZR (!n) (L := M) (M := L) (R := T) (by rw [HV2.out]; exact hv1) val4_nil).trans (by rw [Bool.not_not, Int.add_comm])), by omega, (hbw.setCell (by simp; omega) _).setCell (by simp; omega) _⟩
    rw [setCell_size, setCell_size]
    refine ⟨HR2.out.box3 HB2.out (fun _ => by simp) (fun _ => by simp) _ _, hlim2, htop2, fun hk hR => ?_⟩
    rw [hR] at hk
    simp at hk

/-- 'Add' of the reference, of any two integers. -/
theorem raddI_any (n m : Bool) (A A' : Option Addr) (c c' : Nat) (L M : List Nat) (w : World) (hl : L.length ≤ 500000) (hml : M.length ≤ 500000)
    (hL : RefR w w.heap.size n A c L) (hM : RefR w w.heap.size m A' c' M) :
    Calls Tryd.prog 25 #[.agg #[.bool n, .slice A L.length c], .agg #[.bool m, .slice A' M.length c']] w fun e w' => ∃ k A c R, e = .returned (.agg #[.bool k, .slice A (List.length R) c]) ∧
      RefR w' w'.heap.size k A c R ∧ zR k R = zR n L + zR m M ∧ List.length R ≤ L.length + M.length + 1 ∧ Below w.heap.size w w' := by
  by_cases h : n = m
  · subst h
    exact radd_same n A A' c c' L M w hl hml hL hM
  · obtain rfl : m = !n := by cases n <;> cases m <;> first | rfl | exact absurd rfl h
    rcases Nat.lt_or_ge (val4 L) (val4 M) with h1 | h1
    · exact radd_lt n A A' c c' L M w hl hml h1 hL hM
    · exact radd_ge n A A' c c' L M w hl hml h1 hL hM
end Go.Proofs.YtbfbijokhlkekaaDoor
