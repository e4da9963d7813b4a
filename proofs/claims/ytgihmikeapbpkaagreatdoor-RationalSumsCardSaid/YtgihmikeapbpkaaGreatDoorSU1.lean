/- Contracts and the law of RationalSums, part 1: what was proved of each, callees first. -/
import Derived.Test.YtgihmikeapbpkaaGreatDoorK10
namespace Go.Proofs.YtgihmikeapbpkaaGreatDoor
open Go.RowKit
theorem zR_mul (n m : Bool) {L M R : List Nat} (h : val4 R = val4 L * val4 M) (h0 : R.length = 0 → val4 R = 0) : zR ((n != m) && decide (0 < R.length)) R = zR n L * zR m M := by
 have hc : ((val4 R : Nat) : Int) = (val4 L : Int) * (val4 M : Int) := by rw [h]; simp
 unfold zR
 generalize (val4 L : Int) = x at *
 generalize (val4 M : Int) = y at *
 rcases Nat.eq_zero_or_pos R.length with h1 | h1
 ·have h2 := h0 h1
  rw [h2] at hc ⊢
  have e : (decide (0 < R.length)) = false := by rw [decide_eq_false_iff_not]; omega
  rw [e, Bool.and_false]
  cases n <;> cases m <;> simp <;> grind
 ·have e : (decide (0 < R.length)) = true := by rw [decide_eq_true_iff]; omega
  rw [e, Bool.and_true, hc]
  cases n <;> cases m <;> simp <;> grind
set_option maxRecDepth 20000 in
set_option maxHeartbeats 3200000 in
theorem rmulI_any (n m : Bool) (A A' : Option Addr) (c c' : Nat) (L M : List Nat) (w : World) (hl : L.length ≤ 500000) (hml : M.length ≤ 500000)
  (hL : RefR w w.heap.size n A c L) (hM : RefR w w.heap.size m A' c' M) :
  Calls Tryz.prog 70 #[.agg #[.bool n, .slice A L.length c], .agg #[.bool m, .slice A' M.length c']] w fun e w' => ∃ k A c R, e = .returned (.agg #[.bool k, .slice A R.length c]) ∧
   RefR w' w'.heap.size k A c R ∧ zR k R = zR n L * zR m M ∧ R.length ≤ L.length + M.length ∧ Below w.heap.size w w' := by
 have hM2 := fun W h1 h2 => rmul2 A A' c c' L M W hl hml hL.lim hM.lim h1 h2
 have HM2 := Lib.hid hM2
 clear hM2
 generalize hl' : L.length = l at *
 generalize hm' : M.length = l2 at *
 have HLL := Lib.hid hl'
 have HML := Lib.hid hm'
 clear hl' hm'
 go_enter Tryz.func70, Tryz.ntmps70
 go_wp2
 have hne1 : ¬ w.heap.size = w.heap.size + 1 + 1 := by omega
 have hne2 : ¬ w.heap.size + 1 + 1 = w.heap.size := by omega
 go_region_held3 (fun w' => w'.cell? ⟨w.heap.size, 0, none⟩ = some (.bool n) ∧ w'.cell? ⟨w.heap.size, 1, none⟩ = some (.slice A l c) ∧
   w'.cell? ⟨w.heap.size + 1, 0, none⟩ = some (.bool m) ∧ w'.cell? ⟨w.heap.size + 1, 1, none⟩ = some (.slice A' l2 c')) (go_keep)
  (first
   | (go_at_call 118; refine (HM2.out _ (hL.row.up (below_drew (below_a3 _ _ _ _))) (hM.row.up (below_drew (below_a3 _ _ _ _)))).mono ?_; rintro e w1 ⟨g, c1, R, rfl, hr1, hlim1, htop1, hv1, hl1, hb1, _⟩; have HB1 := Lib.hid (three (below_undrew hb1)).2.2.2.2.2.2.2.2.2; have X := three (below_undrew hb1); have hq1 := X.1; have hq2 := X.2.1; have hq3 := X.2.2.1; have hq4 := X.2.2.2.1; have hq5 := X.2.2.2.2.1; have hq6 := X.2.2.2.2.2.1; have hq7 := X.2.2.2.2.2.2.1; have hq8 := X.2.2.2.2.2.2.2.1; have hq9 := X.2.2.2.2.2.2.2.2.1; clear X hb1)
   | (go_at_call 109; refine (rsigned_trim _ _ _ R _ hl1 htop1 hr1).mono ?_; rintro e w2 ⟨rfl, hb2⟩; have HB2 := Lib.hid (below_then HB1.out hb2 hq9); have HR2 := Lib.hid (hr1.below hb2); have hs2 := hb2.size; clear hq1 hq2 hq3 hq4 hq5 hq6 hq7 hq8 hr1 hb2; have X := three' HB2.out; have hq1 := X.1; have hq2 := X.2.1; have hq3 := X.2.2.1; have hq4 := X.2.2.2.1; have hq5 := X.2.2.2.2.1; have hq6 := X.2.2.2.2.2.1; have hq7 := X.2.2.2.2.2.2.1; have hq8 := X.2.2.2.2.2.2.2.1; clear X))
 all_goals
  go_wp2
  have hbw : Below w.heap.size w w2 := (below_a3 w _ _ _).trans (Below.less HB2.out (by omega))
  refine bodyPost_ret (v := .agg #[.bool (!(n == m) && decide (0 < R.length)), .slice (some ⟨g, 0, none⟩) R.length c1]) (by simp [results, Tryz.results70, go_sem, hq5, hq6]) rfl
   ⟨_, _, _, R, rfl, ?_, zR_mul n m hv1 val4_nil, hl1, (hbw.setCell (by simp; omega) _).setCell (by simp; omega) _⟩
  rw [setCell_size, setCell_size]
  refine ⟨(HR2.out.more hs2).box3 HB2.out (fun _ => by simp) (fun _ => by simp) _ _, hlim1, htop1, fun hk hR => ?_⟩
  rw [hR] at hk
  simp at hk
theorem ref_len {w w' : World} {B B' : Nat} {n m : Bool} {A A' : Option Addr} {c c' : Nat} {L M : List Nat} (hL : RefR w B n A c L) (hM : RefR w' B' m A' c' M) (h : val4 M ≤ val4 L) : M.length ≤ L.length := by
 rcases Nat.lt_or_ge L.length M.length with hlt | hge
 ·have := canon_lt4 hL.lim hM.top hlt; omega
 ·exact hge
set_option maxHeartbeats 3200000
set_option maxRecDepth 20000
theorem addZR (n : Bool) {L M R : List Nat} (h : val4 R = val4 L + val4 M) (h0 : R.length = 0 → val4 R = 0) : zR (n && decide (0 < R.length)) R = zR n L + zR n M := by
 unfold zR
 rcases Nat.eq_zero_or_pos R.length with h1 | h1
 ·have h2 := h0 h1
  have e : (decide (0 < R.length)) = false := by rw [decide_eq_false_iff_not]; omega
  rw [e, Bool.and_false]
  cases n <;> simp <;> omega
 ·have e : (decide (0 < R.length)) = true := by rw [decide_eq_true_iff]; omega
  rw [e, Bool.and_true]
  cases n <;> simp <;> omega
theorem subZR (n : Bool) {L M R : List Nat} (h : val4 R + val4 M = val4 L) (h0 : R.length = 0 → val4 R = 0) : zR (n && decide (0 < R.length)) R = zR n L + zR (!n) M := by
 unfold zR
 rcases Nat.eq_zero_or_pos R.length with h1 | h1
 ·have h2 := h0 h1
  have e : (decide (0 < R.length)) = false := by rw [decide_eq_false_iff_not]; omega
  rw [e, Bool.and_false]
  cases n <;> simp <;> omega
 ·have e : (decide (0 < R.length)) = true := by rw [decide_eq_true_iff]; omega
  rw [e, Bool.and_true]
  cases n <;> simp <;> omega
theorem radd_same (n : Bool) (A A' : Option Addr) (c c' : Nat) (L M : List Nat) (w : World) (hl : L.length ≤ 500000) (hml : M.length ≤ 500000)
  (hL : RefR w w.heap.size n A c L) (hM : RefR w w.heap.size n A' c' M) :
  Calls Tryz.prog 69 #[.agg #[.bool n, .slice A L.length c], .agg #[.bool n, .slice A' M.length c']] w fun e w' => ∃ k A c R, e = .returned (.agg #[.bool k, .slice A (List.length R) c]) ∧
   RefR w' w'.heap.size k A c R ∧ zR k R = zR n L + zR n M ∧ List.length R ≤ L.length + M.length + 1 ∧ Below w.heap.size w w' := by
 have hM2 := fun W h1 h2 => radd2 A A' c c' L M W hl hml hL.lim hM.lim h1 h2
 have HM2 := Lib.hid hM2
 clear hM2
 generalize hl' : L.length = l at *
 generalize hm' : M.length = l2 at *
 have HLL := Lib.hid hl'
 have HML := Lib.hid hm'
 clear hl' hm'
 have hbb : (n == n) = true := by simp
 go_enter Tryz.func69, Tryz.ntmps69
 go_wp2
 have hne1 : ¬ w.heap.size = w.heap.size + 1 + 1 := by omega
 have hne2 : ¬ w.heap.size + 1 + 1 = w.heap.size := by omega
 have HUP := Lib.hid (below_drew (below_a3 w (.cells #[.bool n, .slice A l c] 33) (.cells #[.bool n, .slice A' l2 c'] 33) (.cells #[.bool false, .slice none 0 0] 33)))
 go_region_held3 (fun w' => w'.cell? ⟨w.heap.size, 0, none⟩ = some (.bool n) ∧ w'.cell? ⟨w.heap.size, 1, none⟩ = some (.slice A l c) ∧
   w'.cell? ⟨w.heap.size + 1, 0, none⟩ = some (.bool n) ∧ w'.cell? ⟨w.heap.size + 1, 1, none⟩ = some (.slice A' l2 c')) (go_keep)
  (first
   | (go_at_call 115; (with_reducible refine (HM2.out _ (hL.row.up HUP.out) (hM.row.up HUP.out)).mono ?_); rintro e w1 ⟨A2, c1, R, rfl, hr1, hlim1, hv1, hl1, hb1⟩; have HB1 := Lib.hid (three (below_undrew hb1)).2.2.2.2.2.2.2.2.2; have X := three (below_undrew hb1); have hq1 := X.1; have hq2 := X.2.1; have hq3 := X.2.2.1; have hq4 := X.2.2.2.1; have hq9 := X.2.2.2.2.2.2.2.2.1; clear X hb1)
   | (go_at_call 109; refine (rsigned_pack _ _ _ R _ hl1 (by omega) hlim1 hr1).mono ?_; rintro e w2 ⟨T, rfl, hr2, hlim2, htop2, hv2, hl2, hb2⟩; have HB2 := Lib.hid (below_then HB1.out hb2 hq9); have HR2 := Lib.hid hr2; have HV2 := Lib.hid hv2; clear hq1 hq2 hq3 hq4 hr1 hr2 hv2 hb2; have X := three' HB2.out; have hq1 := X.1; have hq2 := X.2.1; have hq3 := X.2.2.1; have hq4 := X.2.2.2.1; have hq5 := X.2.2.2.2.1; have hq6 := X.2.2.2.2.2.1; have hq7 := X.2.2.2.2.2.2.1; have hq8 := X.2.2.2.2.2.2.2.1; clear X))
 all_goals
  go_wp2
  have hbw : Below w.heap.size w w2 := (below_a3 w _ _ _).trans (Below.less HB2.out (by omega))
  refine bodyPost_ret (v := .agg #[.bool (n && decide (0 < List.length T)), .slice A2 (List.length T) c1]) (by simp [results, Tryz.results69, go_sem, hq5, hq6]) rfl
   ⟨_, _, _, T, rfl, ?_, addZR n (by rw [HV2.out]; exact hv1) val4_nil, by omega, (hbw.setCell (by simp; omega) _).setCell (by simp; omega) _⟩
  rw [setCell_size, setCell_size]
  refine ⟨HR2.out.box3 HB2.out (fun _ => by simp) (fun _ => by simp) _ _, hlim2, htop2, fun hk hR => ?_⟩
  rw [hR] at hk
  simp at hk
theorem radd_ge (n : Bool) (A A' : Option Addr) (c c' : Nat) (L M : List Nat) (w : World) (hl : L.length ≤ 500000) (hml : M.length ≤ 500000) (hle : val4 M ≤ val4 L)
  (hL : RefR w w.heap.size n A c L) (hM : RefR w w.heap.size (!n) A' c' M) :
  Calls Tryz.prog 69 #[.agg #[.bool n, .slice A L.length c], .agg #[.bool (!n), .slice A' M.length c']] w fun e w' => ∃ k A c R, e = .returned (.agg #[.bool k, .slice A (List.length R) c]) ∧
   RefR w' w'.heap.size k A c R ∧ zR k R = zR n L + zR (!n) M ∧ List.length R ≤ L.length + M.length + 1 ∧ Below w.heap.size w w' := by
 have hM2 := fun W h1 h2 => rsub2 A A' c c' L M W hl (ref_len hL hM hle) hL.lim hM.lim hle h1 h2
 have HM2 := Lib.hid hM2
 have hC := fun W h1 h2 => rcompare_any A A' c c' L M W (by omega) (by omega) h1 h2
 have hz : cmpL L M = cmpZ (val4 L) (val4 M) := cmpL_val4 hL hM
 have hz2 : 0 ≤ cmpL L M := by rw [hz]; exact cmp_ge hle
 generalize cmpL L M = z at *
 have HC := Lib.hid hC
 clear hC hz hle hM2
 generalize hl' : L.length = l at *
 generalize hm' : M.length = l2 at *
 have HLL := Lib.hid hl'
 have HML := Lib.hid hm'
 clear hl' hm'
 have hbb : (n == !n) = false := by cases n <;> rfl
 go_enter Tryz.func69, Tryz.ntmps69
 go_wp2_with fail
 refine (HC.out _ (hL.row.up (below_a3 _ _ _ _)) (hM.row.up (below_a3 _ _ _ _))).mono ?_
 rintro e w9 ⟨rfl, nq, rfl⟩
 go_wp2_with fail
 have hne1 : ¬ w.heap.size = w.heap.size + 1 + 1 := by omega
 have hne2 : ¬ w.heap.size + 1 + 1 = w.heap.size := by omega
 have HUP := Lib.hid (below_drewN (below_a3 w (.cells #[.bool n, .slice A l c] 33) (.cells #[.bool (!n), .slice A' l2 c'] 33) (.cells #[.bool false, .slice none 0 0] 33)) (nq + 1))
 go_region_held3 (fun w' => w'.cell? ⟨w.heap.size, 0, none⟩ = some (.bool n) ∧ w'.cell? ⟨w.heap.size, 1, none⟩ = some (.slice A l c) ∧
   w'.cell? ⟨w.heap.size + 1, 0, none⟩ = some (.bool (!n)) ∧ w'.cell? ⟨w.heap.size + 1, 1, none⟩ = some (.slice A' l2 c')) (go_keep)
  (first
   | (go_at_call 117; (with_reducible refine (HM2.out _ (hL.row.up HUP.out) (hM.row.up HUP.out)).mono ?_); rintro e w1 ⟨A2, c1, R, rfl, hr1, hlim1, hv1, hl1, hb1⟩; have HB1 := Lib.hid (three (below_undrewN hb1)).2.2.2.2.2.2.2.2.2; have X := three (below_undrewN hb1); have hq1 := X.1; have hq2 := X.2.1; have hq3 := X.2.2.1; have hq4 := X.2.2.2.1; have hq9 := X.2.2.2.2.2.2.2.2.1; clear X hb1)
   | (go_at_call 109; refine (rsigned_pack _ _ _ R _ hl1 (by omega) hlim1 hr1).mono ?_; rintro e w2 ⟨T, rfl, hr2, hlim2, htop2, hv2, hl2, hb2⟩; have HB2 := Lib.hid (below_then HB1.out hb2 hq9); have HR2 := Lib.hid hr2; have HV2 := Lib.hid hv2; clear hq1 hq2 hq3 hq4 hr1 hr2 hv2 hb2; have X := three' HB2.out; have hq1 := X.1; have hq2 := X.2.1; have hq3 := X.2.2.1; have hq4 := X.2.2.2.1; have hq5 := X.2.2.2.2.1; have hq6 := X.2.2.2.2.2.1; have hq7 := X.2.2.2.2.2.2.1; have hq8 := X.2.2.2.2.2.2.2.1; clear X))
 all_goals
  go_wp2
  have hbw : Below w.heap.size w w2 := (below_a3 w _ _ _).trans (Below.less HB2.out (by omega))
  refine bodyPost_ret (v := .agg #[.bool (n && decide (0 < List.length T)), .slice A2 (List.length T) c1]) (by simp [results, Tryz.results69, go_sem, hq5, hq6]) rfl
   ⟨_, _, _, T, rfl, ?_, subZR n (by rw [HV2.out]; exact hv1) val4_nil, by omega, (hbw.setCell (by simp; omega) _).setCell (by simp; omega) _⟩
  rw [setCell_size, setCell_size]
  refine ⟨HR2.out.box3 HB2.out (fun _ => by simp) (fun _ => by simp) _ _, hlim2, htop2, fun hk hR => ?_⟩
  rw [hR] at hk
  simp at hk
theorem radd_lt (n : Bool) (A A' : Option Addr) (c c' : Nat) (L M : List Nat) (w : World) (hl : L.length ≤ 500000) (hml : M.length ≤ 500000) (hlt : val4 L < val4 M)
  (hL : RefR w w.heap.size n A c L) (hM : RefR w w.heap.size (!n) A' c' M) :
  Calls Tryz.prog 69 #[.agg #[.bool n, .slice A L.length c], .agg #[.bool (!n), .slice A' M.length c']] w fun e w' => ∃ k A c R, e = .returned (.agg #[.bool k, .slice A (List.length R) c]) ∧
   RefR w' w'.heap.size k A c R ∧ zR k R = zR n L + zR (!n) M ∧ List.length R ≤ L.length + M.length + 1 ∧ Below w.heap.size w w' := by
 have hM2 := fun W h1 h2 => rsub2 A' A c' c M L W hml (ref_len hM hL (by omega)) hM.lim hL.lim (by omega) h1 h2
 have HM2 := Lib.hid hM2
 have hC := fun W h1 h2 => rcompare_any A A' c c' L M W (by omega) (by omega) h1 h2
 have hz : cmpL L M = cmpZ (val4 L) (val4 M) := cmpL_val4 hL hM
 have hz2 : cmpL L M = -1 := by rw [hz]; exact cmp_lt hlt
 rw [hz2] at hC
 have HC := Lib.hid hC
 clear hC hz hz2 hlt hM2
 generalize hl' : L.length = l at *
 generalize hm' : M.length = l2 at *
 have HLL := Lib.hid hl'
 have HML := Lib.hid hm'
 clear hl' hm'
 have hbb : (n == !n) = false := by cases n <;> rfl
 go_enter Tryz.func69, Tryz.ntmps69
 go_wp2_with fail
 refine (HC.out _ (hL.row.up (below_a3 _ _ _ _)) (hM.row.up (below_a3 _ _ _ _))).mono ?_
 rintro e w9 ⟨rfl, nq, rfl⟩
 go_wp2_with fail
 have hne1 : ¬ w.heap.size = w.heap.size + 1 + 1 := by omega
 have hne2 : ¬ w.heap.size + 1 + 1 = w.heap.size := by omega
 have HUP := Lib.hid (below_drewN (below_a3 w (.cells #[.bool n, .slice A l c] 33) (.cells #[.bool (!n), .slice A' l2 c'] 33) (.cells #[.bool false, .slice none 0 0] 33)) (nq + 1))
 go_region_held3 (fun w' => w'.cell? ⟨w.heap.size, 0, none⟩ = some (.bool n) ∧ w'.cell? ⟨w.heap.size, 1, none⟩ = some (.slice A l c) ∧
   w'.cell? ⟨w.heap.size + 1, 0, none⟩ = some (.bool (!n)) ∧ w'.cell? ⟨w.heap.size + 1, 1, none⟩ = some (.slice A' l2 c')) (go_keep)
  (first
   | (go_at_call 117; (with_reducible refine (HM2.out _ (hM.row.up HUP.out) (hL.row.up HUP.out)).mono ?_); rintro e w1 ⟨A2, c1, R, rfl, hr1, hlim1, hv1, hl1, hb1⟩; have HB1 := Lib.hid (three (below_undrewN hb1)).2.2.2.2.2.2.2.2.2; have X := three (below_undrewN hb1); have hq1 := X.1; have hq2 := X.2.1; have hq3 := X.2.2.1; have hq4 := X.2.2.2.1; have hq9 := X.2.2.2.2.2.2.2.2.1; clear X hb1)
   | (go_at_call 109; refine (rsigned_pack _ _ _ R _ hl1 (by omega) hlim1 hr1).mono ?_; rintro e w2 ⟨T, rfl, hr2, hlim2, htop2, hv2, hl2, hb2⟩; have HB2 := Lib.hid (below_then HB1.out hb2 hq9); have HR2 := Lib.hid hr2; have HV2 := Lib.hid hv2; clear hq1 hq2 hq3 hq4 hr1 hr2 hv2 hb2; have X := three' HB2.out; have hq1 := X.1; have hq2 := X.2.1; have hq3 := X.2.2.1; have hq4 := X.2.2.2.1; have hq5 := X.2.2.2.2.1; have hq6 := X.2.2.2.2.2.1; have hq7 := X.2.2.2.2.2.2.1; have hq8 := X.2.2.2.2.2.2.2.1; clear X))
 all_goals
  go_wp2
  have hbw : Below w.heap.size w w2 := (below_a3 w _ _ _).trans (Below.less HB2.out (by omega))
  refine bodyPost_ret (v := .agg #[.bool ((!n) && decide (0 < List.length T)), .slice A2 (List.length T) c1]) (by simp [results, Tryz.results69, go_sem, hq5, hq6]) rfl
   ⟨_, _, _, T, rfl, ?_, ((subZR (!n) (L := M) (M := L) (R := T) (by rw [HV2.out]; exact hv1) val4_nil).trans (by rw [Bool.not_not, Int.add_comm])), by omega, (hbw.setCell (by simp; omega) _).setCell (by simp; omega) _⟩
  rw [setCell_size, setCell_size]
  refine ⟨HR2.out.box3 HB2.out (fun _ => by simp) (fun _ => by simp) _ _, hlim2, htop2, fun hk hR => ?_⟩
  rw [hR] at hk
  simp at hk
theorem raddI_any (n m : Bool) (A A' : Option Addr) (c c' : Nat) (L M : List Nat) (w : World) (hl : L.length ≤ 500000) (hml : M.length ≤ 500000)
  (hL : RefR w w.heap.size n A c L) (hM : RefR w w.heap.size m A' c' M) :
  Calls Tryz.prog 69 #[.agg #[.bool n, .slice A L.length c], .agg #[.bool m, .slice A' M.length c']] w fun e w' => ∃ k A c R, e = .returned (.agg #[.bool k, .slice A (List.length R) c]) ∧
   RefR w' w'.heap.size k A c R ∧ zR k R = zR n L + zR m M ∧ List.length R ≤ L.length + M.length + 1 ∧ Below w.heap.size w w' := by
 by_cases h : n = m
 ·subst h
  exact radd_same n A A' c c' L M w hl hml hL hM
 ·obtain rfl : m = !n := by cases n <;> cases m <;> first | rfl | exact absurd rfl h
  rcases Nat.lt_or_ge (val4 L) (val4 M) with h1 | h1
  ·exact radd_lt n A A' c c' L M w hl hml h1 hL hM
  ·exact radd_ge n A A' c c' L M w hl hml h1 hL hM
theorem sub_terms (x y : Rat) : x + -y = x - y := (Rat.sub_eq_add_neg x y).symm
def cmpQ (x y : Rat) : Int := if x < y then -1 else if x = y then 0 else 1
theorem cmp_terms (x y : Rat) : cmpI (x.num * y.den) (y.num * x.den) = cmpQ x y := by
 unfold cmpI cmpQ
 simp only [Rat.lt_iff, Rat.eq_iff_mul_eq_mul]
theorem sign_terms (x : Rat) : cmpI x.num 0 = cmpQ x 0 := by
 have h := cmp_terms x 0
 simpa using h
open AS (Keep NoInt)
section
variable {t : TypeId} {w w' : World} {g : Nat} {vs : List Value}
end
theorem PRat.more {x : Rat} {n m : Nat} {v : Value} {w : World} (h : PRat x n v w) (hm : n ≤ m) : PRat x m v w := by
 obtain ⟨p, q, k, A, l, c, k', A', l', c', rfl, h1, h2, h3⟩ := h
 exact ⟨p, q, k, A, l, c, k', A', l', c', rfl, h1.more hm, h2.more hm, h3⟩
theorem RRat.more {x : Rat} {n m : Nat} {v : Value} {w : World} (h : RRat x n v w) (hm : n ≤ m) : RRat x m v w := by
 obtain ⟨p, q, k, A, l, c, k', A', l', c', rfl, h1, h2, h3⟩ := h
 exact ⟨p, q, k, A, l, c, k', A', l', c', rfl, h1.more hm, h2.more hm, h3⟩
def AS.Fact.rrat (x : Rat) (n : Nat) : AS.Fact := ⟨RRat x n, fun _ _ _ hk h => h.kept hk⟩
open Go.RowKit
open AS (Keep NoInt)
theorem rmul_fact {x y : Int} {n m : Nat} {a b : Value} {w : World} (h1 : PRef x n a w) (h2 : PRef y m b w) (hn : n ≤ 500000) (hm : m ≤ 500000) :
  Calls Tryz.prog 70 #[a, b] w fun e w' => ∃ v, e = .returned v ∧ PRef (x * y) (n + m) v w' ∧ Below w.heap.size w w' := by
 obtain ⟨k, A, c, L, rfl, i1, rfl, l1⟩ := h1
 obtain ⟨k', A', c', M, rfl, i2, rfl, l2⟩ := h2
 refine (rmulI_any k k' A A' c c' L M w (by omega) (by omega) i1 i2).mono ?_
 rintro e w' ⟨q, B, d, R, rfl, hi, hz, hl, hb⟩
 exact ⟨_, rfl, ⟨q, B, d, R, rfl, hi, hz, by omega⟩, hb⟩
theorem radd_fact {x y : Int} {n m : Nat} {a b : Value} {w : World} (h1 : PRef x n a w) (h2 : PRef y m b w) (hn : n ≤ 500000) (hm : m ≤ 500000) :
  Calls Tryz.prog 69 #[a, b] w fun e w' => ∃ v, e = .returned v ∧ PRef (x + y) (n + m + 1) v w' ∧ Below w.heap.size w w' := by
 obtain ⟨k, A, c, L, rfl, i1, rfl, l1⟩ := h1
 obtain ⟨k', A', c', M, rfl, i2, rfl, l2⟩ := h2
 refine (raddI_any k k' A A' c c' L M w (by omega) (by omega) i1 i2).mono ?_
 rintro e w' ⟨q, B, d, R, rfl, hi, hz, hl, hb⟩
 exact ⟨_, rfl, ⟨q, B, d, R, rfl, hi, hz, by omega⟩, hb⟩
set_option maxRecDepth 20000 in
set_option maxHeartbeats 3200000 in
theorem copied_fact {z : Int} {n : Nat} {a : Value} {w : World} (h1 : PInt z n a w) (hn : n ≤ 400000) :
  Calls Tryz.prog 71 #[a] w fun e w' => ∃ v, e = .returned v ∧ PInt z (n + 1) v w' ∧ Below w.heap.size w w' := by
 obtain ⟨k, A, l, c, rfl⟩ := h1.open
 have H1 := Lib.hid h1
 clear h1
 go_enter Tryz.func71, Tryz.ntmps71
 go_upto_region 1 with (fail)
 change Code.wp Tryz.prog _ _ _ ((w.alloc (.cells #[.bool k, .slice A l c] 25)).alloc (.cells #[.bool false, .slice none 0 0] 25))
 obtain ⟨nb1, nb2, na⟩ := new2 w 25 [.bool k, .slice A l c] 25 [.bool false, .slice none 0 0] lf2 lf2
 have nkeep := Keep.ofBelow na
 have nbel := na
 generalize (w.alloc (.cells #[.bool k, .slice A l c] 25)).alloc (.cells #[.bool false, .slice none 0 0] 25) = W1 at *
 clear na
 have b1 := Lib.hid nb1
 have b2 := Lib.hid nb2
 clear nb1 nb2
 replace H1 := Lib.hid (H1.out.kept nkeep)
 clear nkeep
 have HB2 := Lib.hid nbel
 clear nbel
 obtain ⟨x10, x11, s1⟩ := b1.out.d2
 obtain ⟨x20, x21, z20, z21, s2⟩ := b2.out.e2
 have szb := HB2.out.size
 go_wp2_with fail
 refine (add_fact H1.out (PInt.zero 0 _) (by omega) (by omega)).mono ?_
 rintro e W3 ⟨v, rfl, hv, hb⟩
 replace b1 := hup b1 hb
 replace b2 := hup b2 hb
 replace H1 := Lib.hid (H1.out.kept (Keep.ofBelow hb))
 have nbel := below_then HB2.out hb HB2.out.size
 have HB4 := Lib.hid nbel
 clear nbel HB2 hb x10 x11 x20 x21 z20 z21 szb s1 s2
 obtain ⟨x10, x11, s1⟩ := b1.out.d2
 obtain ⟨x20, x21, z20, z21, s2⟩ := b2.out.e2
 have szb := HB4.out.size
 obtain ⟨k1, A1, l1, c1, rfl⟩ := hv.open
 have HV := Lib.hid hv
 clear hv
 go_wp2_with fail
 have hkeep := (Keep.set2 (Keep.refl W3) b2.out (Leaf.bool k1) (Leaf.slice A1 l1 c1))
 have hbel := (Below.set2 (g := w.heap.size + 1) HB4.out (by first | omega | (simp; done) | (simp; omega)) (.bool k1) (.slice A1 l1 c1))
 refine bodyPost_ret (v := .agg #[.bool k1, .slice A1 l1 c1]) (by simp [results, Tryz.results71, go_sem, x20, x21]) rfl ⟨_, rfl, by have h := HV.out.kept hkeep; simpa using h, hbel⟩
def sameFL (x : Rat) (n : Nat) : List (Nat × AS.Fact) := [(5, AS.Fact.rat (x) n), (6, AS.Fact.is (.string ⟨(ratText x).toArray⟩)), (7, AS.Fact.rrat (x) n), (8, AS.Fact.is (.string ⟨(ratText x).toArray⟩)), (9, AS.Fact.is (.bool true)), (4, AS.Fact.is (.bool true))]
set_option maxRecDepth 20000 in
set_option maxHeartbeats 3200000 in
theorem same_fact {x : Rat} {n : Nat} {v v2 : Value} {w : World} (h : PRat x n v w) (h2 : RRat x n v2 w) (hn5 : 5 ≤ n) (hn : n ≤ 10000) (ht : Tab w.heap.size w) :
  Calls Tryz.prog 18 #[v, v2] w fun e w' => e = .returned (.bool true) ∧ Below w.heap.size w w' := by
 obtain ⟨k, A, l, c, k', A', l', c', rfl⟩ := h.open
 obtain ⟨r, E, m, d, r', E', m', d', rfl⟩ := h2.open
 have H1 := Lib.hid h
 have H2 := Lib.hid h2
 have HT := Lib.hid ht
 clear h h2 ht
 go_enter Tryz.func18, Tryz.ntmps18
 go_upto_region 1 with (fail)
 change Code.wp Tryz.prog _ _ _ ((w.alloc (.cells #[.bool k, .slice A l c, .bool k', .slice A' l' c'] 27)).alloc (.cells #[.bool r, .slice E m d, .bool r', .slice E' m' d'] 35))
 obtain ⟨nb2, nb3, na⟩ := new2 w 27 [.bool k, .slice A l c, .bool k', .slice A' l' c'] 35 [.bool r, .slice E m d, .bool r', .slice E' m' d'] lf4 lf4
 have nkeep := Keep.ofBelow na
 have nbel := na
 generalize (w.alloc (.cells #[.bool k, .slice A l c, .bool k', .slice A' l' c'] 27)).alloc (.cells #[.bool r, .slice E m d, .bool r', .slice E' m' d'] 35) = W1 at *
 clear na
 have b2 := Lib.hid nb2
 have b3 := Lib.hid nb3
 clear nb2 nb3
 replace H1 := Lib.hid (H1.out.kept nkeep)
 replace H2 := Lib.hid (H2.out.kept nkeep)
 clear nkeep
 have HB2 := Lib.hid nbel
 clear nbel
 obtain ⟨x20, x21, x22, x23, s2⟩ := b2.out.d4
 obtain ⟨x30, x31, x32, x33, s3⟩ := b3.out.d4
 have szb := HB2.out.size
 have HTW := Lib.hid (tab_up HT.out HB2.out)
 refine AS.region_facts (sameFL x n) (JNo W1) [[], [5], [], [7], [6, 8], [9]] [] [[]] [0, 0, 0, 0, 0, 0] [] (fun u => by simp only [sameFL, AS.temps, List.map_cons, List.map_nil, fillL, List.setIfInBounds_toArray, List.set_cons_zero, List.set_cons_succ]; rfl) (by kernel_rfl) (by kernel_rfl) (JNo.st W1) (below_drew (Below.refl _ _)) ?_ ?_
 ·refine AS.sc rfl rfl rfl ?_ ?_
  ·intro k_ u w_ hk hJ hF K hK
   clear hF
   obtain rfl : k_ = 0 := Nat.le_zero.1 hk
   have hJ0 : Below W1.heap.size W1 w_ := hJ
   obtain ⟨y0, y1, y2, y3⟩ := ((b2.out).up hJ0).c4
   go_simp
   exact hK.out _ _ (Below.refl _ _) ((H1.out).kept (Keep.ofBelow hJ0)) trivial
  refine AS.sc rfl rfl rfl ?_ ?_
  ·intro k_ u w_ hk hJ hF K hK
   have h5 : PRat (x) n (u 5) w_ := AS.facts_get hF 5 (by simp)
   clear hF
   go_simp
   refine (ratText_fact h5 (by omega) hn (tab_up HTW.out hJ)).mono ?_
   rintro e w' ⟨rfl, hb⟩
   exact hK.out _ _ hb (rfl) trivial
  refine AS.sc rfl rfl rfl ?_ ?_
  ·intro k_ u w_ hk hJ hF K hK
   clear hF
   obtain rfl : k_ = 0 := Nat.le_zero.1 hk
   have hJ0 : Below W1.heap.size W1 w_ := hJ
   obtain ⟨y0, y1, y2, y3⟩ := ((b3.out).up hJ0).c4
   go_simp
   exact hK.out _ _ (Below.refl _ _) ((H2.out).kept (Keep.ofBelow hJ0)) trivial
  refine AS.sc rfl rfl rfl ?_ ?_
  ·intro k_ u w_ hk hJ hF K hK
   have h7 : RRat (x) n (u 7) w_ := AS.facts_get hF 7 (by simp)
   clear hF
   go_simp
   refine (rratText_fact h7 hn5 hn).mono ?_
   rintro e w' ⟨rfl, hb⟩
   exact hK.out _ _ hb (rfl) trivial
  refine AS.sc rfl rfl rfl ?_ ?_
  ·intro k_ u w_ hk hJ hF K hK
   have h6 : u 6 = .string ⟨(ratText x).toArray⟩ := AS.facts_get hF 6 (by simp)
   have h8 : u 8 = .string ⟨(ratText x).toArray⟩ := AS.facts_get hF 8 (by simp)
   clear hF
   simp only [h6, h8] at hK ⊢
   clear h6 h8
   go_simp
   exact hK.out _ _ (Below.refl _ _) (rfl) trivial
  refine AS.sc rfl rfl rfl ?_ ?_
  ·intro k_ u w_ hk hJ hF K hK
   have h9 : u 9 = .bool true := AS.facts_get hF 9 (by simp)
   clear hF
   simp only [h9] at hK ⊢
   clear h9
   go_simp
   exact hK.out _ _ (Below.refl _ _) (rfl) trivial
  exact AS.StepsOk.nil
 ·intro u W3 hJ9 hF
  have h4 : u 4 = .bool true := AS.facts_get hF 4 (by simp [sameFL, AS.temps])
  clear hF
  rw [show u 4 = _ from h4]
  clear h4
  replace b2 := hup b2 hJ9
  replace b3 := hup b3 hJ9
  replace H1 := Lib.hid (H1.out.kept (Keep.ofBelow hJ9))
  replace H2 := Lib.hid (H2.out.kept (Keep.ofBelow hJ9))
  have nbel := below_then HB2.out hJ9 HB2.out.size
  have HB4 := Lib.hid nbel
  clear nbel HB2 hJ9 x20 x21 x22 x23 x30 x31 x32 x33 szb s2 s3
  obtain ⟨x20, x21, x22, x23, s2⟩ := b2.out.d4
  obtain ⟨x30, x31, x32, x33, s3⟩ := b3.out.d4
  have szb := HB4.out.size
  go_wp2_with fail
  have hkeep := (Keep.refl W3)
  have hbel := HB4.out
  refine bodyPost_ret (v := .bool true) (by simp [results, Tryz.results18, go_sem]) rfl ⟨rfl, hbel⟩
def ratNegFL (x : Rat) (n : Nat) : List (Nat × AS.Fact) := [(10, AS.Fact.int (x.num) n), (11, AS.Fact.int (-(x.num)) n), (12, AS.Fact.int ((x.den : Int)) n), (13, AS.Fact.int ((x.den : Int)) (n + 1)), (14, AS.Fact.rat (-x) (n + 1))]
set_option maxRecDepth 20000 in
set_option maxHeartbeats 3200000 in
theorem ratNeg_fact {x : Rat} {n : Nat} {v : Value} {w : World} (h : PRat x n v w) (hn3 : 3 ≤ n) (hn : n ≤ 10000) :
  Calls Tryz.prog 24 #[v] w fun e w' => ∃ v, e = .returned v ∧ PRat (-x) (n + 1) v w' ∧ Below w.heap.size w w' := by
 obtain ⟨k, A, l, c, k', A', l', c', rfl⟩ := h.open
 have H1 := Lib.hid h
 clear h
 go_enter Tryz.func24, Tryz.ntmps24
 go_upto_region 1 with (fail)
 change Code.wp Tryz.prog _ _ _ ((w.alloc (.cells #[.bool k, .slice A l c, .bool k', .slice A' l' c'] 27)).alloc (.cells #[.bool false, .slice none 0 0, .bool false, .slice none 0 0] 27))
 obtain ⟨nb1, nb2, na⟩ := new2 w 27 [.bool k, .slice A l c, .bool k', .slice A' l' c'] 27 [.bool false, .slice none 0 0, .bool false, .slice none 0 0] lf4 lf4
 have nkeep := Keep.ofBelow na
 have nbel := na
 generalize (w.alloc (.cells #[.bool k, .slice A l c, .bool k', .slice A' l' c'] 27)).alloc (.cells #[.bool false, .slice none 0 0, .bool false, .slice none 0 0] 27) = W1 at *
 clear na
 have b1 := Lib.hid nb1
 have b2 := Lib.hid nb2
 clear nb1 nb2
 replace H1 := Lib.hid (H1.out.kept nkeep)
 clear nkeep
 have HB2 := Lib.hid nbel
 clear nbel
 obtain ⟨x1_0, x1_1, x1_2, x1_3, s1⟩ := b1.out.d4
 obtain ⟨x2_0, x2_1, x2_2, x2_3, s2⟩ := b2.out.d4
 have szb := HB2.out.size
 go_wp2_with fail
 refine (terms_fact H1.out hn3).mono ?_
 rintro e W3 ⟨k1, A1, l1, c1, j1, B1, o1, e1, rfl, ha_, hc_, hb⟩
 replace b1 := hup b1 hb
 replace b2 := hup b2 hb
 replace H1 := Lib.hid (H1.out.kept (Keep.ofBelow hb))
 have nbel := below_then HB2.out hb HB2.out.size
 have HB4 := Lib.hid nbel
 clear nbel HB2 hb x1_0 x1_1 x1_2 x1_3 x2_0 x2_1 x2_2 x2_3 szb s1 s2
 obtain ⟨x1_0, x1_1, x1_2, x1_3, s1⟩ := b1.out.d4
 obtain ⟨x2_0, x2_1, x2_2, x2_3, s2⟩ := b2.out.d4
 have szb := HB4.out.size
 have HA := Lib.hid ha_
 have HB := Lib.hid hc_
 clear ha_ hc_
 go_upto_region 2 with (fail)
 have q5 := b1.out.lt
 have q6 := b2.out.lt
 change Code.wp Tryz.prog _ _ _ ((W3.alloc (.cells #[.bool k1, .slice A1 l1 c1] 25)).alloc (.cells #[.bool j1, .slice B1 o1 e1] 25))
 obtain ⟨nb3, nb4, na⟩ := new2 W3 25 [.bool k1, .slice A1 l1 c1] 25 [.bool j1, .slice B1 o1 e1] lf2 lf2
 have nb1 := b1.out.up na
 have nb2 := b2.out.up na
 have nkeep := Keep.ofBelow na
 have nbel := below_then HB4.out na HB4.out.size
 generalize (W3.alloc (.cells #[.bool k1, .slice A1 l1 c1] 25)).alloc (.cells #[.bool j1, .slice B1 o1 e1] 25) = W7 at *
 clear na x1_0 x1_1 x1_2 x1_3 x2_0 x2_1 x2_2 x2_3 szb s1 s2 b1 b2
 have b1 := Lib.hid nb1
 have b2 := Lib.hid nb2
 have b3 := Lib.hid nb3
 have b4 := Lib.hid nb4
 clear nb1 nb2 nb3 nb4
 replace H1 := Lib.hid (H1.out.kept nkeep)
 replace HA := Lib.hid (HA.out.kept nkeep)
 replace HB := Lib.hid (HB.out.kept nkeep)
 clear nkeep
 have HB8 := Lib.hid nbel
 clear nbel HB4
 obtain ⟨x1_0, x1_1, x1_2, x1_3, s1⟩ := b1.out.d4
 obtain ⟨x2_0, x2_1, x2_2, x2_3, s2⟩ := b2.out.d4
 obtain ⟨x3_0, x3_1, s3⟩ := b3.out.d2
 obtain ⟨x4_0, x4_1, s4⟩ := b4.out.d2
 have szb := HB8.out.size
 refine AS.region_facts (ratNegFL x n) (JRes w W7 27 (w.heap.size + 1)) [[], [10], [], [12], [11, 13], [14]] [5] [[], [14]] [0, 1, 0, 1, 1, 1] [] (fun u => by simp only [ratNegFL, AS.temps, List.map_cons, List.map_nil, fillL, List.setIfInBounds_toArray, List.set_cons_zero, List.set_cons_succ]; rfl) (by kernel_rfl) (by kernel_rfl) (JRes.st w W7 27 (w.heap.size + 1)) (below_drew (Below.refl _ _)) ?_ ?_
 ·refine AS.sc rfl rfl rfl ?_ ?_
  ·intro k_ u w_ hk hJ hF K hK
   clear hF
   obtain rfl : k_ = 0 := Nat.le_zero.1 hk
   have hJ0 : Below W7.heap.size W7 w_ := hJ
   obtain ⟨y0, y1⟩ := ((b3.out).up hJ0).c2
   go_simp
   exact hK.out _ _ (Below.refl _ _) ((HA.out).kept (Keep.ofBelow hJ0)) trivial
  refine AS.sc rfl rfl rfl ?_ ?_
  ·intro k_ u w_ hk hJ hF K hK
   have h10 : PInt (x.num) n (u 10) w_ := AS.facts_get hF 10 (by simp)
   clear hF
   go_simp
   refine (neg_fact h10 (by omega)).mono ?_
   rintro e w' ⟨v, rfl, hv, hb⟩
   exact hK.out _ _ hb (hv) trivial
  refine AS.sc rfl rfl rfl ?_ ?_
  ·intro k_ u w_ hk hJ hF K hK
   clear hF
   obtain rfl : k_ = 0 := Nat.le_zero.1 hk
   have hJ0 : Below W7.heap.size W7 w_ := hJ
   obtain ⟨y0, y1⟩ := ((b4.out).up hJ0).c2
   go_simp
   exact hK.out _ _ (Below.refl _ _) ((HB.out).kept (Keep.ofBelow hJ0)) trivial
  refine AS.sc rfl rfl rfl ?_ ?_
  ·intro k_ u w_ hk hJ hF K hK
   have h12 : PInt ((x.den : Int)) n (u 12) w_ := AS.facts_get hF 12 (by simp)
   clear hF
   go_simp
   refine (copied_fact h12 (by omega)).mono ?_
   rintro e w' ⟨v, rfl, hv, hb⟩
   exact hK.out _ _ hb (hv) trivial
  refine AS.sc rfl rfl rfl ?_ ?_
  ·intro k_ u w_ hk hJ hF K hK
   have h11 : PInt (-(x.num)) n (u 11) w_ := AS.facts_get hF 11 (by simp)
   have h13 : PInt ((x.den : Int)) (n + 1) (u 13) w_ := AS.facts_get hF 13 (by simp)
   clear hF
   obtain ⟨ka, Aa, la, ca, ea⟩ := h11.open
   obtain ⟨kb, Ab, lb, cb, eb⟩ := h13.open
   rw [ea] at h11
   rw [eb] at h13
   simp only [ea, eb] at hK ⊢
   go_simp
   exact hK.out _ _ (Below.refl _ _) (PRat.mk (h11.more (by omega)) h13 rfl rfl) trivial
  refine AS.ss rfl rfl ?_ ?_
  ·intro u w_ hJ hAp hF K hK
   have h14 : PRat (-x) (n + 1) (u 14) w_ := AS.facts_get hF 14 (by simp)
   clear hF
   obtain ⟨k1, A1, l1, c1, k2, A2, l2, c2, e_⟩ := h14.open
   have hJ0 : Below W7.heap.size W7 w_ := hJ
   have bx := (b2.out).up hJ0
   have hbel := below_then HB8.out hJ0 HB8.out.size
   have y0 := bx.cell 0
   have z0 := bx.frozen 0
   have y1 := bx.cell 1
   have z1 := bx.frozen 1
   have y2 := bx.cell 2
   have z2 := bx.frozen 2
   have y3 := bx.cell 3
   have z3 := bx.frozen 3
   simp only [List.getElem?_cons_zero, List.getElem?_cons_succ] at y0 y1 y2 y3
   simp only [e_] at hK ⊢
   go_simp
   exact hK.out undef _ ⟨⟨(Below.setCell (p := ⟨w.heap.size + 1, 3, none⟩) (Below.setCell (p := ⟨w.heap.size + 1, 2, none⟩) (Below.set2 (g := w.heap.size + 1) hbel (by first | omega | (simp; done) | (simp; omega)) (.bool k1) (.slice A1 l1 c1)) (by first | omega | (simp; done) | (simp; omega)) (.bool k2)) (by first | omega | (simp; done) | (simp; omega)) (.slice A2 l2 c2)), (by simp only [setCell_size]; first | exact hsz | exact Nat.le_trans HB8.out.size hJ0.size)⟩, [.bool k1, .slice A1 l1 c1, .bool k2, .slice A2 l2 c2], by simp [e_], (Bx.set4 bx (Leaf.bool k1) (Leaf.slice A1 l1 c1) (Leaf.bool k2) (Leaf.slice A2 l2 c2))⟩ (Keep.set4 (Keep.refl w_) bx (Leaf.bool k1) (Leaf.slice A1 l1 c1) (Leaf.bool k2) (Leaf.slice A2 l2 c2))
  exact AS.StepsOk.nil
 ·intro u W9 hJ9 hF
  have h14 : PRat (-x) (n + 1) (u 14) W9 := AS.facts_get hF 14 (by simp [ratNegFL, AS.temps])
  clear hF
  obtain ⟨⟨hbel, -⟩, vs, hvs, hbx⟩ := hJ9
  obtain ⟨ka, Aa, la, ca, kb, Ab, lb, cb, ea⟩ := h14.open
  rw [ea] at h14
  obtain rfl : vs = [.bool ka, .slice Aa la ca, .bool kb, .slice Ab lb cb] := by
   have e1 := (List.cons.inj hvs).1
   rw [show u 14 = _ from ea] at e1
   have e2 := congrArg Array.toList (Value.agg.inj e1)
   simpa using e2.symm
  have y0 := hbx.cell 0
  have y1 := hbx.cell 1
  have y2 := hbx.cell 2
  have y3 := hbx.cell 3
  simp only [List.getElem?_cons_zero, List.getElem?_cons_succ] at y0 y1 y2 y3
  go_wp2_with fail
  refine bodyPost_ret (v := .agg #[.bool ka, .slice Aa la ca, .bool kb, .slice Ab lb cb]) (by simp [results, Tryz.results24, go_sem, y0, y1, y2, y3]) rfl ⟨_, rfl, h14, hbel⟩
def ratSubFL (x y : Rat) (n : Nat) : List (Nat × AS.Fact) := [(5, AS.Fact.rat (x) n), (6, AS.Fact.rat (y) n), (7, AS.Fact.rat (-y) (n + 1)), (8, AS.Fact.rat (x - y) (4 * n + 6))]
set_option maxRecDepth 20000 in
set_option maxHeartbeats 3200000 in
theorem ratSub_fact {x y : Rat} {n : Nat} {v v2 : Value} {w : World} (h : PRat x n v w) (h2 : PRat y n v2 w) (hn3 : 3 ≤ n) (hn : n ≤ 9000) :
  Calls Tryz.prog 22 #[v, v2] w fun e w' => ∃ v, e = .returned v ∧ PRat (x - y) (4 * n + 6) v w' ∧ Below w.heap.size w w' := by
 obtain ⟨k, A, l, c, k', A', l', c', rfl⟩ := h.open
 obtain ⟨r, E, m, d, r', E', m', d', rfl⟩ := h2.open
 have H1 := Lib.hid h
 have H2 := Lib.hid h2
 clear h h2
 go_enter Tryz.func22, Tryz.ntmps22
 go_upto_region 1 with (fail)
 change Code.wp Tryz.prog _ _ _ (((w.alloc (.cells #[.bool k, .slice A l c, .bool k', .slice A' l' c'] 27)).alloc (.cells #[.bool r, .slice E m d, .bool r', .slice E' m' d'] 27)).alloc (.cells #[.bool false, .slice none 0 0, .bool false, .slice none 0 0] 27))
 obtain ⟨nb2, nb3, nb4, na⟩ := new3 w 27 [.bool k, .slice A l c, .bool k', .slice A' l' c'] 27 [.bool r, .slice E m d, .bool r', .slice E' m' d'] 27 [.bool false, .slice none 0 0, .bool false, .slice none 0 0] lf4 lf4 lf4
 have nkeep := Keep.ofBelow na
 have nbel := na
 generalize ((w.alloc (.cells #[.bool k, .slice A l c, .bool k', .slice A' l' c'] 27)).alloc (.cells #[.bool r, .slice E m d, .bool r', .slice E' m' d'] 27)).alloc (.cells #[.bool false, .slice none 0 0, .bool false, .slice none 0 0] 27) = W1 at *
 clear na
 have b2 := Lib.hid nb2
 have b3 := Lib.hid nb3
 have b4 := Lib.hid nb4
 clear nb2 nb3 nb4
 replace H1 := Lib.hid (H1.out.kept nkeep)
 replace H2 := Lib.hid (H2.out.kept nkeep)
 clear nkeep
 have HB2 := Lib.hid nbel
 clear nbel
 obtain ⟨x2_0, x2_1, x2_2, x2_3, s2⟩ := b2.out.d4
 obtain ⟨x3_0, x3_1, x3_2, x3_3, s3⟩ := b3.out.d4
 obtain ⟨x4_0, x4_1, x4_2, x4_3, s4⟩ := b4.out.d4
 have szb := HB2.out.size
 refine AS.region_facts (ratSubFL x y n) (JRes w W1 27 (w.heap.size + 1 + 1)) [[], [], [6], [5, 7], [8]] [4] [[], [8]] [0, 0, 1, 1, 1] [] (fun u => by simp only [ratSubFL, AS.temps, List.map_cons, List.map_nil, fillL, List.setIfInBounds_toArray, List.set_cons_zero, List.set_cons_succ]; rfl) (by kernel_rfl) (by kernel_rfl) (JRes.st w W1 27 (w.heap.size + 1 + 1)) (below_drew (Below.refl _ _)) ?_ ?_
 ·refine AS.sc rfl rfl rfl ?_ ?_
  ·intro k_ u w_ hk hJ hF K hK
   clear hF
   obtain rfl : k_ = 0 := Nat.le_zero.1 hk
   have hJ0 : Below W1.heap.size W1 w_ := hJ
   obtain ⟨y0, y1, y2, y3⟩ := ((b2.out).up hJ0).c4
   go_simp
   exact hK.out _ _ (Below.refl _ _) ((H1.out).kept (Keep.ofBelow hJ0)) trivial
  refine AS.sc rfl rfl rfl ?_ ?_
  ·intro k_ u w_ hk hJ hF K hK
   clear hF
   obtain rfl : k_ = 0 := Nat.le_zero.1 hk
   have hJ0 : Below W1.heap.size W1 w_ := hJ
   obtain ⟨y0, y1, y2, y3⟩ := ((b3.out).up hJ0).c4
   go_simp
   exact hK.out _ _ (Below.refl _ _) ((H2.out).kept (Keep.ofBelow hJ0)) trivial
  refine AS.sc rfl rfl rfl ?_ ?_
  ·intro k_ u w_ hk hJ hF K hK
   have h6 : PRat (y) n (u 6) w_ := AS.facts_get hF 6 (by simp)
   clear hF
   go_simp
   refine (ratNeg_fact h6 hn3 (by omega)).mono ?_
   rintro e w' ⟨v, rfl, hv, hb⟩
   exact hK.out _ _ hb (hv) trivial
  refine AS.sc rfl rfl rfl ?_ ?_
  ·intro k_ u w_ hk hJ hF K hK
   have h5 : PRat (x) n (u 5) w_ := AS.facts_get hF 5 (by simp)
   have h7 : PRat (-y) (n + 1) (u 7) w_ := AS.facts_get hF 7 (by simp)
   clear hF
   go_simp
   refine (ratAdd_fact (h5.more (Nat.le_succ n)) h7 (by omega) (by omega)).mono ?_
   rintro e w' ⟨v, rfl, hv, hb⟩
   exact hK.out _ _ hb (by rw [sub_terms] at hv; exact hv.more (by omega)) trivial
  refine AS.ss rfl rfl ?_ ?_
  ·intro u w_ hJ hAp hF K hK
   have h8 : PRat (x - y) (4 * n + 6) (u 8) w_ := AS.facts_get hF 8 (by simp)
   clear hF
   obtain ⟨k1, A1, l1, c1, k2, A2, l2, c2, e_⟩ := h8.open
   have hJ0 : Below W1.heap.size W1 w_ := hJ
   have bx := (b4.out).up hJ0
   have hbel := below_then HB2.out hJ0 HB2.out.size
   have y0 := bx.cell 0
   have z0 := bx.frozen 0
   have y1 := bx.cell 1
   have z1 := bx.frozen 1
   have y2 := bx.cell 2
   have z2 := bx.frozen 2
   have y3 := bx.cell 3
   have z3 := bx.frozen 3
   simp only [List.getElem?_cons_zero, List.getElem?_cons_succ] at y0 y1 y2 y3
   simp only [e_] at hK ⊢
   go_simp
   exact hK.out undef _ ⟨⟨(Below.setCell (p := ⟨w.heap.size + 1 + 1, 3, none⟩) (Below.setCell (p := ⟨w.heap.size + 1 + 1, 2, none⟩) (Below.set2 (g := w.heap.size + 1 + 1) hbel (by first | omega | (simp; done) | (simp; omega)) (.bool k1) (.slice A1 l1 c1)) (by first | omega | (simp; done) | (simp; omega)) (.bool k2)) (by first | omega | (simp; done) | (simp; omega)) (.slice A2 l2 c2)), (by simp only [setCell_size]; first | exact hsz | exact Nat.le_trans HB2.out.size hJ0.size)⟩, [.bool k1, .slice A1 l1 c1, .bool k2, .slice A2 l2 c2], by simp [e_], (Bx.set4 bx (Leaf.bool k1) (Leaf.slice A1 l1 c1) (Leaf.bool k2) (Leaf.slice A2 l2 c2))⟩ (Keep.set4 (Keep.refl w_) bx (Leaf.bool k1) (Leaf.slice A1 l1 c1) (Leaf.bool k2) (Leaf.slice A2 l2 c2))
  exact AS.StepsOk.nil
 ·intro u W3 hJ9 hF
  have h8 : PRat (x - y) (4 * n + 6) (u 8) W3 := AS.facts_get hF 8 (by simp [ratSubFL, AS.temps])
  clear hF
  obtain ⟨⟨hbel, -⟩, vs, hvs, hbx⟩ := hJ9
  obtain ⟨ka, Aa, la, ca, kb, Ab, lb, cb, ea⟩ := h8.open
  rw [ea] at h8
  obtain rfl : vs = [.bool ka, .slice Aa la ca, .bool kb, .slice Ab lb cb] := by
   have e1 := (List.cons.inj hvs).1
   rw [show u 8 = _ from ea] at e1
   have e2 := congrArg Array.toList (Value.agg.inj e1)
   simpa using e2.symm
  have y0 := hbx.cell 0
  have y1 := hbx.cell 1
  have y2 := hbx.cell 2
  have y3 := hbx.cell 3
  simp only [List.getElem?_cons_zero, List.getElem?_cons_succ] at y0 y1 y2 y3
  go_wp2_with fail
  refine bodyPost_ret (v := .agg #[.bool ka, .slice Aa la ca, .bool kb, .slice Ab lb cb]) (by simp [results, Tryz.results22, go_sem, y0, y1, y2, y3]) rfl ⟨_, rfl, h8, hbel⟩
def ratCmpFL (x y : Rat) (n : Nat) : List (Nat × AS.Fact) := [(19, AS.Fact.int (x.num) n), (20, AS.Fact.int ((y.den : Int)) n), (21, AS.Fact.int ((x.num) * ((y.den : Int))) (n + n)), (22, AS.Fact.int (y.num) n), (23, AS.Fact.int ((x.den : Int)) n), (24, AS.Fact.int ((y.num) * ((x.den : Int))) (n + n)), (25, AS.Fact.is (.int .i64 (cmpI ((x.num) * ((y.den : Int))) ((y.num) * ((x.den : Int)))))), (4, AS.Fact.is (.int .i64 (cmpI ((x.num) * ((y.den : Int))) ((y.num) * ((x.den : Int))))))]
set_option maxRecDepth 20000 in
set_option maxHeartbeats 3200000 in
theorem ratCmp_fact {x y : Rat} {n : Nat} {v v2 : Value} {w : World} (h : PRat x n v w) (h2 : PRat y n v2 w) (hn3 : 3 ≤ n) (hn : n ≤ 10000) :
  Calls Tryz.prog 26 #[v, v2] w fun e w' => e = .returned (.int .i64 (cmpQ x y)) ∧ Below w.heap.size w w' := by
 obtain ⟨k, A, l, c, k', A', l', c', rfl⟩ := h.open
 obtain ⟨r, E, m, d, r', E', m', d', rfl⟩ := h2.open
 have H1 := Lib.hid h
 have H2 := Lib.hid h2
 clear h h2
 go_enter Tryz.func26, Tryz.ntmps26
 go_upto_region 1 with (fail)
 change Code.wp Tryz.prog _ _ _ ((w.alloc (.cells #[.bool k, .slice A l c, .bool k', .slice A' l' c'] 27)).alloc (.cells #[.bool r, .slice E m d, .bool r', .slice E' m' d'] 27))
 obtain ⟨nb2, nb3, na⟩ := new2 w 27 [.bool k, .slice A l c, .bool k', .slice A' l' c'] 27 [.bool r, .slice E m d, .bool r', .slice E' m' d'] lf4 lf4
 have nkeep := Keep.ofBelow na
 have nbel := na
 generalize (w.alloc (.cells #[.bool k, .slice A l c, .bool k', .slice A' l' c'] 27)).alloc (.cells #[.bool r, .slice E m d, .bool r', .slice E' m' d'] 27) = W1 at *
 clear na
 have b2 := Lib.hid nb2
 have b3 := Lib.hid nb3
 clear nb2 nb3
 replace H1 := Lib.hid (H1.out.kept nkeep)
 replace H2 := Lib.hid (H2.out.kept nkeep)
 clear nkeep
 have HB2 := Lib.hid nbel
 clear nbel
 obtain ⟨x20, x21, x22, x23, s2⟩ := b2.out.d4
 obtain ⟨x30, x31, x32, x33, s3⟩ := b3.out.d4
 have szb := HB2.out.size
 go_wp2_with fail
 refine (terms_fact H1.out hn3).mono ?_
 rintro e W3 ⟨k1, A1, l1, c1, j1, B1, o1, e1, rfl, ha_, hc_, hb⟩
 replace b2 := hup b2 hb
 replace b3 := hup b3 hb
 replace H1 := Lib.hid (H1.out.kept (Keep.ofBelow hb))
 replace H2 := Lib.hid (H2.out.kept (Keep.ofBelow hb))
 have nbel := below_then HB2.out hb HB2.out.size
 have HB4 := Lib.hid nbel
 clear nbel HB2 hb x20 x21 x22 x23 x30 x31 x32 x33 szb s2 s3
 obtain ⟨x20, x21, x22, x23, s2⟩ := b2.out.d4
 obtain ⟨x30, x31, x32, x33, s3⟩ := b3.out.d4
 have szb := HB4.out.size
 have HA := Lib.hid ha_
 have HB := Lib.hid hc_
 clear ha_ hc_
 go_upto_region 2 with (fail)
 have q5 := b2.out.lt
 have q6 := b3.out.lt
 change Code.wp Tryz.prog _ _ _ ((W3.alloc (.cells #[.bool k1, .slice A1 l1 c1] 25)).alloc (.cells #[.bool j1, .slice B1 o1 e1] 25))
 obtain ⟨nb5, nb6, na⟩ := new2 W3 25 [.bool k1, .slice A1 l1 c1] 25 [.bool j1, .slice B1 o1 e1] lf2 lf2
 have nb2 := b2.out.up na
 have nb3 := b3.out.up na
 have nkeep := Keep.ofBelow na
 have nbel := below_then HB4.out na HB4.out.size
 generalize (W3.alloc (.cells #[.bool k1, .slice A1 l1 c1] 25)).alloc (.cells #[.bool j1, .slice B1 o1 e1] 25) = W7 at *
 clear na x20 x21 x22 x23 x30 x31 x32 x33 szb s2 s3 b2 b3
 have b2 := Lib.hid nb2
 have b3 := Lib.hid nb3
 have b5 := Lib.hid nb5
 have b6 := Lib.hid nb6
 clear nb2 nb3 nb5 nb6
 replace H1 := Lib.hid (H1.out.kept nkeep)
 replace H2 := Lib.hid (H2.out.kept nkeep)
 replace HA := Lib.hid (HA.out.kept nkeep)
 replace HB := Lib.hid (HB.out.kept nkeep)
 clear nkeep
 have HB8 := Lib.hid nbel
 clear nbel HB4
 obtain ⟨x20, x21, x22, x23, s2⟩ := b2.out.d4
 obtain ⟨x30, x31, x32, x33, s3⟩ := b3.out.d4
 obtain ⟨x50, x51, s5⟩ := b5.out.d2
 obtain ⟨x60, x61, s6⟩ := b6.out.d2
 have szb := HB8.out.size
 go_wp2_with fail
 refine (terms_fact H2.out hn3).mono ?_
 rintro e W9 ⟨k2, A2, l2, c2, j2, B2, o2, e2, rfl, ha_, hc_, hb⟩
 replace b2 := hup b2 hb
 replace b3 := hup b3 hb
 replace b5 := hup b5 hb
 replace b6 := hup b6 hb
 replace H1 := Lib.hid (H1.out.kept (Keep.ofBelow hb))
 replace H2 := Lib.hid (H2.out.kept (Keep.ofBelow hb))
 replace HA := Lib.hid (HA.out.kept (Keep.ofBelow hb))
 replace HB := Lib.hid (HB.out.kept (Keep.ofBelow hb))
 have nbel := below_then HB8.out hb HB8.out.size
 have HB10 := Lib.hid nbel
 clear nbel HB8 hb x20 x21 x22 x23 x30 x31 x32 x33 x50 x51 x60 x61 szb s2 s3 s5 s6
 obtain ⟨x20, x21, x22, x23, s2⟩ := b2.out.d4
 obtain ⟨x30, x31, x32, x33, s3⟩ := b3.out.d4
 obtain ⟨x50, x51, s5⟩ := b5.out.d2
 obtain ⟨x60, x61, s6⟩ := b6.out.d2
 have szb := HB10.out.size
 have HC := Lib.hid ha_
 have HD := Lib.hid hc_
 clear ha_ hc_
 go_upto_region 3 with (fail)
 have q11 := b2.out.lt
 have q12 := b3.out.lt
 have q13 := b5.out.lt
 have q14 := b6.out.lt
 change Code.wp Tryz.prog _ _ _ ((W9.alloc (.cells #[.bool k2, .slice A2 l2 c2] 25)).alloc (.cells #[.bool j2, .slice B2 o2 e2] 25))
 obtain ⟨nb7, nb8, na⟩ := new2 W9 25 [.bool k2, .slice A2 l2 c2] 25 [.bool j2, .slice B2 o2 e2] lf2 lf2
 have nb2 := b2.out.up na
 have nb3 := b3.out.up na
 have nb5 := b5.out.up na
 have nb6 := b6.out.up na
 have nkeep := Keep.ofBelow na
 have nbel := below_then HB10.out na HB10.out.size
 generalize (W9.alloc (.cells #[.bool k2, .slice A2 l2 c2] 25)).alloc (.cells #[.bool j2, .slice B2 o2 e2] 25) = W15 at *
 clear na x20 x21 x22 x23 x30 x31 x32 x33 x50 x51 x60 x61 szb s2 s3 s5 s6 b2 b3 b5 b6
 have b2 := Lib.hid nb2
 have b3 := Lib.hid nb3
 have b5 := Lib.hid nb5
 have b6 := Lib.hid nb6
 have b7 := Lib.hid nb7
 have b8 := Lib.hid nb8
 clear nb2 nb3 nb5 nb6 nb7 nb8
 replace H1 := Lib.hid (H1.out.kept nkeep)
 replace H2 := Lib.hid (H2.out.kept nkeep)
 replace HA := Lib.hid (HA.out.kept nkeep)
 replace HB := Lib.hid (HB.out.kept nkeep)
 replace HC := Lib.hid (HC.out.kept nkeep)
 replace HD := Lib.hid (HD.out.kept nkeep)
 clear nkeep
 have HB16 := Lib.hid nbel
 clear nbel HB10
 obtain ⟨x20, x21, x22, x23, s2⟩ := b2.out.d4
 obtain ⟨x30, x31, x32, x33, s3⟩ := b3.out.d4
 obtain ⟨x50, x51, s5⟩ := b5.out.d2
 obtain ⟨x60, x61, s6⟩ := b6.out.d2
 obtain ⟨x70, x71, s7⟩ := b7.out.d2
 obtain ⟨x80, x81, s8⟩ := b8.out.d2
 have szb := HB16.out.size
 refine AS.region_facts (ratCmpFL x y n) (JNo W15) [[], [], [19, 20], [], [], [22, 23], [21, 24], [25]] [] [[]] [0, 0, 0, 0, 0, 0, 0, 0] [] (fun u => by simp only [ratCmpFL, AS.temps, List.map_cons, List.map_nil, fillL, List.setIfInBounds_toArray, List.set_cons_zero, List.set_cons_succ]; rfl) (by kernel_rfl) (by kernel_rfl) (JNo.st W15) (below_drew (Below.refl _ _)) ?_ ?_
 ·refine AS.sc rfl rfl rfl ?_ ?_
  ·intro k_ u w_ hk hJ hF K hK
   clear hF
   obtain rfl : k_ = 0 := Nat.le_zero.1 hk
   have hJ0 : Below W15.heap.size W15 w_ := hJ
   obtain ⟨y0, y1⟩ := ((b5.out).up hJ0).c2
   go_simp
   exact hK.out _ _ (Below.refl _ _) ((HA.out).kept (Keep.ofBelow hJ0)) trivial
  refine AS.sc rfl rfl rfl ?_ ?_
  ·intro k_ u w_ hk hJ hF K hK
   clear hF
   obtain rfl : k_ = 0 := Nat.le_zero.1 hk
   have hJ0 : Below W15.heap.size W15 w_ := hJ
   obtain ⟨y0, y1⟩ := ((b8.out).up hJ0).c2
   go_simp
   exact hK.out _ _ (Below.refl _ _) ((HD.out).kept (Keep.ofBelow hJ0)) trivial
  refine AS.sc rfl rfl rfl ?_ ?_
  ·intro k_ u w_ hk hJ hF K hK
   have h19 : PInt (x.num) n (u 19) w_ := AS.facts_get hF 19 (by simp)
   have h20 : PInt ((y.den : Int)) n (u 20) w_ := AS.facts_get hF 20 (by simp)
   clear hF
   go_simp
   refine (mul_fact h19 h20 (by omega) (by omega)).mono ?_
   rintro e w' ⟨v, rfl, hv, hb⟩
   exact hK.out _ _ hb (hv) trivial
  refine AS.sc rfl rfl rfl ?_ ?_
  ·intro k_ u w_ hk hJ hF K hK
   clear hF
   obtain rfl : k_ = 0 := Nat.le_zero.1 hk
   have hJ0 : Below W15.heap.size W15 w_ := hJ
   obtain ⟨y0, y1⟩ := ((b7.out).up hJ0).c2
   go_simp
   exact hK.out _ _ (Below.refl _ _) ((HC.out).kept (Keep.ofBelow hJ0)) trivial
  refine AS.sc rfl rfl rfl ?_ ?_
  ·intro k_ u w_ hk hJ hF K hK
   clear hF
   obtain rfl : k_ = 0 := Nat.le_zero.1 hk
   have hJ0 : Below W15.heap.size W15 w_ := hJ
   obtain ⟨y0, y1⟩ := ((b6.out).up hJ0).c2
   go_simp
   exact hK.out _ _ (Below.refl _ _) ((HB.out).kept (Keep.ofBelow hJ0)) trivial
  refine AS.sc rfl rfl rfl ?_ ?_
  ·intro k_ u w_ hk hJ hF K hK
   have h22 : PInt (y.num) n (u 22) w_ := AS.facts_get hF 22 (by simp)
   have h23 : PInt ((x.den : Int)) n (u 23) w_ := AS.facts_get hF 23 (by simp)
   clear hF
   go_simp
   refine (mul_fact h22 h23 (by omega) (by omega)).mono ?_
   rintro e w' ⟨v, rfl, hv, hb⟩
   exact hK.out _ _ hb (hv) trivial
  refine AS.sc rfl rfl rfl ?_ ?_
  ·intro k_ u w_ hk hJ hF K hK
   have h21 : PInt ((x.num) * ((y.den : Int))) (n + n) (u 21) w_ := AS.facts_get hF 21 (by simp)
   have h24 : PInt ((y.num) * ((x.den : Int))) (n + n) (u 24) w_ := AS.facts_get hF 24 (by simp)
   clear hF
   go_simp
   refine (cmp_fact h21 h24 (by omega) (by omega)).mono ?_
   rintro e w' ⟨rfl, hb⟩
   exact hK.out _ _ hb (rfl) trivial
  refine AS.sc rfl rfl rfl ?_ ?_
  ·intro k_ u w_ hk hJ hF K hK
   have h25 : u 25 = .int .i64 (cmpI ((x.num) * ((y.den : Int))) ((y.num) * ((x.den : Int)))) := AS.facts_get hF 25 (by simp)
   clear hF
   simp only [h25] at hK ⊢
   clear h25
   go_simp
   exact hK.out _ _ (Below.refl _ _) (rfl) trivial
  exact AS.StepsOk.nil
 ·intro u W17 hJ9 hF
  have h4 : u 4 = .int .i64 (cmpI ((x.num) * ((y.den : Int))) ((y.num) * ((x.den : Int)))) := AS.facts_get hF 4 (by simp [ratCmpFL, AS.temps])
  clear hF
  rw [cmp_terms] at h4
  have hbel := below_then HB16.out hJ9 HB16.out.size
  go_wp2_with fail
  refine bodyPost_ret (v := .int .i64 (cmpQ x y)) (by simp [results, Tryz.results26, go_sem, h4]) rfl ⟨rfl, hbel⟩
def rratAddFL (x y : Rat) (n : Nat) : List (Nat × AS.Fact) := [(19, AS.Fact.ref (x.num) n), (20, AS.Fact.ref ((y.den : Int)) n), (21, AS.Fact.ref ((x.num) * ((y.den : Int))) (n + n)), (22, AS.Fact.ref (y.num) n), (23, AS.Fact.ref ((x.den : Int)) n), (24, AS.Fact.ref ((y.num) * ((x.den : Int))) (n + n)), (25, AS.Fact.ref (((x.num) * ((y.den : Int))) + ((y.num) * ((x.den : Int)))) (((n + n) + (n + n)) + 1)), (26, AS.Fact.ref ((x.den : Int)) n), (27, AS.Fact.ref ((y.den : Int)) n), (28, AS.Fact.ref (((x.den : Int)) * ((y.den : Int))) (n + n)), (29, AS.Fact.rrat (x + y) (4 * n + 1))]
set_option maxRecDepth 20000 in
set_option maxHeartbeats 3200000 in
theorem rratAdd_fact {x y : Rat} {n : Nat} {v v2 : Value} {w : World} (h : RRat x n v w) (h2 : RRat y n v2 w) (hn3 : 5 ≤ n) (hn : n ≤ 4000) :
  Calls Tryz.prog 21 #[v, v2] w fun e w' => ∃ v, e = .returned v ∧ RRat (x + y) (4 * n + 1) v w' ∧ Below w.heap.size w w' := by
 obtain ⟨k, A, l, c, k', A', l', c', rfl⟩ := h.open
 obtain ⟨r, E, m, d, r', E', m', d', rfl⟩ := h2.open
 have H1 := Lib.hid h
 have H2 := Lib.hid h2
 clear h h2
 go_enter Tryz.func21, Tryz.ntmps21
 go_upto_region 1 with (fail)
 change Code.wp Tryz.prog _ _ _ (((w.alloc (.cells #[.bool k, .slice A l c, .bool k', .slice A' l' c'] 35)).alloc (.cells #[.bool r, .slice E m d, .bool r', .slice E' m' d'] 35)).alloc (.cells #[.bool false, .slice none 0 0, .bool false, .slice none 0 0] 35))
 obtain ⟨nb2, nb3, nb4, na⟩ := new3 w 35 [.bool k, .slice A l c, .bool k', .slice A' l' c'] 35 [.bool r, .slice E m d, .bool r', .slice E' m' d'] 35 [.bool false, .slice none 0 0, .bool false, .slice none 0 0] lf4 lf4 lf4
 have nkeep := Keep.ofBelow na
 have nbel := na
 generalize ((w.alloc (.cells #[.bool k, .slice A l c, .bool k', .slice A' l' c'] 35)).alloc (.cells #[.bool r, .slice E m d, .bool r', .slice E' m' d'] 35)).alloc (.cells #[.bool false, .slice none 0 0, .bool false, .slice none 0 0] 35) = W1 at *
 clear na
 have b2 := Lib.hid nb2
 have b3 := Lib.hid nb3
 have b4 := Lib.hid nb4
 clear nb2 nb3 nb4
 replace H1 := Lib.hid (H1.out.kept nkeep)
 replace H2 := Lib.hid (H2.out.kept nkeep)
 clear nkeep
 have HB2 := Lib.hid nbel
 clear nbel
 obtain ⟨x2_0, x2_1, x2_2, x2_3, s2⟩ := b2.out.d4
 obtain ⟨x3_0, x3_1, x3_2, x3_3, s3⟩ := b3.out.d4
 obtain ⟨x4_0, x4_1, x4_2, x4_3, s4⟩ := b4.out.d4
 have szb := HB2.out.size
 go_wp2_with fail
 refine (rparts_fact H1.out hn3).mono ?_
 rintro e W3 ⟨k1, A1, l1, c1, j1, B1, o1, e1, rfl, ha_, hc_, hb⟩
 replace b2 := hup b2 hb
 replace b3 := hup b3 hb
 replace b4 := hup b4 hb
 replace H1 := Lib.hid (H1.out.kept (Keep.ofBelow hb))
 replace H2 := Lib.hid (H2.out.kept (Keep.ofBelow hb))
 have nbel := below_then HB2.out hb HB2.out.size
 have HB4 := Lib.hid nbel
 clear nbel HB2 hb x2_0 x2_1 x2_2 x2_3 x3_0 x3_1 x3_2 x3_3 x4_0 x4_1 x4_2 x4_3 szb s2 s3 s4
 obtain ⟨x2_0, x2_1, x2_2, x2_3, s2⟩ := b2.out.d4
 obtain ⟨x3_0, x3_1, x3_2, x3_3, s3⟩ := b3.out.d4
 obtain ⟨x4_0, x4_1, x4_2, x4_3, s4⟩ := b4.out.d4
 have szb := HB4.out.size
 have HA := Lib.hid ha_
 have HB := Lib.hid hc_
 clear ha_ hc_
 go_upto_region 2 with (fail)
 have q5 := b2.out.lt
 have q6 := b3.out.lt
 have q7 := b4.out.lt
 change Code.wp Tryz.prog _ _ _ ((W3.alloc (.cells #[.bool k1, .slice A1 l1 c1] 33)).alloc (.cells #[.bool j1, .slice B1 o1 e1] 33))
 obtain ⟨nb5, nb6, na⟩ := new2 W3 33 [.bool k1, .slice A1 l1 c1] 33 [.bool j1, .slice B1 o1 e1] lf2 lf2
 have nb2 := b2.out.up na
 have nb3 := b3.out.up na
 have nb4 := b4.out.up na
 have nkeep := Keep.ofBelow na
 have nbel := below_then HB4.out na HB4.out.size
 generalize (W3.alloc (.cells #[.bool k1, .slice A1 l1 c1] 33)).alloc (.cells #[.bool j1, .slice B1 o1 e1] 33) = W8 at *
 clear na x2_0 x2_1 x2_2 x2_3 x3_0 x3_1 x3_2 x3_3 x4_0 x4_1 x4_2 x4_3 szb s2 s3 s4 b2 b3 b4
 have b2 := Lib.hid nb2
 have b3 := Lib.hid nb3
 have b4 := Lib.hid nb4
 have b5 := Lib.hid nb5
 have b6 := Lib.hid nb6
 clear nb2 nb3 nb4 nb5 nb6
 replace H1 := Lib.hid (H1.out.kept nkeep)
 replace H2 := Lib.hid (H2.out.kept nkeep)
 replace HA := Lib.hid (HA.out.kept nkeep)
 replace HB := Lib.hid (HB.out.kept nkeep)
 clear nkeep
 have HB9 := Lib.hid nbel
 clear nbel HB4
 obtain ⟨x2_0, x2_1, x2_2, x2_3, s2⟩ := b2.out.d4
 obtain ⟨x3_0, x3_1, x3_2, x3_3, s3⟩ := b3.out.d4
 obtain ⟨x4_0, x4_1, x4_2, x4_3, s4⟩ := b4.out.d4
 obtain ⟨x5_0, x5_1, s5⟩ := b5.out.d2
 obtain ⟨x6_0, x6_1, s6⟩ := b6.out.d2
 have szb := HB9.out.size
 go_wp2_with fail
 refine (rparts_fact H2.out hn3).mono ?_
 rintro e W10 ⟨k2, A2, l2, c2, j2, B2, o2, e2, rfl, ha_, hc_, hb⟩
 replace b2 := hup b2 hb
 replace b3 := hup b3 hb
 replace b4 := hup b4 hb
 replace b5 := hup b5 hb
 replace b6 := hup b6 hb
 replace H1 := Lib.hid (H1.out.kept (Keep.ofBelow hb))
 replace H2 := Lib.hid (H2.out.kept (Keep.ofBelow hb))
 replace HA := Lib.hid (HA.out.kept (Keep.ofBelow hb))
 replace HB := Lib.hid (HB.out.kept (Keep.ofBelow hb))
 have nbel := below_then HB9.out hb HB9.out.size
 have HB11 := Lib.hid nbel
 clear nbel HB9 hb x2_0 x2_1 x2_2 x2_3 x3_0 x3_1 x3_2 x3_3 x4_0 x4_1 x4_2 x4_3 x5_0 x5_1 x6_0 x6_1 szb s2 s3 s4 s5 s6
 obtain ⟨x2_0, x2_1, x2_2, x2_3, s2⟩ := b2.out.d4
 obtain ⟨x3_0, x3_1, x3_2, x3_3, s3⟩ := b3.out.d4
 obtain ⟨x4_0, x4_1, x4_2, x4_3, s4⟩ := b4.out.d4
 obtain ⟨x5_0, x5_1, s5⟩ := b5.out.d2
 obtain ⟨x6_0, x6_1, s6⟩ := b6.out.d2
 have szb := HB11.out.size
 have HC := Lib.hid ha_
 have HD := Lib.hid hc_
 clear ha_ hc_
 go_upto_region 3 with (fail)
 have q12 := b2.out.lt
 have q13 := b3.out.lt
 have q14 := b4.out.lt
 have q15 := b5.out.lt
 have q16 := b6.out.lt
 change Code.wp Tryz.prog _ _ _ ((W10.alloc (.cells #[.bool k2, .slice A2 l2 c2] 33)).alloc (.cells #[.bool j2, .slice B2 o2 e2] 33))
 obtain ⟨nb7, nb8, na⟩ := new2 W10 33 [.bool k2, .slice A2 l2 c2] 33 [.bool j2, .slice B2 o2 e2] lf2 lf2
 have nb2 := b2.out.up na
 have nb3 := b3.out.up na
 have nb4 := b4.out.up na
 have nb5 := b5.out.up na
 have nb6 := b6.out.up na
 have nkeep := Keep.ofBelow na
 have nbel := below_then HB11.out na HB11.out.size
 generalize (W10.alloc (.cells #[.bool k2, .slice A2 l2 c2] 33)).alloc (.cells #[.bool j2, .slice B2 o2 e2] 33) = W17 at *
 clear na x2_0 x2_1 x2_2 x2_3 x3_0 x3_1 x3_2 x3_3 x4_0 x4_1 x4_2 x4_3 x5_0 x5_1 x6_0 x6_1 szb s2 s3 s4 s5 s6 b2 b3 b4 b5 b6
 have b2 := Lib.hid nb2
 have b3 := Lib.hid nb3
 have b4 := Lib.hid nb4
 have b5 := Lib.hid nb5
 have b6 := Lib.hid nb6
 have b7 := Lib.hid nb7
 have b8 := Lib.hid nb8
 clear nb2 nb3 nb4 nb5 nb6 nb7 nb8
 replace H1 := Lib.hid (H1.out.kept nkeep)
 replace H2 := Lib.hid (H2.out.kept nkeep)
 replace HA := Lib.hid (HA.out.kept nkeep)
 replace HB := Lib.hid (HB.out.kept nkeep)
 replace HC := Lib.hid (HC.out.kept nkeep)
 replace HD := Lib.hid (HD.out.kept nkeep)
 clear nkeep
 have HB18 := Lib.hid nbel
 clear nbel HB11
 obtain ⟨x2_0, x2_1, x2_2, x2_3, s2⟩ := b2.out.d4
 obtain ⟨x3_0, x3_1, x3_2, x3_3, s3⟩ := b3.out.d4
 obtain ⟨x4_0, x4_1, x4_2, x4_3, s4⟩ := b4.out.d4
 obtain ⟨x5_0, x5_1, s5⟩ := b5.out.d2
 obtain ⟨x6_0, x6_1, s6⟩ := b6.out.d2
 obtain ⟨x7_0, x7_1, s7⟩ := b7.out.d2
 obtain ⟨x8_0, x8_1, s8⟩ := b8.out.d2
 have szb := HB18.out.size
 refine AS.region_facts (rratAddFL x y n) (JRes w W17 35 (w.heap.size + 1 + 1)) [[], [], [19, 20], [], [], [22, 23], [21, 24], [], [], [26, 27], [25, 28], [29]] [11] [[], [29]] [0, 0, 1, 0, 0, 1, 1, 0, 0, 1, 1, 1] [] (fun u => by simp only [rratAddFL, AS.temps, List.map_cons, List.map_nil, fillL, List.setIfInBounds_toArray, List.set_cons_zero, List.set_cons_succ]; rfl) (by kernel_rfl) (by kernel_rfl) (JRes.st w W17 35 (w.heap.size + 1 + 1)) (below_drew (Below.refl _ _)) ?_ ?_
 ·refine AS.sc rfl rfl rfl ?_ ?_
  ·intro k_ u w_ hk hJ hF K hK
   clear hF
   obtain rfl : k_ = 0 := Nat.le_zero.1 hk
   have hJ0 : Below W17.heap.size W17 w_ := hJ
   obtain ⟨y0, y1⟩ := ((b5.out).up hJ0).c2
   go_simp
   exact hK.out _ _ (Below.refl _ _) ((HA.out).kept (Keep.ofBelow hJ0)) trivial
  refine AS.sc rfl rfl rfl ?_ ?_
  ·intro k_ u w_ hk hJ hF K hK
   clear hF
   obtain rfl : k_ = 0 := Nat.le_zero.1 hk
   have hJ0 : Below W17.heap.size W17 w_ := hJ
   obtain ⟨y0, y1⟩ := ((b8.out).up hJ0).c2
   go_simp
   exact hK.out _ _ (Below.refl _ _) ((HD.out).kept (Keep.ofBelow hJ0)) trivial
  refine AS.sc rfl rfl rfl ?_ ?_
  ·intro k_ u w_ hk hJ hF K hK
   have h19 : PRef (x.num) n (u 19) w_ := AS.facts_get hF 19 (by simp)
   have h20 : PRef ((y.den : Int)) n (u 20) w_ := AS.facts_get hF 20 (by simp)
   clear hF
   go_simp
   refine (rmul_fact h19 h20 (by omega) (by omega)).mono ?_
   rintro e w' ⟨v, rfl, hv, hb⟩
   exact hK.out _ _ hb (hv) trivial
  refine AS.sc rfl rfl rfl ?_ ?_
  ·intro k_ u w_ hk hJ hF K hK
   clear hF
   obtain rfl : k_ = 0 := Nat.le_zero.1 hk
   have hJ0 : Below W17.heap.size W17 w_ := hJ
   obtain ⟨y0, y1⟩ := ((b7.out).up hJ0).c2
   go_simp
   exact hK.out _ _ (Below.refl _ _) ((HC.out).kept (Keep.ofBelow hJ0)) trivial
  refine AS.sc rfl rfl rfl ?_ ?_
  ·intro k_ u w_ hk hJ hF K hK
   clear hF
   obtain rfl : k_ = 0 := Nat.le_zero.1 hk
   have hJ0 : Below W17.heap.size W17 w_ := hJ
   obtain ⟨y0, y1⟩ := ((b6.out).up hJ0).c2
   go_simp
   exact hK.out _ _ (Below.refl _ _) ((HB.out).kept (Keep.ofBelow hJ0)) trivial
  refine AS.sc rfl rfl rfl ?_ ?_
  ·intro k_ u w_ hk hJ hF K hK
   have h22 : PRef (y.num) n (u 22) w_ := AS.facts_get hF 22 (by simp)
   have h23 : PRef ((x.den : Int)) n (u 23) w_ := AS.facts_get hF 23 (by simp)
   clear hF
   go_simp
   refine (rmul_fact h22 h23 (by omega) (by omega)).mono ?_
   rintro e w' ⟨v, rfl, hv, hb⟩
   exact hK.out _ _ hb (hv) trivial
  refine AS.sc rfl rfl rfl ?_ ?_
  ·intro k_ u w_ hk hJ hF K hK
   have h21 : PRef ((x.num) * ((y.den : Int))) (n + n) (u 21) w_ := AS.facts_get hF 21 (by simp)
   have h24 : PRef ((y.num) * ((x.den : Int))) (n + n) (u 24) w_ := AS.facts_get hF 24 (by simp)
   clear hF
   go_simp
   refine (radd_fact h21 h24 (by omega) (by omega)).mono ?_
   rintro e w' ⟨v, rfl, hv, hb⟩
   exact hK.out _ _ hb (hv) trivial
  refine AS.sc rfl rfl rfl ?_ ?_
  ·intro k_ u w_ hk hJ hF K hK
   clear hF
   obtain rfl : k_ = 0 := Nat.le_zero.1 hk
   have hJ0 : Below W17.heap.size W17 w_ := hJ
   obtain ⟨y0, y1⟩ := ((b6.out).up hJ0).c2
   go_simp
   exact hK.out _ _ (Below.refl _ _) ((HB.out).kept (Keep.ofBelow hJ0)) trivial
  refine AS.sc rfl rfl rfl ?_ ?_
  ·intro k_ u w_ hk hJ hF K hK
   clear hF
   obtain rfl : k_ = 0 := Nat.le_zero.1 hk
   have hJ0 : Below W17.heap.size W17 w_ := hJ
   obtain ⟨y0, y1⟩ := ((b8.out).up hJ0).c2
   go_simp
   exact hK.out _ _ (Below.refl _ _) ((HD.out).kept (Keep.ofBelow hJ0)) trivial
  refine AS.sc rfl rfl rfl ?_ ?_
  ·intro k_ u w_ hk hJ hF K hK
   have h26 : PRef ((x.den : Int)) n (u 26) w_ := AS.facts_get hF 26 (by simp)
   have h27 : PRef ((y.den : Int)) n (u 27) w_ := AS.facts_get hF 27 (by simp)
   clear hF
   go_simp
   refine (rmul_fact h26 h27 (by omega) (by omega)).mono ?_
   rintro e w' ⟨v, rfl, hv, hb⟩
   exact hK.out _ _ hb (hv) trivial
  refine AS.sc rfl rfl rfl ?_ ?_
  ·intro k_ u w_ hk hJ hF K hK
   have h25 : PRef (((x.num) * ((y.den : Int))) + ((y.num) * ((x.den : Int)))) (((n + n) + (n + n)) + 1) (u 25) w_ := AS.facts_get hF 25 (by simp)
   have h28 : PRef (((x.den : Int)) * ((y.den : Int))) (n + n) (u 28) w_ := AS.facts_get hF 28 (by simp)
   clear hF
   go_simp
   refine (rquot_fact (n := (4 * n + 1)) (h25.more (by omega)) (h28.more (by omega)) (by omega) (mul_ne (den_ne x) (den_ne y))).mono ?_
   rintro e w' ⟨v, rfl, hv, hb⟩
   exact hK.out _ _ hb (by rw [add_terms] at hv; exact hv) trivial
  refine AS.ss rfl rfl ?_ ?_
  ·intro u w_ hJ hAp hF K hK
   have h29 : RRat (x + y) (4 * n + 1) (u 29) w_ := AS.facts_get hF 29 (by simp)
   clear hF
   obtain ⟨k1, A1, l1, c1, k2, A2, l2, c2, e_⟩ := h29.open
   have hJ0 : Below W17.heap.size W17 w_ := hJ
   have bx := (b4.out).up hJ0
   have hbel := below_then HB18.out hJ0 HB18.out.size
   have y0 := bx.cell 0
   have z0 := bx.frozen 0
   have y1 := bx.cell 1
   have z1 := bx.frozen 1
   have y2 := bx.cell 2
   have z2 := bx.frozen 2
   have y3 := bx.cell 3
   have z3 := bx.frozen 3
   simp only [List.getElem?_cons_zero, List.getElem?_cons_succ] at y0 y1 y2 y3
   simp only [e_] at hK ⊢
   go_simp
   exact hK.out undef _ ⟨⟨(Below.setCell (p := ⟨w.heap.size + 1 + 1, 3, none⟩) (Below.setCell (p := ⟨w.heap.size + 1 + 1, 2, none⟩) (Below.set2 (g := w.heap.size + 1 + 1) hbel (by first | omega | (simp; done) | (simp; omega)) (.bool k1) (.slice A1 l1 c1)) (by first | omega | (simp; done) | (simp; omega)) (.bool k2)) (by first | omega | (simp; done) | (simp; omega)) (.slice A2 l2 c2)), (by simp only [setCell_size]; first | exact hsz | exact Nat.le_trans HB18.out.size hJ0.size)⟩, [.bool k1, .slice A1 l1 c1, .bool k2, .slice A2 l2 c2], by simp [e_], (Bx.set4 bx (Leaf.bool k1) (Leaf.slice A1 l1 c1) (Leaf.bool k2) (Leaf.slice A2 l2 c2))⟩ (Keep.set4 (Keep.refl w_) bx (Leaf.bool k1) (Leaf.slice A1 l1 c1) (Leaf.bool k2) (Leaf.slice A2 l2 c2))
  exact AS.StepsOk.nil
 ·intro u W19 hJ9 hF
  have h29 : RRat (x + y) (4 * n + 1) (u 29) W19 := AS.facts_get hF 29 (by simp [rratAddFL, AS.temps])
  clear hF
  obtain ⟨⟨hbel, -⟩, vs, hvs, hbx⟩ := hJ9
  obtain ⟨ka, Aa, la, ca, kb, Ab, lb, cb, ea⟩ := h29.open
  rw [ea] at h29
  obtain rfl : vs = [.bool ka, .slice Aa la ca, .bool kb, .slice Ab lb cb] := by
   have e1 := (List.cons.inj hvs).1
   rw [show u 29 = _ from ea] at e1
   have e2 := congrArg Array.toList (Value.agg.inj e1)
   simpa using e2.symm
  have y0 := hbx.cell 0
  have y1 := hbx.cell 1
  have y2 := hbx.cell 2
  have y3 := hbx.cell 3
  simp only [List.getElem?_cons_zero, List.getElem?_cons_succ] at y0 y1 y2 y3
  go_wp2_with fail
  refine bodyPost_ret (v := .agg #[.bool ka, .slice Aa la ca, .bool kb, .slice Ab lb cb]) (by simp [results, Tryz.results21, go_sem, y0, y1, y2, y3]) rfl ⟨_, rfl, h29, hbel⟩
theorem RRat.negmk {x : Rat} {p q : Int} {n : Nat} {k : Bool} {A : Option Addr} {l c : Nat} {k' : Bool} {A' : Option Addr} {l' c' : Nat} {w : World} (h1 : PRef (-p) n (.agg #[.bool k, .slice A l c]) w) (h2 : PRef q n (.agg #[.bool k', .slice A' l' c']) w) (h3 : (p = x.num ∧ q = x.den) ∨ (p = 0 ∧ q = 0 ∧ x = 0)) :
  RRat (-x) n (.agg #[.bool k, .slice A l c, .bool k', .slice A' l' c']) w := by
 rcases h3 with ⟨rfl, rfl⟩ | ⟨rfl, rfl, rfl⟩
 ·exact RRat.mk h1 h2 rfl rfl
 ·exact ⟨-0, 0, k, A, l, c, k', A', l', c', rfl, h1, h2, .inr ⟨rfl, rfl, by decide +kernel⟩⟩
def rratNegFL (x : Rat) (p q : Int) (n : Nat) (g : Nat) : List (Nat × AS.Fact) := [(3, AS.Fact.is (.pointer (some ⟨g, 0, none⟩))), (4, AS.Fact.ref (p) n), (5, AS.Fact.ref (-(p)) n), (6, AS.Fact.is (.pointer (some ⟨g, 2, none⟩))), (7, AS.Fact.ref (q) n), (8, AS.Fact.rrat (-x) n)]
set_option maxRecDepth 20000 in
set_option maxHeartbeats 3200000 in
theorem rratNeg_fact {x : Rat} {n : Nat} {v : Value} {w : World} (h : RRat x n v w) (hn : n ≤ 100000) :
  Calls Tryz.prog 25 #[v] w fun e w' => ∃ v, e = .returned v ∧ RRat (-x) n v w' ∧ Below w.heap.size w w' := by
 obtain ⟨k, A, l, c, k', A', l', c', rfl⟩ := h.open
 obtain ⟨p, q, h1, h2, h3⟩ := h.parts
 have H1 := Lib.hid h1
 have H2 := Lib.hid h2
 have H3 := Lib.hid h3
 clear h h1 h2 h3
 go_enter Tryz.func25, Tryz.ntmps25
 go_upto_region 1 with (fail)
 change Code.wp Tryz.prog _ _ _ ((w.alloc (.cells #[.bool k, .slice A l c, .bool k', .slice A' l' c'] 35)).alloc (.cells #[.bool false, .slice none 0 0, .bool false, .slice none 0 0] 35))
 obtain ⟨nb1, nb2, na⟩ := new2 w 35 [.bool k, .slice A l c, .bool k', .slice A' l' c'] 35 [.bool false, .slice none 0 0, .bool false, .slice none 0 0] lf4 lf4
 have nkeep := Keep.ofBelow na
 have nbel := na
 generalize (w.alloc (.cells #[.bool k, .slice A l c, .bool k', .slice A' l' c'] 35)).alloc (.cells #[.bool false, .slice none 0 0, .bool false, .slice none 0 0] 35) = W1 at *
 clear na
 have b1 := Lib.hid nb1
 have b2 := Lib.hid nb2
 clear nb1 nb2
 replace H1 := Lib.hid (H1.out.kept nkeep)
 replace H2 := Lib.hid (H2.out.kept nkeep)
 clear nkeep
 have HB2 := Lib.hid nbel
 clear nbel
 obtain ⟨x1_0, x1_1, x1_2, x1_3, s1⟩ := b1.out.d4
 obtain ⟨x2_0, x2_1, x2_2, x2_3, s2⟩ := b2.out.d4
 have szb := HB2.out.size
 refine AS.region_facts (rratNegFL x p q n w.heap.size) (JRes w W1 35 (w.heap.size + 1)) [[], [3], [4], [], [6], [5, 7], [8]] [6] [[], [8]] [1, 0, 1, 1, 0, 1, 1] [] (fun u => by simp only [rratNegFL, AS.temps, List.map_cons, List.map_nil, fillL, List.setIfInBounds_toArray, List.set_cons_zero, List.set_cons_succ]; rfl) (by kernel_rfl) (by kernel_rfl) (JRes.st w W1 35 (w.heap.size + 1)) (below_drew (Below.refl _ _)) ?_ ?_
 ·refine AS.sc rfl rfl rfl ?_ ?_
  ·intro k_ u w_ hk hJ hF K hK
   clear hF
   go_simp
   exact hK.out _ _ (Below.refl _ _) (rfl) trivial
  refine AS.sc rfl rfl rfl ?_ ?_
  ·intro k_ u w_ hk hJ hF K hK
   have h3 : u 3 = .pointer (some ⟨w.heap.size, 0, none⟩) := AS.facts_get hF 3 (by simp)
   clear hF
   simp only [h3] at hK ⊢
   clear h3
   obtain rfl : k_ = 0 := Nat.le_zero.1 hk
   have hJ0 : Below W1.heap.size W1 w_ := hJ
   obtain ⟨y0, y1, y2, y3⟩ := ((b1.out).up hJ0).c4
   go_simp
   exact hK.out _ _ (Below.refl _ _) ((H1.out).kept (Keep.ofBelow hJ0)) trivial
  refine AS.sc rfl rfl rfl ?_ ?_
  ·intro k_ u w_ hk hJ hF K hK
   have h4 : PRef (p) n (u 4) w_ := AS.facts_get hF 4 (by simp)
   clear hF
   go_simp
   refine (rneg_fact h4 (by omega)).mono ?_
   rintro e w' ⟨v, rfl, hv, hb⟩
   exact hK.out _ _ hb (hv) trivial
  refine AS.sc rfl rfl rfl ?_ ?_
  ·intro k_ u w_ hk hJ hF K hK
   clear hF
   go_simp
   exact hK.out _ _ (Below.refl _ _) (rfl) trivial
  refine AS.sc rfl rfl rfl ?_ ?_
  ·intro k_ u w_ hk hJ hF K hK
   have h6 : u 6 = .pointer (some ⟨w.heap.size, 2, none⟩) := AS.facts_get hF 6 (by simp)
   clear hF
   simp only [h6] at hK ⊢
   clear h6
   obtain rfl : k_ = 0 := Nat.le_zero.1 hk
   have hJ0 : Below W1.heap.size W1 w_ := hJ
   obtain ⟨y0, y1, y2, y3⟩ := ((b1.out).up hJ0).c4
   go_simp
   exact hK.out _ _ (Below.refl _ _) ((H2.out).kept (Keep.ofBelow hJ0)) trivial
  refine AS.sc rfl rfl rfl ?_ ?_
  ·intro k_ u w_ hk hJ hF K hK
   have h5 : PRef (-(p)) n (u 5) w_ := AS.facts_get hF 5 (by simp)
   have h7 : PRef (q) n (u 7) w_ := AS.facts_get hF 7 (by simp)
   clear hF
   obtain ⟨ka, Aa, la, ca, ea⟩ := h5.open
   obtain ⟨kb, Ab, lb, cb, eb⟩ := h7.open
   rw [ea] at h5
   rw [eb] at h7
   simp only [ea, eb] at hK ⊢
   go_simp
   exact hK.out _ _ (Below.refl _ _) (RRat.negmk h5 h7 H3.out) trivial
  refine AS.ss rfl rfl ?_ ?_
  ·intro u w_ hJ hAp hF K hK
   have h8 : RRat (-x) n (u 8) w_ := AS.facts_get hF 8 (by simp)
   clear hF
   obtain ⟨k1, A1, l1, c1, k2, A2, l2, c2, e_⟩ := h8.open
   have hJ0 : Below W1.heap.size W1 w_ := hJ
   have bx := (b2.out).up hJ0
   have hbel := below_then HB2.out hJ0 HB2.out.size
   have y0 := bx.cell 0
   have z0 := bx.frozen 0
   have y1 := bx.cell 1
   have z1 := bx.frozen 1
   have y2 := bx.cell 2
   have z2 := bx.frozen 2
   have y3 := bx.cell 3
   have z3 := bx.frozen 3
   simp only [List.getElem?_cons_zero, List.getElem?_cons_succ] at y0 y1 y2 y3
   simp only [e_] at hK ⊢
   go_simp
   exact hK.out undef _ ⟨⟨(Below.setCell (p := ⟨w.heap.size + 1, 3, none⟩) (Below.setCell (p := ⟨w.heap.size + 1, 2, none⟩) (Below.set2 (g := w.heap.size + 1) hbel (by first | omega | (simp; done) | (simp; omega)) (.bool k1) (.slice A1 l1 c1)) (by first | omega | (simp; done) | (simp; omega)) (.bool k2)) (by first | omega | (simp; done) | (simp; omega)) (.slice A2 l2 c2)), (by simp only [setCell_size]; first | exact hsz | exact Nat.le_trans HB2.out.size hJ0.size)⟩, [.bool k1, .slice A1 l1 c1, .bool k2, .slice A2 l2 c2], by simp [e_], (Bx.set4 bx (Leaf.bool k1) (Leaf.slice A1 l1 c1) (Leaf.bool k2) (Leaf.slice A2 l2 c2))⟩ (Keep.set4 (Keep.refl w_) bx (Leaf.bool k1) (Leaf.slice A1 l1 c1) (Leaf.bool k2) (Leaf.slice A2 l2 c2))
  exact AS.StepsOk.nil
 ·intro u W3 hJ9 hF
  have h8 : RRat (-x) n (u 8) W3 := AS.facts_get hF 8 (by simp [rratNegFL, AS.temps])
  clear hF
  obtain ⟨⟨hbel, -⟩, vs, hvs, hbx⟩ := hJ9
  obtain ⟨ka, Aa, la, ca, kb, Ab, lb, cb, ea⟩ := h8.open
  rw [ea] at h8
  obtain rfl : vs = [.bool ka, .slice Aa la ca, .bool kb, .slice Ab lb cb] := by
   have e1 := (List.cons.inj hvs).1
   rw [show u 8 = _ from ea] at e1
   have e2 := congrArg Array.toList (Value.agg.inj e1)
   simpa using e2.symm
  have y0 := hbx.cell 0
  have y1 := hbx.cell 1
  have y2 := hbx.cell 2
  have y3 := hbx.cell 3
  simp only [List.getElem?_cons_zero, List.getElem?_cons_succ] at y0 y1 y2 y3
  go_wp2_with fail
  refine bodyPost_ret (v := .agg #[.bool ka, .slice Aa la ca, .bool kb, .slice Ab lb cb]) (by simp [results, Tryz.results25, go_sem, y0, y1, y2, y3]) rfl ⟨_, rfl, h8, hbel⟩
def rratSubFL (x y : Rat) (n : Nat) : List (Nat × AS.Fact) := [(5, AS.Fact.rrat (x) n), (6, AS.Fact.rrat (y) n), (7, AS.Fact.rrat (-y) n), (8, AS.Fact.rrat (x - y) (4 * n + 1))]
set_option maxRecDepth 20000 in
set_option maxHeartbeats 3200000 in
theorem rratSub_fact {x y : Rat} {n : Nat} {v v2 : Value} {w : World} (h : RRat x n v w) (h2 : RRat y n v2 w) (hn3 : 5 ≤ n) (hn : n ≤ 4000) :
  Calls Tryz.prog 23 #[v, v2] w fun e w' => ∃ v, e = .returned v ∧ RRat (x - y) (4 * n + 1) v w' ∧ Below w.heap.size w w' := by
 obtain ⟨k, A, l, c, k', A', l', c', rfl⟩ := h.open
 obtain ⟨r, E, m, d, r', E', m', d', rfl⟩ := h2.open
 have H1 := Lib.hid h
 have H2 := Lib.hid h2
 clear h h2
 go_enter Tryz.func23, Tryz.ntmps23
 go_upto_region 1 with (fail)
 change Code.wp Tryz.prog _ _ _ (((w.alloc (.cells #[.bool k, .slice A l c, .bool k', .slice A' l' c'] 35)).alloc (.cells #[.bool r, .slice E m d, .bool r', .slice E' m' d'] 35)).alloc (.cells #[.bool false, .slice none 0 0, .bool false, .slice none 0 0] 35))
 obtain ⟨nb2, nb3, nb4, na⟩ := new3 w 35 [.bool k, .slice A l c, .bool k', .slice A' l' c'] 35 [.bool r, .slice E m d, .bool r', .slice E' m' d'] 35 [.bool false, .slice none 0 0, .bool false, .slice none 0 0] lf4 lf4 lf4
 have nkeep := Keep.ofBelow na
 have nbel := na
 generalize ((w.alloc (.cells #[.bool k, .slice A l c, .bool k', .slice A' l' c'] 35)).alloc (.cells #[.bool r, .slice E m d, .bool r', .slice E' m' d'] 35)).alloc (.cells #[.bool false, .slice none 0 0, .bool false, .slice none 0 0] 35) = W1 at *
 clear na
 have b2 := Lib.hid nb2
 have b3 := Lib.hid nb3
 have b4 := Lib.hid nb4
 clear nb2 nb3 nb4
 replace H1 := Lib.hid (H1.out.kept nkeep)
 replace H2 := Lib.hid (H2.out.kept nkeep)
 clear nkeep
 have HB2 := Lib.hid nbel
 clear nbel
 obtain ⟨x2_0, x2_1, x2_2, x2_3, s2⟩ := b2.out.d4
 obtain ⟨x3_0, x3_1, x3_2, x3_3, s3⟩ := b3.out.d4
 obtain ⟨x4_0, x4_1, x4_2, x4_3, s4⟩ := b4.out.d4
 have szb := HB2.out.size
 refine AS.region_facts (rratSubFL x y n) (JRes w W1 35 (w.heap.size + 1 + 1)) [[], [], [6], [5, 7], [8]] [4] [[], [8]] [0, 0, 1, 1, 1] [] (fun u => by simp only [rratSubFL, AS.temps, List.map_cons, List.map_nil, fillL, List.setIfInBounds_toArray, List.set_cons_zero, List.set_cons_succ]; rfl) (by kernel_rfl) (by kernel_rfl) (JRes.st w W1 35 (w.heap.size + 1 + 1)) (below_drew (Below.refl _ _)) ?_ ?_
 ·refine AS.sc rfl rfl rfl ?_ ?_
  ·intro k_ u w_ hk hJ hF K hK
   clear hF
   obtain rfl : k_ = 0 := Nat.le_zero.1 hk
   have hJ0 : Below W1.heap.size W1 w_ := hJ
   obtain ⟨y0, y1, y2, y3⟩ := ((b2.out).up hJ0).c4
   go_simp
   exact hK.out _ _ (Below.refl _ _) ((H1.out).kept (Keep.ofBelow hJ0)) trivial
  refine AS.sc rfl rfl rfl ?_ ?_
  ·intro k_ u w_ hk hJ hF K hK
   clear hF
   obtain rfl : k_ = 0 := Nat.le_zero.1 hk
   have hJ0 : Below W1.heap.size W1 w_ := hJ
   obtain ⟨y0, y1, y2, y3⟩ := ((b3.out).up hJ0).c4
   go_simp
   exact hK.out _ _ (Below.refl _ _) ((H2.out).kept (Keep.ofBelow hJ0)) trivial
  refine AS.sc rfl rfl rfl ?_ ?_
  ·intro k_ u w_ hk hJ hF K hK
   have h6 : RRat (y) n (u 6) w_ := AS.facts_get hF 6 (by simp)
   clear hF
   go_simp
   refine (rratNeg_fact h6 (by omega)).mono ?_
   rintro e w' ⟨v, rfl, hv, hb⟩
   exact hK.out _ _ hb (hv) trivial
  refine AS.sc rfl rfl rfl ?_ ?_
  ·intro k_ u w_ hk hJ hF K hK
   have h5 : RRat (x) n (u 5) w_ := AS.facts_get hF 5 (by simp)
   have h7 : RRat (-y) n (u 7) w_ := AS.facts_get hF 7 (by simp)
   clear hF
   go_simp
   refine (rratAdd_fact h5 h7 hn3 hn).mono ?_
   rintro e w' ⟨v, rfl, hv, hb⟩
   exact hK.out _ _ hb (by rw [sub_terms] at hv; exact hv) trivial
  refine AS.ss rfl rfl ?_ ?_
  ·intro u w_ hJ hAp hF K hK
   have h8 : RRat (x - y) (4 * n + 1) (u 8) w_ := AS.facts_get hF 8 (by simp)
   clear hF
   obtain ⟨k1, A1, l1, c1, k2, A2, l2, c2, e_⟩ := h8.open
   have hJ0 : Below W1.heap.size W1 w_ := hJ
   have bx := (b4.out).up hJ0
   have hbel := below_then HB2.out hJ0 HB2.out.size
   have y0 := bx.cell 0
   have z0 := bx.frozen 0
   have y1 := bx.cell 1
   have z1 := bx.frozen 1
   have y2 := bx.cell 2
   have z2 := bx.frozen 2
   have y3 := bx.cell 3
   have z3 := bx.frozen 3
   simp only [List.getElem?_cons_zero, List.getElem?_cons_succ] at y0 y1 y2 y3
   simp only [e_] at hK ⊢
   go_simp
   exact hK.out undef _ ⟨⟨(Below.setCell (p := ⟨w.heap.size + 1 + 1, 3, none⟩) (Below.setCell (p := ⟨w.heap.size + 1 + 1, 2, none⟩) (Below.set2 (g := w.heap.size + 1 + 1) hbel (by first | omega | (simp; done) | (simp; omega)) (.bool k1) (.slice A1 l1 c1)) (by first | omega | (simp; done) | (simp; omega)) (.bool k2)) (by first | omega | (simp; done) | (simp; omega)) (.slice A2 l2 c2)), (by simp only [setCell_size]; first | exact hsz | exact Nat.le_trans HB2.out.size hJ0.size)⟩, [.bool k1, .slice A1 l1 c1, .bool k2, .slice A2 l2 c2], by simp [e_], (Bx.set4 bx (Leaf.bool k1) (Leaf.slice A1 l1 c1) (Leaf.bool k2) (Leaf.slice A2 l2 c2))⟩ (Keep.set4 (Keep.refl w_) bx (Leaf.bool k1) (Leaf.slice A1 l1 c1) (Leaf.bool k2) (Leaf.slice A2 l2 c2))
  exact AS.StepsOk.nil
 ·intro u W3 hJ9 hF
  have h8 : RRat (x - y) (4 * n + 1) (u 8) W3 := AS.facts_get hF 8 (by simp [rratSubFL, AS.temps])
  clear hF
  obtain ⟨⟨hbel, -⟩, vs, hvs, hbx⟩ := hJ9
  obtain ⟨ka, Aa, la, ca, kb, Ab, lb, cb, ea⟩ := h8.open
  rw [ea] at h8
  obtain rfl : vs = [.bool ka, .slice Aa la ca, .bool kb, .slice Ab lb cb] := by
   have e1 := (List.cons.inj hvs).1
   rw [show u 8 = _ from ea] at e1
   have e2 := congrArg Array.toList (Value.agg.inj e1)
   simpa using e2.symm
  have y0 := hbx.cell 0
  have y1 := hbx.cell 1
  have y2 := hbx.cell 2
  have y3 := hbx.cell 3
  simp only [List.getElem?_cons_zero, List.getElem?_cons_succ] at y0 y1 y2 y3
  go_wp2_with fail
  refine bodyPost_ret (v := .agg #[.bool ka, .slice Aa la ca, .bool kb, .slice Ab lb cb]) (by simp [results, Tryz.results23, go_sem, y0, y1, y2, y3]) rfl ⟨_, rfl, h8, hbel⟩
set_option maxRecDepth 20000 in
set_option maxHeartbeats 3200000 in
theorem rratSign_fact {x : Rat} {n : Nat} {v : Value} {w : World} (h : RRat x n v w) :
  Calls Tryz.prog 73 #[v] w fun e w' => e = .returned (.int .i64 (cmpQ x 0)) ∧ Below w.heap.size w w' := by
 obtain ⟨k, A, l, c, k', A', l', c', rfl⟩ := h.open
 obtain ⟨p, q, h1, h2, h3⟩ := h.parts
 have hc : cmpI p 0 = cmpQ x 0 := by
  rcases h3 with ⟨rfl, -⟩ | ⟨rfl, -, rfl⟩
  ·exact sign_terms x
  ·decide +kernel
 generalize cmpQ x 0 = cc at *
 have H1 := Lib.hid h1
 clear h h1 h2 h3
 go_enter Tryz.func73, Tryz.ntmps73
 go_upto_region 1 with (fail)
 change Code.wp Tryz.prog _ _ _ (w.alloc (.cells #[.bool k, .slice A l c, .bool k', .slice A' l' c'] 35))
 obtain ⟨nb1, na⟩ := new1 w 35 [.bool k, .slice A l c, .bool k', .slice A' l' c'] lf4
 have nkeep := Keep.ofBelow na
 have nbel := na
 generalize w.alloc (.cells #[.bool k, .slice A l c, .bool k', .slice A' l' c'] 35) = W1 at *
 clear na
 have b1 := Lib.hid nb1
 clear nb1
 replace H1 := Lib.hid (H1.out.kept nkeep)
 clear nkeep
 have HB2 := Lib.hid nbel
 clear nbel
 obtain ⟨x10, x11, x12, x13, s1⟩ := b1.out.d4
 have szb := HB2.out.size
 go_wp2_with fail
 refine (rsign_is H1.out hc).mono ?_
 rintro e W3 ⟨rfl, hb⟩
 replace b1 := hup b1 hb
 replace H1 := Lib.hid (H1.out.kept (Keep.ofBelow hb))
 have nbel := below_then HB2.out hb HB2.out.size
 have HB4 := Lib.hid nbel
 clear nbel HB2 hb x10 x11 x12 x13 szb s1
 obtain ⟨x10, x11, x12, x13, s1⟩ := b1.out.d4
 have szb := HB4.out.size
 go_wp2_with fail
 have hkeep := (Keep.refl W3)
 have hbel := HB4.out
 refine bodyPost_ret (v := .int .i64 cc) (by simp [results, Tryz.results73, go_sem]) rfl ⟨rfl, hbel⟩
theorem cmpQ_sub (x y : Rat) : cmpQ (x - y) 0 = cmpQ x y := by
 unfold cmpQ
 by_cases h1 : x < y
 ·rw [if_pos h1, if_pos (by grind)]
 ·rw [if_neg h1, if_neg (by grind)]
  by_cases h2 : x = y
  ·rw [if_pos h2, if_pos (by grind)]
  ·rw [if_neg h2, if_neg (by grind)]
set_option maxRecDepth 20000 in
set_option maxHeartbeats 3200000 in
theorem rratCmp_fact {x y : Rat} {n : Nat} {v v2 : Value} {w : World} (h : RRat x n v w) (h2 : RRat y n v2 w) (hn3 : 5 ≤ n) (hn : n ≤ 4000) :
  Calls Tryz.prog 27 #[v, v2] w fun e w' => e = .returned (.int .i64 (cmpQ x y)) ∧ Below w.heap.size w w' := by
 obtain ⟨k, A, l, c, k', A', l', c', rfl⟩ := h.open
 obtain ⟨r, E, m, d, r', E', m', d', rfl⟩ := h2.open
 have H1 := Lib.hid h
 have H2 := Lib.hid h2
 clear h h2
 go_enter Tryz.func27, Tryz.ntmps27
 go_upto_region 1 with (fail)
 change Code.wp Tryz.prog _ _ _ ((w.alloc (.cells #[.bool k, .slice A l c, .bool k', .slice A' l' c'] 35)).alloc (.cells #[.bool r, .slice E m d, .bool r', .slice E' m' d'] 35))
 obtain ⟨nb2, nb3, na⟩ := new2 w 35 [.bool k, .slice A l c, .bool k', .slice A' l' c'] 35 [.bool r, .slice E m d, .bool r', .slice E' m' d'] lf4 lf4
 have nkeep := Keep.ofBelow na
 have nbel := na
 generalize (w.alloc (.cells #[.bool k, .slice A l c, .bool k', .slice A' l' c'] 35)).alloc (.cells #[.bool r, .slice E m d, .bool r', .slice E' m' d'] 35) = W1 at *
 clear na
 have b2 := Lib.hid nb2
 have b3 := Lib.hid nb3
 clear nb2 nb3
 replace H1 := Lib.hid (H1.out.kept nkeep)
 replace H2 := Lib.hid (H2.out.kept nkeep)
 clear nkeep
 have HB2 := Lib.hid nbel
 clear nbel
 obtain ⟨x20, x21, x22, x23, s2⟩ := b2.out.d4
 obtain ⟨x30, x31, x32, x33, s3⟩ := b3.out.d4
 have szb := HB2.out.size
 go_wp2_with fail
 refine (rratSub_fact H1.out H2.out hn3 hn).mono ?_
 rintro e W3 ⟨v, rfl, hv, hb⟩
 replace b2 := hup b2 hb
 replace b3 := hup b3 hb
 replace H1 := Lib.hid (H1.out.kept (Keep.ofBelow hb))
 replace H2 := Lib.hid (H2.out.kept (Keep.ofBelow hb))
 have nbel := below_then HB2.out hb HB2.out.size
 have HB4 := Lib.hid nbel
 clear nbel HB2 hb x20 x21 x22 x23 x30 x31 x32 x33 szb s2 s3
 obtain ⟨x20, x21, x22, x23, s2⟩ := b2.out.d4
 obtain ⟨x30, x31, x32, x33, s3⟩ := b3.out.d4
 have szb := HB4.out.size
 obtain ⟨k1, A1, l1, c1, k2, A2, l2, c2, rfl⟩ := hv.open
 have HX := Lib.hid hv
 clear hv
 go_wp2_with fail
 refine (rratSign_fact HX.out).mono ?_
 rintro e W5 ⟨rfl, hb⟩
 replace b2 := hup b2 hb
 replace b3 := hup b3 hb
 replace H1 := Lib.hid (H1.out.kept (Keep.ofBelow hb))
 replace H2 := Lib.hid (H2.out.kept (Keep.ofBelow hb))
 replace HX := Lib.hid (HX.out.kept (Keep.ofBelow hb))
 have nbel := below_then HB4.out hb HB4.out.size
 have HB6 := Lib.hid nbel
 clear nbel HB4 hb x20 x21 x22 x23 x30 x31 x32 x33 szb s2 s3
 obtain ⟨x20, x21, x22, x23, s2⟩ := b2.out.d4
 obtain ⟨x30, x31, x32, x33, s3⟩ := b3.out.d4
 have szb := HB6.out.size
 go_wp2_with fail
 have hkeep := (Keep.refl W5)
 have hbel := HB6.out
 refine bodyPost_ret (v := .int .i64 (cmpQ (x - y) 0)) (by simp [results, Tryz.results27, go_sem]) rfl ⟨by rw [cmpQ_sub], hbel⟩
def sumsFL (x y : Rat) : List (Nat × AS.Fact) := [(23, AS.Fact.rat (x) 223), (24, AS.Fact.rat (y) 223), (25, AS.Fact.rat (x + y) 894), (26, AS.Fact.rrat (x) 500), (27, AS.Fact.rrat (y) 500), (28, AS.Fact.rrat (x + y) 2001), (29, AS.Fact.is (.bool true)), (30, AS.Fact.is (.bool true)), (31, AS.Fact.rat (x) 223), (32, AS.Fact.rat (y) 223), (33, AS.Fact.rat (x - y) 898), (34, AS.Fact.rrat (x) 500), (35, AS.Fact.rrat (y) 500), (36, AS.Fact.rrat (x - y) 2001), (37, AS.Fact.is (.bool true)), (38, AS.Fact.is (.bool true)), (39, AS.Fact.is (.bool true)), (40, AS.Fact.rat (x) 223), (41, AS.Fact.rat (-x) 224), (42, AS.Fact.rrat (x) 500), (43, AS.Fact.rrat (-x) 500), (44, AS.Fact.is (.bool true)), (45, AS.Fact.is (.bool true)), (46, AS.Fact.is (.bool true)), (47, AS.Fact.rat (x) 223), (48, AS.Fact.rat (y) 223), (49, AS.Fact.is (.int .i64 (cmpQ x y))), (50, AS.Fact.rrat (x) 500), (51, AS.Fact.rrat (y) 500), (52, AS.Fact.is (.int .i64 (cmpQ x y))), (53, AS.Fact.is (.bool true)), (54, AS.Fact.is (.bool true)), (4, AS.Fact.is (.bool true))]
set_option maxRecDepth 20000 in
set_option maxHeartbeats 6400000 in
theorem law_sums2 (s t : ByteArray) (w : World) (hm : MaxOk w) (ht : Tab w.heap.size w) :
  Calls Tryz.prog 4 #[.string s, .string t] w fun e w' => e = .returned (.bool true) ∧ Below w.heap.size w w' := by
 have HM := Lib.hid hm
 have HT := Lib.hid ht
 clear hm ht
 go_enter Tryz.func4, Tryz.ntmps4
 go_wp2_with fail
 refine (awake_fact HT.out).mono ?_
 rintro e W1 ⟨rfl, hb⟩
 have nbel := hb
 have HB2 := Lib.hid nbel
 clear nbel hb
 have szb := HB2.out.size
 go_wp2_with fail
 refine (both_fact s t _ (HM.out.up HB2.out)).mono ?_
 rintro e W3 ⟨k1, A1, l1, c1, m1, E1, p1, q1, k2, A2, l2, c2, m2, E2, p2, q2, k3, A3, l3, c3, m3, E3, p3, q3, k4, A4, l4, c4, m4, E4, p4, q4, ok, rfl, hv, hb⟩
 have nbel := below_then HB2.out hb HB2.out.size
 have HB4 := Lib.hid nbel
 clear nbel HB2 hb szb
 have szb := HB4.out.size
 generalize ratV s.data.toList = x at hv
 generalize ratV t.data.toList = y at hv
 have HB0 := Lib.hid (OkP.mk hv)
 clear hv
 go_upto_region 4 with (fail)
 change Code.wp Tryz.prog _ _ _ ((((W3.alloc (.cells #[.bool k1, .slice A1 l1 c1, .bool m1, .slice E1 p1 q1] 27)).alloc (.cells #[.bool k2, .slice A2 l2 c2, .bool m2, .slice E2 p2 q2] 27)).alloc (.cells #[.bool k3, .slice A3 l3 c3, .bool m3, .slice E3 p3 q3] 35)).alloc (.cells #[.bool k4, .slice A4 l4 c4, .bool m4, .slice E4 p4 q4] 35))
 obtain ⟨nb5, nb6, nb7, nb8, na⟩ := new4 W3 27 [.bool k1, .slice A1 l1 c1, .bool m1, .slice E1 p1 q1] 27 [.bool k2, .slice A2 l2 c2, .bool m2, .slice E2 p2 q2] 35 [.bool k3, .slice A3 l3 c3, .bool m3, .slice E3 p3 q3] 35 [.bool k4, .slice A4 l4 c4, .bool m4, .slice E4 p4 q4] lf4 lf4 lf4 lf4
 have nkeep := Keep.ofBelow na
 have nbel := below_then HB4.out na HB4.out.size
 generalize (((W3.alloc (.cells #[.bool k1, .slice A1 l1 c1, .bool m1, .slice E1 p1 q1] 27)).alloc (.cells #[.bool k2, .slice A2 l2 c2, .bool m2, .slice E2 p2 q2] 27)).alloc (.cells #[.bool k3, .slice A3 l3 c3, .bool m3, .slice E3 p3 q3] 35)).alloc (.cells #[.bool k4, .slice A4 l4 c4, .bool m4, .slice E4 p4 q4] 35) = W5 at *
 clear na szb
 have b5 := Lib.hid nb5
 have b6 := Lib.hid nb6
 have b7 := Lib.hid nb7
 have b8 := Lib.hid nb8
 clear nb5 nb6 nb7 nb8
 replace HB0 := Lib.hid (HB0.out.kept nkeep)
 clear nkeep
 have HB6 := Lib.hid nbel
 clear nbel HB4
 obtain ⟨x50, x51, x52, x53, s5⟩ := b5.out.d4
 obtain ⟨x60, x61, x62, x63, s6⟩ := b6.out.d4
 obtain ⟨x70, x71, x72, x73, s7⟩ := b7.out.d4
 obtain ⟨x80, x81, x82, x83, s8⟩ := b8.out.d4
 have szb := HB6.out.size
 cases ok with
 | false =>
  go_wp2_with fail
  have hkeep := (Keep.refl W5)
  have hbel := HB6.out
  refine bodyPost_ret (v := .bool true) (by simp [results, Tryz.results4, go_sem]) rfl ⟨rfl, hbel⟩
 | true =>
  have hh := HB0.out.go rfl
  have HX := Lib.hid hh.1
  have HY := Lib.hid hh.2.1
  have HA := Lib.hid hh.2.2.1
  have HB := Lib.hid hh.2.2.2
  clear hh HB0
  go_upto_region 6 with (fail)
  have HTW := Lib.hid (tab_up HT.out HB6.out)
  refine AS.region_facts (sumsFL x y) (JNo W5) [[], [], [23, 24], [], [], [26, 27], [25, 28], [29], [30], [30], [30, 31, 32], [30], [30], [30, 34, 35], [30, 33, 36], [30, 37], [38], [39], [39, 40], [39], [39, 42], [39, 41, 43], [39, 44], [45], [46], [46], [46, 47, 48], [46], [46], [46, 50, 51], [46, 49, 52], [46, 53], [54]] [] [[]] [0, 0, 0, 0, 0, 0, 0, 0, 0, 0, 0, 0, 0, 0, 0, 0, 0, 0, 0, 0, 0, 0, 0, 0, 0, 0, 0, 0, 0, 0, 0, 0, 0] [] (fun u => by simp only [sumsFL, AS.temps, List.map_cons, List.map_nil, fillL, List.setIfInBounds_toArray, List.set_cons_zero, List.set_cons_succ]; rfl) (by kernel_rfl) (by kernel_rfl) (JNo.st W5) (below_drew (Below.refl _ _)) ?_ ?_
  ·refine AS.sc rfl rfl rfl ?_ ?_
   ·intro k_ u w_ hk hJ hF K hK
    clear hF
    obtain rfl : k_ = 0 := Nat.le_zero.1 hk
    have hJ0 : Below W5.heap.size W5 w_ := hJ
    obtain ⟨y0, y1, y2, y3⟩ := ((b5.out).up hJ0).c4
    go_simp
    exact hK.out _ _ (Below.refl _ _) ((HX.out).kept (Keep.ofBelow hJ0)) trivial
   refine AS.sc rfl rfl rfl ?_ ?_
   ·intro k_ u w_ hk hJ hF K hK
    clear hF
    obtain rfl : k_ = 0 := Nat.le_zero.1 hk
    have hJ0 : Below W5.heap.size W5 w_ := hJ
    obtain ⟨y0, y1, y2, y3⟩ := ((b6.out).up hJ0).c4
    go_simp
    exact hK.out _ _ (Below.refl _ _) ((HY.out).kept (Keep.ofBelow hJ0)) trivial
   refine AS.sc rfl rfl rfl ?_ ?_
   ·intro k_ u w_ hk hJ hF K hK
    have h23 : PRat (x) 223 (u 23) w_ := AS.facts_get hF 23 (by simp)
    have h24 : PRat (y) 223 (u 24) w_ := AS.facts_get hF 24 (by simp)
    clear hF
    go_simp
    refine (ratAdd_fact (n := 223) (h23.more (by decide)) (h24.more (by decide)) (by decide) (by decide)).mono ?_
    rintro e w' ⟨v, rfl, hv, hb⟩
    exact hK.out _ _ hb (hv) trivial
   refine AS.sc rfl rfl rfl ?_ ?_
   ·intro k_ u w_ hk hJ hF K hK
    clear hF
    obtain rfl : k_ = 0 := Nat.le_zero.1 hk
    have hJ0 : Below W5.heap.size W5 w_ := hJ
    obtain ⟨y0, y1, y2, y3⟩ := ((b7.out).up hJ0).c4
    go_simp
    exact hK.out _ _ (Below.refl _ _) ((HA.out).kept (Keep.ofBelow hJ0)) trivial
   refine AS.sc rfl rfl rfl ?_ ?_
   ·intro k_ u w_ hk hJ hF K hK
    clear hF
    obtain rfl : k_ = 0 := Nat.le_zero.1 hk
    have hJ0 : Below W5.heap.size W5 w_ := hJ
    obtain ⟨y0, y1, y2, y3⟩ := ((b8.out).up hJ0).c4
    go_simp
    exact hK.out _ _ (Below.refl _ _) ((HB.out).kept (Keep.ofBelow hJ0)) trivial
   refine AS.sc rfl rfl rfl ?_ ?_
   ·intro k_ u w_ hk hJ hF K hK
    have h26 : RRat (x) 500 (u 26) w_ := AS.facts_get hF 26 (by simp)
    have h27 : RRat (y) 500 (u 27) w_ := AS.facts_get hF 27 (by simp)
    clear hF
    go_simp
    refine (rratAdd_fact h26 h27 (by decide) (by decide)).mono ?_
    rintro e w' ⟨v, rfl, hv, hb⟩
    exact hK.out _ _ hb (hv) trivial
   refine AS.sc rfl rfl rfl ?_ ?_
   ·intro k_ u w_ hk hJ hF K hK
    have h25 : PRat (x + y) 894 (u 25) w_ := AS.facts_get hF 25 (by simp)
    have h28 : RRat (x + y) 2001 (u 28) w_ := AS.facts_get hF 28 (by simp)
    clear hF
    go_simp
    refine (same_fact (n := 5000) (h25.more (by decide)) (h28.more (by decide)) (by decide) (by decide) (tab_up HTW.out hJ)).mono ?_
    rintro e w' ⟨rfl, hb⟩
    exact hK.out _ _ hb (rfl) trivial
   refine AS.sc rfl rfl rfl ?_ ?_
   ·intro k_ u w_ hk hJ hF K hK
    have h29 : u 29 = .bool true := AS.facts_get hF 29 (by simp)
    clear hF
    simp only [h29] at hK ⊢
    clear h29
    go_simp
    exact hK.out _ _ (Below.refl _ _) (rfl) trivial
   refine AS.sc rfl rfl rfl ?_ ?_
   ·intro k_ u w_ hk hJ hF K hK
    have h30 : u 30 = .bool true := AS.facts_get hF 30 (by simp)
    clear hF
    simp only [h30] at hK ⊢
    clear h30
    obtain rfl : k_ = 0 := Nat.le_zero.1 hk
    have hJ0 : Below W5.heap.size W5 w_ := hJ
    obtain ⟨y0, y1, y2, y3⟩ := ((b5.out).up hJ0).c4
    go_simp
    exact hK.out _ _ (Below.refl _ _) ((HX.out).kept (Keep.ofBelow hJ0)) trivial
   refine AS.sc rfl rfl rfl ?_ ?_
   ·intro k_ u w_ hk hJ hF K hK
    have h30 : u 30 = .bool true := AS.facts_get hF 30 (by simp)
    clear hF
    simp only [h30] at hK ⊢
    clear h30
    obtain rfl : k_ = 0 := Nat.le_zero.1 hk
    have hJ0 : Below W5.heap.size W5 w_ := hJ
    obtain ⟨y0, y1, y2, y3⟩ := ((b6.out).up hJ0).c4
    go_simp
    exact hK.out _ _ (Below.refl _ _) ((HY.out).kept (Keep.ofBelow hJ0)) trivial
   refine AS.sc rfl rfl rfl ?_ ?_
   ·intro k_ u w_ hk hJ hF K hK
    have h30 : u 30 = .bool true := AS.facts_get hF 30 (by simp)
    have h31 : PRat (x) 223 (u 31) w_ := AS.facts_get hF 31 (by simp)
    have h32 : PRat (y) 223 (u 32) w_ := AS.facts_get hF 32 (by simp)
    clear hF
    simp only [h30] at hK ⊢
    clear h30
    go_simp
    refine (ratSub_fact (n := 223) (h31.more (by decide)) (h32.more (by decide)) (by decide) (by decide)).mono ?_
    rintro e w' ⟨v, rfl, hv, hb⟩
    exact hK.out _ _ hb (hv.more (by decide)) trivial
   refine AS.sc rfl rfl rfl ?_ ?_
   ·intro k_ u w_ hk hJ hF K hK
    have h30 : u 30 = .bool true := AS.facts_get hF 30 (by simp)
    clear hF
    simp only [h30] at hK ⊢
    clear h30
    obtain rfl : k_ = 0 := Nat.le_zero.1 hk
    have hJ0 : Below W5.heap.size W5 w_ := hJ
    obtain ⟨y0, y1, y2, y3⟩ := ((b7.out).up hJ0).c4
    go_simp
    exact hK.out _ _ (Below.refl _ _) ((HA.out).kept (Keep.ofBelow hJ0)) trivial
   refine AS.sc rfl rfl rfl ?_ ?_
   ·intro k_ u w_ hk hJ hF K hK
    have h30 : u 30 = .bool true := AS.facts_get hF 30 (by simp)
    clear hF
    simp only [h30] at hK ⊢
    clear h30
    obtain rfl : k_ = 0 := Nat.le_zero.1 hk
    have hJ0 : Below W5.heap.size W5 w_ := hJ
    obtain ⟨y0, y1, y2, y3⟩ := ((b8.out).up hJ0).c4
    go_simp
    exact hK.out _ _ (Below.refl _ _) ((HB.out).kept (Keep.ofBelow hJ0)) trivial
   refine AS.sc rfl rfl rfl ?_ ?_
   ·intro k_ u w_ hk hJ hF K hK
    have h30 : u 30 = .bool true := AS.facts_get hF 30 (by simp)
    have h34 : RRat (x) 500 (u 34) w_ := AS.facts_get hF 34 (by simp)
    have h35 : RRat (y) 500 (u 35) w_ := AS.facts_get hF 35 (by simp)
    clear hF
    simp only [h30] at hK ⊢
    clear h30
    go_simp
    refine (rratSub_fact h34 h35 (by decide) (by decide)).mono ?_
    rintro e w' ⟨v, rfl, hv, hb⟩
    exact hK.out _ _ hb (hv) trivial
   refine AS.sc rfl rfl rfl ?_ ?_
   ·intro k_ u w_ hk hJ hF K hK
    have h30 : u 30 = .bool true := AS.facts_get hF 30 (by simp)
    have h33 : PRat (x - y) 898 (u 33) w_ := AS.facts_get hF 33 (by simp)
    have h36 : RRat (x - y) 2001 (u 36) w_ := AS.facts_get hF 36 (by simp)
    clear hF
    simp only [h30] at hK ⊢
    clear h30
    go_simp
    refine (same_fact (n := 5000) (h33.more (by decide)) (h36.more (by decide)) (by decide) (by decide) (tab_up HTW.out hJ)).mono ?_
    rintro e w' ⟨rfl, hb⟩
    exact hK.out _ _ hb (rfl) trivial
   refine AS.sc rfl rfl rfl ?_ ?_
   ·intro k_ u w_ hk hJ hF K hK
    have h30 : u 30 = .bool true := AS.facts_get hF 30 (by simp)
    have h37 : u 37 = .bool true := AS.facts_get hF 37 (by simp)
    clear hF
    simp only [h30, h37] at hK ⊢
    clear h30 h37
    go_simp
    exact hK.out _ _ (Below.refl _ _) (rfl) trivial
   refine AS.sc rfl rfl rfl ?_ ?_
   ·intro k_ u w_ hk hJ hF K hK
    have h38 : u 38 = .bool true := AS.facts_get hF 38 (by simp)
    clear hF
    simp only [h38] at hK ⊢
    clear h38
    go_simp
    exact hK.out _ _ (Below.refl _ _) (rfl) trivial
   refine AS.sc rfl rfl rfl ?_ ?_
   ·intro k_ u w_ hk hJ hF K hK
    have h39 : u 39 = .bool true := AS.facts_get hF 39 (by simp)
    clear hF
    simp only [h39] at hK ⊢
    clear h39
    obtain rfl : k_ = 0 := Nat.le_zero.1 hk
    have hJ0 : Below W5.heap.size W5 w_ := hJ
    obtain ⟨y0, y1, y2, y3⟩ := ((b5.out).up hJ0).c4
    go_simp
    exact hK.out _ _ (Below.refl _ _) ((HX.out).kept (Keep.ofBelow hJ0)) trivial
   refine AS.sc rfl rfl rfl ?_ ?_
   ·intro k_ u w_ hk hJ hF K hK
    have h39 : u 39 = .bool true := AS.facts_get hF 39 (by simp)
    have h40 : PRat (x) 223 (u 40) w_ := AS.facts_get hF 40 (by simp)
    clear hF
    simp only [h39] at hK ⊢
    clear h39
    go_simp
    refine (ratNeg_fact h40 (by decide) (by decide)).mono ?_
    rintro e w' ⟨v, rfl, hv, hb⟩
    exact hK.out _ _ hb (hv) trivial
   refine AS.sc rfl rfl rfl ?_ ?_
   ·intro k_ u w_ hk hJ hF K hK
    have h39 : u 39 = .bool true := AS.facts_get hF 39 (by simp)
    clear hF
    simp only [h39] at hK ⊢
    clear h39
    obtain rfl : k_ = 0 := Nat.le_zero.1 hk
    have hJ0 : Below W5.heap.size W5 w_ := hJ
    obtain ⟨y0, y1, y2, y3⟩ := ((b7.out).up hJ0).c4
    go_simp
    exact hK.out _ _ (Below.refl _ _) ((HA.out).kept (Keep.ofBelow hJ0)) trivial
   refine AS.sc rfl rfl rfl ?_ ?_
   ·intro k_ u w_ hk hJ hF K hK
    have h39 : u 39 = .bool true := AS.facts_get hF 39 (by simp)
    have h42 : RRat (x) 500 (u 42) w_ := AS.facts_get hF 42 (by simp)
    clear hF
    simp only [h39] at hK ⊢
    clear h39
    go_simp
    refine (rratNeg_fact h42 (by decide)).mono ?_
    rintro e w' ⟨v, rfl, hv, hb⟩
    exact hK.out _ _ hb (hv) trivial
   refine AS.sc rfl rfl rfl ?_ ?_
   ·intro k_ u w_ hk hJ hF K hK
    have h39 : u 39 = .bool true := AS.facts_get hF 39 (by simp)
    have h41 : PRat (-x) 224 (u 41) w_ := AS.facts_get hF 41 (by simp)
    have h43 : RRat (-x) 500 (u 43) w_ := AS.facts_get hF 43 (by simp)
    clear hF
    simp only [h39] at hK ⊢
    clear h39
    go_simp
    refine (same_fact (n := 5000) (h41.more (by decide)) (h43.more (by decide)) (by decide) (by decide) (tab_up HTW.out hJ)).mono ?_
    rintro e w' ⟨rfl, hb⟩
    exact hK.out _ _ hb (rfl) trivial
   refine AS.sc rfl rfl rfl ?_ ?_
   ·intro k_ u w_ hk hJ hF K hK
    have h39 : u 39 = .bool true := AS.facts_get hF 39 (by simp)
    have h44 : u 44 = .bool true := AS.facts_get hF 44 (by simp)
    clear hF
    simp only [h39, h44] at hK ⊢
    clear h39 h44
    go_simp
    exact hK.out _ _ (Below.refl _ _) (rfl) trivial
   refine AS.sc rfl rfl rfl ?_ ?_
   ·intro k_ u w_ hk hJ hF K hK
    have h45 : u 45 = .bool true := AS.facts_get hF 45 (by simp)
    clear hF
    simp only [h45] at hK ⊢
    clear h45
    go_simp
    exact hK.out _ _ (Below.refl _ _) (rfl) trivial
   refine AS.sc rfl rfl rfl ?_ ?_
   ·intro k_ u w_ hk hJ hF K hK
    have h46 : u 46 = .bool true := AS.facts_get hF 46 (by simp)
    clear hF
    simp only [h46] at hK ⊢
    clear h46
    obtain rfl : k_ = 0 := Nat.le_zero.1 hk
    have hJ0 : Below W5.heap.size W5 w_ := hJ
    obtain ⟨y0, y1, y2, y3⟩ := ((b5.out).up hJ0).c4
    go_simp
    exact hK.out _ _ (Below.refl _ _) ((HX.out).kept (Keep.ofBelow hJ0)) trivial
   refine AS.sc rfl rfl rfl ?_ ?_
   ·intro k_ u w_ hk hJ hF K hK
    have h46 : u 46 = .bool true := AS.facts_get hF 46 (by simp)
    clear hF
    simp only [h46] at hK ⊢
    clear h46
    obtain rfl : k_ = 0 := Nat.le_zero.1 hk
    have hJ0 : Below W5.heap.size W5 w_ := hJ
    obtain ⟨y0, y1, y2, y3⟩ := ((b6.out).up hJ0).c4
    go_simp
    exact hK.out _ _ (Below.refl _ _) ((HY.out).kept (Keep.ofBelow hJ0)) trivial
   refine AS.sc rfl rfl rfl ?_ ?_
   ·intro k_ u w_ hk hJ hF K hK
    have h46 : u 46 = .bool true := AS.facts_get hF 46 (by simp)
    have h47 : PRat (x) 223 (u 47) w_ := AS.facts_get hF 47 (by simp)
    have h48 : PRat (y) 223 (u 48) w_ := AS.facts_get hF 48 (by simp)
    clear hF
    simp only [h46] at hK ⊢
    clear h46
    go_simp
    refine (ratCmp_fact (n := 223) (h47.more (by decide)) (h48.more (by decide)) (by decide) (by decide)).mono ?_
    rintro e w' ⟨rfl, hb⟩
    exact hK.out _ _ hb (rfl) trivial
   refine AS.sc rfl rfl rfl ?_ ?_
   ·intro k_ u w_ hk hJ hF K hK
    have h46 : u 46 = .bool true := AS.facts_get hF 46 (by simp)
    clear hF
    simp only [h46] at hK ⊢
    clear h46
    obtain rfl : k_ = 0 := Nat.le_zero.1 hk
    have hJ0 : Below W5.heap.size W5 w_ := hJ
    obtain ⟨y0, y1, y2, y3⟩ := ((b7.out).up hJ0).c4
    go_simp
    exact hK.out _ _ (Below.refl _ _) ((HA.out).kept (Keep.ofBelow hJ0)) trivial
   refine AS.sc rfl rfl rfl ?_ ?_
   ·intro k_ u w_ hk hJ hF K hK
    have h46 : u 46 = .bool true := AS.facts_get hF 46 (by simp)
    clear hF
    simp only [h46] at hK ⊢
    clear h46
    obtain rfl : k_ = 0 := Nat.le_zero.1 hk
    have hJ0 : Below W5.heap.size W5 w_ := hJ
    obtain ⟨y0, y1, y2, y3⟩ := ((b8.out).up hJ0).c4
    go_simp
    exact hK.out _ _ (Below.refl _ _) ((HB.out).kept (Keep.ofBelow hJ0)) trivial
   refine AS.sc rfl rfl rfl ?_ ?_
   ·intro k_ u w_ hk hJ hF K hK
    have h46 : u 46 = .bool true := AS.facts_get hF 46 (by simp)
    have h50 : RRat (x) 500 (u 50) w_ := AS.facts_get hF 50 (by simp)
    have h51 : RRat (y) 500 (u 51) w_ := AS.facts_get hF 51 (by simp)
    clear hF
    simp only [h46] at hK ⊢
    clear h46
    go_simp
    refine (rratCmp_fact h50 h51 (by decide) (by decide)).mono ?_
    rintro e w' ⟨rfl, hb⟩
    exact hK.out _ _ hb (rfl) trivial
   refine AS.sc rfl rfl rfl ?_ ?_
   ·intro k_ u w_ hk hJ hF K hK
    have h46 : u 46 = .bool true := AS.facts_get hF 46 (by simp)
    have h49 : u 49 = .int .i64 (cmpQ x y) := AS.facts_get hF 49 (by simp)
    have h52 : u 52 = .int .i64 (cmpQ x y) := AS.facts_get hF 52 (by simp)
    clear hF
    simp only [h46, h49, h52] at hK ⊢
    clear h46 h49 h52
    go_simp
    exact hK.out _ _ (Below.refl _ _) (rfl) trivial
   refine AS.sc rfl rfl rfl ?_ ?_
   ·intro k_ u w_ hk hJ hF K hK
    have h46 : u 46 = .bool true := AS.facts_get hF 46 (by simp)
    have h53 : u 53 = .bool true := AS.facts_get hF 53 (by simp)
    clear hF
    simp only [h46, h53] at hK ⊢
    clear h46 h53
    go_simp
    exact hK.out _ _ (Below.refl _ _) (rfl) trivial
   refine AS.sc rfl rfl rfl ?_ ?_
   ·intro k_ u w_ hk hJ hF K hK
    have h54 : u 54 = .bool true := AS.facts_get hF 54 (by simp)
    clear hF
    simp only [h54] at hK ⊢
    clear h54
    go_simp
    exact hK.out _ _ (Below.refl _ _) (rfl) trivial
   exact AS.StepsOk.nil
  ·intro u W7 hJ9 hF
   have h4 : u 4 = .bool true := AS.facts_get hF 4 (by simp [sumsFL, AS.temps])
   clear hF
   rw [show u 4 = _ from h4]
   clear h4
   replace b5 := hup b5 hJ9
   replace b6 := hup b6 hJ9
   replace b7 := hup b7 hJ9
   replace b8 := hup b8 hJ9
   replace HX := Lib.hid (HX.out.kept (Keep.ofBelow hJ9))
   replace HY := Lib.hid (HY.out.kept (Keep.ofBelow hJ9))
   replace HA := Lib.hid (HA.out.kept (Keep.ofBelow hJ9))
   replace HB := Lib.hid (HB.out.kept (Keep.ofBelow hJ9))
   have nbel := below_then HB6.out hJ9 HB6.out.size
   have HB8 := Lib.hid nbel
   clear nbel HB6 hJ9 x50 x51 x52 x53 x60 x61 x62 x63 x70 x71 x72 x73 x80 x81 x82 x83 szb s5 s6 s7 s8
   obtain ⟨x50, x51, x52, x53, s5⟩ := b5.out.d4
   obtain ⟨x60, x61, x62, x63, s6⟩ := b6.out.d4
   obtain ⟨x70, x71, x72, x73, s7⟩ := b7.out.d4
   obtain ⟨x80, x81, x82, x83, s8⟩ := b8.out.d4
   have szb := HB8.out.size
   go_wp2_with fail
   have hkeep := (Keep.refl W7)
   have hbel := HB8.out
   refine bodyPost_ret (v := .bool true) (by simp [results, Tryz.results4, go_sem]) rfl ⟨rfl, hbel⟩
end Go.Proofs.YtgihmikeapbpkaaGreatDoor
