/- Contracts and the law of RationalRounds, part 1: what was proved of each, callees first. -/
import Derived.Test.YtgihmikeapbpkaaGreatDoorK10
namespace Go.Proofs.YtgihmikeapbpkaaGreatDoor
open Go.RowKit
theorem zR_mul (n m : Bool) {L M R : List Nat} (h : val4 R = val4 L * val4 M) (h0 : R.length = 0 → val4 R = 0) : zR ((n != m) && decide (0 < R.length)) R = zR n L * zR m M := by
 have hc : ((val4 R : Nat) : Int) = (val4 L : Int) * (val4 M : Int) := by rw [h]; simp
 unfold zR
 generalize (val4 L : Int) = x at *
 generalize (val4 M : Int) = y at *
 rcases Nat.eq_zero_or_pos R.length with h1 | h1
 ·have h2 := h0 h1
  rw [h2] at hc ⊢
  have e : (decide (0 < R.length)) = false := by rw [decide_eq_false_iff_not]; omega
  rw [e, Bool.and_false]
  cases n <;> cases m <;> simp <;> grind
 ·have e : (decide (0 < R.length)) = true := by rw [decide_eq_true_iff]; omega
  rw [e, Bool.and_true, hc]
  cases n <;> cases m <;> simp <;> grind
set_option maxRecDepth 20000 in
set_option maxHeartbeats 3200000 in
theorem rmulI_any (n m : Bool) (A A' : Option Addr) (c c' : Nat) (L M : List Nat) (w : World) (hl : L.length ≤ 500000) (hml : M.length ≤ 500000)
  (hL : RefR w w.heap.size n A c L) (hM : RefR w w.heap.size m A' c' M) :
  Calls Tryz.prog 70 #[.agg #[.bool n, .slice A L.length c], .agg #[.bool m, .slice A' M.length c']] w fun e w' => ∃ k A c R, e = .returned (.agg #[.bool k, .slice A R.length c]) ∧
   RefR w' w'.heap.size k A c R ∧ zR k R = zR n L * zR m M ∧ R.length ≤ L.length + M.length ∧ Below w.heap.size w w' := by
 have hM2 := fun W h1 h2 => rmul2 A A' c c' L M W hl hml hL.lim hM.lim h1 h2
 have HM2 := Lib.hid hM2
 clear hM2
 generalize hl' : L.length = l at *
 generalize hm' : M.length = l2 at *
 have HLL := Lib.hid hl'
 have HML := Lib.hid hm'
 clear hl' hm'
 go_enter Tryz.func70, Tryz.ntmps70
 go_wp2
 have hne1 : ¬ w.heap.size = w.heap.size + 1 + 1 := by omega
 have hne2 : ¬ w.heap.size + 1 + 1 = w.heap.size := by omega
 go_region_held3 (fun w' => w'.cell? ⟨w.heap.size, 0, none⟩ = some (.bool n) ∧ w'.cell? ⟨w.heap.size, 1, none⟩ = some (.slice A l c) ∧
   w'.cell? ⟨w.heap.size + 1, 0, none⟩ = some (.bool m) ∧ w'.cell? ⟨w.heap.size + 1, 1, none⟩ = some (.slice A' l2 c')) (go_keep)
  (first
   | (go_at_call 118; refine (HM2.out _ (hL.row.up (below_drew (below_a3 _ _ _ _))) (hM.row.up (below_drew (below_a3 _ _ _ _)))).mono ?_; rintro e w1 ⟨g, c1, R, rfl, hr1, hlim1, htop1, hv1, hl1, hb1, _⟩; have HB1 := Lib.hid (three (below_undrew hb1)).2.2.2.2.2.2.2.2.2; have X := three (below_undrew hb1); have hq1 := X.1; have hq2 := X.2.1; have hq3 := X.2.2.1; have hq4 := X.2.2.2.1; have hq5 := X.2.2.2.2.1; have hq6 := X.2.2.2.2.2.1; have hq7 := X.2.2.2.2.2.2.1; have hq8 := X.2.2.2.2.2.2.2.1; have hq9 := X.2.2.2.2.2.2.2.2.1; clear X hb1)
   | (go_at_call 109; refine (rsigned_trim _ _ _ R _ hl1 htop1 hr1).mono ?_; rintro e w2 ⟨rfl, hb2⟩; have HB2 := Lib.hid (below_then HB1.out hb2 hq9); have HR2 := Lib.hid (hr1.below hb2); have hs2 := hb2.size; clear hq1 hq2 hq3 hq4 hq5 hq6 hq7 hq8 hr1 hb2; have X := three' HB2.out; have hq1 := X.1; have hq2 := X.2.1; have hq3 := X.2.2.1; have hq4 := X.2.2.2.1; have hq5 := X.2.2.2.2.1; have hq6 := X.2.2.2.2.2.1; have hq7 := X.2.2.2.2.2.2.1; have hq8 := X.2.2.2.2.2.2.2.1; clear X))
 all_goals
  go_wp2
  have hbw : Below w.heap.size w w2 := (below_a3 w _ _ _).trans (Below.less HB2.out (by omega))
  refine bodyPost_ret (v := .agg #[.bool (!(n == m) && decide (0 < R.length)), .slice (some ⟨g, 0, none⟩) R.length c1]) (by simp [results, Tryz.results70, go_sem, hq5, hq6]) rfl
   ⟨_, _, _, R, rfl, ?_, zR_mul n m hv1 val4_nil, hl1, (hbw.setCell (by simp; omega) _).setCell (by simp; omega) _⟩
  rw [setCell_size, setCell_size]
  refine ⟨(HR2.out.more hs2).box3 HB2.out (fun _ => by simp) (fun _ => by simp) _ _, hlim1, htop1, fun hk hR => ?_⟩
  rw [hR] at hk
  simp at hk
theorem ref_len {w w' : World} {B B' : Nat} {n m : Bool} {A A' : Option Addr} {c c' : Nat} {L M : List Nat} (hL : RefR w B n A c L) (hM : RefR w' B' m A' c' M) (h : val4 M ≤ val4 L) : M.length ≤ L.length := by
 rcases Nat.lt_or_ge L.length M.length with hlt | hge
 ·have := canon_lt4 hL.lim hM.top hlt; omega
 ·exact hge
set_option maxHeartbeats 3200000
set_option maxRecDepth 20000
theorem addZR (n : Bool) {L M R : List Nat} (h : val4 R = val4 L + val4 M) (h0 : R.length = 0 → val4 R = 0) : zR (n && decide (0 < R.length)) R = zR n L + zR n M := by
 unfold zR
 rcases Nat.eq_zero_or_pos R.length with h1 | h1
 ·have h2 := h0 h1
  have e : (decide (0 < R.length)) = false := by rw [decide_eq_false_iff_not]; omega
  rw [e, Bool.and_false]
  cases n <;> simp <;> omega
 ·have e : (decide (0 < R.length)) = true := by rw [decide_eq_true_iff]; omega
  rw [e, Bool.and_true]
  cases n <;> simp <;> omega
theorem subZR (n : Bool) {L M R : List Nat} (h : val4 R + val4 M = val4 L) (h0 : R.length = 0 → val4 R = 0) : zR (n && decide (0 < R.length)) R = zR n L + zR (!n) M := by
 unfold zR
 rcases Nat.eq_zero_or_pos R.length with h1 | h1
 ·have h2 := h0 h1
  have e : (decide (0 < R.length)) = false := by rw [decide_eq_false_iff_not]; omega
  rw [e, Bool.and_false]
  cases n <;> simp <;> omega
 ·have e : (decide (0 < R.length)) = true := by rw [decide_eq_true_iff]; omega
  rw [e, Bool.and_true]
  cases n <;> simp <;> omega
theorem radd_same (n : Bool) (A A' : Option Addr) (c c' : Nat) (L M : List Nat) (w : World) (hl : L.length ≤ 500000) (hml : M.length ≤ 500000)
  (hL : RefR w w.heap.size n A c L) (hM : RefR w w.heap.size n A' c' M) :
  Calls Tryz.prog 69 #[.agg #[.bool n, .slice A L.length c], .agg #[.bool n, .slice A' M.length c']] w fun e w' => ∃ k A c R, e = .returned (.agg #[.bool k, .slice A (List.length R) c]) ∧
   RefR w' w'.heap.size k A c R ∧ zR k R = zR n L + zR n M ∧ List.length R ≤ L.length + M.length + 1 ∧ Below w.heap.size w w' := by
 have hM2 := fun W h1 h2 => radd2 A A' c c' L M W hl hml hL.lim hM.lim h1 h2
 have HM2 := Lib.hid hM2
 clear hM2
 generalize hl' : L.length = l at *
 generalize hm' : M.length = l2 at *
 have HLL := Lib.hid hl'
 have HML := Lib.hid hm'
 clear hl' hm'
 have hbb : (n == n) = true := by simp
 go_enter Tryz.func69, Tryz.ntmps69
 go_wp2
 have hne1 : ¬ w.heap.size = w.heap.size + 1 + 1 := by omega
 have hne2 : ¬ w.heap.size + 1 + 1 = w.heap.size := by omega
 have HUP := Lib.hid (below_drew (below_a3 w (.cells #[.bool n, .slice A l c] 33) (.cells #[.bool n, .slice A' l2 c'] 33) (.cells #[.bool false, .slice none 0 0] 33)))
 go_region_held3 (fun w' => w'.cell? ⟨w.heap.size, 0, none⟩ = some (.bool n) ∧ w'.cell? ⟨w.heap.size, 1, none⟩ = some (.slice A l c) ∧
   w'.cell? ⟨w.heap.size + 1, 0, none⟩ = some (.bool n) ∧ w'.cell? ⟨w.heap.size + 1, 1, none⟩ = some (.slice A' l2 c')) (go_keep)
  (first
   | (go_at_call 115; (with_reducible refine (HM2.out _ (hL.row.up HUP.out) (hM.row.up HUP.out)).mono ?_); rintro e w1 ⟨A2, c1, R, rfl, hr1, hlim1, hv1, hl1, hb1⟩; have HB1 := Lib.hid (three (below_undrew hb1)).2.2.2.2.2.2.2.2.2; have X := three (below_undrew hb1); have hq1 := X.1; have hq2 := X.2.1; have hq3 := X.2.2.1; have hq4 := X.2.2.2.1; have hq9 := X.2.2.2.2.2.2.2.2.1; clear X hb1)
   | (go_at_call 109; refine (rsigned_pack _ _ _ R _ hl1 (by omega) hlim1 hr1).mono ?_; rintro e w2 ⟨T, rfl, hr2, hlim2, htop2, hv2, hl2, hb2⟩; have HB2 := Lib.hid (below_then HB1.out hb2 hq9); have HR2 := Lib.hid hr2; have HV2 := Lib.hid hv2; clear hq1 hq2 hq3 hq4 hr1 hr2 hv2 hb2; have X := three' HB2.out; have hq1 := X.1; have hq2 := X.2.1; have hq3 := X.2.2.1; have hq4 := X.2.2.2.1; have hq5 := X.2.2.2.2.1; have hq6 := X.2.2.2.2.2.1; have hq7 := X.2.2.2.2.2.2.1; have hq8 := X.2.2.2.2.2.2.2.1; clear X))
 all_goals
  go_wp2
  have hbw : Below w.heap.size w w2 := (below_a3 w _ _ _).trans (Below.less HB2.out (by omega))
  refine bodyPost_ret (v := .agg #[.bool (n && decide (0 < List.length T)), .slice A2 (List.length T) c1]) (by simp [results, Tryz.results69, go_sem, hq5, hq6]) rfl
   ⟨_, _, _, T, rfl, ?_, addZR n (by rw [HV2.out]; exact hv1) val4_nil, by omega, (hbw.setCell (by simp; omega) _).setCell (by simp; omega) _⟩
  rw [setCell_size, setCell_size]
  refine ⟨HR2.out.box3 HB2.out (fun _ => by simp) (fun _ => by simp) _ _, hlim2, htop2, fun hk hR => ?_⟩
  rw [hR] at hk
  simp at hk
theorem radd_ge (n : Bool) (A A' : Option Addr) (c c' : Nat) (L M : List Nat) (w : World) (hl : L.length ≤ 500000) (hml : M.length ≤ 500000) (hle : val4 M ≤ val4 L)
  (hL : RefR w w.heap.size n A c L) (hM : RefR w w.heap.size (!n) A' c' M) :
  Calls Tryz.prog 69 #[.agg #[.bool n, .slice A L.length c], .agg #[.bool (!n), .slice A' M.length c']] w fun e w' => ∃ k A c R, e = .returned (.agg #[.bool k, .slice A (List.length R) c]) ∧
   RefR w' w'.heap.size k A c R ∧ zR k R = zR n L + zR (!n) M ∧ List.length R ≤ L.length + M.length + 1 ∧ Below w.heap.size w w' := by
 have hM2 := fun W h1 h2 => rsub2 A A' c c' L M W hl (ref_len hL hM hle) hL.lim hM.lim hle h1 h2
 have HM2 := Lib.hid hM2
 have hC := fun W h1 h2 => rcompare_any A A' c c' L M W (by omega) (by omega) h1 h2
 have hz : cmpL L M = cmpZ (val4 L) (val4 M) := cmpL_val4 hL hM
 have hz2 : 0 ≤ cmpL L M := by rw [hz]; exact cmp_ge hle
 generalize cmpL L M = z at *
 have HC := Lib.hid hC
 clear hC hz hle hM2
 generalize hl' : L.length = l at *
 generalize hm' : M.length = l2 at *
 have HLL := Lib.hid hl'
 have HML := Lib.hid hm'
 clear hl' hm'
 have hbb : (n == !n) = false := by cases n <;> rfl
 go_enter Tryz.func69, Tryz.ntmps69
 go_wp2_with fail
 refine (HC.out _ (hL.row.up (below_a3 _ _ _ _)) (hM.row.up (below_a3 _ _ _ _))).mono ?_
 rintro e w9 ⟨rfl, nq, rfl⟩
 go_wp2_with fail
 have hne1 : ¬ w.heap.size = w.heap.size + 1 + 1 := by omega
 have hne2 : ¬ w.heap.size + 1 + 1 = w.heap.size := by omega
 have HUP := Lib.hid (below_drewN (below_a3 w (.cells #[.bool n, .slice A l c] 33) (.cells #[.bool (!n), .slice A' l2 c'] 33) (.cells #[.bool false, .slice none 0 0] 33)) (nq + 1))
 go_region_held3 (fun w' => w'.cell? ⟨w.heap.size, 0, none⟩ = some (.bool n) ∧ w'.cell? ⟨w.heap.size, 1, none⟩ = some (.slice A l c) ∧
   w'.cell? ⟨w.heap.size + 1, 0, none⟩ = some (.bool (!n)) ∧ w'.cell? ⟨w.heap.size + 1, 1, none⟩ = some (.slice A' l2 c')) (go_keep)
  (first
   | (go_at_call 117; (with_reducible refine (HM2.out _ (hL.row.up HUP.out) (hM.row.up HUP.out)).mono ?_); rintro e w1 ⟨A2, c1, R, rfl, hr1, hlim1, hv1, hl1, hb1⟩; have HB1 := Lib.hid (three (below_undrewN hb1)).2.2.2.2.2.2.2.2.2; have X := three (below_undrewN hb1); have hq1 := X.1; have hq2 := X.2.1; have hq3 := X.2.2.1; have hq4 := X.2.2.2.1; have hq9 := X.2.2.2.2.2.2.2.2.1; clear X hb1)
   | (go_at_call 109; refine (rsigned_pack _ _ _ R _ hl1 (by omega) hlim1 hr1).mono ?_; rintro e w2 ⟨T, rfl, hr2, hlim2, htop2, hv2, hl2, hb2⟩; have HB2 := Lib.hid (below_then HB1.out hb2 hq9); have HR2 := Lib.hid hr2; have HV2 := Lib.hid hv2; clear hq1 hq2 hq3 hq4 hr1 hr2 hv2 hb2; have X := three' HB2.out; have hq1 := X.1; have hq2 := X.2.1; have hq3 := X.2.2.1; have hq4 := X.2.2.2.1; have hq5 := X.2.2.2.2.1; have hq6 := X.2.2.2.2.2.1; have hq7 := X.2.2.2.2.2.2.1; have hq8 := X.2.2.2.2.2.2.2.1; clear X))
 all_goals
  go_wp2
  have hbw : Below w.heap.size w w2 := (below_a3 w _ _ _).trans (Below.less HB2.out (by omega))
  refine bodyPost_ret (v := .agg #[.bool (n && decide (0 < List.length T)), .slice A2 (List.length T) c1]) (by simp [results, Tryz.results69, go_sem, hq5, hq6]) rfl
   ⟨_, _, _, T, rfl, ?_, subZR n (by rw [HV2.out]; exact hv1) val4_nil, by omega, (hbw.setCell (by simp; omega) _).setCell (by simp; omega) _⟩
  rw [setCell_size, setCell_size]
  refine ⟨HR2.out.box3 HB2.out (fun _ => by simp) (fun _ => by simp) _ _, hlim2, htop2, fun hk hR => ?_⟩
  rw [hR] at hk
  simp at hk
theorem radd_lt (n : Bool) (A A' : Option Addr) (c c' : Nat) (L M : List Nat) (w : World) (hl : L.length ≤ 500000) (hml : M.length ≤ 500000) (hlt : val4 L < val4 M)
  (hL : RefR w w.heap.size n A c L) (hM : RefR w w.heap.size (!n) A' c' M) :
  Calls Tryz.prog 69 #[.agg #[.bool n, .slice A L.length c], .agg #[.bool (!n), .slice A' M.length c']] w fun e w' => ∃ k A c R, e = .returned (.agg #[.bool k, .slice A (List.length R) c]) ∧
   RefR w' w'.heap.size k A c R ∧ zR k R = zR n L + zR (!n) M ∧ List.length R ≤ L.length + M.length + 1 ∧ Below w.heap.size w w' := by
 have hM2 := fun W h1 h2 => rsub2 A' A c' c M L W hml (ref_len hM hL (by omega)) hM.lim hL.lim (by omega) h1 h2
 have HM2 := Lib.hid hM2
 have hC := fun W h1 h2 => rcompare_any A A' c c' L M W (by omega) (by omega) h1 h2
 have hz : cmpL L M = cmpZ (val4 L) (val4 M) := cmpL_val4 hL hM
 have hz2 : cmpL L M = -1 := by rw [hz]; exact cmp_lt hlt
 rw [hz2] at hC
 have HC := Lib.hid hC
 clear hC hz hz2 hlt hM2
 generalize hl' : L.length = l at *
 generalize hm' : M.length = l2 at *
 have HLL := Lib.hid hl'
 have HML := Lib.hid hm'
 clear hl' hm'
 have hbb : (n == !n) = false := by cases n <;> rfl
 go_enter Tryz.func69, Tryz.ntmps69
 go_wp2_with fail
 refine (HC.out _ (hL.row.up (below_a3 _ _ _ _)) (hM.row.up (below_a3 _ _ _ _))).mono ?_
 rintro e w9 ⟨rfl, nq, rfl⟩
 go_wp2_with fail
 have hne1 : ¬ w.heap.size = w.heap.size + 1 + 1 := by omega
 have hne2 : ¬ w.heap.size + 1 + 1 = w.heap.size := by omega
 have HUP := Lib.hid (below_drewN (below_a3 w (.cells #[.bool n, .slice A l c] 33) (.cells #[.bool (!n), .slice A' l2 c'] 33) (.cells #[.bool false, .slice none 0 0] 33)) (nq + 1))
 go_region_held3 (fun w' => w'.cell? ⟨w.heap.size, 0, none⟩ = some (.bool n) ∧ w'.cell? ⟨w.heap.size, 1, none⟩ = some (.slice A l c) ∧
   w'.cell? ⟨w.heap.size + 1, 0, none⟩ = some (.bool (!n)) ∧ w'.cell? ⟨w.heap.size + 1, 1, none⟩ = some (.slice A' l2 c')) (go_keep)
  (first
   | (go_at_call 117; (with_reducible refine (HM2.out _ (hM.row.up HUP.out) (hL.row.up HUP.out)).mono ?_); rintro e w1 ⟨A2, c1, R, rfl, hr1, hlim1, hv1, hl1, hb1⟩; have HB1 := Lib.hid (three (below_undrewN hb1)).2.2.2.2.2.2.2.2.2; have X := three (below_undrewN hb1); have hq1 := X.1; have hq2 := X.2.1; have hq3 := X.2.2.1; have hq4 := X.2.2.2.1; have hq9 := X.2.2.2.2.2.2.2.2.1; clear X hb1)
   | (go_at_call 109; refine (rsigned_pack _ _ _ R _ hl1 (by omega) hlim1 hr1).mono ?_; rintro e w2 ⟨T, rfl, hr2, hlim2, htop2, hv2, hl2, hb2⟩; have HB2 := Lib.hid (below_then HB1.out hb2 hq9); have HR2 := Lib.hid hr2; have HV2 := Lib.hid hv2; clear hq1 hq2 hq3 hq4 hr1 hr2 hv2 hb2; have X := three' HB2.out; have hq1 := X.1; have hq2 := X.2.1; have hq3 := X.2.2.1; have hq4 := X.2.2.2.1; have hq5 := X.2.2.2.2.1; have hq6 := X.2.2.2.2.2.1; have hq7 := X.2.2.2.2.2.2.1; have hq8 := X.2.2.2.2.2.2.2.1; clear X))
 all_goals
  go_wp2
  have hbw : Below w.heap.size w w2 := (below_a3 w _ _ _).trans (Below.less HB2.out (by omega))
  refine bodyPost_ret (v := .agg #[.bool ((!n) && decide (0 < List.length T)), .slice A2 (List.length T) c1]) (by simp [results, Tryz.results69, go_sem, hq5, hq6]) rfl
   ⟨_, _, _, T, rfl, ?_, ((subZR (!n) (L := M) (M := L) (R := T) (by rw [HV2.out]; exact hv1) val4_nil).trans (by rw [Bool.not_not, Int.add_comm])), by omega, (hbw.setCell (by simp; omega) _).setCell (by simp; omega) _⟩
  rw [setCell_size, setCell_size]
  refine ⟨HR2.out.box3 HB2.out (fun _ => by simp) (fun _ => by simp) _ _, hlim2, htop2, fun hk hR => ?_⟩
  rw [hR] at hk
  simp at hk
theorem raddI_any (n m : Bool) (A A' : Option Addr) (c c' : Nat) (L M : List Nat) (w : World) (hl : L.length ≤ 500000) (hml : M.length ≤ 500000)
  (hL : RefR w w.heap.size n A c L) (hM : RefR w w.heap.size m A' c' M) :
  Calls Tryz.prog 69 #[.agg #[.bool n, .slice A L.length c], .agg #[.bool m, .slice A' M.length c']] w fun e w' => ∃ k A c R, e = .returned (.agg #[.bool k, .slice A (List.length R) c]) ∧
   RefR w' w'.heap.size k A c R ∧ zR k R = zR n L + zR m M ∧ List.length R ≤ L.length + M.length + 1 ∧ Below w.heap.size w w' := by
 by_cases h : n = m
 ·subst h
  exact radd_same n A A' c c' L M w hl hml hL hM
 ·obtain rfl : m = !n := by cases n <;> cases m <;> first | rfl | exact absurd rfl h
  rcases Nat.lt_or_ge (val4 L) (val4 M) with h1 | h1
  ·exact radd_lt n A A' c c' L M w hl hml h1 hL hM
  ·exact radd_ge n A A' c c' L M w hl hml h1 hL hM
theorem sub_terms (x y : Rat) : x + -y = x - y := (Rat.sub_eq_add_neg x y).symm
def cmpQ (x y : Rat) : Int := if x < y then -1 else if x = y then 0 else 1
theorem cmp_terms (x y : Rat) : cmpI (x.num * y.den) (y.num * x.den) = cmpQ x y := by
 unfold cmpI cmpQ
 simp only [Rat.lt_iff, Rat.eq_iff_mul_eq_mul]
theorem rnear_eq (a b : Int) (hb : 0 < b) : (if a < 0 then -Int.tdiv (2 * (a.natAbs : Int) + b) (2 * b) else Int.tdiv (2 * (a.natAbs : Int) + b) (2 * b)) = rndI a b := by
 unfold rndI
 split
 ·rename_i h
  rw [Int.tdiv_eq_ediv_of_nonneg (by omega), Int.ofNat_natAbs_of_nonpos (by omega)]
 ·rename_i h
  rw [Int.tdiv_eq_ediv_of_nonneg (by omega), Int.natAbs_of_nonneg (by omega)]
theorem rndI_near (a b : Int) (hb : 0 < b) : 2 * a - 2 * (rndI a b * b) ≤ b ∧ -b ≤ 2 * a - 2 * (rndI a b * b) := by
 unfold rndI
 split
 ·have h1 := Int.emod_add_mul_ediv (2 * -a + b) (2 * b)
  have h2 := Int.emod_nonneg (2 * -a + b) (b := 2 * b) (by omega)
  have h3 := Int.emod_lt_of_pos (2 * -a + b) (b := 2 * b) (by omega)
  generalize (2 * -a + b) / (2 * b) = q at *
  generalize (2 * -a + b) % (2 * b) = r at *
  have h4 : 2 * b * q = 2 * (q * b) := by grind
  rw [Int.neg_mul]
  omega
 ·have h1 := Int.emod_add_mul_ediv (2 * a + b) (2 * b)
  have h2 := Int.emod_nonneg (2 * a + b) (b := 2 * b) (by omega)
  have h3 := Int.emod_lt_of_pos (2 * a + b) (b := 2 * b) (by omega)
  generalize (2 * a + b) / (2 * b) = q at *
  generalize (2 * a + b) % (2 * b) = r at *
  have h4 : 2 * b * q = 2 * (q * b) := by grind
  omega
theorem rndI_neg (a b : Int) (hb : 0 < b) : rndI (-a) b = -rndI a b := by
 unfold rndI
 rcases Int.lt_trichotomy a 0 with h | h | h
 ·rw [if_neg (by omega), if_pos h, Int.neg_neg]
 ·subst h
  have : b / (2 * b) = 0 := Int.ediv_eq_zero_of_lt (by omega) (by omega)
  simp [this]
 ·rw [if_pos (by omega), if_neg (by omega), Int.neg_neg]
theorem rndQ_mono {x y : Rat} (h : x ≤ y) : rndQ x ≤ rndQ y := by
 rw [Rat.le_iff] at h
 exact rndI_mono (Int.natCast_pos.2 x.den_pos) (Int.natCast_pos.2 y.den_pos) h
theorem rndQ_neg (x : Rat) : rndQ (-x) = -rndQ x := rndI_neg _ _ (Int.natCast_pos.2 x.den_pos)
theorem half_num : (Rat.divInt 1 2) = 1 / 2 := by decide +kernel
theorem sub_int_le (x : Rat) (n : Int) (h : 2 * x.num - 2 * (n * x.den) ≤ x.den) : x - (n : Rat) ≤ 1 / 2 := by
 rw [Rat.sub_right_le_iff_le_add]
 have e : (1 / 2 + (n : Rat)) = Rat.divInt (1 + 2 * n) 2 := by
  rw [Rat.divInt_eq_div]
  simp only [Rat.intCast_add, Rat.intCast_mul]
  grind
 rw [e]
 have h2 : Rat.divInt x.num x.den = x := Rat.num_divInt_den x
 have hd : 0 < (x.den : Int) := by have := x.den_pos; omega
 generalize x.num = p at *
 generalize (x.den : Int) = q at *
 subst h2
 rw [Rat.le_iff_sub_nonneg, Rat.divInt_sub_divInt _ _ (by decide) (by omega)]
 refine Rat.divInt_nonneg ?_ (by omega)
 have : (1 + 2 * n) * q = q + 2 * (n * q) := by grind
 omega
theorem rndQ_near (x : Rat) : x - (rndQ x : Rat) ≤ 1 / 2 ∧ -(1 / 2) ≤ x - (rndQ x : Rat) := by
 have h := rndI_near x.num x.den (Int.natCast_pos.2 x.den_pos)
 refine ⟨sub_int_le x _ h.1, ?_⟩
 have h2 := sub_int_le (-x) (rndQ (-x)) (by
  rw [rndQ_neg]
  show 2 * -x.num - 2 * (-rndQ x * x.den) ≤ x.den
  have := h.2
  unfold rndQ
  rw [Int.neg_mul]
  omega)
 rw [rndQ_neg, Rat.intCast_neg] at h2
 grind
open AS (Keep NoInt)
section
variable {t : TypeId} {w w' : World} {g : Nat} {vs : List Value}
end
theorem PRat.more {x : Rat} {n m : Nat} {v : Value} {w : World} (h : PRat x n v w) (hm : n ≤ m) : PRat x m v w := by
 obtain ⟨p, q, k, A, l, c, k', A', l', c', rfl, h1, h2, h3⟩ := h
 exact ⟨p, q, k, A, l, c, k', A', l', c', rfl, h1.more hm, h2.more hm, h3⟩
def AS.Fact.rrat (x : Rat) (n : Nat) : AS.Fact := ⟨RRat x n, fun _ _ _ hk h => h.kept hk⟩
def RQuoP (q : Int) (n : Nat) (v : Value) (w : World) : Prop := ∃ a k' A' l' c', v = .tuple #[a, .agg #[.bool k', .slice A' l' c'], .int .i64 0] ∧ PRef q n a w
def AS.Fact.rquo (q : Int) (n : Nat) : AS.Fact := ⟨RQuoP q n, fun _ _ _ hk ⟨a, k', A', l', c', e, h1⟩ => ⟨a, k', A', l', c', e, h1.kept hk⟩⟩
open Go.RowKit
open AS (Keep NoInt)
theorem rmul_fact {x y : Int} {n m : Nat} {a b : Value} {w : World} (h1 : PRef x n a w) (h2 : PRef y m b w) (hn : n ≤ 500000) (hm : m ≤ 500000) :
  Calls Tryz.prog 70 #[a, b] w fun e w' => ∃ v, e = .returned v ∧ PRef (x * y) (n + m) v w' ∧ Below w.heap.size w w' := by
 obtain ⟨k, A, c, L, rfl, i1, rfl, l1⟩ := h1
 obtain ⟨k', A', c', M, rfl, i2, rfl, l2⟩ := h2
 refine (rmulI_any k k' A A' c c' L M w (by omega) (by omega) i1 i2).mono ?_
 rintro e w' ⟨q, B, d, R, rfl, hi, hz, hl, hb⟩
 exact ⟨_, rfl, ⟨q, B, d, R, rfl, hi, hz, by omega⟩, hb⟩
theorem radd_fact {x y : Int} {n m : Nat} {a b : Value} {w : World} (h1 : PRef x n a w) (h2 : PRef y m b w) (hn : n ≤ 500000) (hm : m ≤ 500000) :
  Calls Tryz.prog 69 #[a, b] w fun e w' => ∃ v, e = .returned v ∧ PRef (x + y) (n + m + 1) v w' ∧ Below w.heap.size w w' := by
 obtain ⟨k, A, c, L, rfl, i1, rfl, l1⟩ := h1
 obtain ⟨k', A', c', M, rfl, i2, rfl, l2⟩ := h2
 refine (raddI_any k k' A A' c c' L M w (by omega) (by omega) i1 i2).mono ?_
 rintro e w' ⟨q, B, d, R, rfl, hi, hz, hl, hb⟩
 exact ⟨_, rfl, ⟨q, B, d, R, rfl, hi, hz, by omega⟩, hb⟩
set_option maxRecDepth 20000 in
set_option maxHeartbeats 3200000 in
theorem copied_fact {z : Int} {n : Nat} {a : Value} {w : World} (h1 : PInt z n a w) (hn : n ≤ 400000) :
  Calls Tryz.prog 71 #[a] w fun e w' => ∃ v, e = .returned v ∧ PInt z (n + 1) v w' ∧ Below w.heap.size w w' := by
 obtain ⟨k, A, l, c, rfl⟩ := h1.open
 have H1 := Lib.hid h1
 clear h1
 go_enter Tryz.func71, Tryz.ntmps71
 go_upto_region 1 with (fail)
 change Code.wp Tryz.prog _ _ _ ((w.alloc (.cells #[.bool k, .slice A l c] 25)).alloc (.cells #[.bool false, .slice none 0 0] 25))
 obtain ⟨nb1, nb2, na⟩ := new2 w 25 [.bool k, .slice A l c] 25 [.bool false, .slice none 0 0] lf2 lf2
 have nkeep := Keep.ofBelow na
 have nbel := na
 generalize (w.alloc (.cells #[.bool k, .slice A l c] 25)).alloc (.cells #[.bool false, .slice none 0 0] 25) = W1 at *
 clear na
 have b1 := Lib.hid nb1
 have b2 := Lib.hid nb2
 clear nb1 nb2
 replace H1 := Lib.hid (H1.out.kept nkeep)
 clear nkeep
 have HB2 := Lib.hid nbel
 clear nbel
 obtain ⟨x10, x11, s1⟩ := b1.out.d2
 obtain ⟨x20, x21, z20, z21, s2⟩ := b2.out.e2
 have szb := HB2.out.size
 go_wp2_with fail
 refine (add_fact H1.out (PInt.zero 0 _) (by omega) (by omega)).mono ?_
 rintro e W3 ⟨v, rfl, hv, hb⟩
 replace b1 := hup b1 hb
 replace b2 := hup b2 hb
 replace H1 := Lib.hid (H1.out.kept (Keep.ofBelow hb))
 have nbel := below_then HB2.out hb HB2.out.size
 have HB4 := Lib.hid nbel
 clear nbel HB2 hb x10 x11 x20 x21 z20 z21 szb s1 s2
 obtain ⟨x10, x11, s1⟩ := b1.out.d2
 obtain ⟨x20, x21, z20, z21, s2⟩ := b2.out.e2
 have szb := HB4.out.size
 obtain ⟨k1, A1, l1, c1, rfl⟩ := hv.open
 have HV := Lib.hid hv
 clear hv
 go_wp2_with fail
 have hkeep := (Keep.set2 (Keep.refl W3) b2.out (Leaf.bool k1) (Leaf.slice A1 l1 c1))
 have hbel := (Below.set2 (g := w.heap.size + 1) HB4.out (by first | omega | (simp; done) | (simp; omega)) (.bool k1) (.slice A1 l1 c1))
 refine bodyPost_ret (v := .agg #[.bool k1, .slice A1 l1 c1]) (by simp [results, Tryz.results71, go_sem, x20, x21]) rfl ⟨_, rfl, by have h := HV.out.kept hkeep; simpa using h, hbel⟩
def ratNegFL (x : Rat) (n : Nat) : List (Nat × AS.Fact) := [(10, AS.Fact.int (x.num) n), (11, AS.Fact.int (-(x.num)) n), (12, AS.Fact.int ((x.den : Int)) n), (13, AS.Fact.int ((x.den : Int)) (n + 1)), (14, AS.Fact.rat (-x) (n + 1))]
set_option maxRecDepth 20000 in
set_option maxHeartbeats 3200000 in
theorem ratNeg_fact {x : Rat} {n : Nat} {v : Value} {w : World} (h : PRat x n v w) (hn3 : 3 ≤ n) (hn : n ≤ 10000) :
  Calls Tryz.prog 24 #[v] w fun e w' => ∃ v, e = .returned v ∧ PRat (-x) (n + 1) v w' ∧ Below w.heap.size w w' := by
 obtain ⟨k, A, l, c, k', A', l', c', rfl⟩ := h.open
 have H1 := Lib.hid h
 clear h
 go_enter Tryz.func24, Tryz.ntmps24
 go_upto_region 1 with (fail)
 change Code.wp Tryz.prog _ _ _ ((w.alloc (.cells #[.bool k, .slice A l c, .bool k', .slice A' l' c'] 27)).alloc (.cells #[.bool false, .slice none 0 0, .bool false, .slice none 0 0] 27))
 obtain ⟨nb1, nb2, na⟩ := new2 w 27 [.bool k, .slice A l c, .bool k', .slice A' l' c'] 27 [.bool false, .slice none 0 0, .bool false, .slice none 0 0] lf4 lf4
 have nkeep := Keep.ofBelow na
 have nbel := na
 generalize (w.alloc (.cells #[.bool k, .slice A l c, .bool k', .slice A' l' c'] 27)).alloc (.cells #[.bool false, .slice none 0 0, .bool false, .slice none 0 0] 27) = W1 at *
 clear na
 have b1 := Lib.hid nb1
 have b2 := Lib.hid nb2
 clear nb1 nb2
 replace H1 := Lib.hid (H1.out.kept nkeep)
 clear nkeep
 have HB2 := Lib.hid nbel
 clear nbel
 obtain ⟨x1_0, x1_1, x1_2, x1_3, s1⟩ := b1.out.d4
 obtain ⟨x2_0, x2_1, x2_2, x2_3, s2⟩ := b2.out.d4
 have szb := HB2.out.size
 go_wp2_with fail
 refine (terms_fact H1.out hn3).mono ?_
 rintro e W3 ⟨k1, A1, l1, c1, j1, B1, o1, e1, rfl, ha_, hc_, hb⟩
 replace b1 := hup b1 hb
 replace b2 := hup b2 hb
 replace H1 := Lib.hid (H1.out.kept (Keep.ofBelow hb))
 have nbel := below_then HB2.out hb HB2.out.size
 have HB4 := Lib.hid nbel
 clear nbel HB2 hb x1_0 x1_1 x1_2 x1_3 x2_0 x2_1 x2_2 x2_3 szb s1 s2
 obtain ⟨x1_0, x1_1, x1_2, x1_3, s1⟩ := b1.out.d4
 obtain ⟨x2_0, x2_1, x2_2, x2_3, s2⟩ := b2.out.d4
 have szb := HB4.out.size
 have HA := Lib.hid ha_
 have HB := Lib.hid hc_
 clear ha_ hc_
 go_upto_region 2 with (fail)
 have q5 := b1.out.lt
 have q6 := b2.out.lt
 change Code.wp Tryz.prog _ _ _ ((W3.alloc (.cells #[.bool k1, .slice A1 l1 c1] 25)).alloc (.cells #[.bool j1, .slice B1 o1 e1] 25))
 obtain ⟨nb3, nb4, na⟩ := new2 W3 25 [.bool k1, .slice A1 l1 c1] 25 [.bool j1, .slice B1 o1 e1] lf2 lf2
 have nb1 := b1.out.up na
 have nb2 := b2.out.up na
 have nkeep := Keep.ofBelow na
 have nbel := below_then HB4.out na HB4.out.size
 generalize (W3.alloc (.cells #[.bool k1, .slice A1 l1 c1] 25)).alloc (.cells #[.bool j1, .slice B1 o1 e1] 25) = W7 at *
 clear na x1_0 x1_1 x1_2 x1_3 x2_0 x2_1 x2_2 x2_3 szb s1 s2 b1 b2
 have b1 := Lib.hid nb1
 have b2 := Lib.hid nb2
 have b3 := Lib.hid nb3
 have b4 := Lib.hid nb4
 clear nb1 nb2 nb3 nb4
 replace H1 := Lib.hid (H1.out.kept nkeep)
 replace HA := Lib.hid (HA.out.kept nkeep)
 replace HB := Lib.hid (HB.out.kept nkeep)
 clear nkeep
 have HB8 := Lib.hid nbel
 clear nbel HB4
 obtain ⟨x1_0, x1_1, x1_2, x1_3, s1⟩ := b1.out.d4
 obtain ⟨x2_0, x2_1, x2_2, x2_3, s2⟩ := b2.out.d4
 obtain ⟨x3_0, x3_1, s3⟩ := b3.out.d2
 obtain ⟨x4_0, x4_1, s4⟩ := b4.out.d2
 have szb := HB8.out.size
 refine AS.region_facts (ratNegFL x n) (JRes w W7 27 (w.heap.size + 1)) [[], [10], [], [12], [11, 13], [14]] [5] [[], [14]] [0, 1, 0, 1, 1, 1] [] (fun u => by simp only [ratNegFL, AS.temps, List.map_cons, List.map_nil, fillL, List.setIfInBounds_toArray, List.set_cons_zero, List.set_cons_succ]; rfl) (by kernel_rfl) (by kernel_rfl) (JRes.st w W7 27 (w.heap.size + 1)) (below_drew (Below.refl _ _)) ?_ ?_
 ·refine AS.sc rfl rfl rfl ?_ ?_
  ·intro k_ u w_ hk hJ hF K hK
   clear hF
   obtain rfl : k_ = 0 := Nat.le_zero.1 hk
   have hJ0 : Below W7.heap.size W7 w_ := hJ
   obtain ⟨y0, y1⟩ := ((b3.out).up hJ0).c2
   go_simp
   exact hK.out _ _ (Below.refl _ _) ((HA.out).kept (Keep.ofBelow hJ0)) trivial
  refine AS.sc rfl rfl rfl ?_ ?_
  ·intro k_ u w_ hk hJ hF K hK
   have h10 : PInt (x.num) n (u 10) w_ := AS.facts_get hF 10 (by simp)
   clear hF
   go_simp
   refine (neg_fact h10 (by omega)).mono ?_
   rintro e w' ⟨v, rfl, hv, hb⟩
   exact hK.out _ _ hb (hv) trivial
  refine AS.sc rfl rfl rfl ?_ ?_
  ·intro k_ u w_ hk hJ hF K hK
   clear hF
   obtain rfl : k_ = 0 := Nat.le_zero.1 hk
   have hJ0 : Below W7.heap.size W7 w_ := hJ
   obtain ⟨y0, y1⟩ := ((b4.out).up hJ0).c2
   go_simp
   exact hK.out _ _ (Below.refl _ _) ((HB.out).kept (Keep.ofBelow hJ0)) trivial
  refine AS.sc rfl rfl rfl ?_ ?_
  ·intro k_ u w_ hk hJ hF K hK
   have h12 : PInt ((x.den : Int)) n (u 12) w_ := AS.facts_get hF 12 (by simp)
   clear hF
   go_simp
   refine (copied_fact h12 (by omega)).mono ?_
   rintro e w' ⟨v, rfl, hv, hb⟩
   exact hK.out _ _ hb (hv) trivial
  refine AS.sc rfl rfl rfl ?_ ?_
  ·intro k_ u w_ hk hJ hF K hK
   have h11 : PInt (-(x.num)) n (u 11) w_ := AS.facts_get hF 11 (by simp)
   have h13 : PInt ((x.den : Int)) (n + 1) (u 13) w_ := AS.facts_get hF 13 (by simp)
   clear hF
   obtain ⟨ka, Aa, la, ca, ea⟩ := h11.open
   obtain ⟨kb, Ab, lb, cb, eb⟩ := h13.open
   rw [ea] at h11
   rw [eb] at h13
   simp only [ea, eb] at hK ⊢
   go_simp
   exact hK.out _ _ (Below.refl _ _) (PRat.mk (h11.more (by omega)) h13 rfl rfl) trivial
  refine AS.ss rfl rfl ?_ ?_
  ·intro u w_ hJ hAp hF K hK
   have h14 : PRat (-x) (n + 1) (u 14) w_ := AS.facts_get hF 14 (by simp)
   clear hF
   obtain ⟨k1, A1, l1, c1, k2, A2, l2, c2, e_⟩ := h14.open
   have hJ0 : Below W7.heap.size W7 w_ := hJ
   have bx := (b2.out).up hJ0
   have hbel := below_then HB8.out hJ0 HB8.out.size
   have y0 := bx.cell 0
   have z0 := bx.frozen 0
   have y1 := bx.cell 1
   have z1 := bx.frozen 1
   have y2 := bx.cell 2
   have z2 := bx.frozen 2
   have y3 := bx.cell 3
   have z3 := bx.frozen 3
   simp only [List.getElem?_cons_zero, List.getElem?_cons_succ] at y0 y1 y2 y3
   simp only [e_] at hK ⊢
   go_simp
   exact hK.out undef _ ⟨⟨(Below.setCell (p := ⟨w.heap.size + 1, 3, none⟩) (Below.setCell (p := ⟨w.heap.size + 1, 2, none⟩) (Below.set2 (g := w.heap.size + 1) hbel (by first | omega | (simp; done) | (simp; omega)) (.bool k1) (.slice A1 l1 c1)) (by first | omega | (simp; done) | (simp; omega)) (.bool k2)) (by first | omega | (simp; done) | (simp; omega)) (.slice A2 l2 c2)), (by simp only [setCell_size]; first | exact hsz | exact Nat.le_trans HB8.out.size hJ0.size)⟩, [.bool k1, .slice A1 l1 c1, .bool k2, .slice A2 l2 c2], by simp [e_], (Bx.set4 bx (Leaf.bool k1) (Leaf.slice A1 l1 c1) (Leaf.bool k2) (Leaf.slice A2 l2 c2))⟩ (Keep.set4 (Keep.refl w_) bx (Leaf.bool k1) (Leaf.slice A1 l1 c1) (Leaf.bool k2) (Leaf.slice A2 l2 c2))
  exact AS.StepsOk.nil
 ·intro u W9 hJ9 hF
  have h14 : PRat (-x) (n + 1) (u 14) W9 := AS.facts_get hF 14 (by simp [ratNegFL, AS.temps])
  clear hF
  obtain ⟨⟨hbel, -⟩, vs, hvs, hbx⟩ := hJ9
  obtain ⟨ka, Aa, la, ca, kb, Ab, lb, cb, ea⟩ := h14.open
  rw [ea] at h14
  obtain rfl : vs = [.bool ka, .slice Aa la ca, .bool kb, .slice Ab lb cb] := by
   have e1 := (List.cons.inj hvs).1
   rw [show u 14 = _ from ea] at e1
   have e2 := congrArg Array.toList (Value.agg.inj e1)
   simpa using e2.symm
  have y0 := hbx.cell 0
  have y1 := hbx.cell 1
  have y2 := hbx.cell 2
  have y3 := hbx.cell 3
  simp only [List.getElem?_cons_zero, List.getElem?_cons_succ] at y0 y1 y2 y3
  go_wp2_with fail
  refine bodyPost_ret (v := .agg #[.bool ka, .slice Aa la ca, .bool kb, .slice Ab lb cb]) (by simp [results, Tryz.results24, go_sem, y0, y1, y2, y3]) rfl ⟨_, rfl, h14, hbel⟩
def ratSubFL (x y : Rat) (n : Nat) : List (Nat × AS.Fact) := [(5, AS.Fact.rat (x) n), (6, AS.Fact.rat (y) n), (7, AS.Fact.rat (-y) (n + 1)), (8, AS.Fact.rat (x - y) (4 * n + 6))]
set_option maxRecDepth 20000 in
set_option maxHeartbeats 3200000 in
theorem ratSub_fact {x y : Rat} {n : Nat} {v v2 : Value} {w : World} (h : PRat x n v w) (h2 : PRat y n v2 w) (hn3 : 3 ≤ n) (hn : n ≤ 9000) :
  Calls Tryz.prog 22 #[v, v2] w fun e w' => ∃ v, e = .returned v ∧ PRat (x - y) (4 * n + 6) v w' ∧ Below w.heap.size w w' := by
 obtain ⟨k, A, l, c, k', A', l', c', rfl⟩ := h.open
 obtain ⟨r, E, m, d, r', E', m', d', rfl⟩ := h2.open
 have H1 := Lib.hid h
 have H2 := Lib.hid h2
 clear h h2
 go_enter Tryz.func22, Tryz.ntmps22
 go_upto_region 1 with (fail)
 change Code.wp Tryz.prog _ _ _ (((w.alloc (.cells #[.bool k, .slice A l c, .bool k', .slice A' l' c'] 27)).alloc (.cells #[.bool r, .slice E m d, .bool r', .slice E' m' d'] 27)).alloc (.cells #[.bool false, .slice none 0 0, .bool false, .slice none 0 0] 27))
 obtain ⟨nb2, nb3, nb4, na⟩ := new3 w 27 [.bool k, .slice A l c, .bool k', .slice A' l' c'] 27 [.bool r, .slice E m d, .bool r', .slice E' m' d'] 27 [.bool false, .slice none 0 0, .bool false, .slice none 0 0] lf4 lf4 lf4
 have nkeep := Keep.ofBelow na
 have nbel := na
 generalize ((w.alloc (.cells #[.bool k, .slice A l c, .bool k', .slice A' l' c'] 27)).alloc (.cells #[.bool r, .slice E m d, .bool r', .slice E' m' d'] 27)).alloc (.cells #[.bool false, .slice none 0 0, .bool false, .slice none 0 0] 27) = W1 at *
 clear na
 have b2 := Lib.hid nb2
 have b3 := Lib.hid nb3
 have b4 := Lib.hid nb4
 clear nb2 nb3 nb4
 replace H1 := Lib.hid (H1.out.kept nkeep)
 replace H2 := Lib.hid (H2.out.kept nkeep)
 clear nkeep
 have HB2 := Lib.hid nbel
 clear nbel
 obtain ⟨x2_0, x2_1, x2_2, x2_3, s2⟩ := b2.out.d4
 obtain ⟨x3_0, x3_1, x3_2, x3_3, s3⟩ := b3.out.d4
 obtain ⟨x4_0, x4_1, x4_2, x4_3, s4⟩ := b4.out.d4
 have szb := HB2.out.size
 refine AS.region_facts (ratSubFL x y n) (JRes w W1 27 (w.heap.size + 1 + 1)) [[], [], [6], [5, 7], [8]] [4] [[], [8]] [0, 0, 1, 1, 1] [] (fun u => by simp only [ratSubFL, AS.temps, List.map_cons, List.map_nil, fillL, List.setIfInBounds_toArray, List.set_cons_zero, List.set_cons_succ]; rfl) (by kernel_rfl) (by kernel_rfl) (JRes.st w W1 27 (w.heap.size + 1 + 1)) (below_drew (Below.refl _ _)) ?_ ?_
 ·refine AS.sc rfl rfl rfl ?_ ?_
  ·intro k_ u w_ hk hJ hF K hK
   clear hF
   obtain rfl : k_ = 0 := Nat.le_zero.1 hk
   have hJ0 : Below W1.heap.size W1 w_ := hJ
   obtain ⟨y0, y1, y2, y3⟩ := ((b2.out).up hJ0).c4
   go_simp
   exact hK.out _ _ (Below.refl _ _) ((H1.out).kept (Keep.ofBelow hJ0)) trivial
  refine AS.sc rfl rfl rfl ?_ ?_
  ·intro k_ u w_ hk hJ hF K hK
   clear hF
   obtain rfl : k_ = 0 := Nat.le_zero.1 hk
   have hJ0 : Below W1.heap.size W1 w_ := hJ
   obtain ⟨y0, y1, y2, y3⟩ := ((b3.out).up hJ0).c4
   go_simp
   exact hK.out _ _ (Below.refl _ _) ((H2.out).kept (Keep.ofBelow hJ0)) trivial
  refine AS.sc rfl rfl rfl ?_ ?_
  ·intro k_ u w_ hk hJ hF K hK
   have h6 : PRat (y) n (u 6) w_ := AS.facts_get hF 6 (by simp)
   clear hF
   go_simp
   refine (ratNeg_fact h6 hn3 (by omega)).mono ?_
   rintro e w' ⟨v, rfl, hv, hb⟩
   exact hK.out _ _ hb (hv) trivial
  refine AS.sc rfl rfl rfl ?_ ?_
  ·intro k_ u w_ hk hJ hF K hK
   have h5 : PRat (x) n (u 5) w_ := AS.facts_get hF 5 (by simp)
   have h7 : PRat (-y) (n + 1) (u 7) w_ := AS.facts_get hF 7 (by simp)
   clear hF
   go_simp
   refine (ratAdd_fact (h5.more (Nat.le_succ n)) h7 (by omega) (by omega)).mono ?_
   rintro e w' ⟨v, rfl, hv, hb⟩
   exact hK.out _ _ hb (by rw [sub_terms] at hv; exact hv.more (by omega)) trivial
  refine AS.ss rfl rfl ?_ ?_
  ·intro u w_ hJ hAp hF K hK
   have h8 : PRat (x - y) (4 * n + 6) (u 8) w_ := AS.facts_get hF 8 (by simp)
   clear hF
   obtain ⟨k1, A1, l1, c1, k2, A2, l2, c2, e_⟩ := h8.open
   have hJ0 : Below W1.heap.size W1 w_ := hJ
   have bx := (b4.out).up hJ0
   have hbel := below_then HB2.out hJ0 HB2.out.size
   have y0 := bx.cell 0
   have z0 := bx.frozen 0
   have y1 := bx.cell 1
   have z1 := bx.frozen 1
   have y2 := bx.cell 2
   have z2 := bx.frozen 2
   have y3 := bx.cell 3
   have z3 := bx.frozen 3
   simp only [List.getElem?_cons_zero, List.getElem?_cons_succ] at y0 y1 y2 y3
   simp only [e_] at hK ⊢
   go_simp
   exact hK.out undef _ ⟨⟨(Below.setCell (p := ⟨w.heap.size + 1 + 1, 3, none⟩) (Below.setCell (p := ⟨w.heap.size + 1 + 1, 2, none⟩) (Below.set2 (g := w.heap.size + 1 + 1) hbel (by first | omega | (simp; done) | (simp; omega)) (.bool k1) (.slice A1 l1 c1)) (by first | omega | (simp; done) | (simp; omega)) (.bool k2)) (by first | omega | (simp; done) | (simp; omega)) (.slice A2 l2 c2)), (by simp only [setCell_size]; first | exact hsz | exact Nat.le_trans HB2.out.size hJ0.size)⟩, [.bool k1, .slice A1 l1 c1, .bool k2, .slice A2 l2 c2], by simp [e_], (Bx.set4 bx (Leaf.bool k1) (Leaf.slice A1 l1 c1) (Leaf.bool k2) (Leaf.slice A2 l2 c2))⟩ (Keep.set4 (Keep.refl w_) bx (Leaf.bool k1) (Leaf.slice A1 l1 c1) (Leaf.bool k2) (Leaf.slice A2 l2 c2))
  exact AS.StepsOk.nil
 ·intro u W3 hJ9 hF
  have h8 : PRat (x - y) (4 * n + 6) (u 8) W3 := AS.facts_get hF 8 (by simp [ratSubFL, AS.temps])
  clear hF
  obtain ⟨⟨hbel, -⟩, vs, hvs, hbx⟩ := hJ9
  obtain ⟨ka, Aa, la, ca, kb, Ab, lb, cb, ea⟩ := h8.open
  rw [ea] at h8
  obtain rfl : vs = [.bool ka, .slice Aa la ca, .bool kb, .slice Ab lb cb] := by
   have e1 := (List.cons.inj hvs).1
   rw [show u 8 = _ from ea] at e1
   have e2 := congrArg Array.toList (Value.agg.inj e1)
   simpa using e2.symm
  have y0 := hbx.cell 0
  have y1 := hbx.cell 1
  have y2 := hbx.cell 2
  have y3 := hbx.cell 3
  simp only [List.getElem?_cons_zero, List.getElem?_cons_succ] at y0 y1 y2 y3
  go_wp2_with fail
  refine bodyPost_ret (v := .agg #[.bool ka, .slice Aa la ca, .bool kb, .slice Ab lb cb]) (by simp [results, Tryz.results22, go_sem, y0, y1, y2, y3]) rfl ⟨_, rfl, h8, hbel⟩
def ratCmpFL (x y : Rat) (n : Nat) : List (Nat × AS.Fact) := [(19, AS.Fact.int (x.num) n), (20, AS.Fact.int ((y.den : Int)) n), (21, AS.Fact.int ((x.num) * ((y.den : Int))) (n + n)), (22, AS.Fact.int (y.num) n), (23, AS.Fact.int ((x.den : Int)) n), (24, AS.Fact.int ((y.num) * ((x.den : Int))) (n + n)), (25, AS.Fact.is (.int .i64 (cmpI ((x.num) * ((y.den : Int))) ((y.num) * ((x.den : Int)))))), (4, AS.Fact.is (.int .i64 (cmpI ((x.num) * ((y.den : Int))) ((y.num) * ((x.den : Int))))))]
set_option maxRecDepth 20000 in
set_option maxHeartbeats 3200000 in
theorem ratCmp_fact {x y : Rat} {n : Nat} {v v2 : Value} {w : World} (h : PRat x n v w) (h2 : PRat y n v2 w) (hn3 : 3 ≤ n) (hn : n ≤ 10000) :
  Calls Tryz.prog 26 #[v, v2] w fun e w' => e = .returned (.int .i64 (cmpQ x y)) ∧ Below w.heap.size w w' := by
 obtain ⟨k, A, l, c, k', A', l', c', rfl⟩ := h.open
 obtain ⟨r, E, m, d, r', E', m', d', rfl⟩ := h2.open
 have H1 := Lib.hid h
 have H2 := Lib.hid h2
 clear h h2
 go_enter Tryz.func26, Tryz.ntmps26
 go_upto_region 1 with (fail)
 change Code.wp Tryz.prog _ _ _ ((w.alloc (.cells #[.bool k, .slice A l c, .bool k', .slice A' l' c'] 27)).alloc (.cells #[.bool r, .slice E m d, .bool r', .slice E' m' d'] 27))
 obtain ⟨nb2, nb3, na⟩ := new2 w 27 [.bool k, .slice A l c, .bool k', .slice A' l' c'] 27 [.bool r, .slice E m d, .bool r', .slice E' m' d'] lf4 lf4
 have nkeep := Keep.ofBelow na
 have nbel := na
 generalize (w.alloc (.cells #[.bool k, .slice A l c, .bool k', .slice A' l' c'] 27)).alloc (.cells #[.bool r, .slice E m d, .bool r', .slice E' m' d'] 27) = W1 at *
 clear na
 have b2 := Lib.hid nb2
 have b3 := Lib.hid nb3
 clear nb2 nb3
 replace H1 := Lib.hid (H1.out.kept nkeep)
 replace H2 := Lib.hid (H2.out.kept nkeep)
 clear nkeep
 have HB2 := Lib.hid nbel
 clear nbel
 obtain ⟨x20, x21, x22, x23, s2⟩ := b2.out.d4
 obtain ⟨x30, x31, x32, x33, s3⟩ := b3.out.d4
 have szb := HB2.out.size
 go_wp2_with fail
 refine (terms_fact H1.out hn3).mono ?_
 rintro e W3 ⟨k1, A1, l1, c1, j1, B1, o1, e1, rfl, ha_, hc_, hb⟩
 replace b2 := hup b2 hb
 replace b3 := hup b3 hb
 replace H1 := Lib.hid (H1.out.kept (Keep.ofBelow hb))
 replace H2 := Lib.hid (H2.out.kept (Keep.ofBelow hb))
 have nbel := below_then HB2.out hb HB2.out.size
 have HB4 := Lib.hid nbel
 clear nbel HB2 hb x20 x21 x22 x23 x30 x31 x32 x33 szb s2 s3
 obtain ⟨x20, x21, x22, x23, s2⟩ := b2.out.d4
 obtain ⟨x30, x31, x32, x33, s3⟩ := b3.out.d4
 have szb := HB4.out.size
 have HA := Lib.hid ha_
 have HB := Lib.hid hc_
 clear ha_ hc_
 go_upto_region 2 with (fail)
 have q5 := b2.out.lt
 have q6 := b3.out.lt
 change Code.wp Tryz.prog _ _ _ ((W3.alloc (.cells #[.bool k1, .slice A1 l1 c1] 25)).alloc (.cells #[.bool j1, .slice B1 o1 e1] 25))
 obtain ⟨nb5, nb6, na⟩ := new2 W3 25 [.bool k1, .slice A1 l1 c1] 25 [.bool j1, .slice B1 o1 e1] lf2 lf2
 have nb2 := b2.out.up na
 have nb3 := b3.out.up na
 have nkeep := Keep.ofBelow na
 have nbel := below_then HB4.out na HB4.out.size
 generalize (W3.alloc (.cells #[.bool k1, .slice A1 l1 c1] 25)).alloc (.cells #[.bool j1, .slice B1 o1 e1] 25) = W7 at *
 clear na x20 x21 x22 x23 x30 x31 x32 x33 szb s2 s3 b2 b3
 have b2 := Lib.hid nb2
 have b3 := Lib.hid nb3
 have b5 := Lib.hid nb5
 have b6 := Lib.hid nb6
 clear nb2 nb3 nb5 nb6
 replace H1 := Lib.hid (H1.out.kept nkeep)
 replace H2 := Lib.hid (H2.out.kept nkeep)
 replace HA := Lib.hid (HA.out.kept nkeep)
 replace HB := Lib.hid (HB.out.kept nkeep)
 clear nkeep
 have HB8 := Lib.hid nbel
 clear nbel HB4
 obtain ⟨x20, x21, x22, x23, s2⟩ := b2.out.d4
 obtain ⟨x30, x31, x32, x33, s3⟩ := b3.out.d4
 obtain ⟨x50, x51, s5⟩ := b5.out.d2
 obtain ⟨x60, x61, s6⟩ := b6.out.d2
 have szb := HB8.out.size
 go_wp2_with fail
 refine (terms_fact H2.out hn3).mono ?_
 rintro e W9 ⟨k2, A2, l2, c2, j2, B2, o2, e2, rfl, ha_, hc_, hb⟩
 replace b2 := hup b2 hb
 replace b3 := hup b3 hb
 replace b5 := hup b5 hb
 replace b6 := hup b6 hb
 replace H1 := Lib.hid (H1.out.kept (Keep.ofBelow hb))
 replace H2 := Lib.hid (H2.out.kept (Keep.ofBelow hb))
 replace HA := Lib.hid (HA.out.kept (Keep.ofBelow hb))
 replace HB := Lib.hid (HB.out.kept (Keep.ofBelow hb))
 have nbel := below_then HB8.out hb HB8.out.size
 have HB10 := Lib.hid nbel
 clear nbel HB8 hb x20 x21 x22 x23 x30 x31 x32 x33 x50 x51 x60 x61 szb s2 s3 s5 s6
 obtain ⟨x20, x21, x22, x23, s2⟩ := b2.out.d4
 obtain ⟨x30, x31, x32, x33, s3⟩ := b3.out.d4
 obtain ⟨x50, x51, s5⟩ := b5.out.d2
 obtain ⟨x60, x61, s6⟩ := b6.out.d2
 have szb := HB10.out.size
 have HC := Lib.hid ha_
 have HD := Lib.hid hc_
 clear ha_ hc_
 go_upto_region 3 with (fail)
 have q11 := b2.out.lt
 have q12 := b3.out.lt
 have q13 := b5.out.lt
 have q14 := b6.out.lt
 change Code.wp Tryz.prog _ _ _ ((W9.alloc (.cells #[.bool k2, .slice A2 l2 c2] 25)).alloc (.cells #[.bool j2, .slice B2 o2 e2] 25))
 obtain ⟨nb7, nb8, na⟩ := new2 W9 25 [.bool k2, .slice A2 l2 c2] 25 [.bool j2, .slice B2 o2 e2] lf2 lf2
 have nb2 := b2.out.up na
 have nb3 := b3.out.up na
 have nb5 := b5.out.up na
 have nb6 := b6.out.up na
 have nkeep := Keep.ofBelow na
 have nbel := below_then HB10.out na HB10.out.size
 generalize (W9.alloc (.cells #[.bool k2, .slice A2 l2 c2] 25)).alloc (.cells #[.bool j2, .slice B2 o2 e2] 25) = W15 at *
 clear na x20 x21 x22 x23 x30 x31 x32 x33 x50 x51 x60 x61 szb s2 s3 s5 s6 b2 b3 b5 b6
 have b2 := Lib.hid nb2
 have b3 := Lib.hid nb3
 have b5 := Lib.hid nb5
 have b6 := Lib.hid nb6
 have b7 := Lib.hid nb7
 have b8 := Lib.hid nb8
 clear nb2 nb3 nb5 nb6 nb7 nb8
 replace H1 := Lib.hid (H1.out.kept nkeep)
 replace H2 := Lib.hid (H2.out.kept nkeep)
 replace HA := Lib.hid (HA.out.kept nkeep)
 replace HB := Lib.hid (HB.out.kept nkeep)
 replace HC := Lib.hid (HC.out.kept nkeep)
 replace HD := Lib.hid (HD.out.kept nkeep)
 clear nkeep
 have HB16 := Lib.hid nbel
 clear nbel HB10
 obtain ⟨x20, x21, x22, x23, s2⟩ := b2.out.d4
 obtain ⟨x30, x31, x32, x33, s3⟩ := b3.out.d4
 obtain ⟨x50, x51, s5⟩ := b5.out.d2
 obtain ⟨x60, x61, s6⟩ := b6.out.d2
 obtain ⟨x70, x71, s7⟩ := b7.out.d2
 obtain ⟨x80, x81, s8⟩ := b8.out.d2
 have szb := HB16.out.size
 refine AS.region_facts (ratCmpFL x y n) (JNo W15) [[], [], [19, 20], [], [], [22, 23], [21, 24], [25]] [] [[]] [0, 0, 0, 0, 0, 0, 0, 0] [] (fun u => by simp only [ratCmpFL, AS.temps, List.map_cons, List.map_nil, fillL, List.setIfInBounds_toArray, List.set_cons_zero, List.set_cons_succ]; rfl) (by kernel_rfl) (by kernel_rfl) (JNo.st W15) (below_drew (Below.refl _ _)) ?_ ?_
 ·refine AS.sc rfl rfl rfl ?_ ?_
  ·intro k_ u w_ hk hJ hF K hK
   clear hF
   obtain rfl : k_ = 0 := Nat.le_zero.1 hk
   have hJ0 : Below W15.heap.size W15 w_ := hJ
   obtain ⟨y0, y1⟩ := ((b5.out).up hJ0).c2
   go_simp
   exact hK.out _ _ (Below.refl _ _) ((HA.out).kept (Keep.ofBelow hJ0)) trivial
  refine AS.sc rfl rfl rfl ?_ ?_
  ·intro k_ u w_ hk hJ hF K hK
   clear hF
   obtain rfl : k_ = 0 := Nat.le_zero.1 hk
   have hJ0 : Below W15.heap.size W15 w_ := hJ
   obtain ⟨y0, y1⟩ := ((b8.out).up hJ0).c2
   go_simp
   exact hK.out _ _ (Below.refl _ _) ((HD.out).kept (Keep.ofBelow hJ0)) trivial
  refine AS.sc rfl rfl rfl ?_ ?_
  ·intro k_ u w_ hk hJ hF K hK
   have h19 : PInt (x.num) n (u 19) w_ := AS.facts_get hF 19 (by simp)
   have h20 : PInt ((y.den : Int)) n (u 20) w_ := AS.facts_get hF 20 (by simp)
   clear hF
   go_simp
   refine (mul_fact h19 h20 (by omega) (by omega)).mono ?_
   rintro e w' ⟨v, rfl, hv, hb⟩
   exact hK.out _ _ hb (hv) trivial
  refine AS.sc rfl rfl rfl ?_ ?_
  ·intro k_ u w_ hk hJ hF K hK
   clear hF
   obtain rfl : k_ = 0 := Nat.le_zero.1 hk
   have hJ0 : Below W15.heap.size W15 w_ := hJ
   obtain ⟨y0, y1⟩ := ((b7.out).up hJ0).c2
   go_simp
   exact hK.out _ _ (Below.refl _ _) ((HC.out).kept (Keep.ofBelow hJ0)) trivial
  refine AS.sc rfl rfl rfl ?_ ?_
  ·intro k_ u w_ hk hJ hF K hK
   clear hF
   obtain rfl : k_ = 0 := Nat.le_zero.1 hk
   have hJ0 : Below W15.heap.size W15 w_ := hJ
   obtain ⟨y0, y1⟩ := ((b6.out).up hJ0).c2
   go_simp
   exact hK.out _ _ (Below.refl _ _) ((HB.out).kept (Keep.ofBelow hJ0)) trivial
  refine AS.sc rfl rfl rfl ?_ ?_
  ·intro k_ u w_ hk hJ hF K hK
   have h22 : PInt (y.num) n (u 22) w_ := AS.facts_get hF 22 (by simp)
   have h23 : PInt ((x.den : Int)) n (u 23) w_ := AS.facts_get hF 23 (by simp)
   clear hF
   go_simp
   refine (mul_fact h22 h23 (by omega) (by omega)).mono ?_
   rintro e w' ⟨v, rfl, hv, hb⟩
   exact hK.out _ _ hb (hv) trivial
  refine AS.sc rfl rfl rfl ?_ ?_
  ·intro k_ u w_ hk hJ hF K hK
   have h21 : PInt ((x.num) * ((y.den : Int))) (n + n) (u 21) w_ := AS.facts_get hF 21 (by simp)
   have h24 : PInt ((y.num) * ((x.den : Int))) (n + n) (u 24) w_ := AS.facts_get hF 24 (by simp)
   clear hF
   go_simp
   refine (cmp_fact h21 h24 (by omega) (by omega)).mono ?_
   rintro e w' ⟨rfl, hb⟩
   exact hK.out _ _ hb (rfl) trivial
  refine AS.sc rfl rfl rfl ?_ ?_
  ·intro k_ u w_ hk hJ hF K hK
   have h25 : u 25 = .int .i64 (cmpI ((x.num) * ((y.den : Int))) ((y.num) * ((x.den : Int)))) := AS.facts_get hF 25 (by simp)
   clear hF
   simp only [h25] at hK ⊢
   clear h25
   go_simp
   exact hK.out _ _ (Below.refl _ _) (rfl) trivial
  exact AS.StepsOk.nil
 ·intro u W17 hJ9 hF
  have h4 : u 4 = .int .i64 (cmpI ((x.num) * ((y.den : Int))) ((y.num) * ((x.den : Int)))) := AS.facts_get hF 4 (by simp [ratCmpFL, AS.temps])
  clear hF
  rw [cmp_terms] at h4
  have hbel := below_then HB16.out hJ9 HB16.out.size
  go_wp2_with fail
  refine bodyPost_ret (v := .int .i64 (cmpQ x y)) (by simp [results, Tryz.results26, go_sem, h4]) rfl ⟨rfl, hbel⟩
def RatOk (x : Rat) (n : Nat) (v : Value) (w : World) : Prop := ∃ v0, v = .tuple #[v0, .int .i64 0] ∧ PRat x n v0 w
theorem new_ok {p q : Int} {n m : Nat} {a b : Value} {w : World} (h1 : PInt p n a w) (h2 : PInt q m b w) (hn : n + m ≤ 100000) (hq : q ≠ 0) :
  Calls Tryz.prog 38 #[a, b] w fun e w' => ∃ v, e = .returned v ∧ RatOk (Rat.divInt p q) (max n m + 1) v w' ∧ Below w.heap.size w w' := by
 obtain ⟨k, A, l, c, rfl⟩ := h1.open
 obtain ⟨k', A', l', c', rfl⟩ := h2.open
 refine (new_fact (h1.more (Nat.le_max_left n m)) (h2.more (Nat.le_max_right n m)) (by omega) hq).mono ?_
 rintro e w' ⟨v, rfl, hv, hb⟩
 exact ⟨_, rfl, ⟨v, rfl, hv⟩, hb⟩
theorem ratCmp_is {x y : Rat} {n : Nat} {c : Int} {v v2 : Value} {w : World} (h : PRat x n v w) (h2 : PRat y n v2 w) (hn3 : 3 ≤ n) (hn : n ≤ 10000) (hc : cmpQ x y = c) :
  Calls Tryz.prog 26 #[v, v2] w fun e w' => e = .returned (.int .i64 c) ∧ Below w.heap.size w w' := hc ▸ ratCmp_fact h h2 hn3 hn
theorem cmpQ_swap (x y : Rat) : cmpQ y x = -(cmpQ x y) := by
 unfold cmpQ
 by_cases h1 : x < y
 ·rw [if_pos h1, if_neg (by grind), if_neg (by grind)]; rfl
 ·rw [if_neg h1]
  by_cases h2 : x = y
  ·rw [if_pos h2, if_neg (by grind), if_pos (by grind)]; rfl
  ·rw [if_neg h2, if_pos (by grind)]
theorem cmpQ_range (x y : Rat) : -1 ≤ cmpQ x y ∧ cmpQ x y ≤ 1 := by
 unfold cmpQ
 split
 ·decide
 ·split <;> decide
theorem wrapm {c s : Int} (h : -1 ≤ c ∧ c ≤ 1) (h2 : -1 ≤ s ∧ s ≤ 1) : IntKind.i64.wrap (c * s) = c * s := by
 rcases (by omega : c = -1 ∨ c = 0 ∨ c = 1) with rfl | rfl | rfl <;> rw [IntKind.wrap_i64] <;> omega
set_option maxRecDepth 20000 in
set_option maxHeartbeats 3200000 in
theorem ratRound_fact {x : Rat} {n : Nat} {v : Value} {w : World} (h : PRat x n v w) (hn3 : 3 ≤ n) (hn : n ≤ 10000) :
  Calls Tryz.prog 40 #[v] w fun e w' => ∃ v, e = .returned v ∧ PInt (rndQ x) (2 * n + 5) v w' ∧ Below w.heap.size w w' := by
 obtain ⟨k, A, l, c, k', A', l', c', rfl⟩ := h.open
 have H1 := Lib.hid h
 clear h
 go_enter Tryz.func40, Tryz.ntmps40
 go_upto_region 1 with (fail)
 change Code.wp Tryz.prog _ _ _ ((w.alloc (.cells #[.bool k, .slice A l c, .bool k', .slice A' l' c'] 27)).alloc (.cells #[.bool false, .slice none 0 0] 25))
 obtain ⟨nb1, nb2, na⟩ := new2 w 27 [.bool k, .slice A l c, .bool k', .slice A' l' c'] 25 [.bool false, .slice none 0 0] lf4 lf2
 have nkeep := Keep.ofBelow na
 have nbel := na
 generalize (w.alloc (.cells #[.bool k, .slice A l c, .bool k', .slice A' l' c'] 27)).alloc (.cells #[.bool false, .slice none 0 0] 25) = W1 at *
 clear na
 have b1 := Lib.hid nb1
 have b2 := Lib.hid nb2
 clear nb1 nb2
 replace H1 := Lib.hid (H1.out.kept nkeep)
 clear nkeep
 have HB2 := Lib.hid nbel
 clear nbel
 obtain ⟨x10, x11, x12, x13, s1⟩ := b1.out.d4
 obtain ⟨x20, x21, z20, z21, s2⟩ := b2.out.e2
 have szb := HB2.out.size
 go_wp2_with fail
 refine (terms_fact H1.out hn3).mono ?_
 rintro e W3 ⟨k1, A1, l1, c1, j1, B1, o1, e1, rfl, ha_, hc_, hb⟩
 replace b1 := hup b1 hb
 replace b2 := hup b2 hb
 replace H1 := Lib.hid (H1.out.kept (Keep.ofBelow hb))
 have nbel := below_then HB2.out hb HB2.out.size
 have HB4 := Lib.hid nbel
 clear nbel HB2 hb x10 x11 x12 x13 x20 x21 z20 z21 szb s1 s2
 obtain ⟨x10, x11, x12, x13, s1⟩ := b1.out.d4
 obtain ⟨x20, x21, z20, z21, s2⟩ := b2.out.e2
 have szb := HB4.out.size
 have HA := Lib.hid ha_
 have HB := Lib.hid hc_
 clear ha_ hc_
 go_wp2_with fail
 refine (near_fact HA.out HB.out (by omega) (Int.natCast_pos.2 x.den_pos)).mono ?_
 rintro e W5 ⟨v2, rfl, hv2, hb⟩
 replace b1 := hup b1 hb
 replace b2 := hup b2 hb
 replace H1 := Lib.hid (H1.out.kept (Keep.ofBelow hb))
 replace HA := Lib.hid (HA.out.kept (Keep.ofBelow hb))
 replace HB := Lib.hid (HB.out.kept (Keep.ofBelow hb))
 have nbel := below_then HB4.out hb HB4.out.size
 have HB6 := Lib.hid nbel
 clear nbel HB4 hb x10 x11 x12 x13 x20 x21 z20 z21 szb s1 s2
 obtain ⟨x10, x11, x12, x13, s1⟩ := b1.out.d4
 obtain ⟨x20, x21, z20, z21, s2⟩ := b2.out.e2
 have szb := HB6.out.size
 obtain ⟨k2, A2, l2, c2, rfl⟩ := hv2.open
 have HR := Lib.hid hv2
 clear hv2
 go_wp2_with fail
 have hkeep := (Keep.set2 (Keep.refl W5) b2.out (Leaf.bool k2) (Leaf.slice A2 l2 c2))
 have hbel := (Below.set2 (g := w.heap.size + 1) HB6.out (by first | omega | (simp; done) | (simp; omega)) (.bool k2) (.slice A2 l2 c2))
 refine bodyPost_ret (v := .agg #[.bool k2, .slice A2 l2 c2]) (by simp [results, Tryz.results40, go_sem, x20, x21]) rfl ⟨_, rfl, HR.out.kept hkeep, hbel⟩
theorem rabs_any (n : Bool) (A : Option Addr) (c : Nat) (L : List Nat) (w : World) (hl : L.length ≤ 500000) (hL : RefR w w.heap.size n A c L) :
  Calls Tryz.prog 88 #[.agg #[.bool n, .slice A L.length c]] w fun e w' => ∃ k A c, e = .returned (.agg #[.bool k, .slice A L.length c]) ∧
   RefR w' w'.heap.size k A c L ∧ zR k L = ((zR n L).natAbs : Int) ∧ Below w.heap.size w w' := by
 have hM2 := fun W h1 => rsigned_trim false A c L W hl hL.top h1
 simp only [Bool.false_and] at hM2
 have HM2 := Lib.hid hM2
 clear hM2
 have hz : zR false L = ((zR n L).natAbs : Int) := by unfold zR; cases n <;> simp
 have HZ := Lib.hid hz
 clear hz
 generalize hl' : L.length = l at *
 have HLL := Lib.hid hl'
 clear hl'
 go_enter Tryz.func88, Tryz.ntmps88
 go_wp2_with fail
 refine (HM2.out _ (hL.row.up (below_a2 _ _ _))).mono ?_
 rintro e w1 ⟨rfl, hb1⟩
 have X := two hb1
 have hq3 := X.2.2.1
 have hq4 := X.2.2.2.1
 have hq5 := X.2.2.2.2.1
 have hq6 := X.2.2.2.2.2.1
 have HB1 := Lib.hid X.2.2.2.2.2.2.2
 have HR1 := Lib.hid (hL.up (upa2 HB1.out))
 clear X hb1
 go_wp2_with fail
 refine bodyPost_ret (v := .agg #[.bool false, .slice A l c]) (by simp [results, Tryz.results88, go_sem, hq3, hq4]) rfl
  ⟨_, _, _, rfl, ?_, by rw [← HZ.out], ((upa2 HB1.out).setCell (by simp) _).setCell (by simp) _⟩
 rw [setCell_size, setCell_size]
 exact ⟨HR1.out.row.box2 HB1.out (fun _ => by simp) (fun _ => by simp) _ _, HR1.out.lim, HR1.out.top, fun hk _ => by cases hk⟩
theorem rabs_fact {x : Int} {n : Nat} {a : Value} {w : World} (h1 : PRef x n a w) (hn : n ≤ 500000) :
  Calls Tryz.prog 88 #[a] w fun e w' => ∃ v, e = .returned v ∧ PRef (x.natAbs : Int) n v w' ∧ Below w.heap.size w w' := by
 obtain ⟨k, A, c, L, rfl, i1, rfl, l1⟩ := h1
 refine (rabs_any k A c L w (by omega) i1).mono ?_
 rintro e w' ⟨q, B, d, rfl, hi, hz, hb⟩
 exact ⟨_, rfl, ⟨q, B, d, L, rfl, hi, hz, by omega⟩, hb⟩
set_option maxHeartbeats 3200000
set_option maxRecDepth 20000
def AS.Two (v : Value) : Prop := ∃ (k : Bool) (A : Option Addr) (l c : Nat), v = .agg #[.bool k, .slice A l c]
def AS.Fact.two : AS.Fact := ⟨fun v _ => AS.Two v, fun _ _ _ _ h => h⟩
def rroundFLN (x : Rat) (n : Nat) (W15 : World) : List (Nat × AS.Fact) := [(16, AS.Fact.ref (2) 5), (17, AS.Fact.ref (x.num) n), (18, AS.Fact.ref ((x.num.natAbs : Int)) n), (19, AS.Fact.ref (2 * (x.num.natAbs : Int)) (5 + n)), (20, AS.Fact.ref ((x.den : Int)) n), (21, AS.Fact.ref (2 * (x.num.natAbs : Int) + (x.den : Int)) (n + n + 6)), (22, AS.Fact.ref (2) 5), (23, AS.Fact.ref ((x.den : Int)) n), (24, AS.Fact.ref (2 * (x.den : Int)) (5 + n)), (25, AS.Fact.rquo (Int.tdiv (2 * (x.num.natAbs : Int) + (x.den : Int)) (2 * (x.den : Int))) (n + n + 6)), (15, AS.Fact.rquo (Int.tdiv (2 * (x.num.natAbs : Int) + (x.den : Int)) (2 * (x.den : Int))) (n + n + 6)), (26, AS.Fact.ref (Int.tdiv (2 * (x.num.natAbs : Int) + (x.den : Int)) (2 * (x.den : Int))) (n + n + 6)), (27, AS.Fact.two), (28, AS.Fact.is (.int .i64 0)), (6, AS.Fact.isBox 33 W15.heap.size), (7, AS.Fact.isBox 33 W15.heap.size), (8, AS.Fact.is (.int .i64 0))]
theorem rround_neg {x : Rat} {n : Nat} {v : Value} {w : World} (h : RRat x n v w) (hn3 : 5 ≤ n) (hn : n ≤ 4000) (hc : cmpI x.num 0 = -1) (ha : x.num < 0) :
  Calls Tryz.prog 45 #[v] w fun e w' => ∃ v, e = .returned v ∧ PRef (rndQ x) (n + n + 6) v w' ∧ Below w.heap.size w w' := by
 obtain ⟨k, A, l, c, k', A', l', c', rfl⟩ := h.open
 have H1 := Lib.hid h
 clear h
 go_enter Tryz.func45, Tryz.ntmps45
 go_upto_region 1 with (fail)
 change Code.wp Tryz.prog _ _ _ ((w.alloc (.cells #[.bool k, .slice A l c, .bool k', .slice A' l' c'] 35)).alloc (.cells #[.bool false, .slice none 0 0] 33))
 obtain ⟨nb1, nb2, na⟩ := new2 w 35 [.bool k, .slice A l c, .bool k', .slice A' l' c'] 33 [.bool false, .slice none 0 0] lf4 lf2
 have nkeep := Keep.ofBelow na
 have nbel := na
 generalize (w.alloc (.cells #[.bool k, .slice A l c, .bool k', .slice A' l' c'] 35)).alloc (.cells #[.bool false, .slice none 0 0] 33) = W1 at *
 clear na
 have b1 := Lib.hid nb1
 have b2 := Lib.hid nb2
 clear nb1 nb2
 replace H1 := Lib.hid (H1.out.kept nkeep)
 clear nkeep
 have HB2 := Lib.hid nbel
 clear nbel
 obtain ⟨x1_0, x1_1, x1_2, x1_3, s1⟩ := b1.out.d4
 obtain ⟨x2_0, x2_1, z2_0, z2_1, s2⟩ := b2.out.e2
 have szb := HB2.out.size
 go_wp2_with fail
 refine (rparts_fact H1.out hn3).mono ?_
 rintro e W3 ⟨k1, A1, l1, c1, j1, B1, o1, e1, rfl, ha_, hc_, hb⟩
 replace b1 := hup b1 hb
 replace b2 := hup b2 hb
 replace H1 := Lib.hid (H1.out.kept (Keep.ofBelow hb))
 have nbel := below_then HB2.out hb HB2.out.size
 have HB4 := Lib.hid nbel
 clear nbel HB2 hb x1_0 x1_1 x1_2 x1_3 x2_0 x2_1 z2_0 z2_1 szb s1 s2
 obtain ⟨x1_0, x1_1, x1_2, x1_3, s1⟩ := b1.out.d4
 obtain ⟨x2_0, x2_1, z2_0, z2_1, s2⟩ := b2.out.e2
 have szb := HB4.out.size
 have HA := Lib.hid ha_
 have HB := Lib.hid hc_
 clear ha_ hc_
 go_upto_region 2 with (fail)
 have q5 := b1.out.lt
 have q6 := b2.out.lt
 change Code.wp Tryz.prog _ _ _ ((W3.alloc (.cells #[.bool k1, .slice A1 l1 c1] 33)).alloc (.cells #[.bool j1, .slice B1 o1 e1] 33))
 obtain ⟨nb3, nb4, na⟩ := new2 W3 33 [.bool k1, .slice A1 l1 c1] 33 [.bool j1, .slice B1 o1 e1] lf2 lf2
 have nb1 := b1.out.up na
 have nb2 := b2.out.up na
 have nkeep := Keep.ofBelow na
 have nbel := below_then HB4.out na HB4.out.size
 generalize (W3.alloc (.cells #[.bool k1, .slice A1 l1 c1] 33)).alloc (.cells #[.bool j1, .slice B1 o1 e1] 33) = W7 at *
 clear na x1_0 x1_1 x1_2 x1_3 x2_0 x2_1 z2_0 z2_1 szb s1 s2 b1 b2
 have b1 := Lib.hid nb1
 have b2 := Lib.hid nb2
 have b3 := Lib.hid nb3
 have b4 := Lib.hid nb4
 clear nb1 nb2 nb3 nb4
 replace H1 := Lib.hid (H1.out.kept nkeep)
 replace HA := Lib.hid (HA.out.kept nkeep)
 replace HB := Lib.hid (HB.out.kept nkeep)
 clear nkeep
 have HB8 := Lib.hid nbel
 clear nbel HB4
 obtain ⟨x1_0, x1_1, x1_2, x1_3, s1⟩ := b1.out.d4
 obtain ⟨x2_0, x2_1, z2_0, z2_1, s2⟩ := b2.out.e2
 obtain ⟨x3_0, x3_1, s3⟩ := b3.out.d2
 obtain ⟨x4_0, x4_1, s4⟩ := b4.out.d2
 have szb := HB8.out.size
 go_wp2_with fail
 refine (rof_fact (n := 2) (by decide) (by decide)).mono ?_
 rintro e W9 ⟨v2, rfl, hv2, hb⟩
 replace b1 := hup b1 hb
 replace b2 := hup b2 hb
 replace b3 := hup b3 hb
 replace b4 := hup b4 hb
 replace H1 := Lib.hid (H1.out.kept (Keep.ofBelow hb))
 replace HA := Lib.hid (HA.out.kept (Keep.ofBelow hb))
 replace HB := Lib.hid (HB.out.kept (Keep.ofBelow hb))
 have nbel := below_then HB8.out hb HB8.out.size
 have HB10 := Lib.hid nbel
 clear nbel HB8 hb x1_0 x1_1 x1_2 x1_3 x2_0 x2_1 z2_0 z2_1 x3_0 x3_1 x4_0 x4_1 szb s1 s2 s3 s4
 obtain ⟨x1_0, x1_1, x1_2, x1_3, s1⟩ := b1.out.d4
 obtain ⟨x2_0, x2_1, z2_0, z2_1, s2⟩ := b2.out.e2
 obtain ⟨x3_0, x3_1, s3⟩ := b3.out.d2
 obtain ⟨x4_0, x4_1, s4⟩ := b4.out.d2
 have szb := HB10.out.size
 obtain ⟨k3, A3, l3, c3, rfl⟩ := hv2.open
 have HO := Lib.hid hv2
 clear hv2
 go_upto_region 3 with (fail)
 have q11 := b1.out.lt
 have q12 := b2.out.lt
 have q13 := b3.out.lt
 have q14 := b4.out.lt
 change Code.wp Tryz.prog _ _ _ (W9.alloc (.cells #[.bool k3, .slice A3 l3 c3] 33))
 obtain ⟨nb5, na⟩ := new1 W9 33 [.bool k3, .slice A3 l3 c3] lf2
 have nb1 := b1.out.up na
 have nb2 := b2.out.up na
 have nb3 := b3.out.up na
 have nb4 := b4.out.up na
 have nkeep := Keep.ofBelow na
 have nbel := below_then HB10.out na HB10.out.size
 generalize W9.alloc (.cells #[.bool k3, .slice A3 l3 c3] 33) = W15 at *
 clear na x1_0 x1_1 x1_2 x1_3 x2_0 x2_1 z2_0 z2_1 x3_0 x3_1 x4_0 x4_1 szb s1 s2 s3 s4 b1 b2 b3 b4
 have b1 := Lib.hid nb1
 have b2 := Lib.hid nb2
 have b3 := Lib.hid nb3
 have b4 := Lib.hid nb4
 have b5 := Lib.hid nb5
 clear nb1 nb2 nb3 nb4 nb5
 replace H1 := Lib.hid (H1.out.kept nkeep)
 replace HA := Lib.hid (HA.out.kept nkeep)
 replace HB := Lib.hid (HB.out.kept nkeep)
 replace HO := Lib.hid (HO.out.kept nkeep)
 clear nkeep
 have HB16 := Lib.hid nbel
 clear nbel HB10
 obtain ⟨x1_0, x1_1, x1_2, x1_3, s1⟩ := b1.out.d4
 obtain ⟨x2_0, x2_1, z2_0, z2_1, s2⟩ := b2.out.e2
 obtain ⟨x3_0, x3_1, s3⟩ := b3.out.d2
 obtain ⟨x4_0, x4_1, s4⟩ := b4.out.d2
 obtain ⟨x5_0, x5_1, s5⟩ := b5.out.d2
 have szb := HB16.out.size
 refine AS.region_facts (rroundFLN x n W15) (JFst W15 33) [[], [], [17], [16, 18], [], [19, 20], [], [], [22, 23], [21, 24], [25], [15], [15], [15], [], [], [26, 6], [27, 7], [28]] [16, 17] [[], [26, 6], [26, 6]] [0, 0, 2, 2, 0, 2, 0, 0, 2, 2, 2, 2, 2, 2, 0, 0, 2, 2, 2] [6, 7] (fun u => by simp only [rroundFLN, AS.temps, List.map_cons, List.map_nil, fillL, List.setIfInBounds_toArray, List.set_cons_zero, List.set_cons_succ]; rfl) (by kernel_rfl) (by kernel_rfl) (JFst.st W15 33) (below_drew (Below.refl _ _)) ?_ ?_
 ·refine AS.sc rfl rfl rfl ?_ ?_
  ·intro k_ u w_ hk hJ hF K hK
   clear hF
   obtain rfl : k_ = 0 := Nat.le_zero.1 hk
   have hJ0 : Below W15.heap.size W15 w_ := hJ
   obtain ⟨y0, y1⟩ := ((b5.out).up hJ0).c2
   go_simp
   exact hK.out _ _ (Below.refl _ _) ((HO.out).kept (Keep.ofBelow hJ0)) trivial
  refine AS.sc rfl rfl rfl ?_ ?_
  ·intro k_ u w_ hk hJ hF K hK
   clear hF
   obtain rfl : k_ = 0 := Nat.le_zero.1 hk
   have hJ0 : Below W15.heap.size W15 w_ := hJ
   obtain ⟨y0, y1⟩ := ((b3.out).up hJ0).c2
   go_simp
   exact hK.out _ _ (Below.refl _ _) ((HA.out).kept (Keep.ofBelow hJ0)) trivial
  refine AS.sc rfl rfl rfl ?_ ?_
  ·intro k_ u w_ hk hJ hF K hK
   have h17 : PRef (x.num) n (u 17) w_ := AS.facts_get hF 17 (by simp)
   clear hF
   go_simp
   refine (rabs_fact h17 (by omega)).mono ?_
   rintro e w' ⟨v, rfl, hv, hb⟩
   exact hK.out _ _ hb (hv) trivial
  refine AS.sc rfl rfl rfl ?_ ?_
  ·intro k_ u w_ hk hJ hF K hK
   have h16 : PRef (2) 5 (u 16) w_ := AS.facts_get hF 16 (by simp)
   have h18 : PRef ((x.num.natAbs : Int)) n (u 18) w_ := AS.facts_get hF 18 (by simp)
   clear hF
   go_simp
   refine (rmul_fact h16 h18 (by omega) (by omega)).mono ?_
   rintro e w' ⟨v, rfl, hv, hb⟩
   exact hK.out _ _ hb (hv) trivial
  refine AS.sc rfl rfl rfl ?_ ?_
  ·intro k_ u w_ hk hJ hF K hK
   clear hF
   obtain rfl : k_ = 0 := Nat.le_zero.1 hk
   have hJ0 : Below W15.heap.size W15 w_ := hJ
   obtain ⟨y0, y1⟩ := ((b4.out).up hJ0).c2
   go_simp
   exact hK.out _ _ (Below.refl _ _) ((HB.out).kept (Keep.ofBelow hJ0)) trivial
  refine AS.sc rfl rfl rfl ?_ ?_
  ·intro k_ u w_ hk hJ hF K hK
   have h19 : PRef (2 * (x.num.natAbs : Int)) (5 + n) (u 19) w_ := AS.facts_get hF 19 (by simp)
   have h20 : PRef ((x.den : Int)) n (u 20) w_ := AS.facts_get hF 20 (by simp)
   clear hF
   go_simp
   refine (radd_fact h19 h20 (by omega) (by omega)).mono ?_
   rintro e w' ⟨v, rfl, hv, hb⟩
   exact hK.out _ _ hb (hv.more (by omega)) trivial
  refine AS.sc rfl rfl rfl ?_ ?_
  ·intro k_ u w_ hk hJ hF K hK
   clear hF
   obtain rfl : k_ = 0 := Nat.le_zero.1 hk
   have hJ0 : Below W15.heap.size W15 w_ := hJ
   obtain ⟨y0, y1⟩ := ((b5.out).up hJ0).c2
   go_simp
   exact hK.out _ _ (Below.refl _ _) ((HO.out).kept (Keep.ofBelow hJ0)) trivial
  refine AS.sc rfl rfl rfl ?_ ?_
  ·intro k_ u w_ hk hJ hF K hK
   clear hF
   obtain rfl : k_ = 0 := Nat.le_zero.1 hk
   have hJ0 : Below W15.heap.size W15 w_ := hJ
   obtain ⟨y0, y1⟩ := ((b4.out).up hJ0).c2
   go_simp
   exact hK.out _ _ (Below.refl _ _) ((HB.out).kept (Keep.ofBelow hJ0)) trivial
  refine AS.sc rfl rfl rfl ?_ ?_
  ·intro k_ u w_ hk hJ hF K hK
   have h22 : PRef (2) 5 (u 22) w_ := AS.facts_get hF 22 (by simp)
   have h23 : PRef ((x.den : Int)) n (u 23) w_ := AS.facts_get hF 23 (by simp)
   clear hF
   go_simp
   refine (rmul_fact h22 h23 (by omega) (by omega)).mono ?_
   rintro e w' ⟨v, rfl, hv, hb⟩
   exact hK.out _ _ hb (hv) trivial
  refine AS.sc rfl rfl rfl ?_ ?_
  ·intro k_ u w_ hk hJ hF K hK
   have h21 : PRef (2 * (x.num.natAbs : Int) + (x.den : Int)) (n + n + 6) (u 21) w_ := AS.facts_get hF 21 (by simp)
   have h24 : PRef (2 * (x.den : Int)) (5 + n) (u 24) w_ := AS.facts_get hF 24 (by simp)
   clear hF
   go_simp
   refine (rquo_fact (n := (n + n + 6)) (h21.more (by omega)) h24 (by omega) (by omega) (mul_ne (by decide) (den_ne x))).mono ?_
   rintro e w' ⟨k7, A7, l7, c7, k8, A8, l8, c8, rfl, hv, hb⟩
   exact hK.out _ _ hb (⟨_, _, _, _, _, rfl, hv⟩) trivial
  refine AS.sc rfl rfl rfl ?_ ?_
  ·intro k_ u w_ hk hJ hF K hK
   have h25 : RQuoP (Int.tdiv (2 * (x.num.natAbs : Int) + (x.den : Int)) (2 * (x.den : Int))) (n + n + 6) (u 25) w_ := AS.facts_get hF 25 (by simp)
   clear hF
   go_simp
   exact hK.out _ _ (Below.refl _ _) (h25) trivial
  refine AS.sc rfl rfl rfl ?_ ?_
  ·intro k_ u w_ hk hJ hF K hK
   have h15 : RQuoP (Int.tdiv (2 * (x.num.natAbs : Int) + (x.den : Int)) (2 * (x.den : Int))) (n + n + 6) (u 15) w_ := AS.facts_get hF 15 (by simp)
   clear hF
   obtain ⟨qa, kr, Ar, lr, cr, e0, hqa⟩ := h15
   simp only [e0] at hK ⊢
   go_simp
   exact hK.out _ _ (Below.refl _ _) (hqa) trivial
  refine AS.sc rfl rfl rfl ?_ ?_
  ·intro k_ u w_ hk hJ hF K hK
   have h15 : RQuoP (Int.tdiv (2 * (x.num.natAbs : Int) + (x.den : Int)) (2 * (x.den : Int))) (n + n + 6) (u 15) w_ := AS.facts_get hF 15 (by simp)
   clear hF
   obtain ⟨qa, kr, Ar, lr, cr, e0, hqa⟩ := h15
   simp only [e0] at hK ⊢
   go_simp
   exact hK.out _ _ (Below.refl _ _) (⟨_, _, _, _, rfl⟩) trivial
  refine AS.sc rfl rfl rfl ?_ ?_
  ·intro k_ u w_ hk hJ hF K hK
   have h15 : RQuoP (Int.tdiv (2 * (x.num.natAbs : Int) + (x.den : Int)) (2 * (x.den : Int))) (n + n + 6) (u 15) w_ := AS.facts_get hF 15 (by simp)
   clear hF
   obtain ⟨qa, kr, Ar, lr, cr, e0, hqa⟩ := h15
   simp only [e0] at hK ⊢
   go_simp
   exact hK.out _ _ (Below.refl _ _) (rfl) trivial
  refine AS.sc rfl rfl rfl ?_ ?_
  ·intro k_ u w_ hk hJ hF K hK
   clear hF
   obtain rfl : k_ = 0 := Nat.le_zero.1 hk
   have hJ0 : Below W15.heap.size W15 w_ := hJ
   go_simp
   exact hK.out _ _ (below_alloc_new _) (IsBox.new _ hJ0.size) ⟨rfl, by simp⟩
  refine AS.sc rfl rfl rfl ?_ ?_
  ·intro k_ u w_ hk hJ hF K hK
   clear hF
   obtain rfl : k_ = 0 := Nat.le_zero.1 hk
   have hJ0 : Below W15.heap.size W15 w_ := hJ
   go_simp
   exact hK.out _ _ (below_alloc_new _) (IsBox.new _ hJ0.size) ⟨rfl, by simp⟩
  refine AS.ss rfl rfl ?_ ?_
  ·intro u w_ hJ hAp hF K hK
   have h26 : PRef (Int.tdiv (2 * (x.num.natAbs : Int) + (x.den : Int)) (2 * (x.den : Int))) (n + n + 6) (u 26) w_ := AS.facts_get hF 26 (by simp)
   have h6 : IsBox 33 W15.heap.size (u 6) w_ := AS.facts_get hF 6 (by simp)
   clear hF
   obtain ⟨g, x_, y_, eg, hgB, bx⟩ := h6
   obtain ⟨k1, A1, l1, c1, e_⟩ := h26.open
   have y0 := bx.cell 0
   have y1 := bx.cell 1
   have z0 := bx.frozen 0
   have z1 := bx.frozen 1
   simp only [List.getElem?_cons_zero, List.getElem?_cons_succ] at y0 y1
   have hbel : Below W15.heap.size W15 w_ := hJ
   simp only [e_, eg] at hK ⊢
   go_simp
   exact hK.out undef _ ⟨(Below.setCell (p := ⟨g, 1, none⟩) (Below.setCell (p := ⟨g, 0, none⟩) hbel hgB (.bool k1)) hgB (.slice A1 l1 c1)), g, [.bool k1, .slice A1 l1 c1], by simp [e_, eg], hgB, (Bx.set2 bx (Leaf.bool k1) (Leaf.slice A1 l1 c1))⟩ (Keep.set2 (Keep.refl w_) bx (Leaf.bool k1) (Leaf.slice A1 l1 c1))
  refine AS.ss rfl rfl ?_ ?_
  ·intro u w_ hJ hAp hF K hK
   have h27 : AS.Two (u 27) := AS.facts_get hF 27 (by simp)
   have h7 : IsBox 33 W15.heap.size (u 7) w_ := AS.facts_get hF 7 (by simp)
   clear hF
   obtain ⟨g, x_, y_, eg, hgB, bx⟩ := h7
   obtain ⟨k1, A1, l1, c1, e_⟩ := h27
   have y0 := bx.cell 0
   have y1 := bx.cell 1
   have z0 := bx.frozen 0
   have z1 := bx.frozen 1
   simp only [List.getElem?_cons_zero, List.getElem?_cons_succ] at y0 y1
   obtain ⟨hbel, g2, vs, hvs, hg2, bx2⟩ := hJ
   have e7 : u 6 = .pointer (some ⟨g2, 0, none⟩) := (List.cons.inj (List.cons.inj hvs).2).1
   have hne : g ≠ g2 := by
    intro h
    refine hAp 6 (by simp) 7 (by simp) (by decide) ?_
    rw [e7, eg, h]
   clear e7
   simp only [e_, eg] at hK ⊢
   go_simp
   exact hK.out undef _ ⟨(Below.setCell (p := ⟨g, 1, none⟩) (Below.setCell (p := ⟨g, 0, none⟩) hbel hgB (.bool k1)) hgB (.slice A1 l1 c1)), g2, vs, hvs, hg2, Bx.far (Bx.far bx2 hne 0 (.bool k1)) hne 1 (.slice A1 l1 c1)⟩ (Keep.set2 (Keep.refl w_) bx (Leaf.bool k1) (Leaf.slice A1 l1 c1))
  refine AS.sc rfl rfl rfl ?_ ?_
  ·intro k_ u w_ hk hJ hF K hK
   have h28 : u 28 = .int .i64 0 := AS.facts_get hF 28 (by simp)
   clear hF
   simp only [h28] at hK ⊢
   clear h28
   go_simp
   exact hK.out _ _ (Below.refl _ _) (rfl) trivial
  exact AS.StepsOk.nil
 ·intro u W17 hJ9 hF
  have h26 : PRef (Int.tdiv (2 * (x.num.natAbs : Int) + (x.den : Int)) (2 * (x.den : Int))) (n + n + 6) (u 26) W17 := AS.facts_get hF 26 (by simp [rroundFLN, AS.temps])
  clear hF
  obtain ⟨hbel, g, vs, hvs, hgB, bx⟩ := hJ9
  obtain ⟨ka, Aa, la, ca, ea⟩ := h26.open
  rw [ea] at h26
  have e7 : u 6 = .pointer (some ⟨g, 0, none⟩) := (List.cons.inj (List.cons.inj hvs).2).1
  obtain rfl : vs = [.bool ka, .slice Aa la ca] := by
   have e1 := (List.cons.inj hvs).1
   rw [show u 26 = _ from ea] at e1
   have e2 := congrArg Array.toList (Value.agg.inj e1)
   simpa using e2.symm
  clear hvs
  have HQ := Lib.hid h26
  have b6 := Lib.hid bx
  clear h26 bx
  rw [show u 6 = _ from e7]
  clear e7
  replace b1 := hup b1 hbel
  replace b2 := hup b2 hbel
  replace b3 := hup b3 hbel
  replace b4 := hup b4 hbel
  replace b5 := hup b5 hbel
  replace H1 := Lib.hid (H1.out.kept (Keep.ofBelow hbel))
  replace HA := Lib.hid (HA.out.kept (Keep.ofBelow hbel))
  replace HB := Lib.hid (HB.out.kept (Keep.ofBelow hbel))
  replace HO := Lib.hid (HO.out.kept (Keep.ofBelow hbel))
  have nbel := below_then HB16.out hbel HB16.out.size
  have HB18 := Lib.hid nbel
  clear nbel HB16 hbel x1_0 x1_1 x1_2 x1_3 x2_0 x2_1 z2_0 z2_1 x3_0 x3_1 x4_0 x4_1 x5_0 x5_1 szb s1 s2 s3 s4 s5
  obtain ⟨x1_0, x1_1, x1_2, x1_3, s1⟩ := b1.out.d4
  obtain ⟨x2_0, x2_1, z2_0, z2_1, s2⟩ := b2.out.e2
  obtain ⟨x3_0, x3_1, s3⟩ := b3.out.d2
  obtain ⟨x4_0, x4_1, s4⟩ := b4.out.d2
  obtain ⟨x5_0, x5_1, s5⟩ := b5.out.d2
  obtain ⟨x6_0, x6_1, s6⟩ := b6.out.d2
  have szb := HB18.out.size
  go_wp2_with fail
  refine (rsign_is HA.out hc).mono ?_
  rintro e W19 ⟨rfl, hb⟩
  replace b1 := hup b1 hb
  replace b2 := hup b2 hb
  replace b3 := hup b3 hb
  replace b4 := hup b4 hb
  replace b5 := hup b5 hb
  replace b6 := hup b6 hb
  replace H1 := Lib.hid (H1.out.kept (Keep.ofBelow hb))
  replace HA := Lib.hid (HA.out.kept (Keep.ofBelow hb))
  replace HB := Lib.hid (HB.out.kept (Keep.ofBelow hb))
  replace HO := Lib.hid (HO.out.kept (Keep.ofBelow hb))
  replace HQ := Lib.hid (HQ.out.kept (Keep.ofBelow hb))
  have nbel := below_then HB18.out hb HB18.out.size
  have HB20 := Lib.hid nbel
  clear nbel HB18 hb x1_0 x1_1 x1_2 x1_3 x2_0 x2_1 z2_0 z2_1 x3_0 x3_1 x4_0 x4_1 x5_0 x5_1 x6_0 x6_1 szb s1 s2 s3 s4 s5 s6
  obtain ⟨x1_0, x1_1, x1_2, x1_3, s1⟩ := b1.out.d4
  obtain ⟨x2_0, x2_1, z2_0, z2_1, s2⟩ := b2.out.e2
  obtain ⟨x3_0, x3_1, s3⟩ := b3.out.d2
  obtain ⟨x4_0, x4_1, s4⟩ := b4.out.d2
  obtain ⟨x5_0, x5_1, s5⟩ := b5.out.d2
  obtain ⟨x6_0, x6_1, s6⟩ := b6.out.d2
  have szb := HB20.out.size
  go_wp2_with fail
  refine (rneg_fact HQ.out (by omega)).mono ?_
  rintro e W21 ⟨v3, rfl, hv3, hb⟩
  replace b1 := hup b1 hb
  replace b2 := hup b2 hb
  replace b3 := hup b3 hb
  replace b4 := hup b4 hb
  replace b5 := hup b5 hb
  replace b6 := hup b6 hb
  replace H1 := Lib.hid (H1.out.kept (Keep.ofBelow hb))
  replace HA := Lib.hid (HA.out.kept (Keep.ofBelow hb))
  replace HB := Lib.hid (HB.out.kept (Keep.ofBelow hb))
  replace HO := Lib.hid (HO.out.kept (Keep.ofBelow hb))
  replace HQ := Lib.hid (HQ.out.kept (Keep.ofBelow hb))
  have nbel := below_then HB20.out hb HB20.out.size
  have HB22 := Lib.hid nbel
  clear nbel HB20 hb x1_0 x1_1 x1_2 x1_3 x2_0 x2_1 z2_0 z2_1 x3_0 x3_1 x4_0 x4_1 x5_0 x5_1 x6_0 x6_1 szb s1 s2 s3 s4 s5 s6
  obtain ⟨x1_0, x1_1, x1_2, x1_3, s1⟩ := b1.out.d4
  obtain ⟨x2_0, x2_1, z2_0, z2_1, s2⟩ := b2.out.e2
  obtain ⟨x3_0, x3_1, s3⟩ := b3.out.d2
  obtain ⟨x4_0, x4_1, s4⟩ := b4.out.d2
  obtain ⟨x5_0, x5_1, s5⟩ := b5.out.d2
  obtain ⟨x6_0, x6_1, s6⟩ := b6.out.d2
  have szb := HB22.out.size
  obtain ⟨k9, A9, l9, c9, rfl⟩ := hv3.open
  have HR := Lib.hid hv3
  clear hv3
  go_wp2_with fail
  have hkeep := (Keep.set2 (Keep.refl W21) b2.out (Leaf.bool k9) (Leaf.slice A9 l9 c9))
  have hbel := (Below.set2 (g := w.heap.size + 1) HB22.out (by first | omega | (simp; done) | (simp; omega)) (.bool k9) (.slice A9 l9 c9))
  refine bodyPost_ret (v := .agg #[.bool k9, .slice A9 l9 c9]) (by simp [results, Tryz.results45, go_sem, x2_0, x2_1]) rfl ⟨_, rfl, by rw [rndQ, ← rnear_eq x.num x.den (Int.natCast_pos.2 x.den_pos), if_pos (by omega)]; exact HR.out.kept hkeep, hbel⟩
def rroundFLP (x : Rat) (n : Nat) (W15 : World) : List (Nat × AS.Fact) := [(16, AS.Fact.ref (2) 5), (17, AS.Fact.ref (x.num) n), (18, AS.Fact.ref ((x.num.natAbs : Int)) n), (19, AS.Fact.ref (2 * (x.num.natAbs : Int)) (5 + n)), (20, AS.Fact.ref ((x.den : Int)) n), (21, AS.Fact.ref (2 * (x.num.natAbs : Int) + (x.den : Int)) (n + n + 6)), (22, AS.Fact.ref (2) 5), (23, AS.Fact.ref ((x.den : Int)) n), (24, AS.Fact.ref (2 * (x.den : Int)) (5 + n)), (25, AS.Fact.rquo (Int.tdiv (2 * (x.num.natAbs : Int) + (x.den : Int)) (2 * (x.den : Int))) (n + n + 6)), (15, AS.Fact.rquo (Int.tdiv (2 * (x.num.natAbs : Int) + (x.den : Int)) (2 * (x.den : Int))) (n + n + 6)), (26, AS.Fact.ref (Int.tdiv (2 * (x.num.natAbs : Int) + (x.den : Int)) (2 * (x.den : Int))) (n + n + 6)), (27, AS.Fact.two), (28, AS.Fact.is (.int .i64 0)), (6, AS.Fact.isBox 33 W15.heap.size), (7, AS.Fact.isBox 33 W15.heap.size), (8, AS.Fact.is (.int .i64 0))]
theorem rround_pos {x : Rat} {n : Nat} {v : Value} {w : World} (h : RRat x n v w) (hn3 : 5 ≤ n) (hn : n ≤ 4000) (cc : Int) (hcc : decide (cc < 0) = false) (hc : cmpI x.num 0 = cc) (ha : 0 ≤ x.num) :
  Calls Tryz.prog 45 #[v] w fun e w' => ∃ v, e = .returned v ∧ PRef (rndQ x) (n + n + 6) v w' ∧ Below w.heap.size w w' := by
 obtain ⟨k, A, l, c, k', A', l', c', rfl⟩ := h.open
 have H1 := Lib.hid h
 clear h
 go_enter Tryz.func45, Tryz.ntmps45
 go_upto_region 1 with (fail)
 change Code.wp Tryz.prog _ _ _ ((w.alloc (.cells #[.bool k, .slice A l c, .bool k', .slice A' l' c'] 35)).alloc (.cells #[.bool false, .slice none 0 0] 33))
 obtain ⟨nb1, nb2, na⟩ := new2 w 35 [.bool k, .slice A l c, .bool k', .slice A' l' c'] 33 [.bool false, .slice none 0 0] lf4 lf2
 have nkeep := Keep.ofBelow na
 have nbel := na
 generalize (w.alloc (.cells #[.bool k, .slice A l c, .bool k', .slice A' l' c'] 35)).alloc (.cells #[.bool false, .slice none 0 0] 33) = W1 at *
 clear na
 have b1 := Lib.hid nb1
 have b2 := Lib.hid nb2
 clear nb1 nb2
 replace H1 := Lib.hid (H1.out.kept nkeep)
 clear nkeep
 have HB2 := Lib.hid nbel
 clear nbel
 obtain ⟨x1_0, x1_1, x1_2, x1_3, s1⟩ := b1.out.d4
 obtain ⟨x2_0, x2_1, z2_0, z2_1, s2⟩ := b2.out.e2
 have szb := HB2.out.size
 go_wp2_with fail
 refine (rparts_fact H1.out hn3).mono ?_
 rintro e W3 ⟨k1, A1, l1, c1, j1, B1, o1, e1, rfl, ha_, hc_, hb⟩
 replace b1 := hup b1 hb
 replace b2 := hup b2 hb
 replace H1 := Lib.hid (H1.out.kept (Keep.ofBelow hb))
 have nbel := below_then HB2.out hb HB2.out.size
 have HB4 := Lib.hid nbel
 clear nbel HB2 hb x1_0 x1_1 x1_2 x1_3 x2_0 x2_1 z2_0 z2_1 szb s1 s2
 obtain ⟨x1_0, x1_1, x1_2, x1_3, s1⟩ := b1.out.d4
 obtain ⟨x2_0, x2_1, z2_0, z2_1, s2⟩ := b2.out.e2
 have szb := HB4.out.size
 have HA := Lib.hid ha_
 have HB := Lib.hid hc_
 clear ha_ hc_
 go_upto_region 2 with (fail)
 have q5 := b1.out.lt
 have q6 := b2.out.lt
 change Code.wp Tryz.prog _ _ _ ((W3.alloc (.cells #[.bool k1, .slice A1 l1 c1] 33)).alloc (.cells #[.bool j1, .slice B1 o1 e1] 33))
 obtain ⟨nb3, nb4, na⟩ := new2 W3 33 [.bool k1, .slice A1 l1 c1] 33 [.bool j1, .slice B1 o1 e1] lf2 lf2
 have nb1 := b1.out.up na
 have nb2 := b2.out.up na
 have nkeep := Keep.ofBelow na
 have nbel := below_then HB4.out na HB4.out.size
 generalize (W3.alloc (.cells #[.bool k1, .slice A1 l1 c1] 33)).alloc (.cells #[.bool j1, .slice B1 o1 e1] 33) = W7 at *
 clear na x1_0 x1_1 x1_2 x1_3 x2_0 x2_1 z2_0 z2_1 szb s1 s2 b1 b2
 have b1 := Lib.hid nb1
 have b2 := Lib.hid nb2
 have b3 := Lib.hid nb3
 have b4 := Lib.hid nb4
 clear nb1 nb2 nb3 nb4
 replace H1 := Lib.hid (H1.out.kept nkeep)
 replace HA := Lib.hid (HA.out.kept nkeep)
 replace HB := Lib.hid (HB.out.kept nkeep)
 clear nkeep
 have HB8 := Lib.hid nbel
 clear nbel HB4
 obtain ⟨x1_0, x1_1, x1_2, x1_3, s1⟩ := b1.out.d4
 obtain ⟨x2_0, x2_1, z2_0, z2_1, s2⟩ := b2.out.e2
 obtain ⟨x3_0, x3_1, s3⟩ := b3.out.d2
 obtain ⟨x4_0, x4_1, s4⟩ := b4.out.d2
 have szb := HB8.out.size
 go_wp2_with fail
 refine (rof_fact (n := 2) (by decide) (by decide)).mono ?_
 rintro e W9 ⟨v2, rfl, hv2, hb⟩
 replace b1 := hup b1 hb
 replace b2 := hup b2 hb
 replace b3 := hup b3 hb
 replace b4 := hup b4 hb
 replace H1 := Lib.hid (H1.out.kept (Keep.ofBelow hb))
 replace HA := Lib.hid (HA.out.kept (Keep.ofBelow hb))
 replace HB := Lib.hid (HB.out.kept (Keep.ofBelow hb))
 have nbel := below_then HB8.out hb HB8.out.size
 have HB10 := Lib.hid nbel
 clear nbel HB8 hb x1_0 x1_1 x1_2 x1_3 x2_0 x2_1 z2_0 z2_1 x3_0 x3_1 x4_0 x4_1 szb s1 s2 s3 s4
 obtain ⟨x1_0, x1_1, x1_2, x1_3, s1⟩ := b1.out.d4
 obtain ⟨x2_0, x2_1, z2_0, z2_1, s2⟩ := b2.out.e2
 obtain ⟨x3_0, x3_1, s3⟩ := b3.out.d2
 obtain ⟨x4_0, x4_1, s4⟩ := b4.out.d2
 have szb := HB10.out.size
 obtain ⟨k3, A3, l3, c3, rfl⟩ := hv2.open
 have HO := Lib.hid hv2
 clear hv2
 go_upto_region 3 with (fail)
 have q11 := b1.out.lt
 have q12 := b2.out.lt
 have q13 := b3.out.lt
 have q14 := b4.out.lt
 change Code.wp Tryz.prog _ _ _ (W9.alloc (.cells #[.bool k3, .slice A3 l3 c3] 33))
 obtain ⟨nb5, na⟩ := new1 W9 33 [.bool k3, .slice A3 l3 c3] lf2
 have nb1 := b1.out.up na
 have nb2 := b2.out.up na
 have nb3 := b3.out.up na
 have nb4 := b4.out.up na
 have nkeep := Keep.ofBelow na
 have nbel := below_then HB10.out na HB10.out.size
 generalize W9.alloc (.cells #[.bool k3, .slice A3 l3 c3] 33) = W15 at *
 clear na x1_0 x1_1 x1_2 x1_3 x2_0 x2_1 z2_0 z2_1 x3_0 x3_1 x4_0 x4_1 szb s1 s2 s3 s4 b1 b2 b3 b4
 have b1 := Lib.hid nb1
 have b2 := Lib.hid nb2
 have b3 := Lib.hid nb3
 have b4 := Lib.hid nb4
 have b5 := Lib.hid nb5
 clear nb1 nb2 nb3 nb4 nb5
 replace H1 := Lib.hid (H1.out.kept nkeep)
 replace HA := Lib.hid (HA.out.kept nkeep)
 replace HB := Lib.hid (HB.out.kept nkeep)
 replace HO := Lib.hid (HO.out.kept nkeep)
 clear nkeep
 have HB16 := Lib.hid nbel
 clear nbel HB10
 obtain ⟨x1_0, x1_1, x1_2, x1_3, s1⟩ := b1.out.d4
 obtain ⟨x2_0, x2_1, z2_0, z2_1, s2⟩ := b2.out.e2
 obtain ⟨x3_0, x3_1, s3⟩ := b3.out.d2
 obtain ⟨x4_0, x4_1, s4⟩ := b4.out.d2
 obtain ⟨x5_0, x5_1, s5⟩ := b5.out.d2
 have szb := HB16.out.size
 refine AS.region_facts (rroundFLP x n W15) (JFst W15 33) [[], [], [17], [16, 18], [], [19, 20], [], [], [22, 23], [21, 24], [25], [15], [15], [15], [], [], [26, 6], [27, 7], [28]] [16, 17] [[], [26, 6], [26, 6]] [0, 0, 2, 2, 0, 2, 0, 0, 2, 2, 2, 2, 2, 2, 0, 0, 2, 2, 2] [6, 7] (fun u => by simp only [rroundFLP, AS.temps, List.map_cons, List.map_nil, fillL, List.setIfInBounds_toArray, List.set_cons_zero, List.set_cons_succ]; rfl) (by kernel_rfl) (by kernel_rfl) (JFst.st W15 33) (below_drew (Below.refl _ _)) ?_ ?_
 ·refine AS.sc rfl rfl rfl ?_ ?_
  ·intro k_ u w_ hk hJ hF K hK
   clear hF
   obtain rfl : k_ = 0 := Nat.le_zero.1 hk
   have hJ0 : Below W15.heap.size W15 w_ := hJ
   obtain ⟨y0, y1⟩ := ((b5.out).up hJ0).c2
   go_simp
   exact hK.out _ _ (Below.refl _ _) ((HO.out).kept (Keep.ofBelow hJ0)) trivial
  refine AS.sc rfl rfl rfl ?_ ?_
  ·intro k_ u w_ hk hJ hF K hK
   clear hF
   obtain rfl : k_ = 0 := Nat.le_zero.1 hk
   have hJ0 : Below W15.heap.size W15 w_ := hJ
   obtain ⟨y0, y1⟩ := ((b3.out).up hJ0).c2
   go_simp
   exact hK.out _ _ (Below.refl _ _) ((HA.out).kept (Keep.ofBelow hJ0)) trivial
  refine AS.sc rfl rfl rfl ?_ ?_
  ·intro k_ u w_ hk hJ hF K hK
   have h17 : PRef (x.num) n (u 17) w_ := AS.facts_get hF 17 (by simp)
   clear hF
   go_simp
   refine (rabs_fact h17 (by omega)).mono ?_
   rintro e w' ⟨v, rfl, hv, hb⟩
   exact hK.out _ _ hb (hv) trivial
  refine AS.sc rfl rfl rfl ?_ ?_
  ·intro k_ u w_ hk hJ hF K hK
   have h16 : PRef (2) 5 (u 16) w_ := AS.facts_get hF 16 (by simp)
   have h18 : PRef ((x.num.natAbs : Int)) n (u 18) w_ := AS.facts_get hF 18 (by simp)
   clear hF
   go_simp
   refine (rmul_fact h16 h18 (by omega) (by omega)).mono ?_
   rintro e w' ⟨v, rfl, hv, hb⟩
   exact hK.out _ _ hb (hv) trivial
  refine AS.sc rfl rfl rfl ?_ ?_
  ·intro k_ u w_ hk hJ hF K hK
   clear hF
   obtain rfl : k_ = 0 := Nat.le_zero.1 hk
   have hJ0 : Below W15.heap.size W15 w_ := hJ
   obtain ⟨y0, y1⟩ := ((b4.out).up hJ0).c2
   go_simp
   exact hK.out _ _ (Below.refl _ _) ((HB.out).kept (Keep.ofBelow hJ0)) trivial
  refine AS.sc rfl rfl rfl ?_ ?_
  ·intro k_ u w_ hk hJ hF K hK
   have h19 : PRef (2 * (x.num.natAbs : Int)) (5 + n) (u 19) w_ := AS.facts_get hF 19 (by simp)
   have h20 : PRef ((x.den : Int)) n (u 20) w_ := AS.facts_get hF 20 (by simp)
   clear hF
   go_simp
   refine (radd_fact h19 h20 (by omega) (by omega)).mono ?_
   rintro e w' ⟨v, rfl, hv, hb⟩
   exact hK.out _ _ hb (hv.more (by omega)) trivial
  refine AS.sc rfl rfl rfl ?_ ?_
  ·intro k_ u w_ hk hJ hF K hK
   clear hF
   obtain rfl : k_ = 0 := Nat.le_zero.1 hk
   have hJ0 : Below W15.heap.size W15 w_ := hJ
   obtain ⟨y0, y1⟩ := ((b5.out).up hJ0).c2
   go_simp
   exact hK.out _ _ (Below.refl _ _) ((HO.out).kept (Keep.ofBelow hJ0)) trivial
  refine AS.sc rfl rfl rfl ?_ ?_
  ·intro k_ u w_ hk hJ hF K hK
   clear hF
   obtain rfl : k_ = 0 := Nat.le_zero.1 hk
   have hJ0 : Below W15.heap.size W15 w_ := hJ
   obtain ⟨y0, y1⟩ := ((b4.out).up hJ0).c2
   go_simp
   exact hK.out _ _ (Below.refl _ _) ((HB.out).kept (Keep.ofBelow hJ0)) trivial
  refine AS.sc rfl rfl rfl ?_ ?_
  ·intro k_ u w_ hk hJ hF K hK
   have h22 : PRef (2) 5 (u 22) w_ := AS.facts_get hF 22 (by simp)
   have h23 : PRef ((x.den : Int)) n (u 23) w_ := AS.facts_get hF 23 (by simp)
   clear hF
   go_simp
   refine (rmul_fact h22 h23 (by omega) (by omega)).mono ?_
   rintro e w' ⟨v, rfl, hv, hb⟩
   exact hK.out _ _ hb (hv) trivial
  refine AS.sc rfl rfl rfl ?_ ?_
  ·intro k_ u w_ hk hJ hF K hK
   have h21 : PRef (2 * (x.num.natAbs : Int) + (x.den : Int)) (n + n + 6) (u 21) w_ := AS.facts_get hF 21 (by simp)
   have h24 : PRef (2 * (x.den : Int)) (5 + n) (u 24) w_ := AS.facts_get hF 24 (by simp)
   clear hF
   go_simp
   refine (rquo_fact (n := (n + n + 6)) (h21.more (by omega)) h24 (by omega) (by omega) (mul_ne (by decide) (den_ne x))).mono ?_
   rintro e w' ⟨k7, A7, l7, c7, k8, A8, l8, c8, rfl, hv, hb⟩
   exact hK.out _ _ hb (⟨_, _, _, _, _, rfl, hv⟩) trivial
  refine AS.sc rfl rfl rfl ?_ ?_
  ·intro k_ u w_ hk hJ hF K hK
   have h25 : RQuoP (Int.tdiv (2 * (x.num.natAbs : Int) + (x.den : Int)) (2 * (x.den : Int))) (n + n + 6) (u 25) w_ := AS.facts_get hF 25 (by simp)
   clear hF
   go_simp
   exact hK.out _ _ (Below.refl _ _) (h25) trivial
  refine AS.sc rfl rfl rfl ?_ ?_
  ·intro k_ u w_ hk hJ hF K hK
   have h15 : RQuoP (Int.tdiv (2 * (x.num.natAbs : Int) + (x.den : Int)) (2 * (x.den : Int))) (n + n + 6) (u 15) w_ := AS.facts_get hF 15 (by simp)
   clear hF
   obtain ⟨qa, kr, Ar, lr, cr, e0, hqa⟩ := h15
   simp only [e0] at hK ⊢
   go_simp
   exact hK.out _ _ (Below.refl _ _) (hqa) trivial
  refine AS.sc rfl rfl rfl ?_ ?_
  ·intro k_ u w_ hk hJ hF K hK
   have h15 : RQuoP (Int.tdiv (2 * (x.num.natAbs : Int) + (x.den : Int)) (2 * (x.den : Int))) (n + n + 6) (u 15) w_ := AS.facts_get hF 15 (by simp)
   clear hF
   obtain ⟨qa, kr, Ar, lr, cr, e0, hqa⟩ := h15
   simp only [e0] at hK ⊢
   go_simp
   exact hK.out _ _ (Below.refl _ _) (⟨_, _, _, _, rfl⟩) trivial
  refine AS.sc rfl rfl rfl ?_ ?_
  ·intro k_ u w_ hk hJ hF K hK
   have h15 : RQuoP (Int.tdiv (2 * (x.num.natAbs : Int) + (x.den : Int)) (2 * (x.den : Int))) (n + n + 6) (u 15) w_ := AS.facts_get hF 15 (by simp)
   clear hF
   obtain ⟨qa, kr, Ar, lr, cr, e0, hqa⟩ := h15
   simp only [e0] at hK ⊢
   go_simp
   exact hK.out _ _ (Below.refl _ _) (rfl) trivial
  refine AS.sc rfl rfl rfl ?_ ?_
  ·intro k_ u w_ hk hJ hF K hK
   clear hF
   obtain rfl : k_ = 0 := Nat.le_zero.1 hk
   have hJ0 : Below W15.heap.size W15 w_ := hJ
   go_simp
   exact hK.out _ _ (below_alloc_new _) (IsBox.new _ hJ0.size) ⟨rfl, by simp⟩
  refine AS.sc rfl rfl rfl ?_ ?_
  ·intro k_ u w_ hk hJ hF K hK
   clear hF
   obtain rfl : k_ = 0 := Nat.le_zero.1 hk
   have hJ0 : Below W15.heap.size W15 w_ := hJ
   go_simp
   exact hK.out _ _ (below_alloc_new _) (IsBox.new _ hJ0.size) ⟨rfl, by simp⟩
  refine AS.ss rfl rfl ?_ ?_
  ·intro u w_ hJ hAp hF K hK
   have h26 : PRef (Int.tdiv (2 * (x.num.natAbs : Int) + (x.den : Int)) (2 * (x.den : Int))) (n + n + 6) (u 26) w_ := AS.facts_get hF 26 (by simp)
   have h6 : IsBox 33 W15.heap.size (u 6) w_ := AS.facts_get hF 6 (by simp)
   clear hF
   obtain ⟨g, x_, y_, eg, hgB, bx⟩ := h6
   obtain ⟨k1, A1, l1, c1, e_⟩ := h26.open
   have y0 := bx.cell 0
   have y1 := bx.cell 1
   have z0 := bx.frozen 0
   have z1 := bx.frozen 1
   simp only [List.getElem?_cons_zero, List.getElem?_cons_succ] at y0 y1
   have hbel : Below W15.heap.size W15 w_ := hJ
   simp only [e_, eg] at hK ⊢
   go_simp
   exact hK.out undef _ ⟨(Below.setCell (p := ⟨g, 1, none⟩) (Below.setCell (p := ⟨g, 0, none⟩) hbel hgB (.bool k1)) hgB (.slice A1 l1 c1)), g, [.bool k1, .slice A1 l1 c1], by simp [e_, eg], hgB, (Bx.set2 bx (Leaf.bool k1) (Leaf.slice A1 l1 c1))⟩ (Keep.set2 (Keep.refl w_) bx (Leaf.bool k1) (Leaf.slice A1 l1 c1))
  refine AS.ss rfl rfl ?_ ?_
  ·intro u w_ hJ hAp hF K hK
   have h27 : AS.Two (u 27) := AS.facts_get hF 27 (by simp)
   have h7 : IsBox 33 W15.heap.size (u 7) w_ := AS.facts_get hF 7 (by simp)
   clear hF
   obtain ⟨g, x_, y_, eg, hgB, bx⟩ := h7
   obtain ⟨k1, A1, l1, c1, e_⟩ := h27
   have y0 := bx.cell 0
   have y1 := bx.cell 1
   have z0 := bx.frozen 0
   have z1 := bx.frozen 1
   simp only [List.getElem?_cons_zero, List.getElem?_cons_succ] at y0 y1
   obtain ⟨hbel, g2, vs, hvs, hg2, bx2⟩ := hJ
   have e7 : u 6 = .pointer (some ⟨g2, 0, none⟩) := (List.cons.inj (List.cons.inj hvs).2).1
   have hne : g ≠ g2 := by
    intro h
    refine hAp 6 (by simp) 7 (by simp) (by decide) ?_
    rw [e7, eg, h]
   clear e7
   simp only [e_, eg] at hK ⊢
   go_simp
   exact hK.out undef _ ⟨(Below.setCell (p := ⟨g, 1, none⟩) (Below.setCell (p := ⟨g, 0, none⟩) hbel hgB (.bool k1)) hgB (.slice A1 l1 c1)), g2, vs, hvs, hg2, Bx.far (Bx.far bx2 hne 0 (.bool k1)) hne 1 (.slice A1 l1 c1)⟩ (Keep.set2 (Keep.refl w_) bx (Leaf.bool k1) (Leaf.slice A1 l1 c1))
  refine AS.sc rfl rfl rfl ?_ ?_
  ·intro k_ u w_ hk hJ hF K hK
   have h28 : u 28 = .int .i64 0 := AS.facts_get hF 28 (by simp)
   clear hF
   simp only [h28] at hK ⊢
   clear h28
   go_simp
   exact hK.out _ _ (Below.refl _ _) (rfl) trivial
  exact AS.StepsOk.nil
 ·intro u W17 hJ9 hF
  have h26 : PRef (Int.tdiv (2 * (x.num.natAbs : Int) + (x.den : Int)) (2 * (x.den : Int))) (n + n + 6) (u 26) W17 := AS.facts_get hF 26 (by simp [rroundFLP, AS.temps])
  clear hF
  obtain ⟨hbel, g, vs, hvs, hgB, bx⟩ := hJ9
  obtain ⟨ka, Aa, la, ca, ea⟩ := h26.open
  rw [ea] at h26
  have e7 : u 6 = .pointer (some ⟨g, 0, none⟩) := (List.cons.inj (List.cons.inj hvs).2).1
  obtain rfl : vs = [.bool ka, .slice Aa la ca] := by
   have e1 := (List.cons.inj hvs).1
   rw [show u 26 = _ from ea] at e1
   have e2 := congrArg Array.toList (Value.agg.inj e1)
   simpa using e2.symm
  clear hvs
  have HQ := Lib.hid h26
  have b6 := Lib.hid bx
  clear h26 bx
  rw [show u 6 = _ from e7]
  clear e7
  replace b1 := hup b1 hbel
  replace b2 := hup b2 hbel
  replace b3 := hup b3 hbel
  replace b4 := hup b4 hbel
  replace b5 := hup b5 hbel
  replace H1 := Lib.hid (H1.out.kept (Keep.ofBelow hbel))
  replace HA := Lib.hid (HA.out.kept (Keep.ofBelow hbel))
  replace HB := Lib.hid (HB.out.kept (Keep.ofBelow hbel))
  replace HO := Lib.hid (HO.out.kept (Keep.ofBelow hbel))
  have nbel := below_then HB16.out hbel HB16.out.size
  have HB18 := Lib.hid nbel
  clear nbel HB16 hbel x1_0 x1_1 x1_2 x1_3 x2_0 x2_1 z2_0 z2_1 x3_0 x3_1 x4_0 x4_1 x5_0 x5_1 szb s1 s2 s3 s4 s5
  obtain ⟨x1_0, x1_1, x1_2, x1_3, s1⟩ := b1.out.d4
  obtain ⟨x2_0, x2_1, z2_0, z2_1, s2⟩ := b2.out.e2
  obtain ⟨x3_0, x3_1, s3⟩ := b3.out.d2
  obtain ⟨x4_0, x4_1, s4⟩ := b4.out.d2
  obtain ⟨x5_0, x5_1, s5⟩ := b5.out.d2
  obtain ⟨x6_0, x6_1, s6⟩ := b6.out.d2
  have szb := HB18.out.size
  go_wp2_with fail
  refine (rsign_is HA.out hc).mono ?_
  rintro e W19 ⟨rfl, hb⟩
  replace b1 := hup b1 hb
  replace b2 := hup b2 hb
  replace b3 := hup b3 hb
  replace b4 := hup b4 hb
  replace b5 := hup b5 hb
  replace b6 := hup b6 hb
  replace H1 := Lib.hid (H1.out.kept (Keep.ofBelow hb))
  replace HA := Lib.hid (HA.out.kept (Keep.ofBelow hb))
  replace HB := Lib.hid (HB.out.kept (Keep.ofBelow hb))
  replace HO := Lib.hid (HO.out.kept (Keep.ofBelow hb))
  replace HQ := Lib.hid (HQ.out.kept (Keep.ofBelow hb))
  have nbel := below_then HB18.out hb HB18.out.size
  have HB20 := Lib.hid nbel
  clear nbel HB18 hb x1_0 x1_1 x1_2 x1_3 x2_0 x2_1 z2_0 z2_1 x3_0 x3_1 x4_0 x4_1 x5_0 x5_1 x6_0 x6_1 szb s1 s2 s3 s4 s5 s6
  obtain ⟨x1_0, x1_1, x1_2, x1_3, s1⟩ := b1.out.d4
  obtain ⟨x2_0, x2_1, z2_0, z2_1, s2⟩ := b2.out.e2
  obtain ⟨x3_0, x3_1, s3⟩ := b3.out.d2
  obtain ⟨x4_0, x4_1, s4⟩ := b4.out.d2
  obtain ⟨x5_0, x5_1, s5⟩ := b5.out.d2
  obtain ⟨x6_0, x6_1, s6⟩ := b6.out.d2
  have szb := HB20.out.size
  go_wp2_with fail
  have hkeep := (Keep.set2 (Keep.refl W19) b2.out (Leaf.bool ka) (Leaf.slice Aa la ca))
  have hbel := (Below.set2 (g := w.heap.size + 1) HB20.out (by first | omega | (simp; done) | (simp; omega)) (.bool ka) (.slice Aa la ca))
  refine bodyPost_ret (v := .agg #[.bool ka, .slice Aa la ca]) (by simp [results, Tryz.results45, go_sem, x2_0, x2_1]) rfl ⟨_, rfl, by rw [rndQ, ← rnear_eq x.num x.den (Int.natCast_pos.2 x.den_pos), if_neg (by omega)]; exact HQ.out.kept hkeep, hbel⟩
theorem rround_fact {x : Rat} {n : Nat} {v : Value} {w : World} (h : RRat x n v w) (hn3 : 5 ≤ n) (hn : n ≤ 4000) :
  Calls Tryz.prog 45 #[v] w fun e w' => ∃ v, e = .returned v ∧ PRef (rndQ x) (n + n + 6) v w' ∧ Below w.heap.size w w' := by
 rcases Int.lt_trichotomy x.num 0 with ha | ha | ha
 ·exact rround_neg h hn3 hn (by unfold cmpI; rw [if_pos ha]) ha
 ·exact rround_pos h hn3 hn 0 (by decide) (by rw [ha]; rfl) (by omega)
 ·exact rround_pos h hn3 hn 1 (by decide) (by unfold cmpI; rw [if_neg (by omega), if_neg (by omega)]) (by omega)
theorem divInt1 (a : Int) : Rat.divInt a 1 = (a : Rat) := by
 have h := Rat.num_divInt_den (a : Rat)
 rw [Rat.num_intCast, Rat.den_intCast] at h
 exact h
end Go.Proofs.YtgihmikeapbpkaaGreatDoor
