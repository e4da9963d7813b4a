/- The reference's 'Neg', 'Sub' and 'Cmp'. -/
import Derived.Test.YtbfbijokhlkekaaDoorRefAddI
import Derived.Test.YtbfbijokhlkekaaDoorRefMulI
import Derived.Test.YtbfbijokhlkekaaDoorEqual
import Derived.Test.YtbfbijokhlkekaaDoorLawParse
namespace Go.Proofs.YtbfbijokhlkekaaDoor
open Go.RowKit

theorem zR_neg (n : Bool) {L : List Nat} : zR ((!n) && decide (0 < L.length)) L = - zR n L := by
  unfold zR
  rcases Nat.eq_zero_or_pos L.length with h1 | h1
  · have h2 := val4_nil h1
    have e : (decide (0 < L.length)) = false := by rw [decide_eq_false_iff_not]; omega
    rw [e, Bool.and_false, h2]
    cases n <;> simp
  · have e : (decide (0 < L.length)) = true := by rw [decide_eq_true_iff]; omega
    rw [e, Bool.and_true]
    cases n <;> simp
set_option maxRecDepth 20000 in
set_option maxHeartbeats 3200000 in
theorem rneg_any (n : Bool) (A : Option Addr) (c : Nat) (L : List Nat) (w : World) (hl : L.length ≤ 500000) (hL : RefR w w.heap.size n A c L) :
    Calls Tryd.prog 29 #[.agg #[.bool n, .slice A L.length c]] w fun e w' => ∃ k A c, e = .returned (.agg #[.bool k, .slice A L.length c]) ∧
      RefR w' w'.heap.size k A c L ∧ zR k L = - zR n L ∧ Below w.heap.size w w' := by
  have hM2 := fun W h1 => rsigned_trim (!n) A c L W hl hL.top h1
  have HM2 := Lib.hid hM2
  clear hM2
  have HZ := Lib.hid (zR_neg n (L := L))
  generalize hl' : L.length = l at *
  have HLL := Lib.hid hl'
  clear hl'
  go_enter Tryd.func29, Tryd.ntmps29
  go_wp2_with fail
  refine (HM2.out _ (hL.row.up (below_a2 _ _ _))).mono ?_
  rintro e w1 ⟨rfl, hb1⟩
  have X := two hb1
  have hq3 := X.2.2.1
  have hq4 := X.2.2.2.1
  have hq5 := X.2.2.2.2.1
  have hq6 := X.2.2.2.2.2.1
  have HB1 := Lib.hid X.2.2.2.2.2.2.2
  have HR1 := Lib.hid (hL.up (upa2 HB1.out))
  clear X hb1
  go_wp2_with fail
  refine bodyPost_ret (v := .agg #[.bool ((!n) && decide (0 < l)), .slice A l c]) (by simp [results, Tryd.results29, go_sem, hq3, hq4]) rfl
    ⟨_, _, _, rfl, ?_, by rw [← HZ.out], ((upa2 HB1.out).setCell (by simp) _).setCell (by simp) _⟩
  rw [setCell_size, setCell_size]
  refine ⟨HR1.out.row.box2 HB1.out (fun _ => by simp) (fun _ => by simp) _ _, HR1.out.lim, HR1.out.top, fun hk hR => ?_⟩
  have h9 : l = 0 := by rw [← HLL.out, hR]; rfl
  rw [h9] at hk
  simp at hk

set_option maxRecDepth 20000 in
set_option maxHeartbeats 3200000 in
theorem rsubI_any (n m : Bool) (A A' : Option Addr) (c c' : Nat) (L M : List Nat) (w : World) (hl : L.length ≤ 500000) (hml : M.length ≤ 500000)
    (hL : RefR w w.heap.size n A c L) (hM : RefR w w.heap.size m A' c' M) :
    Calls Tryd.prog 27 #[.agg #[.bool n, .slice A L.length c], .agg #[.bool m, .slice A' M.length c']] w fun e w' => ∃ k A c R, e = .returned (.agg #[.bool k, .slice A R.length c]) ∧
      RefR w' w'.heap.size k A c R ∧ zR k R = zR n L - zR m M ∧ R.length ≤ L.length + M.length + 1 ∧ Below w.heap.size w w' := by
  have hN := fun W (h : RefR W W.heap.size m A' c' M) => rneg_any m A' c' M W hml h
  have HN := Lib.hid hN
  have hAd := fun (k : Bool) (A2 : Option Addr) (c2 : Nat) W (h1 : RefR W W.heap.size n A c L) (h2 : RefR W W.heap.size k A2 c2 M) => raddI_any n k A A2 c c2 L M W hl hml h1 h2
  have HAd := Lib.hid hAd
  clear hN hAd
  generalize hl' : L.length = l at *
  generalize hm' : M.length = l2 at *
  have HLL := Lib.hid hl'
  have HML := Lib.hid hm'
  clear hl' hm'
  go_enter Tryd.func27, Tryd.ntmps27
  go_wp2
  have hne1 : ¬ w.heap.size = w.heap.size + 1 + 1 := by omega
  have hne2 : ¬ w.heap.size + 1 + 1 = w.heap.size := by omega
  go_region_held3 (fun w' => w'.cell? ⟨w.heap.size, 0, none⟩ = some (.bool n) ∧ w'.cell? ⟨w.heap.size, 1, none⟩ = some (.slice A l c) ∧
      w'.cell? ⟨w.heap.size + 1, 0, none⟩ = some (.bool m) ∧ w'.cell? ⟨w.heap.size + 1, 1, none⟩ = some (.slice A' l2 c')) (go_keep)
    (first
      | (go_at_call 29; (with_reducible refine (HN.out _ (hM.up (below_drew (below_a3 _ _ _ _)))).mono ?_); rintro e w1 ⟨k, A2, c2, rfl, hi1, hz1, hb1⟩; have HZ1 := Lib.hid hz1; have HB1 := Lib.hid (three (below_undrew hb1)).2.2.2.2.2.2.2.2.2; have HW1 := Lib.hid ((below_drew (below_a3 w _ _ _)).trans (Below.less hb1 (below_drew (below_a3 w _ _ _)).size)); have X := three (below_undrew hb1); have hq1 := X.1; have hq2 := X.2.1; have hq3 := X.2.2.1; have hq4 := X.2.2.2.1; have hq9 := X.2.2.2.2.2.2.2.2.1; clear X hb1 hz1)
      | (go_at_call 25; (with_reducible refine (HAd.out _ _ _ _ (hL.up HW1.out) hi1).mono ?_); rintro e w2 ⟨k3, A3, c3, R, rfl, hi2, hz2, hl2, hb2⟩; have HZ2 := Lib.hid hz2; have HI2 := Lib.hid hi2; have HB2 := Lib.hid (below_then HB1.out hb2 hq9); clear hq1 hq2 hq3 hq4 hi1 hb2 hz2 hi2; have X := three' HB2.out; have hq1 := X.1; have hq2 := X.2.1; have hq3 := X.2.2.1; have hq4 := X.2.2.2.1; have hq5 := X.2.2.2.2.1; have hq6 := X.2.2.2.2.2.1; have hq7 := X.2.2.2.2.2.2.1; have hq8 := X.2.2.2.2.2.2.2.1; clear X))
  all_goals
    go_wp2
    have hbw : Below w.heap.size w w2 := (below_a3 w _ _ _).trans (Below.less HB2.out (by omega))
    refine bodyPost_ret (v := .agg #[.bool k3, .slice A3 R.length c3]) (by simp [results, Tryd.results27, go_sem, hq5, hq6]) rfl
      ⟨_, _, _, R, rfl, ?_, by rw [HZ2.out, HZ1.out]; rfl, hl2, (hbw.setCell (by simp; omega) _).setCell (by simp; omega) _⟩
    rw [setCell_size, setCell_size]
    exact ⟨HI2.out.row.box3 HB2.out (fun _ => by simp) (fun _ => by simp) _ _, HI2.out.lim, HI2.out.top, HI2.out.sgn⟩

theorem sgn_cmp {w : World} {B : Nat} {n : Bool} {A : Option Addr} {c : Nat} {L : List Nat} (h : RefR w B n A c L) : sgnI n L = cmpI (zR n L) 0 := by
  have h1 : 0 < L.length → 0 < val4 L := fun h0 => Nat.pos_of_ne_zero (ref_pos h h0)
  have h2 : L.length = 0 → val4 L = 0 := val4_nil
  have h3 : n = true → 0 < L.length := fun hn => List.length_pos_iff.2 (h.sgn hn)
  unfold sgnI cmpI zR
  cases n
  · rcases Nat.eq_zero_or_pos L.length with h0 | h0
    · have := h2 h0
      simp [h0, this]
    · have := h1 h0
      have h4 : ¬ L.length = 0 := by omega
      simp only [Bool.false_eq_true, if_false, h4]
      rw [if_neg (by omega), if_neg (by omega)]
  · have := h1 (h3 rfl)
    simp only [if_true]
    rw [if_pos (by omega)]
theorem cmp_diff (x y : Int) : cmpI (x - y) 0 = cmpI x y := by
  unfold cmpI
  by_cases h1 : x < y
  · rw [if_pos (by omega), if_pos h1]
  · rw [if_neg (by omega), if_neg h1]
    by_cases h2 : x = y
    · rw [if_pos (by omega), if_pos h2]
    · rw [if_neg (by omega), if_neg h2]
set_option maxRecDepth 20000 in
set_option maxHeartbeats 3200000 in
theorem rcmp_any (n m : Bool) (A A' : Option Addr) (c c' : Nat) (L M : List Nat) (w : World) (hl : L.length ≤ 500000) (hml : M.length ≤ 500000)
    (hL : RefR w w.heap.size n A c L) (hM : RefR w w.heap.size m A' c' M) :
    Calls Tryd.prog 31 #[.agg #[.bool n, .slice A L.length c], .agg #[.bool m, .slice A' M.length c']] w fun e w' => e = .returned (.int .i64 (cmpI (zR n L) (zR m M))) ∧ Below w.heap.size w w' := by
  have HS := Lib.hid (fun W h1 h2 => rsubI_any n m A A' c c' L M W hl hml h1 h2)
  generalize hl' : L.length = l at *
  generalize hm' : M.length = l2 at *
  have HLL := Lib.hid hl'
  have HML := Lib.hid hm'
  clear hl' hm'
  go_enter Tryd.func31, Tryd.ntmps31
  go_wp2_with fail
  refine (HS.out _ (hL.up (below_a2 _ _ _)) (hM.up (below_a2 _ _ _))).mono ?_
  rintro e w1 ⟨k, A2, c2, R, rfl, hi, hz, hl2, hb1⟩
  have HZ := Lib.hid hz
  have HB1 := Lib.hid ((below_a2 w _ _).trans (Below.less hb1 (below_a2 w _ _).size))
  have hsg := sgn_cmp hi
  rw [hz, cmp_diff] at hsg
  have HSG := Lib.hid hsg
  have hsn := hi.sgn
  clear hz hb1 hsg hi
  go_wp2_with fail
  refine (rsign_any k A2 c2 R w1 hsn).mono ?_
  rintro e w2 ⟨rfl, hb2⟩
  go_wp2_with fail
  go_ret
  exact ⟨ret_int HSG.out, HB1.out.trans (Below.less hb2 HB1.out.size)⟩
end Go.Proofs.YtbfbijokhlkekaaDoor
