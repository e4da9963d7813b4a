/- 'Neg', 'Cmp', 'Add' and 'Sub' of integers. -/
import Derived.Test.YtbfbijokhlkekaaDoorMul
import Derived.Test.YtbfbijokhlkekaaDoorAddShort
namespace Go.Proofs.YtbfbijokhlkekaaDoor
open Go.RowKit

theorem Row.apart {k : IntKind} {w : World} {B g o c : Nat} {L : List Nat} (h : Row k w B (some ⟨g, o, none⟩) c L) {p : Addr} (hp : p.block ≠ g) (u : Value) : Row k (w.setCell p u) B (some ⟨g, o, none⟩) c L :=
  ⟨h.len, fun h0 => by
    obtain ⟨b, o', e, hb, hc⟩ := h.spot h0
    have e2 := Option.some.inj e
    injection e2 with e3 e4 e5
    subst e3
    exact ⟨_, o', e, hb, hc.keep fun j => World.cell?_setCell_other _ _ _ _ (fun e => hp (congrArg Addr.block e))⟩⟩
theorem compare_row (A A' : Option Addr) (c c' : Nat) (L M : List Nat) (w : World) (hl : L.length ≤ 1000000) (hm : M.length ≤ 1000000) (hR : Row .u32 w w.heap.size A c L) (hR' : Row .u32 w w.heap.size A' c' M) (hL : Canon L) (hM : Canon M) :
    Calls Tryd.prog 51 #[.slice A L.length c, .slice A' M.length c'] w fun e w' => e = .returned (.int .i64 (cmpZ (val9 L) (val9 M))) ∧ ∃ n, w' = w.drewN n := by
  have H : ∃ b o, (0 < L.length → A = some ⟨b, o, none⟩) ∧ Cells .u32 w b o L := by
    rcases Nat.eq_zero_or_pos L.length with h | h
    · exact ⟨0, 0, fun h1 => by omega, fun j hj => by omega⟩
    · obtain ⟨b, o, e, _, hc⟩ := hR.spot h; exact ⟨b, o, fun _ => e, hc⟩
  have H' : ∃ b o, (0 < M.length → A' = some ⟨b, o, none⟩) ∧ Cells .u32 w b o M := by
    rcases Nat.eq_zero_or_pos M.length with h | h
    · exact ⟨0, 0, fun h1 => by omega, fun j hj => by omega⟩
    · obtain ⟨b, o, e, _, hc⟩ := hR'.spot h; exact ⟨b, o, fun _ => e, hc⟩
  obtain ⟨b, o, h1, h2⟩ := H
  obtain ⟨b', o', h3, h4⟩ := H'
  rw [← cmpL_val hL hM]
  exact compare_any A A' c b o c' b' o' L M w hl hm h1 h2 h3 h4
theorem zI_neg (n : Bool) {L R : List Nat} (h : val9 R = val9 L) (h0 : R.length = 0 → val9 R = 0) : zI ((!n) && decide (0 < R.length)) R = - zI n L := by
  unfold zI
  rcases Nat.eq_zero_or_pos R.length with h1 | h1
  · have h2 := h0 h1
    have e : (decide (0 < R.length)) = false := by rw [decide_eq_false_iff_not]; omega
    rw [e, Bool.and_false]
    rw [h] at h2 ⊢
    rw [h2]
    cases n <;> simp
  · have e : (decide (0 < R.length)) = true := by rw [decide_eq_true_iff]; omega
    rw [e, Bool.and_true, h]
    cases n <;> simp

set_option maxRecDepth 20000 in
set_option maxHeartbeats 3200000 in
theorem neg_any (n : Bool) (A : Option Addr) (c : Nat) (L : List Nat) (w : World) (hl : L.length ≤ 500000) (hL : IntR w w.heap.size n A c L) :
    Calls Tryd.prog 28 #[.agg #[.bool n, .slice A L.length c]] w fun e w' => ∃ k A c, e = .returned (.agg #[.bool k, .slice A L.length c]) ∧
      IntR w' w'.heap.size k A c L ∧ zI k L = - zI n L ∧ Below w.heap.size w w' := by
  have hM2 := fun W h1 => copied_any A c L W (by omega) h1
  have HM2 := Lib.hid hM2
  clear hM2
  have hz := zI_neg n (L := L) (R := L) rfl val9_nil
  have HZ := Lib.hid hz
  clear hz
  generalize hl' : L.length = l at *
  have HLL := Lib.hid hl'
  clear hl'
  go_enter Tryd.func28, Tryd.ntmps28
  go_wp2
  have hne1 : ¬ w.heap.size = w.heap.size + 1 := by omega
  have hne2 : ¬ w.heap.size + 1 = w.heap.size := by omega
  go_region_held3 (fun w' => w'.cell? ⟨w.heap.size, 0, none⟩ = some (.bool n) ∧ w'.cell? ⟨w.heap.size, 1, none⟩ = some (.slice A l c)) (go_keep)
    (first
      | (go_at_call 56; (with_reducible refine (HM2.out _ (hL.row.up (below_drew (below_a2 _ _ _)))).mono ?_); rintro e w1 ⟨rfl, hk1, hb1⟩; have X := two (below_undrew hb1); have hq1 := X.1; have hq2 := X.2.1; have hq3 := X.2.2.1; have hq4 := X.2.2.2.1; have hq5 := X.2.2.2.2.1; have hq6 := X.2.2.2.2.2.1; have hs1 := X.2.2.2.2.2.2.1; have HB1 := Lib.hid X.2.2.2.2.2.2.2; clear X hb1)
      | (go_at_call 42; refine (signed_any _ _ _ _ _).mono ?_; rintro e w2 ⟨rfl, hb2⟩; have HB2 := Lib.hid (below_then HB1.out hb2 hs1); have hk2 := hk1.below hb2 hk1.lt; have hs2 := hb2.size; clear hq1 hq2 hq3 hq4 hq5 hq6 hb2; have X := two' HB2.out; have hq1 := X.1; have hq2 := X.2.1; have hq3 := X.2.2.1; have hq4 := X.2.2.2.1; have hq5 := X.2.2.2.2.1; have hq6 := X.2.2.2.2.2.1; clear X))
  all_goals
    go_wp2
    have hbw : Below w.heap.size w w2 := (below_a2 w _ _).trans (Below.less HB2.out (by omega))
    refine bodyPost_ret (v := .agg #[.bool ((!n) && decide (0 < l)), .slice (some ⟨w.heap.size + 1 + 1, 0, none⟩) l l]) (by simp [results, Tryd.results28, go_sem, hq3, hq4]) rfl
      ⟨_, _, _, rfl, ?_, by rw [← HZ.out], (hbw.setCell (by simp) _).setCell (by simp) _⟩
    rw [setCell_size, setCell_size]
    have hk3 : Blk .u32 68 w2 (w.heap.size + 1 + 1) L := by simpa using hk2
    have hr : Row .u32 w2 w2.heap.size (some ⟨w.heap.size + 1 + 1, 0, none⟩) l L := Row.ofBlk hk3 hk3.lt (by rw [HLL.out]; exact Nat.le_refl _)
    refine ⟨(hr.apart (by simp) _).apart (by simp) _, hL.canon, fun hk hR => ?_⟩
    have h9 : l = 0 := by rw [← HLL.out, hR]; rfl
    rw [h9] at hk
    simp at hk

/-- The order of two integers as -1, 0, 1. -/
def cmpI (x y : Int) : Int := if x < y then -1 else if x = y then 0 else 1
theorem cmpZ_I (x y : Nat) : cmpZ x y = cmpI x y := by
  unfold cmpZ cmpI
  by_cases h1 : x < y
  · rw [if_pos h1, if_pos (by omega)]
  · rw [if_neg h1, if_neg (by omega : ¬ (x : Int) < (y : Int))]
    by_cases h2 : x = y
    · rw [if_pos h2, if_pos (by omega)]
    · rw [if_neg h2, if_neg (by omega : ¬ (x : Int) = (y : Int))]
theorem cmpZ_neg (x y : Nat) : cmpZ x y = cmpI (-(y : Int)) (-(x : Int)) := by
  unfold cmpZ cmpI
  by_cases h1 : x < y
  · rw [if_pos h1, if_pos (by omega)]
  · rw [if_neg h1, if_neg (by omega : ¬ -(y : Int) < -(x : Int))]
    by_cases h2 : x = y
    · rw [if_pos h2, if_pos (by omega)]
    · rw [if_neg h2, if_neg (by omega : ¬ -(y : Int) = -(x : Int))]

set_option maxRecDepth 20000 in
set_option maxHeartbeats 3200000 in
theorem cmp_any (n m : Bool) (A A' : Option Addr) (c c' : Nat) (L M : List Nat) (w : World) (hl : L.length ≤ 1000000) (hml : M.length ≤ 1000000)
    (hL : IntR w w.heap.size n A c L) (hM : IntR w w.heap.size m A' c' M) :
    Calls Tryd.prog 30 #[.agg #[.bool n, .slice A L.length c], .agg #[.bool m, .slice A' M.length c']] w fun e w' => e = .returned (.int .i64 (cmpI (zI n L) (zI m M))) ∧ Below w.heap.size w w' := by
  have hc0 := fun W (h1 : Row .u32 W W.heap.size A c L) (h2 : Row .u32 W W.heap.size A' c' M) => compare_row A A' c c' L M W hl hml h1 h2 hL.canon hM.canon
  have hc1 := fun W (h1 : Row .u32 W W.heap.size A c L) (h2 : Row .u32 W W.heap.size A' c' M) => compare_row A' A c' c M L W hml hl h2 h1 hM.canon hL.canon
  have HC0 := Lib.hid hc0
  have HC1 := Lib.hid hc1
  have hp1 : n = true → 0 < val9 L := fun h => Nat.pos_of_ne_zero (canon_pos hL.canon (List.length_pos_iff.2 (hL.sgn h)))
  have hp2 : m = true → 0 < val9 M := fun h => Nat.pos_of_ne_zero (canon_pos hM.canon (List.length_pos_iff.2 (hM.sgn h)))
  have HP1 := Lib.hid hp1
  have HP2 := Lib.hid hp2
  clear hc0 hc1 hp1 hp2
  generalize hl' : L.length = l at *
  generalize hm' : M.length = l2 at *
  have HLL := Lib.hid hl'
  have HML := Lib.hid hm'
  clear hl' hm'
  cases n
  · cases m
    · go_enter Tryd.func30, Tryd.ntmps30
      go_wp2_with fail
      refine (HC0.out _ (hL.row.up (below_a2 _ _ _)) (hM.row.up (below_a2 _ _ _))).mono ?_
      rintro e w1 ⟨rfl, nq, rfl⟩
      go_wp2_with fail
      go_ret
      exact ⟨ret_int (by rw [cmpZ_I]; rfl), below_drewN (below_a2 _ _ _) _⟩
    · go_enter Tryd.func30, Tryd.ntmps30
      go_wp2_with fail
      go_ret
      have := HP2.out (by first | trivial | rfl)
      exact ⟨ret_int (by unfold cmpI zI; simp; omega), below_a2 _ _ _⟩
  · cases m
    · go_enter Tryd.func30, Tryd.ntmps30
      go_wp2_with fail
      go_ret
      have := HP1.out (by first | trivial | rfl)
      exact ⟨ret_int (by unfold cmpI zI; simp; omega), below_a2 _ _ _⟩
    · go_enter Tryd.func30, Tryd.ntmps30
      go_wp2_with fail
      refine (HC1.out _ (hL.row.up (below_a2 _ _ _)) (hM.row.up (below_a2 _ _ _))).mono ?_
      rintro e w1 ⟨rfl, nq, rfl⟩
      go_wp2_with fail
      go_ret
      exact ⟨ret_int (by rw [cmpZ_neg]; rfl), below_drewN (below_a2 _ _ _) _⟩

theorem addZI (n : Bool) {L M R : List Nat} (h : val9 R = val9 L + val9 M) (h0 : R.length = 0 → val9 R = 0) : zI (n && decide (0 < R.length)) R = zI n L + zI n M := by
  unfold zI
  rcases Nat.eq_zero_or_pos R.length with h1 | h1
  · have h2 := h0 h1
    have e : (decide (0 < R.length)) = false := by rw [decide_eq_false_iff_not]; omega
    rw [e, Bool.and_false]
    cases n <;> simp <;> omega
  · have e : (decide (0 < R.length)) = true := by rw [decide_eq_true_iff]; omega
    rw [e, Bool.and_true]
    cases n <;> simp <;> omega
theorem subZI (n : Bool) {L M R : List Nat} (h : val9 R + val9 M = val9 L) (h0 : R.length = 0 → val9 R = 0) : zI (n && decide (0 < R.length)) R = zI n L + zI (!n) M := by
  unfold zI
  rcases Nat.eq_zero_or_pos R.length with h1 | h1
  · have h2 := h0 h1
    have e : (decide (0 < R.length)) = false := by rw [decide_eq_false_iff_not]; omega
    rw [e, Bool.and_false]
    cases n <;> simp <;> omega
  · have e : (decide (0 < R.length)) = true := by rw [decide_eq_true_iff]; omega
    rw [e, Bool.and_true]
    cases n <;> simp <;> omega

theorem adds2 (A A' : Option Addr) (c c' : Nat) (L M : List Nat) (w : World) (hl : L.length ≤ 500000) (hml : M.length < L.length)
    (hL : Lim L) (hM : Lim M) (hR : Row .u32 w w.heap.size A c L) (hR' : Row .u32 w w.heap.size A' c' M) :
    Calls Tryd.prog 50 #[.slice A' M.length c', .slice A L.length c] w fun e w' => ∃ g c R, e = .returned (.slice (some ⟨g, 0, none⟩) R.length c) ∧
      Row .u32 w' w'.heap.size (some ⟨g, 0, none⟩) c R ∧ Canon R ∧ val9 R = val9 L + val9 M ∧ R.length ≤ L.length + 1 ∧ Below w.heap.size w w' ∧ w.heap.size ≤ g := by
  refine (add_short A A' c c' L M w (by omega) hml hL hM hR hR').mono ?_
  rintro e w' ⟨rfl, hb, hbw⟩
  have hL0 : Lim (L ++ [0]) := by intro d hd; rcases List.mem_append.1 hd with h | h; exact hL d h; simp at h; omega
  have hok := addSt_ok (o := 0) hM hL0 (L.length + 1)
  have hv := addSt_val (o := 0) hM hL0 (L.length + 1) (by simp)
  rw [valB_take_over _ _ _ (by omega), valB_append] at hv
  have hlen : (addSt 0 M (L ++ [0]) (L.length + 1)).1.length = L.length + 1 := by rw [hok.2.2]; simp
  have h1 := valB_lt hL
  have h2 := valB_lt hM
  have h3 : (1000000000 : Nat) ^ M.length ≤ 1000000000 ^ L.length := Nat.pow_le_pow_right (by omega) (by omega)
  have hc0 : (addSt 0 M (L ++ [0]) (L.length + 1)).2 = 0 := by
    rcases Nat.eq_zero_or_pos (addSt 0 M (L ++ [0]) (L.length + 1)).2 with h | h
    · exact h
    · have h4 : (addSt 0 M (L ++ [0]) (L.length + 1)).2 = 1 := by have := hok.2.1; omega
      rw [h4] at hv
      have h5 : (1000000000 : Nat) ^ (0 + (L.length + 1)) = 1000000000 * 1000000000 ^ L.length := by rw [Nat.zero_add, Nat.pow_succ, Nat.mul_comm]
      rw [h5] at hv
      simp [valB] at hv
      omega
  rw [hc0] at hv
  obtain ⟨R, h1, h2, h3, h4⟩ := trim_pack (c := L.length + 1) hb hok.1 hb.lt (by omega)
  rw [hlen] at h1
  have htl := trimN_le (addSt 0 M (L ++ [0]) (L.length + 1)).1 (L.length + 1)
  refine ⟨_, _, R, by rw [h1], h2, h3, ?_, by omega, hbw, Nat.le_refl _⟩
  rw [h4]
  simp [valB] at hv
  exact hv

/-- 'add' of two rows in either order. -/
theorem adda2 (A A' : Option Addr) (c c' : Nat) (L M : List Nat) (w : World) (hl : L.length ≤ 500000) (hml : M.length ≤ 500000)
    (hL : Lim L) (hM : Lim M) (hR : Row .u32 w w.heap.size A c L) (hR' : Row .u32 w w.heap.size A' c' M) :
    Calls Tryd.prog 50 #[.slice A L.length c, .slice A' M.length c'] w fun e w' => ∃ g c R, e = .returned (.slice (some ⟨g, 0, none⟩) R.length c) ∧
      Row .u32 w' w'.heap.size (some ⟨g, 0, none⟩) c R ∧ Canon R ∧ val9 R = val9 L + val9 M ∧ R.length ≤ L.length + M.length + 1 ∧ Below w.heap.size w w' ∧ w.heap.size ≤ g := by
  rcases Nat.lt_or_ge L.length M.length with h | h
  · refine (adds2 A' A c' c M L w hml h hM hL hR' hR).mono ?_
    rintro e w' ⟨g, c, R, h1, h2, h3, h4, h5, h6⟩
    exact ⟨g, c, R, h1, h2, h3, by rw [h4, Nat.add_comm], by omega, h6⟩
  · refine (addl2 A A' c c' L M w hl h hL hM hR hR').mono ?_
    rintro e w' ⟨g, c, R, h1, h2, h3, h4, h5, h6⟩
    exact ⟨g, c, R, h1, h2, h3, h4, by omega, h6⟩

set_option maxRecDepth 20000 in
set_option maxHeartbeats 3200000 in
theorem add_same (n : Bool) (A A' : Option Addr) (c c' : Nat) (L M : List Nat) (w : World) (hl : L.length ≤ 500000) (hml : M.length ≤ 500000)
    (hL : IntR w w.heap.size n A c L) (hM : IntR w w.heap.size n A' c' M) :
    Calls Tryd.prog 24 #[.agg #[.bool n, .slice A L.length c], .agg #[.bool n, .slice A' M.length c']] w fun e w' => ∃ k A c R, e = .returned (.agg #[.bool k, .slice A R.length c]) ∧
      IntR w' w'.heap.size k A c R ∧ zI k R = zI n L + zI n M ∧ R.length ≤ L.length + M.length + 1 ∧ Below w.heap.size w w' := by
  have hM2 := fun W h1 h2 => adda2 A A' c c' L M W hl hml hL.canon.lim hM.canon.lim h1 h2
  have HM2 := Lib.hid hM2
  clear hM2
  generalize hl' : L.length = l at *
  generalize hm' : M.length = l2 at *
  have HLL := Lib.hid hl'
  have HML := Lib.hid hm'
  clear hl' hm'
  have hbb : (n == n) = true := by simp
  go_enter Tryd.func24, Tryd.ntmps24
  go_wp2
  have hne1 : ¬ w.heap.size = w.heap.size + 1 + 1 := by omega
  have hne2 : ¬ w.heap.size + 1 + 1 = w.heap.size := by omega
  go_region_held3 (fun w' => w'.cell? ⟨w.heap.size, 0, none⟩ = some (.bool n) ∧ w'.cell? ⟨w.heap.size, 1, none⟩ = some (.slice A l c) ∧
      w'.cell? ⟨w.heap.size + 1, 0, none⟩ = some (.bool n) ∧ w'.cell? ⟨w.heap.size + 1, 1, none⟩ = some (.slice A' l2 c')) (go_keep)
    (first
      | (go_at_call 50; (with_reducible refine (HM2.out _ (hL.row.up (below_drew (below_a3 _ _ _ _))) (hM.row.up (below_drew (below_a3 _ _ _ _)))).mono ?_); rintro e w1 ⟨g, c1, R, rfl, hr1, hcan1, hv1, hl1, hb1, hgg⟩; have HB1 := Lib.hid (three (below_undrew hb1)).2.2.2.2.2.2.2.2.2; have X := three (below_undrew hb1); have hq1 := X.1; have hq2 := X.2.1; have hq3 := X.2.2.1; have hq4 := X.2.2.2.1; have hq5 := X.2.2.2.2.1; have hq6 := X.2.2.2.2.2.1; have hq7 := X.2.2.2.2.2.2.1; have hq8 := X.2.2.2.2.2.2.2.1; have hq9 := X.2.2.2.2.2.2.2.2.1; clear X hb1)
      | (go_at_call 42; refine (signed_any _ _ _ _ _).mono ?_; rintro e w2 ⟨rfl, hb2⟩; have HB2 := Lib.hid (below_then HB1.out hb2 hq9); have HR2 := Lib.hid (hr1.below hb2); have hs2 := hb2.size; clear hq1 hq2 hq3 hq4 hq5 hq6 hq7 hq8 hr1 hb2; have X := three' HB2.out; have hq1 := X.1; have hq2 := X.2.1; have hq3 := X.2.2.1; have hq4 := X.2.2.2.1; have hq5 := X.2.2.2.2.1; have hq6 := X.2.2.2.2.2.1; have hq7 := X.2.2.2.2.2.2.1; have hq8 := X.2.2.2.2.2.2.2.1; clear X))
  all_goals
    go_wp2
    have hbw : Below w.heap.size w w2 := (below_a3 w _ _ _).trans (Below.less HB2.out (by omega))
    refine bodyPost_ret (v := .agg #[.bool (n && decide (0 < R.length)), .slice (some ⟨g, 0, none⟩) R.length c1]) (by simp [results, Tryd.results24, go_sem, hq5, hq6]) rfl
      ⟨_, _, _, R, rfl, ?_, addZI n hv1 val9_nil, hl1, (hbw.setCell (by simp; omega) _).setCell (by simp; omega) _⟩
    rw [setCell_size, setCell_size]
    refine ⟨(HR2.out.more hs2).box3 HB2.out (fun _ => by simp) (fun _ => by simp) _ _, hcan1, fun hk hR => ?_⟩
    rw [hR] at hk
    simp at hk
end Go.Proofs.YtbfbijokhlkekaaDoor
