/- 'Add' of integers of different signs; 'Add' and 'Sub' of any two. -/
import Derived.Test.YtbfbijokhlkekaaDoorInts
namespace Go.Proofs.YtbfbijokhlkekaaDoor
open Go.RowKit

theorem cmp_lt {x y : Nat} (h : x < y) : cmpZ x y = -1 := by unfold cmpZ; rw [if_pos h]
theorem cmp_ge {x y : Nat} (h : y ≤ x) : 0 ≤ cmpZ x y := by unfold cmpZ; rw [if_neg (by omega)]; split <;> omega

set_option maxRecDepth 20000 in
set_option maxHeartbeats 3200000 in
theorem add_diff_ge (n : Bool) (A A' : Option Addr) (c c' : Nat) (L M : List Nat) (w : World) (hl : L.length ≤ 500000) (hml : M.length ≤ 500000) (hle : val9 M ≤ val9 L)
    (hL : IntR w w.heap.size n A c L) (hM : IntR w w.heap.size (!n) A' c' M) :
    Calls Tryd.prog 24 #[.agg #[.bool n, .slice A L.length c], .agg #[.bool (!n), .slice A' M.length c']] w fun e w' => ∃ k A c R, e = .returned (.agg #[.bool k, .slice A R.length c]) ∧
      IntR w' w'.heap.size k A c R ∧ zI k R = zI n L + zI (!n) M ∧ R.length ≤ L.length + M.length + 1 ∧ Below w.heap.size w w' := by
  have hM2 := fun W h1 h2 => subt2 A A' c c' L M W (by omega) (canon_len hL.canon hM.canon hle) hL.canon.lim hM.canon.lim hle h1 h2
  have HM2 := Lib.hid hM2
  have hC := fun W h1 h2 => compare_row A A' c c' L M W (by omega) (by omega) h1 h2 hL.canon hM.canon
  have hz := cmp_ge hle
  generalize cmpZ (val9 L) (val9 M) = z at *
  have HC := Lib.hid hC
  clear hM2 hC
  generalize hl' : L.length = l at *
  generalize hm' : M.length = l2 at *
  have HLL := Lib.hid hl'
  have HML := Lib.hid hm'
  clear hl' hm' hle
  have hbb : (n == !n) = false := by cases n <;> rfl
  go_enter Tryd.func24, Tryd.ntmps24
  go_wp2_with fail
  refine (HC.out _ (hL.row.up (below_a3 _ _ _ _)) (hM.row.up (below_a3 _ _ _ _))).mono ?_
  rintro e w9 ⟨rfl, nq, rfl⟩
  go_wp2_with fail
  have hne1 : ¬ w.heap.size = w.heap.size + 1 + 1 := by omega
  have hne2 : ¬ w.heap.size + 1 + 1 = w.heap.size := by omega
  have hup := below_drewN (below_a3 w (.cells #[.bool n, .slice A l c] 25) (.cells #[.bool (!n), .slice A' l2 c'] 25) (.cells #[.bool false, .slice none 0 0] 25)) (nq + 1)
  have HUP := Lib.hid hup
  clear hup
  go_region_held3 (fun w' => w'.cell? ⟨w.heap.size, 0, none⟩ = some (.bool n) ∧ w'.cell? ⟨w.heap.size, 1, none⟩ = some (.slice A l c) ∧
      w'.cell? ⟨w.heap.size + 1, 0, none⟩ = some (.bool (!n)) ∧ w'.cell? ⟨w.heap.size + 1, 1, none⟩ = some (.slice A' l2 c')) (go_keep)
    (first
      | (go_at_call 52; (with_reducible refine (HM2.out _ (hL.row.up HUP.out) (hM.row.up HUP.out)).mono ?_); rintro e w1 ⟨g, c1, R, rfl, hr1, hcan1, hv1, hl1, hb1, hgg⟩; have HB1 := Lib.hid (three (below_undrewN hb1)).2.2.2.2.2.2.2.2.2; have X := three (below_undrewN hb1); have hq1 := X.1; have hq2 := X.2.1; have hq3 := X.2.2.1; have hq4 := X.2.2.2.1; have hq5 := X.2.2.2.2.1; have hq6 := X.2.2.2.2.2.1; have hq7 := X.2.2.2.2.2.2.1; have hq8 := X.2.2.2.2.2.2.2.1; have hq9 := X.2.2.2.2.2.2.2.2.1; clear X hb1)
      | (go_at_call 42; refine (signed_any _ _ _ _ _).mono ?_; rintro e w2 ⟨rfl, hb2⟩; have HB2 := Lib.hid (below_then HB1.out hb2 hq9); have HR2 := Lib.hid (hr1.below hb2); have hs2 := hb2.size; clear hq1 hq2 hq3 hq4 hq5 hq6 hq7 hq8 hr1 hb2; have X := three' HB2.out; have hq1 := X.1; have hq2 := X.2.1; have hq3 := X.2.2.1; have hq4 := X.2.2.2.1; have hq5 := X.2.2.2.2.1; have hq6 := X.2.2.2.2.2.1; have hq7 := X.2.2.2.2.2.2.1; have hq8 := X.2.2.2.2.2.2.2.1; clear X))
  all_goals
    go_wp2
    have hbw : Below w.heap.size w w2 := (below_a3 w _ _ _).trans (Below.less HB2.out (by omega))
    refine bodyPost_ret (v := .agg #[.bool (n && decide (0 < R.length)), .slice (some ⟨g, 0, none⟩) R.length c1]) (by simp [results, Tryd.results24, go_sem, hq5, hq6]) rfl
      ⟨_, _, _, R, rfl, ?_, subZI n hv1 val9_nil, by omega, (hbw.setCell (by simp; omega) _).setCell (by simp; omega) _⟩
    rw [setCell_size, setCell_size]
    refine ⟨(HR2.out.more hs2).box3 HB2.out (fun _ => by simp) (fun _ => by simp) _ _, hcan1, fun hk hR => ?_⟩
    rw [hR] at hk
    simp at hk

/-- The world after 'x, y = y, x' on two boxes, a third one behind them. -/
def swapW (w : World) (x y x' y' : Value) (nq : Nat) : World :=
  ((((((((w.alloc (.cells #[x, y] 25)).alloc (.cells #[x', y'] 25)).alloc (.cells #[.bool false, .slice none 0 0] 25)).drewN nq).setCell ⟨w.heap.size, 0, none⟩ x').setCell ⟨w.heap.size, 1, none⟩ y').setCell ⟨w.heap.size + 1, 0, none⟩ x).setCell ⟨w.heap.size + 1, 1, none⟩ y)
theorem swapW_below (w : World) (x y x' y' : Value) (nq : Nat) : Below w.heap.size w (swapW w x y x' y' nq) :=
  (((((below_drewN (below_a3 w _ _ _) nq).setCell (by simp) _).setCell (by simp) _).setCell (by simp) _).setCell (by simp) _)
theorem swapW_size (w : World) (x y x' y' : Value) (nq : Nat) : (swapW w x y x' y' nq).heap.size = w.heap.size + 3 := by
  unfold swapW
  rw [setCell_size, setCell_size, setCell_size, setCell_size]
  simp [World.drewN]
theorem cell_set_same {w : World} {b i : Nat} {u v : Value} (h : w.cell? ⟨b, i, none⟩ = some v) : (w.setCell ⟨b, i, none⟩ u).cell? ⟨b, i, none⟩ = some u := by
  unfold World.cell? at h
  dsimp only at h
  unfold World.cell? World.setCell
  dsimp only
  rw [Array.getElem?_modify, if_pos rfl]
  cases hb : w.heap[b]? with
  | none => rw [hb] at h; cases h
  | some o =>
    rw [hb] at h
    cases o with
    | cells c e f =>
      simp only [Option.map_some, Option.isSome_none, Bool.false_eq_true, if_false] at h ⊢
      have hi : i < c.size := by
        rcases Nat.lt_or_ge i c.size with h1 | h1
        · exact h1
        · rw [Array.getElem?_eq_none h1] at h; cases h
      simp [hi]
    | _ => cases h
theorem cell_set_ne {w : World} {p q : Addr} {u : Value} (h : p ≠ q) : (w.setCell p u).cell? q = w.cell? q := World.cell?_setCell_other _ _ _ _ h
theorem frozen_set {w : World} {p q : Addr} {u : Value} : (w.setCell p u).frozen? q = w.frozen? q := by simp
theorem swapW_cells (w : World) (x y x' y' : Value) (nq : Nat) :
    (swapW w x y x' y' nq).cell? ⟨w.heap.size, 0, none⟩ = some x' ∧ (swapW w x y x' y' nq).cell? ⟨w.heap.size, 1, none⟩ = some y' ∧
    (swapW w x y x' y' nq).cell? ⟨w.heap.size + 1, 0, none⟩ = some x ∧ (swapW w x y x' y' nq).cell? ⟨w.heap.size + 1, 1, none⟩ = some y ∧
    (swapW w x y x' y' nq).cell? ⟨w.heap.size + 2, 0, none⟩ = some (.bool false) ∧ (swapW w x y x' y' nq).cell? ⟨w.heap.size + 2, 1, none⟩ = some (.slice none 0 0) ∧
    (swapW w x y x' y' nq).frozen? ⟨w.heap.size + 2, 0, none⟩ = false ∧ (swapW w x y x' y' nq).frozen? ⟨w.heap.size + 2, 1, none⟩ = false := by
  have X := three (Below.refl _ (((w.alloc (.cells #[x, y] 25)).alloc (.cells #[x', y'] 25)).alloc (.cells #[.bool false, .slice none 0 0] 25)))
  obtain ⟨h1, h2, h3, h4, h5, h6, h7, h8, _⟩ := X
  have d : ∀ p, ((((w.alloc (.cells #[x, y] 25)).alloc (.cells #[x', y'] 25)).alloc (.cells #[.bool false, .slice none 0 0] 25)).drewN nq).cell? p = (((w.alloc (.cells #[x, y] 25)).alloc (.cells #[x', y'] 25)).alloc (.cells #[.bool false, .slice none 0 0] 25)).cell? p := fun _ => rfl
  have df : ∀ p, ((((w.alloc (.cells #[x, y] 25)).alloc (.cells #[x', y'] 25)).alloc (.cells #[.bool false, .slice none 0 0] 25)).drewN nq).frozen? p = (((w.alloc (.cells #[x, y] 25)).alloc (.cells #[x', y'] 25)).alloc (.cells #[.bool false, .slice none 0 0] 25)).frozen? p := fun _ => rfl
  unfold swapW
  generalize (((w.alloc (.cells #[x, y] 25)).alloc (.cells #[x', y'] 25)).alloc (.cells #[.bool false, .slice none 0 0] 25)) = V at *
  generalize V.drewN nq = U at *
  generalize w.heap.size = g at *
  rw [← d] at h1 h2 h3 h4 h5 h6
  rw [← df] at h7 h8
  have n1 : (⟨g, 0, none⟩ : Addr) ≠ ⟨g, 1, none⟩ := by simp
  have n2 : (⟨g + 1, 0, none⟩ : Addr) ≠ ⟨g + 1, 1, none⟩ := by simp
  have m : ∀ i j : Nat, (⟨g, i, none⟩ : Addr) ≠ ⟨g + 1, j, none⟩ := by simp
  have k1 : ∀ i j : Nat, (⟨g, i, none⟩ : Addr) ≠ ⟨g + 2, j, none⟩ := by simp
  have k2 : ∀ i j : Nat, (⟨g + 1, i, none⟩ : Addr) ≠ ⟨g + 2, j, none⟩ := by simp
  refine ⟨?_, ?_, ?_, ?_, ?_, ?_, ?_, ?_⟩
  · rw [cell_set_ne (m _ _).symm, cell_set_ne (m _ _).symm, cell_set_ne n1.symm]; exact cell_set_same h1
  · rw [cell_set_ne (m _ _).symm, cell_set_ne (m _ _).symm]; exact cell_set_same (by rw [cell_set_ne n1]; exact h2)
  · rw [cell_set_ne n2.symm]; exact cell_set_same (by rw [cell_set_ne (m _ _), cell_set_ne (m _ _)]; exact h3)
  · exact cell_set_same (by rw [cell_set_ne n2, cell_set_ne (m _ _), cell_set_ne (m _ _)]; exact h4)
  · rw [cell_set_ne (k2 _ _), cell_set_ne (k2 _ _), cell_set_ne (k1 _ _), cell_set_ne (k1 _ _)]; exact h5
  · rw [cell_set_ne (k2 _ _), cell_set_ne (k2 _ _), cell_set_ne (k1 _ _), cell_set_ne (k1 _ _)]; exact h6
  · rw [frozen_set, frozen_set, frozen_set, frozen_set]; exact h7
  · rw [frozen_set, frozen_set, frozen_set, frozen_set]; exact h8

set_option maxRecDepth 20000 in
set_option maxHeartbeats 3200000 in
theorem add_diff_lt (n : Bool) (A A' : Option Addr) (c c' : Nat) (L M : List Nat) (w : World) (hl : L.length ≤ 500000) (hml : M.length ≤ 500000) (hlt : val9 L < val9 M)
    (hL : IntR w w.heap.size n A c L) (hM : IntR w w.heap.size (!n) A' c' M) :
    Calls Tryd.prog 24 #[.agg #[.bool n, .slice A L.length c], .agg #[.bool (!n), .slice A' M.length c']] w fun e w' => ∃ k A c R, e = .returned (.agg #[.bool k, .slice A R.length c]) ∧
      IntR w' w'.heap.size k A c R ∧ zI k R = zI n L + zI (!n) M ∧ R.length ≤ L.length + M.length + 1 ∧ Below w.heap.size w w' := by
  have hM2 := fun W h1 h2 => subt2 A' A c' c M L W (by omega) (canon_len hM.canon hL.canon (by omega)) hM.canon.lim hL.canon.lim (by omega) h1 h2
  have HM2 := Lib.hid hM2
  have hC := fun W h1 h2 => compare_row A A' c c' L M W (by omega) (by omega) h1 h2 hL.canon hM.canon
  rw [cmp_lt hlt] at hC
  have HC := Lib.hid hC
  clear hM2 hC
  generalize hl' : L.length = l at *
  generalize hm' : M.length = l2 at *
  have HLL := Lib.hid hl'
  have HML := Lib.hid hm'
  clear hl' hm' hlt
  have hbb : (n == !n) = false := by cases n <;> rfl
  go_enter Tryd.func24, Tryd.ntmps24
  go_wp2_with fail
  refine (HC.out _ (hL.row.up (below_a3 _ _ _ _)) (hM.row.up (below_a3 _ _ _ _))).mono ?_
  rintro e w9 ⟨rfl, nq, rfl⟩
  go_wp2_with fail
  have Y := swapW_cells w (.bool n) (.slice A l c) (.bool (!n)) (.slice A' l2 c') nq
  have hbS := swapW_below w (.bool n) (.slice A l c) (.bool (!n)) (.slice A' l2 c') nq
  have hsz := swapW_size w (.bool n) (.slice A l c) (.bool (!n)) (.slice A' l2 c') nq
  change Code.wp Tryd.prog _ _ _ (swapW w (.bool n) (.slice A l c) (.bool (!n)) (.slice A' l2 c') nq)
  generalize swapW w (.bool n) (.slice A l c) (.bool (!n)) (.slice A' l2 c') nq = W at *
  have hz1 : w.heap.size < W.drew.heap.size := by show _ < W.heap.size; omega
  have hz2 : w.heap.size + 1 < W.drew.heap.size := by show _ < W.heap.size; omega
  have hz3 : w.heap.size + 2 < W.drew.heap.size := by show _ < W.heap.size; omega
  have HSZ := Lib.hid hsz
  have HUP := Lib.hid (below_drew hbS)
  clear hsz hbS
  have hy1 := Y.1
  have hy2 := Y.2.1
  have hy3 := Y.2.2.1
  have hy4 := Y.2.2.2.1
  have hne1 : ¬ w.heap.size = w.heap.size + 1 + 1 := by omega
  have hne2 : ¬ w.heap.size + 1 + 1 = w.heap.size := by omega
  go_region_held3 (fun w' => w'.cell? ⟨w.heap.size, 0, none⟩ = some (.bool (!n)) ∧ w'.cell? ⟨w.heap.size, 1, none⟩ = some (.slice A' l2 c') ∧
      w'.cell? ⟨w.heap.size + 1, 0, none⟩ = some (.bool n) ∧ w'.cell? ⟨w.heap.size + 1, 1, none⟩ = some (.slice A l c)) (go_keep)
    (first
      | (go_at_call 52; (with_reducible refine (HM2.out _ (hM.row.up HUP.out) (hL.row.up HUP.out)).mono ?_); rintro e w1 ⟨g, c1, R, rfl, hr1, hcan1, hv1, hl1, hb1, hgg⟩; have hs9 := hb1.size; have HB1 := Lib.hid hb1; have hq1 := (hb1.cell (p := ⟨w.heap.size, 0, none⟩) hz1).trans Y.1; have hq2 := (hb1.cell (p := ⟨w.heap.size, 1, none⟩) hz1).trans Y.2.1; have hq3 := (hb1.cell (p := ⟨w.heap.size + 1, 0, none⟩) hz2).trans Y.2.2.1; have hq4 := (hb1.cell (p := ⟨w.heap.size + 1, 1, none⟩) hz2).trans Y.2.2.2.1; clear hb1)
      | (go_at_call 42; refine (signed_any _ _ _ _ _).mono ?_; rintro e w2 ⟨rfl, hb2⟩; have HB2 := Lib.hid (below_then HB1.out hb2 hs9); have HR2 := Lib.hid (hr1.below hb2); have hs2 := hb2.size; clear hq1 hq2 hq3 hq4 hr1 hb2; have hq1 := (HB2.out.cell (p := ⟨w.heap.size, 0, none⟩) hz1).trans Y.1; have hq2 := (HB2.out.cell (p := ⟨w.heap.size, 1, none⟩) hz1).trans Y.2.1; have hq3 := (HB2.out.cell (p := ⟨w.heap.size + 1, 0, none⟩) hz2).trans Y.2.2.1; have hq4 := (HB2.out.cell (p := ⟨w.heap.size + 1, 1, none⟩) hz2).trans Y.2.2.2.1; have hq5 := (HB2.out.cell (p := ⟨w.heap.size + 2, 0, none⟩) hz3).trans Y.2.2.2.2.1; have hq6 := (HB2.out.cell (p := ⟨w.heap.size + 2, 1, none⟩) hz3).trans Y.2.2.2.2.2.1; have hq7 := (HB2.out.frozen (p := ⟨w.heap.size + 2, 0, none⟩) hz3).trans Y.2.2.2.2.2.2.1; have hq8 := (HB2.out.frozen (p := ⟨w.heap.size + 2, 1, none⟩) hz3).trans Y.2.2.2.2.2.2.2))
  all_goals
    go_wp2
    have hbw : Below w.heap.size w w2 := HUP.out.trans (Below.less HB2.out (by omega))
    have hgg2 : w.heap.size + 3 ≤ g := by have h1 := HSZ.out; have h2 : W.heap.size ≤ g := hgg; omega
    refine bodyPost_ret (v := .agg #[.bool ((!n) && decide (0 < R.length)), .slice (some ⟨g, 0, none⟩) R.length c1]) (by simp [results, Tryd.results24, go_sem, hq5, hq6]) rfl
      ⟨_, _, _, R, rfl, ?_, ?_, by omega, (hbw.setCell (by simp; omega) _).setCell (by simp; omega) _⟩
    · rw [setCell_size, setCell_size]
      refine ⟨((HR2.out.more hs2).apart (by simp; omega) _).apart (by simp; omega) _, hcan1, fun hk hR => ?_⟩
      rw [hR] at hk
      simp at hk
    · rw [subZI (!n) hv1 val9_nil, Bool.not_not, Int.add_comm]

/-- 'Add' of any two integers. -/
theorem add_any (n m : Bool) (A A' : Option Addr) (c c' : Nat) (L M : List Nat) (w : World) (hl : L.length ≤ 500000) (hml : M.length ≤ 500000)
    (hL : IntR w w.heap.size n A c L) (hM : IntR w w.heap.size m A' c' M) :
    Calls Tryd.prog 24 #[.agg #[.bool n, .slice A L.length c], .agg #[.bool m, .slice A' M.length c']] w fun e w' => ∃ k A c R, e = .returned (.agg #[.bool k, .slice A R.length c]) ∧
      IntR w' w'.heap.size k A c R ∧ zI k R = zI n L + zI m M ∧ R.length ≤ L.length + M.length + 1 ∧ Below w.heap.size w w' := by
  by_cases h : n = m
  · subst h
    exact add_same n A A' c c' L M w hl hml hL hM
  · obtain rfl : m = !n := by cases n <;> cases m <;> first | rfl | exact absurd rfl h
    rcases Nat.lt_or_ge (val9 L) (val9 M) with h1 | h1
    · exact add_diff_lt n A A' c c' L M w hl hml h1 hL hM
    · exact add_diff_ge n A A' c c' L M w hl hml h1 hL hM
end Go.Proofs.YtbfbijokhlkekaaDoor
