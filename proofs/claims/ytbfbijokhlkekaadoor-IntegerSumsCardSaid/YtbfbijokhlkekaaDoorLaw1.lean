/- 'awake' holds; 'same' compares the texts of both. -/
import Derived.Test.YtbfbijokhlkekaaDoorMul
import Derived.Test.YtbfbijokhlkekaaDoorRefText
namespace Go.Proofs.YtbfbijokhlkekaaDoor
open Go.RowKit

theorem tab_up {w W : World} (h : Tab w.heap.size w) (hb : Below w.heap.size w W) : Tab W.heap.size W := Tab.more (h.on hb) hb.size
theorem IntR.up {w W : World} {n : Bool} {A : Option Addr} {c : Nat} {L : List Nat} (h : IntR w w.heap.size n A c L) (hb : Below w.heap.size w W) : IntR W W.heap.size n A c L := ⟨h.row.up hb, h.canon, h.sgn⟩
theorem RefR.up {w W : World} {n : Bool} {A : Option Addr} {c : Nat} {L : List Nat} (h : RefR w w.heap.size n A c L) (hb : Below w.heap.size w W) : RefR W W.heap.size n A c L := ⟨h.row.up hb, h.lim, h.top, h.sgn⟩

set_option maxRecDepth 20000 in
set_option maxHeartbeats 3200000 in
theorem same_any (n m : Bool) (A A' : Option Addr) (c c' : Nat) (L M : List Nat) (w : World) (hl : L.length ≤ 100000) (hml : M.length ≤ 1000000)
    (hL : IntR w w.heap.size n A c L) (hM : RefR w w.heap.size m A' c' M) (ht : Tab w.heap.size w) :
    Calls Tryd.prog 17 #[.agg #[.bool n, .slice A L.length c], .agg #[.bool m, .slice A' M.length c']] w fun e w' => e = .returned (.bool (decI n (val9 L) == decI m (valB 10000 M))) ∧ Below w.heap.size w w' := by
  have hX := fun W h1 h2 => text_any n A c L W hl hL.canon hL.sgn h1 h2
  have hY := fun W h1 => rtext_any m A' c' M W hml h1
  have HX := Lib.hid hX
  have HY := Lib.hid hY
  clear hX hY
  generalize hl' : L.length = l at *
  generalize hm' : M.length = l2 at *
  have HLL := Lib.hid hl'
  have HML := Lib.hid hm'
  clear hl' hm'
  have HT := Lib.hid ht
  clear ht
  go_enter Tryd.func17, Tryd.ntmps17
  go_wp2
  go_region_held3 (fun w' => w'.cell? ⟨w.heap.size, 0, none⟩ = some (.bool n) ∧ w'.cell? ⟨w.heap.size, 1, none⟩ = some (.slice A l c) ∧
      w'.cell? ⟨w.heap.size + 1, 0, none⟩ = some (.bool m) ∧ w'.cell? ⟨w.heap.size + 1, 1, none⟩ = some (.slice A' l2 c')) (go_keep)
    (first
      | (go_at_call 16; (with_reducible refine (HX.out _ (hL.row.up (below_drew (below_a2 _ _ _))) (tab_up HT.out (below_drew (below_a2 _ _ _)))).mono ?_); rintro e w1 ⟨rfl, hb1⟩; have X := two (below_undrew hb1); have hq1 := X.1; have hq2 := X.2.1; have hq3 := X.2.2.1; have hq4 := X.2.2.2.1; have hs1 := X.2.2.2.2.2.2.1; have HC1 := Lib.hid X.2.2.2.2.2.2.2; have HB1 := Lib.hid ((below_a2 w _ _).trans (Below.less HC1.out (by omega))); clear X hb1)
      | (go_at_call 47; (with_reducible refine (HY.out _ (hM.up (below_drew (below_a2 _ _ _)))).mono ?_); rintro e w1 ⟨rfl, hb1⟩; have X := two (below_undrew hb1); have hq1 := X.1; have hq2 := X.2.1; have hq3 := X.2.2.1; have hq4 := X.2.2.2.1; have hs1 := X.2.2.2.2.2.2.1; have HC1 := Lib.hid X.2.2.2.2.2.2.2; have HB1 := Lib.hid ((below_a2 w _ _).trans (Below.less HC1.out (by omega))); clear X hb1)
      | (go_at_call 16; (with_reducible refine (HX.out _ (hL.row.up HB1.out) (tab_up HT.out HB1.out)).mono ?_); rintro e w2 ⟨rfl, hb2⟩; have X := two' (below_then HC1.out hb2 hs1); clear hq1 hq2 hq3 hq4; have hq1 := X.1; have hq2 := X.2.1; have hq3 := X.2.2.1; have hq4 := X.2.2.2.1; have HC2 := Lib.hid X.2.2.2.2.2.2.2; clear X hb2)
      | (go_at_call 47; (with_reducible refine (HY.out _ (hM.up HB1.out)).mono ?_); rintro e w2 ⟨rfl, hb2⟩; have X := two' (below_then HC1.out hb2 hs1); clear hq1 hq2 hq3 hq4; have hq1 := X.1; have hq2 := X.2.1; have hq3 := X.2.2.1; have hq4 := X.2.2.2.1; have HC2 := Lib.hid X.2.2.2.2.2.2.2; clear X hb2))
  all_goals
    go_wp2
    go_ret
    exact ⟨rfl, (below_a2 w _ _).trans (Below.less HC2.out (by omega))⟩

/-- Any text: what 'Parse' returns. -/
theorem parse_any (s : ByteArray) (w : World) (hs : s.size ≤ 1000000) :
    Calls Tryd.prog 13 #[.string s] w fun e w' => ∃ k A c L, e = .returned (.tuple #[.agg #[.bool k, .slice A L.length c], .int .i64 (errOf s.data.toList)]) ∧ IntR w' w'.heap.size k A c L ∧ L.length ≤ 223 ∧
      Hid (errOf s.data.toList = 0 → k = negOf s.data.toList ∧ val9 L = numOf (restOf s.data.toList)) ∧ Hid (errOf s.data.toList ≠ 0 → k = false ∧ L = []) ∧ Below w.heap.size w w' := by
  unfold errOf
  by_cases hb : badNum s.data.toList = true
  · rw [if_pos hb]
    refine (parse_bad s w hs hb).mono ?_
    rintro e w' ⟨rfl, hbw⟩
    exact ⟨false, none, 0, [], rfl, IntR.zero _ _ _ _, by simp, fun h => absurd h (by decide), fun _ => ⟨rfl, rfl⟩, hbw⟩
  · rw [if_neg hb]
    rw [Bool.not_eq_true] at hb
    by_cases hl : 2000 < (restOf s.data.toList).length
    · rw [if_pos hl]
      refine (parse_long s w hs hb hl).mono ?_
      rintro e w' ⟨rfl, hbw⟩
      exact ⟨false, none, 0, [], rfl, IntR.zero _ _ _ _, by simp, fun h => absurd h (by decide), fun _ => ⟨rfl, rfl⟩, hbw⟩
    · rw [if_neg hl]
      refine (parse_ok s w hs hb (by omega)).mono ?_
      rintro e w' ⟨A, c, L, rfl, hi, hv, hn, hbw⟩
      exact ⟨_, A, c, L, rfl, hi, hn, fun _ => ⟨rfl, hv⟩, fun h => absurd rfl h, hbw⟩

theorem ten_bad : badNum [49, 48, 48, 48, 48, 48, 48, 48, 48, 48, 48] = false := by decide
theorem ten_neg : negOf [49, 48, 48, 48, 48, 48, 48, 48, 48, 48, 48] = false := by decide
theorem ten_rest : restOf [49, 48, 48, 48, 48, 48, 48, 48, 48, 48, 48] = [49, 48, 48, 48, 48, 48, 48, 48, 48, 48, 48] := by decide
theorem ten_num : numOf [49, 48, 48, 48, 48, 48, 48, 48, 48, 48, 48] = 10000000000 := by decide
theorem hundred_txt : Lib.decDigits 100000000000000000000 = [49, 48, 48, 48, 48, 48, 48, 48, 48, 48, 48, 48, 48, 48, 48, 48, 48, 48, 48, 48, 48] := by
  have h1 : numOf [49, 48, 48, 48, 48, 48, 48, 48, 48, 48, 48, 48, 48, 48, 48, 48, 48, 48, 48, 48, 48] = 100000000000000000000 := by decide
  rw [← h1]
  exact dec_numOf _ (by decide) (by decide) (.inr (by decide))

set_option maxRecDepth 20000 in
set_option maxHeartbeats 3200000 in
theorem awake_any (w : World) (ht : Tab w.heap.size w) :
    Calls Tryd.prog 12 #[] w fun e w' => e = .returned (.bool true) ∧ Below w.heap.size w w' := by
  have hP := fun W => parse_ok ⟨#[49, 48, 48, 48, 48, 48, 48, 48, 48, 48, 48]⟩ W (by decide) ten_bad (by rw [show (⟨#[49, 48, 48, 48, 48, 48, 48, 48, 48, 48, 48]⟩ : ByteArray).data.toList = [49, 48, 48, 48, 48, 48, 48, 48, 48, 48, 48] from rfl, ten_rest]; decide)
  rw [show (⟨#[49, 48, 48, 48, 48, 48, 48, 48, 48, 48, 48]⟩ : ByteArray).data.toList = [49, 48, 48, 48, 48, 48, 48, 48, 48, 48, 48] from rfl, ten_neg, ten_rest, ten_num] at hP
  have HP := Lib.hid hP
  have HT := Lib.hid ht
  clear hP ht
  go_enter Tryd.func12, Tryd.ntmps12
  go_wp2_with fail
  refine (HP.out _).mono ?_
  rintro e w1 ⟨A, c, L, rfl, hi, hv, hl, hb1⟩
  go_wp2_with fail
  refine (mul_any false false A A c c L L _ (by omega) (by omega) (hi.up (below_alloc_new _)) (hi.up (below_alloc_new _))).mono ?_
  rintro e w2 ⟨k, A2, c2, R, rfl, hi2, hz, hl2, hb2⟩
  have hz2 : zI k R = 100000000000000000000 := by rw [hz]; unfold zI; rw [show val9 L = 10000000000 from hv]; rfl
  have hk : k = false := by
    cases k
    · rfl
    · unfold zI at hz2; simp at hz2; omega
  subst hk
  have hvr : val9 R = 100000000000000000000 := by unfold zI at hz2; simp at hz2; omega
  have hbx : Below w.heap.size w w2 := hb1.trans (Below.less ((below_alloc_new _).trans (Below.less hb2 (by simp))) hb1.size)
  have htx := text_any false A2 c2 R w2 (by omega) hi2.canon hi2.sgn hi2.row (tab_up HT.out hbx)
  have hdec : decI false (valB 1000000000 R) = [49, 48, 48, 48, 48, 48, 48, 48, 48, 48, 48, 48, 48, 48, 48, 48, 48, 48, 48, 48, 48] := by
    show [] ++ Lib.decDigits (val9 R) = _
    rw [hvr, hundred_txt]; rfl
  rw [hdec] at htx
  have HTX := Lib.hid htx
  have HBX := Lib.hid hbx
  clear htx hdec hvr hz2 hz hbx hv hi hi2 hb2 hb1
  go_wp2_with fail
  refine HTX.out.mono ?_
  rintro e w3 ⟨rfl, hb3⟩
  go_wp2_with fail
  go_ret
  exact ⟨by rfl, HBX.out.trans (Below.less hb3 HBX.out.size)⟩
end Go.Proofs.YtbfbijokhlkekaaDoor
