/- 'equal' and 'abs' of the statements. -/
import Derived.Test.YtbfbijokhlkekaaDoorSub
namespace Go.Proofs.YtbfbijokhlkekaaDoor
open Go.RowKit

theorem zI_inj {w w' : World} {B B' : Nat} {n m : Bool} {A A' : Option Addr} {c c' : Nat} {L M : List Nat} (hL : IntR w B n A c L) (hM : IntR w' B' m A' c' M) (h : zI n L = zI m M) : n = m ∧ val9 L = val9 M := by
  have h1 : n = true → 0 < val9 L := fun h => Nat.pos_of_ne_zero (canon_pos hL.canon (List.length_pos_iff.2 (hL.sgn h)))
  have h2 : m = true → 0 < val9 M := fun h => Nat.pos_of_ne_zero (canon_pos hM.canon (List.length_pos_iff.2 (hM.sgn h)))
  unfold zI at h
  cases n <;> cases m <;> simp at h h1 h2 ⊢ <;> omega

theorem upa2 {w wk : World} {a b : Obj} (h : Below (w.heap.size + 2) ((w.alloc a).alloc b) wk) : Below w.heap.size w wk := (below_a2 w a b).trans (Below.less h (by omega))
theorem sza2 {w wk : World} {a b : Obj} (h : Below (w.heap.size + 2) ((w.alloc a).alloc b) wk) : w.heap.size + 2 ≤ wk.heap.size := by have := h.size; simpa using this
theorem upa3 {w wk : World} {a b c : Obj} (h : Below (w.heap.size + 3) (((w.alloc a).alloc b).alloc c) wk) : Below w.heap.size w wk := (below_a3 w a b c).trans (Below.less h (by omega))
theorem sza3 {w wk : World} {a b c : Obj} (h : Below (w.heap.size + 3) (((w.alloc a).alloc b).alloc c) wk) : w.heap.size + 3 ≤ wk.heap.size := by have := h.size; simpa using this
theorem below_atB {B b i : Nat} {W wk : World} (h : Below B W wk) (hb : b < B) : wk.cell? ⟨b, i, none⟩ = W.cell? ⟨b, i, none⟩ := h.cell hb

set_option maxRecDepth 20000 in
set_option maxHeartbeats 3200000 in
theorem equal_true (n m : Bool) (A A' : Option Addr) (c c' : Nat) (L M : List Nat) (w : World) (hl : L.length ≤ 100000) (hml : M.length ≤ 100000)
    (hL : IntR w w.heap.size n A c L) (hM : IntR w w.heap.size m A' c' M) (hz : zI n L = zI m M) (ht : Tab w.heap.size w) :
    Calls Tryd.prog 36 #[.agg #[.bool n, .slice A L.length c], .agg #[.bool m, .slice A' M.length c']] w fun e w' => e = .returned (.bool true) ∧ Below w.heap.size w w' := by
  have hC := fun W h1 h2 => cmp_any n m A A' c c' L M W (by omega) (by omega) h1 h2
  rw [show cmpI (zI n L) (zI m M) = 0 by rw [hz]; unfold cmpI; simp] at hC
  have hX := fun W h1 h2 => text_any n A c L W hl hL.canon hL.sgn h1 h2
  have hY := fun W h1 h2 => text_any m A' c' M W hml hM.canon hM.sgn h1 h2
  have hT : decI m (valB 1000000000 M) = decI n (valB 1000000000 L) := by
    obtain ⟨h1, h2⟩ := zI_inj hL hM hz
    rw [h1, show valB 1000000000 L = valB 1000000000 M from h2]
  rw [hT] at hY
  generalize decI n (valB 1000000000 L) = T at *
  have HX := Lib.hid hX
  have HY := Lib.hid hY
  have HCM := Lib.hid hC
  clear hX hY hC hT hz
  generalize hl' : L.length = l at *
  generalize hm' : M.length = l2 at *
  have HLL := Lib.hid hl'
  have HML := Lib.hid hm'
  clear hl' hm'
  have HT := Lib.hid ht
  clear ht
  have Y := two (Below.refl _ ((w.alloc (.cells #[.bool n, .slice A l c] 25)).alloc (.cells #[.bool m, .slice A' l2 c'] 25)))
  have hy0 := Y.1
  have hy1 := Y.2.1
  have hy2 := Y.2.2.1
  have hy3 := Y.2.2.2.1
  clear Y
  have HC := Lib.hid (below_drew (Below.refl (w.heap.size + 2) ((w.alloc (.cells #[.bool n, .slice A l c] 25)).alloc (.cells #[.bool m, .slice A' l2 c'] 25))))
  go_enter Tryd.func36, Tryd.ntmps36
  go_wp2
  go_region_held3 (fun w' => w'.cell? ⟨w.heap.size, 0, none⟩ = some (.bool n) ∧ w'.cell? ⟨w.heap.size, 1, none⟩ = some (.slice A l c) ∧
      w'.cell? ⟨w.heap.size + 1, 0, none⟩ = some (.bool m) ∧ w'.cell? ⟨w.heap.size + 1, 1, none⟩ = some (.slice A' l2 c')) (go_keep)
    (first
      | (go_at_call 30; (with_reducible refine (HCM.out _ (hL.up (upa2 HC.out)) (hM.up (upa2 HC.out))).mono ?_); rintro e w4 ⟨rfl, hb4⟩; have HC9 := Lib.hid (below_then HC.out hb4 (sza2 HC.out)); clear HC; have HC := HC9; clear HC9 hb4; have hf0 := (below_atB (i := 0) HC.out (by omega)).trans hy0; have hf1 := (below_atB (i := 1) HC.out (by omega)).trans hy1; have hf2 := (below_atB (i := 0) HC.out (Nat.lt_succ_self _)).trans hy2; have hf3 := (below_atB (i := 1) HC.out (Nat.lt_succ_self _)).trans hy3)
      | (go_at_call 16; (first | (with_reducible refine (HX.out _ (hL.row.up (upa2 HC.out)) (tab_up HT.out (upa2 HC.out))).mono ?_) | (with_reducible refine (HY.out _ (hM.row.up (upa2 HC.out)) (tab_up HT.out (upa2 HC.out))).mono ?_)); rintro e w4 ⟨rfl, hb4⟩; have HC9 := Lib.hid (below_then HC.out hb4 (sza2 HC.out)); clear HC hf0 hf1 hf2 hf3; have HC := HC9; clear HC9 hb4; have hf0 := (below_atB (i := 0) HC.out (by omega)).trans hy0; have hf1 := (below_atB (i := 1) HC.out (by omega)).trans hy1; have hf2 := (below_atB (i := 0) HC.out (Nat.lt_succ_self _)).trans hy2; have hf3 := (below_atB (i := 1) HC.out (Nat.lt_succ_self _)).trans hy3))
  all_goals
    go_wp2
    go_ret
    exact ⟨rfl, upa2 HC.out⟩
end Go.Proofs.YtbfbijokhlkekaaDoor
