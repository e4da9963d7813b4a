/- 'Sub' of integers. -/
import Derived.Test.YtbfbijokhlkekaaDoorAddDiff
import Derived.Test.YtbfbijokhlkekaaDoorLaw1
namespace Go.Proofs.YtbfbijokhlkekaaDoor
open Go.RowKit

theorem IntR.lift {w w1 : World} {B : Nat} {n : Bool} {A : Option Addr} {c : Nat} {L : List Nat} (h : IntR w B n A c L) (hb : Below w.heap.size w w1) (hB : B ≤ w.heap.size) : IntR w1 w1.heap.size n A c L :=
  ⟨((h.row.more hB).below hb).more hb.size, h.canon, h.sgn⟩

set_option maxRecDepth 20000 in
set_option maxHeartbeats 3200000 in
theorem sub_any (n m : Bool) (A A' : Option Addr) (c c' : Nat) (L M : List Nat) (w : World) (hl : L.length ≤ 500000) (hml : M.length ≤ 500000)
    (hL : IntR w w.heap.size n A c L) (hM : IntR w w.heap.size m A' c' M) :
    Calls Tryd.prog 26 #[.agg #[.bool n, .slice A L.length c], .agg #[.bool m, .slice A' M.length c']] w fun e w' => ∃ k A c R, e = .returned (.agg #[.bool k, .slice A R.length c]) ∧
      IntR w' w'.heap.size k A c R ∧ zI k R = zI n L - zI m M ∧ R.length ≤ L.length + M.length + 1 ∧ Below w.heap.size w w' := by
  have hN := fun W (h : IntR W W.heap.size m A' c' M) => neg_any m A' c' M W hml h
  have HN := Lib.hid hN
  have hAd := fun (k : Bool) (A2 : Option Addr) (c2 : Nat) W (h1 : IntR W W.heap.size n A c L) (h2 : IntR W W.heap.size k A2 c2 M) => add_any n k A A2 c c2 L M W hl hml h1 h2
  have HAd := Lib.hid hAd
  clear hN hAd
  generalize hl' : L.length = l at *
  generalize hm' : M.length = l2 at *
  have HLL := Lib.hid hl'
  have HML := Lib.hid hm'
  clear hl' hm'
  go_enter Tryd.func26, Tryd.ntmps26
  go_wp2
  have hne1 : ¬ w.heap.size = w.heap.size + 1 + 1 := by omega
  have hne2 : ¬ w.heap.size + 1 + 1 = w.heap.size := by omega
  go_region_held3 (fun w' => w'.cell? ⟨w.heap.size, 0, none⟩ = some (.bool n) ∧ w'.cell? ⟨w.heap.size, 1, none⟩ = some (.slice A l c) ∧
      w'.cell? ⟨w.heap.size + 1, 0, none⟩ = some (.bool m) ∧ w'.cell? ⟨w.heap.size + 1, 1, none⟩ = some (.slice A' l2 c')) (go_keep)
    (first
      | (go_at_call 28; (with_reducible refine (HN.out _ (hM.up (below_drew (below_a3 _ _ _ _)))).mono ?_); rintro e w1 ⟨k, A2, c2, rfl, hi1, hz1, hb1⟩; have HZ1 := Lib.hid hz1; have HB1 := Lib.hid (three (below_undrew hb1)).2.2.2.2.2.2.2.2.2; have HW1 := Lib.hid ((below_drew (below_a3 w _ _ _)).trans (Below.less hb1 (below_drew (below_a3 w _ _ _)).size)); have X := three (below_undrew hb1); have hq1 := X.1; have hq2 := X.2.1; have hq3 := X.2.2.1; have hq4 := X.2.2.2.1; have hq9 := X.2.2.2.2.2.2.2.2.1; clear X hb1 hz1)
      | (go_at_call 24; (with_reducible refine (HAd.out _ _ _ _ (hL.up HW1.out) hi1).mono ?_); rintro e w2 ⟨k3, A3, c3, R, rfl, hi2, hz2, hl2, hb2⟩; have HZ2 := Lib.hid hz2; have HI2 := Lib.hid hi2; have HB2 := Lib.hid (below_then HB1.out hb2 hq9); clear hq1 hq2 hq3 hq4 hi1 hb2 hz2 hi2; have X := three' HB2.out; have hq1 := X.1; have hq2 := X.2.1; have hq3 := X.2.2.1; have hq4 := X.2.2.2.1; have hq5 := X.2.2.2.2.1; have hq6 := X.2.2.2.2.2.1; have hq7 := X.2.2.2.2.2.2.1; have hq8 := X.2.2.2.2.2.2.2.1; clear X))
  all_goals
    go_wp2
    have hbw : Below w.heap.size w w2 := (below_a3 w _ _ _).trans (Below.less HB2.out (by omega))
    refine bodyPost_ret (v := .agg #[.bool k3, .slice A3 R.length c3]) (by simp [results, Tryd.results26, go_sem, hq5, hq6]) rfl
      ⟨_, _, _, R, rfl, ?_, by rw [HZ2.out, HZ1.out]; rfl, hl2, (hbw.setCell (by simp; omega) _).setCell (by simp; omega) _⟩
    rw [setCell_size, setCell_size]
    exact ⟨HI2.out.row.box3 HB2.out (fun _ => by simp) (fun _ => by simp) _ _, HI2.out.canon, HI2.out.sgn⟩
end Go.Proofs.YtbfbijokhlkekaaDoor
