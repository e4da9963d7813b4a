/- The reference's 'Mul'. -/
import Derived.Test.YtbfbijokhlkekaaDoorRefMul
import Derived.Test.YtbfbijokhlkekaaDoorLaw1
namespace Go.Proofs.YtbfbijokhlkekaaDoor
open Go.RowKit

theorem rsigned_trim (neg : Bool) (A : Option Addr) (c : Nat) (L : List Nat) (w : World) {n : Nat} (hl : L.length ≤ n) (ht : 0 < L.length → nth L (L.length - 1) ≠ 0) (hR : Row .i64 w w.heap.size A c L) (hn : n ≤ 4000000 := by omega) :
    Calls Tryd.prog 44 #[.bool neg, .slice A L.length c] w fun e w' => e = .returned (.agg #[.bool (neg && decide (0 < L.length)), .slice A L.length c]) ∧ Below w.heap.size w w' := by
  have := rsigned_any neg A c L w (by omega) hR
  rwa [trimN_same ht] at this

set_option maxRecDepth 20000 in
set_option maxHeartbeats 3200000 in
theorem rmulI_any (n m : Bool) (A A' : Option Addr) (c c' : Nat) (L M : List Nat) (w : World) (hl : L.length ≤ 500000) (hml : M.length ≤ 500000)
    (hL : RefR w w.heap.size n A c L) (hM : RefR w w.heap.size m A' c' M) :
    Calls Tryd.prog 33 #[.agg #[.bool n, .slice A L.length c], .agg #[.bool m, .slice A' M.length c']] w fun e w' => ∃ k A c R, e = .returned (.agg #[.bool k, .slice A R.length c]) ∧
      RefR w' w'.heap.size k A c R ∧ zR k R = zR n L * zR m M ∧ R.length ≤ L.length + M.length ∧ Below w.heap.size w w' := by
  have hM2 := fun W h1 h2 => rmul2 A A' c c' L M W hl hml hL.lim hM.lim h1 h2
  have HM2 := Lib.hid hM2
  clear hM2
  generalize hl' : L.length = l at *
  generalize hm' : M.length = l2 at *
  have HLL := Lib.hid hl'
  have HML := Lib.hid hm'
  clear hl' hm'
  go_enter Tryd.func33, Tryd.ntmps33
  go_wp2
  have hne1 : ¬ w.heap.size = w.heap.size + 1 + 1 := by omega
  have hne2 : ¬ w.heap.size + 1 + 1 = w.heap.size := by omega
  go_region_held3 (fun w' => w'.cell? ⟨w.heap.size, 0, none⟩ = some (.bool n) ∧ w'.cell? ⟨w.heap.size, 1, none⟩ = some (.slice A l c) ∧
      w'.cell? ⟨w.heap.size + 1, 0, none⟩ = some (.bool m) ∧ w'.cell? ⟨w.heap.size + 1, 1, none⟩ = some (.slice A' l2 c')) (go_keep)
    (first
      | (go_at_call 58; refine (HM2.out _ (hL.row.up (below_drew (below_a3 _ _ _ _))) (hM.row.up (below_drew (below_a3 _ _ _ _)))).mono ?_; rintro e w1 ⟨g, c1, R, rfl, hr1, hlim1, htop1, hv1, hl1, hb1, _⟩; have HB1 := Lib.hid (three (below_undrew hb1)).2.2.2.2.2.2.2.2.2; have X := three (below_undrew hb1); have hq1 := X.1; have hq2 := X.2.1; have hq3 := X.2.2.1; have hq4 := X.2.2.2.1; have hq5 := X.2.2.2.2.1; have hq6 := X.2.2.2.2.2.1; have hq7 := X.2.2.2.2.2.2.1; have hq8 := X.2.2.2.2.2.2.2.1; have hq9 := X.2.2.2.2.2.2.2.2.1; clear X hb1)
      | (go_at_call 44; refine (rsigned_trim _ _ _ R _ hl1 htop1 hr1).mono ?_; rintro e w2 ⟨rfl, hb2⟩; have HB2 := Lib.hid (below_then HB1.out hb2 hq9); have HR2 := Lib.hid (hr1.below hb2); have hs2 := hb2.size; clear hq1 hq2 hq3 hq4 hq5 hq6 hq7 hq8 hr1 hb2; have X := three' HB2.out; have hq1 := X.1; have hq2 := X.2.1; have hq3 := X.2.2.1; have hq4 := X.2.2.2.1; have hq5 := X.2.2.2.2.1; have hq6 := X.2.2.2.2.2.1; have hq7 := X.2.2.2.2.2.2.1; have hq8 := X.2.2.2.2.2.2.2.1; clear X))
  all_goals
    go_wp2
    have hbw : Below w.heap.size w w2 := (below_a3 w _ _ _).trans (Below.less HB2.out (by omega))
    refine bodyPost_ret (v := .agg #[.bool (!(n == m) && decide (0 < R.length)), .slice (some ⟨g, 0, none⟩) R.length c1]) (by simp [results, Tryd.results33, go_sem, hq5, hq6]) rfl
      ⟨_, _, _, R, rfl, ?_, zR_mul n m hv1 val4_nil, hl1, (hbw.setCell (by simp; omega) _).setCell (by simp; omega) _⟩
    rw [setCell_size, setCell_size]
    refine ⟨(HR2.out.more hs2).box3 HB2.out (fun _ => by simp) (fun _ => by simp) _ _, hlim1, htop1, fun hk hR => ?_⟩
    rw [hR] at hk
    simp at hk
end Go.Proofs.YtbfbijokhlkekaaDoor
