/- Contracts of the functions that the statements reach, part 6: what was proved of each, callees first. -/
import Derived.Deep.RegionHeldLaw
import Derived.BigRegion
import Derived.Laws.Tables
import Derived.Test.YtacmccijnkojeaaGreatJC5
namespace Go.Proofs.YtacmccijnkojeaaGreat
open Go.RowKit
def rowR (L : List Acc) (R : List Int) (i : Nat) : Bool := chkR L R i && dsR R i
def bokR (g : Grp) (L : List Acc) : Bool := curB g.cur && (clV g.cy g.cm g.cp && (vB L true && (allTo (fun i => basB (L.getD i acc0)) L.length && allTo (rowR L g.R) 15)))
set_option maxRecDepth 20000 in
set_option maxHeartbeats 6400000 in
theorem rbooks_any (g : Grp) (L : List Acc) (w : World) (hz : AccAt w g.A L) (ln : L.length = g.n) (hl : g.n ≤ 1000) (hs1 : g.cur.size ≤ maxLen) :
  Calls Tryz.prog 40 #[grpV g] w fun e' w' => e' = .returned (.bool (bokR g L)) ∧ Below w.heap.size w w' := by
 have hB := below_alloc_new (w := w) (.cells #[.string g.cur, .int .i64 g.cy, .int .i64 g.cm, .int .i64 g.cp, .slice g.A g.n g.c, .int .i64 g.r0, .int .i64 g.r1, .int .i64 g.r2, .int .i64 g.r3, .int .i64 g.r4, .int .i64 g.r5, .int .i64 g.r6, .int .i64 g.r7, .int .i64 g.r8, .int .i64 g.r9, .int .i64 g.r10, .int .i64 g.r11, .int .i64 g.r12, .int .i64 g.r13, .int .i64 g.r14, .slice g.E g.m g.d] 29)
 have hG := gb_new w 29 g
 have h1 := fun w => rcur_any g.cur w hs1
 have h2 := fun w => rvalid7_any g.cy g.cm g.cp w
 have h3 : ∀ w, AccAt w g.A L → Calls Tryz.prog 64 #[.slice g.A g.n g.c, .bool true] w fun e' w' => e' = .returned (.bool (vB L true)) ∧ Below w.heap.size w w' := fun w h => by
  have h9 := rvalid8_any g.A g.c L true w h (by omega)
  rw [ln, ← vB_eq] at h9
  exact h9
 have h4 := fun w => rroles_any g w
 have h5 := fun x w h => racct_any g L x w h ln hl
 have hv : bokR g L = (curB g.cur && (clV g.cy g.cm g.cp && (vB L true && (allTo (fun i => basB (L.getD i acc0)) L.length && allTo (rowR L g.R) 15)))) := rfl
 rw [ln] at hv
 have hck : ∀ k, rowR L g.R k = (((fnd L (g.R.getD k 0)).isSome && (decide ((fndA L (g.R.getD k 0)).kind = rlK k) && decide ((fndA L (g.R.getD k 0)).basis = rlB k))) && allTo (fun j => !decide (g.R.getD j 0 = g.R.getD k 0)) k) := fun _ => rfl
 obtain ⟨U, hU⟩ : ∃ U : Value, rolV g = U := ⟨_, rfl⟩
 rw [hU] at h4
 obtain ⟨X, hX⟩ : ∃ X : Value, X = grpV g := ⟨_, rfl⟩
 rw [← hX] at h5
 generalize bokR g L = r at *
 generalize curB g.cur = q1 at *
 generalize clV g.cy g.cm g.cp = q2 at *
 generalize vB L true = q3 at *
 obtain ⟨P, hP⟩ : ∃ P : Nat → Bool, (fun i => basB (L.getD i acc0)) = P := ⟨_, rfl⟩
 have hpb : ∀ k, basB (L.getD k acc0) = P k := fun k => by rw [← hP]
 obtain ⟨T, hT⟩ : ∃ T : Nat → Bool, rowR L g.R = T := ⟨_, rfl⟩
 rw [hP, hT] at hv
 simp only [hT] at hck
 obtain ⟨s0, hs0⟩ : ∃ s0, w.heap.size = s0 := ⟨_, rfl⟩
 have hsz : s0 ≤ (w.alloc (.cells #[.string g.cur, .int .i64 g.cy, .int .i64 g.cm, .int .i64 g.cp, .slice g.A g.n g.c, .int .i64 g.r0, .int .i64 g.r1, .int .i64 g.r2, .int .i64 g.r3, .int .i64 g.r4, .int .i64 g.r5, .int .i64 g.r6, .int .i64 g.r7, .int .i64 g.r8, .int .i64 g.r9, .int .i64 g.r10, .int .i64 g.r11, .int .i64 g.r12, .int .i64 g.r13, .int .i64 g.r14, .slice g.E g.m g.d] 29)).heap.size := by simp; omega
 rw [hs0] at hB hG ⊢
 have HS0 := Lib.hid hs0
 have HG := Lib.hid hG
 have HU := Lib.hid hU
 have HX := Lib.hid hX
 have HCU := Lib.hid h1
 have HCL := Lib.hid h2
 have HCH := Lib.hid h3
 have HRO := Lib.hid h4
 have H5 := Lib.hid h5
 have HSZ := Lib.hid hsz
 have HZ := Lib.hid hz
 have HL := Lib.hid ln
 have HV := Lib.hid hv
 have HPB := Lib.hid hpb
 have HCK := Lib.hid hck
 have c0 := hG.c0
 have c1 := hG.c1
 have c2 := hG.c2
 have c3 := hG.c3
 have c4 := hG.c4
 clear hz ln hG h1 h2 h3 h4 h5 hv hck hU hX hsz hP hT hpb hs1
 cases q1
 ·have HR := Lib.hid (show r = false from HV.out)
  clear HV
  go_enter Tryz.func40, Tryz.ntmps40
  go_wp2_with (first | (go_at_call 62; refine (HCU.out _).mono ?_; rintro e1 w1 ⟨rfl, rfl⟩))
  go_ret
  exact ⟨by rw [HR.out]; rfl, hB⟩
 cases q2
 ·have HR := Lib.hid (show r = false from HV.out)
  clear HV
  go_enter Tryz.func40, Tryz.ntmps40
  go_wp2_with (first | (go_at_call 62; refine (HCU.out _).mono ?_; rintro e1 w1 ⟨rfl, rfl⟩) | (go_at_call 63; refine (HCL.out _).mono ?_; rintro e1 w1 ⟨rfl, hb⟩; have hB2 := hB.trans (hb.mono HSZ.out); have HSZ2 := Lib.hid (Nat.le_trans HSZ.out hb.size); have HG2 := Lib.hid (HG.out.up hb); clear hb hB HSZ HG c0 c1 c2 c3 c4; have hB := hB2; have HSZ := HSZ2; have HG := HG2; clear hB2 HSZ2 HG2; have c0 := HG.out.c0; have c1 := HG.out.c1; have c2 := HG.out.c2; have c3 := HG.out.c3; have c4 := HG.out.c4))
  go_ret
  exact ⟨by rw [HR.out]; rfl, hB⟩
 cases q3
 ·have HR := Lib.hid (show r = false from HV.out)
  clear HV
  go_enter Tryz.func40, Tryz.ntmps40
  go_wp2_with (first | (go_at_call 62; refine (HCU.out _).mono ?_; rintro e1 w1 ⟨rfl, rfl⟩) | (go_at_call 63; refine (HCL.out _).mono ?_; rintro e1 w1 ⟨rfl, hb⟩; have hB2 := hB.trans (hb.mono HSZ.out); have HSZ2 := Lib.hid (Nat.le_trans HSZ.out hb.size); have HG2 := Lib.hid (HG.out.up hb); clear hb hB HSZ HG c0 c1 c2 c3 c4; have hB := hB2; have HSZ := HSZ2; have HG := HG2; clear hB2 HSZ2 HG2; have c0 := HG.out.c0; have c1 := HG.out.c1; have c2 := HG.out.c2; have c3 := HG.out.c3; have c4 := HG.out.c4) | (go_at_call 64; (with_reducible refine (HCH.out _ (HZ.out.up (by rw [HS0.out]; exact hB))).mono ?_); rintro e1 w2 ⟨rfl, hb⟩; have hB2 := hB.trans (hb.mono HSZ.out); have HSZ2 := Lib.hid (Nat.le_trans HSZ.out hb.size); have HG2 := Lib.hid (HG.out.up hb); clear hb hB HSZ HG c0 c1 c2 c3 c4; have hB := hB2; have HSZ := HSZ2; have HG := HG2; clear hB2 HSZ2 HG2; have c0 := HG.out.c0; have c1 := HG.out.c1; have c2 := HG.out.c2; have c3 := HG.out.c3; have c4 := HG.out.c4))
  go_ret
  exact ⟨by rw [HR.out]; rfl, hB⟩
 have HV2 := Lib.hid (show r = (allTo P g.n && allTo T 15) from HV.out)
 clear HV
 go_enter Tryz.func40, Tryz.ntmps40
 go_wp2_with (first | (go_at_call 62; refine (HCU.out _).mono ?_; rintro e1 w1 ⟨rfl, rfl⟩) | (go_at_call 63; refine (HCL.out _).mono ?_; rintro e1 w1 ⟨rfl, hb⟩; have hB2 := hB.trans (hb.mono HSZ.out); have HSZ2 := Lib.hid (Nat.le_trans HSZ.out hb.size); have HG2 := Lib.hid (HG.out.up hb); clear hb hB HSZ HG c0 c1 c2 c3 c4; have hB := hB2; have HSZ := HSZ2; have HG := HG2; clear hB2 HSZ2 HG2; have c0 := HG.out.c0; have c1 := HG.out.c1; have c2 := HG.out.c2; have c3 := HG.out.c3; have c4 := HG.out.c4) | (go_at_call 64; (with_reducible refine (HCH.out _ (HZ.out.up (by rw [HS0.out]; exact hB))).mono ?_); rintro e1 w2 ⟨rfl, hb⟩; have hB2 := hB.trans (hb.mono HSZ.out); have HSZ2 := Lib.hid (Nat.le_trans HSZ.out hb.size); have HG2 := Lib.hid (HG.out.up hb); clear hb hB HSZ HG c0 c1 c2 c3 c4; have hB := hB2; have HSZ := HSZ2; have HG := HG2; clear hB2 HSZ2 HG2; have c0 := HG.out.c0; have c1 := HG.out.c1; have c2 := HG.out.c2; have c3 := HG.out.c3; have c4 := HG.out.c4))
 clear hs0 HCU HCL HCH c0 c1 c2 c3 c4
 obtain ⟨A, hA⟩ : ∃ A, g.A = A := ⟨_, rfl⟩
 rw [hA]
 have HAE := Lib.hid hA
 have HZA : Hid (AccAt w A L) := Lib.hid (by rw [← hA]; exact HZ.out)
 clear hA
 go_loopg [3] g.n (fun kx s3 wr => ∃ k : Nat, s3 = .int .i64 k ∧ k ≤ g.n ∧ g.n - k ≤ kx ∧ Hid (allTo P k = true) ∧ Hid (GB wr s0 g) ∧ Below s0 w wr)
 case atStart => exact ⟨0, rfl, by omega, by omega, Lib.hid rfl, HG, hB⟩
 case round =>
  clear hB HG HSZ
  obtain ⟨k, rfl, hk, hkx, HA, HG, hB⟩ := hrel
  have HSZ : Hid (s0 ≤ wr.heap.size) := Lib.hid (Nat.le_of_lt HG.out.lt)
  by_cases hlt : k < g.n
  ·have hltz : (k : Int) < (g.n : Int) := by omega
   obtain ⟨b, off, rfl, hbw, hcs⟩ := HZA.out (by rw [HL.out]; omega)
   have c4 := HG.out.c4
   rw [HAE.out] at c4
   obtain ⟨d0, d1, d2, d3⟩ := (hcs k (by rw [HL.out]; exact hlt)).up hB (by have := HS0.out; omega)
   have hp := HPB.out k
   have hno : P k = false → r = false := fun h => by rw [HV2.out, allTo_no hlt h]; rfl
   have hnx : P k = true → Hid (allTo P (k + 1) = true) := fun h => Lib.hid (by show (allTo P k && P k) = true; rw [HA.out, h]; rfl)
   obtain ⟨x, hx⟩ : ∃ x, L.getD k acc0 = x := ⟨_, rfl⟩
   rw [hx] at d0 d1 d2 d3 hp
   have hb := fun w => rbas_any x w
   rw [hp] at hb
   generalize P k = q at *
   have HBA := Lib.hid hb
   clear hcs hx hp hb HA hbw
   cases q
   ·have HR := Lib.hid (hno rfl)
    clear hno hnx
    go_wp2_with (go_at_call 65; refine (HBA.out _).mono ?_; rintro e1 w2 ⟨rfl, hb⟩; have hB2 := hB.trans (hb.mono HSZ.out); clear hb)
    go_ret
    exact ⟨by rw [HR.out]; rfl, hB2⟩
   ·have HA2 := hnx rfl
    clear hno hnx
    go_wp2_with (go_at_call 65; refine (HBA.out _).mono ?_; rintro e1 w2 ⟨rfl, hb⟩; have hB2 := hB.trans (hb.mono HSZ.out); have HG2 := Lib.hid (HG.out.up hb); clear hb)
    go_roundg (g.n - (k + 1))
    case measure => omega
    case rel => exact ⟨k + 1, by go_num, by omega, by omega, HA2, HG2, hB2⟩
  ·have hke : k = g.n := by omega
   have hltz : ¬ (k : Int) < (g.n : Int) := by omega
   have HV3 : Hid (r = allTo T 15) := Lib.hid (by rw [HV2.out, ← hke, HA.out]; rfl)
   have c4 := HG.out.c4
   rw [HAE.out] at c4
   have c0 := HG.out.c0
   have c1 := HG.out.c1
   have c2 := HG.out.c2
   have c3 := HG.out.c3
   clear hke HV2 HPB HL
   go_wp2_with (first | (refine wpList_load_is rfl 26 _ rfl (.pointer (some ⟨s0, 5, none⟩)) rfl U (gb_rU HG.out HU.out) ?_) | (go_at_call 66; refine (HRO.out _).mono ?_; rintro e1 w2 ⟨⟨t, rfl, ht⟩, hb⟩; have HT := Lib.hid ht; clear ht; have hB2 := hB.trans (hb.mono HSZ.out); have HSZ2 := Lib.hid (Nat.le_trans HSZ.out hb.size); have HG2 := Lib.hid (HG.out.up hb); clear hb hB HSZ HG c0 c1 c2 c3 c4; have hB := hB2; have HSZ := HSZ2; have HG := HG2; clear hB2 HSZ2 HG2; have c0 := HG.out.c0; have c1 := HG.out.c1; have c2 := HG.out.c2; have c3 := HG.out.c3; have c4 := HG.out.c4))
   clear c0 c1 c2 c3 c4 HRO HU HSZ HAE HZA HA
   go_loopg [5] 15 (fun kx s5 wr => ∃ k : Nat, s5 = .int .i64 k ∧ k ≤ 15 ∧ 15 - k ≤ kx ∧ Hid (allTo T k = true) ∧ Hid (GB wr s0 g) ∧ Hid (RolAt wr t g) ∧ Below s0 w wr)
   case atStart => exact ⟨0, rfl, by omega, by omega, Lib.hid rfl, HG, HT, hB⟩
   case round =>
    clear hB HG HT
    rename World => wr
    obtain ⟨k, rfl, hk, hkx, HA, HG, HT, hB⟩ := hrel
    by_cases hlt : k < 15
    ·have hltz : (k : Int) < 15 := by omega
     have hsz : s0 ≤ wr.heap.size := Nat.le_of_lt HG.out.lt
     have hrow := HT.out.row hlt
     have hck := HCK.out k
     have hno : T k = false → r = false := fun h => by rw [HV3.out]; exact allTo_no hlt h
     have hnx : T k = true → Hid (allTo T (k + 1) = true) := fun h => Lib.hid (by show (allTo T k && T k) = true; rw [HA.out, h]; rfl)
     obtain ⟨x, hx⟩ : ∃ x, g.R.getD k 0 = x := ⟨_, rfl⟩
     rw [hx] at hrow hck
     obtain ⟨y2, hy2⟩ : ∃ y, rlK k = y := ⟨_, rfl⟩
     obtain ⟨y3, hy3⟩ : ∃ y, rlB k = y := ⟨_, rfl⟩
     rw [hy2, hy3] at hck
     have RK2 := Lib.hid hy2
     have RK3 := Lib.hid hy3
     clear hy2 hy3
     have h5 := fun w h => H5.out x w h
     generalize (fnd L x).isSome = q1 at *
     generalize fndA L x = fa at *
     have HROW := Lib.hid hrow
     have H5x := Lib.hid h5
     have HNo := Lib.hid hno
     have HNx := Lib.hid hnx
     have HCKx := Lib.hid hck
     have HX1 := Lib.hid hx
     clear hrow h5 hno hnx hck hx HA
     have HZr : Hid (AccAt wr g.A L) := Lib.hid (HZ.out.up (by rw [HS0.out]; exact hB))
     have HC : Hid (∀ w', Below wr.heap.size wr w' → w'.cell? ⟨t, k * 5 + 1, none⟩ = some (.int .i64 x)) := Lib.hid fun w' h => by
      have h1 := HROW.out.2.1
      rw [Nat.zero_add] at h1
      exact (h.cell (p := ⟨t, k * 5 + 1, none⟩) HT.out.1).trans h1
     go_upto_region 12 with fail
     go_cut [6, 7] from 42 to 95 (fun v6 v7 wx => ∃ g6, v6 = .pointer (some ⟨g6, 0, none⟩) ∧ v7 = .bool q1 ∧ Hid (AB wx g6 fa) ∧ Hid (GB wx s0 g) ∧ Hid (RolAt wx t g) ∧ Below s0 w wx)
     case first =>
      refine wp_region_held_drew (S := fun w9 => Below wr.heap.size wr w9) (by kernel_rfl) (dc_drew (Below.refl _ _)) (fun hH => ?_)
      refine wpAnyH_take (i := 0) (v := X) rfl (by kernel_rfl) (by kernel_rfl) (by kernel_rfl) (fun _ _ _ h => h) (yieldsIf_load_is rfl 29 _ rfl (.pointer (some ⟨s0, 0, none⟩)) rfl X (fun w9 h9 => gb_lV (HG.out.up h9) HX.out)) hH ?_
      try simp only [Act.put, List.setIfInBounds_toArray]
      refine wpAnyH_take (i := 1) (v := .slice (some ⟨t, 0, none⟩) 15 15) rfl (by kernel_rfl) (by kernel_rfl) (by kernel_rfl) (fun _ _ _ h => h) (Or.inl ⟨by rfl, fun w9 h9 => by go_simp⟩) hH ?_
      try simp only [Act.put]
      refine wpAnyH_take (i := 2) (v := .int .i64 (k : Int)) rfl (by kernel_rfl) (by kernel_rfl) (by kernel_rfl) (fun _ _ _ h => h) (Or.inl ⟨by rfl, fun w9 h9 => by go_simp⟩) hH ?_
      try simp only [Act.put]
      refine wpAnyH_take (i := 3) (v := .pointer (some ⟨t, k * 5, none⟩)) rfl (by kernel_rfl) (by kernel_rfl) (by kernel_rfl) (fun _ _ _ h => h) (Or.inl ⟨by rfl, fun w9 h9 => by go_simp⟩) hH ?_
      try simp only [Act.put]
      refine wpAnyH_take (i := 4) (v := .pointer (some ⟨t, k * 5 + 1, none⟩)) rfl (by kernel_rfl) (by kernel_rfl) (by kernel_rfl) (fun _ _ _ h => h) (Or.inl ⟨by rfl, fun w9 h9 => by go_simp⟩) hH ?_
      try simp only [Act.put]
      refine wpAnyH_take (i := 5) (v := .int .i64 x) rfl (by kernel_rfl) (by kernel_rfl) (by kernel_rfl) (fun _ _ _ h => h) (Or.inl ⟨by rfl, fun w9 h9 => by have hc9 := HC.out w9 h9; go_simp⟩) hH ?_
      try simp only [Act.put]
      refine wpAnyH_ready (rs := [6, 10]) (by kernel_rfl) (by simp) ?_
      refine AllReadyH.cons rfl (fun K hK => ?_) (AllReadyH.cons rfl (fun K hK => ?_) AllReadyH.nil)
      ·go_simp
       go_wp2_with (go_at_call 67; refine (H5x.out _ (HZr.out.up hH)).mono ?_; rintro e1 w3 ⟨rfl, hb⟩; have hB3 : Below wr.heap.size wr w3 := below_more hH hb; clear hb)
       refine hK.out _ _ hB3 (fun hH2 => ?_)
       clear hK K
       try simp only [Act.put, List.setIfInBounds_toArray, List.set_cons_zero, List.set_cons_succ]
       refine wpAnyH_take (i := 7) (v := .tuple #[accV fa, .bool q1]) rfl (by kernel_rfl) (by kernel_rfl) (by kernel_rfl) (fun _ _ _ h => h) (Or.inl ⟨by rfl, fun w9 h9 => by go_simp⟩) hH2 ?_
       try simp only [Act.put, List.setIfInBounds_toArray]
       refine wpAnyH_take (i := 8) (v := accV fa) rfl (by kernel_rfl) (by kernel_rfl) (by kernel_rfl) (fun _ _ _ h => h) (Or.inl ⟨by rfl, fun w9 h9 => by go_simp⟩) hH2 ?_
       try simp only [Act.put]
       refine wpAnyH_take (i := 9) (v := .bool q1) rfl (by kernel_rfl) (by kernel_rfl) (by kernel_rfl) (fun _ _ _ h => h) (Or.inl ⟨by rfl, fun w9 h9 => by go_simp⟩) hH2 ?_
       try simp only [Act.put]
       refine wpAnyH_ready (rs := [10]) (by kernel_rfl) (by simp) ?_
       refine AllReadyH.cons rfl (fun K hK => ?_) AllReadyH.nil
       go_simp
       refine hK.out _ _ (below_new hB3 _) (fun hH3 => ?_)
       clear hK K
       try simp only [Act.put, List.setIfInBounds_toArray, List.set_cons_zero, List.set_cons_succ]
       refine wpAnyH_ready (rs := [11]) (by kernel_rfl) (by simp) ?_
       refine AllReadyH.cons rfl (fun K hK => ?_) AllReadyH.nil
       go_simp
       refine hK.out _ _ (below_new hB3 _) (fun hH4 => ?_)
       clear hK K
       try simp only [Act.put, List.setIfInBounds_toArray, List.set_cons_zero, List.set_cons_succ]
       refine wpAnyH_ready (rs := [12]) (by kernel_rfl) (by simp) ?_
       refine AllReadyH.cons rfl (fun K hK => ?_) AllReadyH.nil
       go_simp
       refine hK.out _ _ hH4 (fun hH5 => ?_)
       clear hK K
       try simp only [Act.put, List.setIfInBounds_toArray, List.set_cons_zero, List.set_cons_succ]
       refine wpAnyH_done (by kernel_rfl) ?_ _
       go_wp2_with fail
       go_meet
       exact ⟨_, rfl, rfl, Lib.hid (ab_new w3 91 fa), Lib.hid (HG.out.up (below_new hB3 _)), Lib.hid (HT.out.up (below_new hB3 _)), hB.trans ((below_new hB3 _).mono hsz)⟩
      ·go_simp
       refine hK.out _ _ (below_new (dc_drew (Below.refl _ _)) _) (fun hH1 => ?_)
       clear hK K
       try simp only [Act.put, List.setIfInBounds_toArray, List.set_cons_zero, List.set_cons_succ]
       refine wpAnyH_ready (rs := [6]) (by kernel_rfl) (by simp) ?_
       refine AllReadyH.cons rfl (fun K hK => ?_) AllReadyH.nil
       go_simp
       go_wp2_with (go_at_call 67; refine (H5x.out _ (HZr.out.up hH1)).mono ?_; rintro e1 w3 ⟨rfl, hb⟩; have hB3 : Below wr.heap.size wr w3 := below_more hH1 hb; have HA0 : Hid (AB w3 wr.heap.size acc0) := Lib.hid ((ab_new wr.drew 91 acc0).up hb); clear hb)
       refine hK.out _ _ hB3 (fun hH2 => ?_)
       clear hK K
       try simp only [Act.put, List.setIfInBounds_toArray, List.set_cons_zero, List.set_cons_succ]
       refine wpAnyH_take (i := 7) (v := .tuple #[accV fa, .bool q1]) rfl (by kernel_rfl) (by kernel_rfl) (by kernel_rfl) (fun _ _ _ h => h) (Or.inl ⟨by rfl, fun w9 h9 => by go_simp⟩) hH2 ?_
       try simp only [Act.put, List.setIfInBounds_toArray]
       refine wpAnyH_take (i := 8) (v := accV fa) rfl (by kernel_rfl) (by kernel_rfl) (by kernel_rfl) (fun _ _ _ h => h) (Or.inl ⟨by rfl, fun w9 h9 => by go_simp⟩) hH2 ?_
       try simp only [Act.put]
       refine wpAnyH_take (i := 9) (v := .bool q1) rfl (by kernel_rfl) (by kernel_rfl) (by kernel_rfl) (fun _ _ _ h => h) (Or.inl ⟨by rfl, fun w9 h9 => by go_simp⟩) hH2 ?_
       try simp only [Act.put]
       obtain ⟨⟨z0, z1, z2, z3⟩, zlt, zf⟩ := HA0.out
       have zf0 := zf 0
       have zf1 := zf 1
       have zf2 := zf 2
       have zf3 := zf 3
       simp only [Nat.zero_add] at z1 z2 z3
       clear zf
       refine wpAnyH_ready (rs := [11]) (by kernel_rfl) (by simp) ?_
       refine AllReadyH.cons rfl (fun K hK => ?_) AllReadyH.nil
       go_simp
       refine hK.out _ _ (bset4 hB3 (Nat.le_refl _) _ _ _ _) (fun hH4 => ?_)
       clear hK K
       try simp only [Act.put, List.setIfInBounds_toArray, List.set_cons_zero, List.set_cons_succ]
       refine wpAnyH_ready (rs := [12]) (by kernel_rfl) (by simp) ?_
       refine AllReadyH.cons rfl (fun K hK => ?_) AllReadyH.nil
       go_simp
       refine hK.out _ _ hH4 (fun hH5 => ?_)
       clear hK K
       try simp only [Act.put, List.setIfInBounds_toArray, List.set_cons_zero, List.set_cons_succ]
       refine wpAnyH_done (by kernel_rfl) ?_ _
       go_wp2_with fail
       go_meet
       have hB5 := bset4 hB3 (Nat.le_refl _) (.int .i64 fa.code) (.int .i64 fa.kind) (.int .i64 fa.basis) (.int .i64 fa.par)
       exact ⟨_, rfl, rfl, Lib.hid (ab_set4 HA0.out fa), Lib.hid (HG.out.up hB5), Lib.hid (HT.out.up hB5), hB.trans (hB5.mono hsz)⟩
     case rest =>
     clear HG HT hB HC HZr H5x
     rename World => wc
     obtain ⟨g6, rfl, rfl, HA6, HG, HT, hB⟩ := hcut
     obtain ⟨⟨z0, z1, z2, z3⟩, zlt, -⟩ := HA6.out
     simp only [Nat.zero_add] at z1 z2 z3
     obtain ⟨r0, r1, r2, r3, r4⟩ := HT.out.row hlt
     simp only [Nat.zero_add] at r0 r1 r2 r3 r4
     have e2 : (fa.kind != y2) = !decide (fa.kind = y2) := by by_cases h : fa.kind = y2 <;> simp [h]
     have e3 : (fa.basis != y3) = !decide (fa.basis = y3) := by by_cases h : fa.basis = y3 <;> simp [h]
     rw [RK2.out] at r2
     rw [RK3.out] at r3
     have hck9 := HCKx.out
     clear HCKx
     generalize decide (fa.kind = y2) = q2 at *
     generalize decide (fa.basis = y3) = q3 at *
     have HCKy := Lib.hid hck9
     have HBK := Lib.hid hB
     clear hck9
     rcases (show q1 = false ∨ (q1 = true ∧ q2 = false) ∨ (q1 = true ∧ q2 = true ∧ q3 = false) ∨ (q1 = true ∧ q2 = true ∧ q3 = true) from by cases q1 <;> cases q2 <;> cases q3 <;> simp) with rfl | ⟨rfl, rfl⟩ | ⟨rfl, rfl, rfl⟩ | ⟨rfl, rfl, rfl⟩
     ·have HR := Lib.hid (HNo.out (by rw [HCKy.out]; rfl))
      go_wp2_with fail
      go_quiet (fail)
      have hB4 := below_drewN HBK.out nq
      generalize World.drewN _ nq = W8 at *
      go_wp2_with fail
      go_ret
      exact ⟨by rw [HR.out]; rfl, hB4⟩
     ·have HR := Lib.hid (HNo.out (by rw [HCKy.out]; rfl))
      go_wp2_with fail
      go_quiet (fail)
      have hB4 := below_drewN HBK.out nq
      generalize World.drewN _ nq = W8 at *
      go_wp2_with fail
      go_ret
      exact ⟨by rw [HR.out]; rfl, hB4⟩
     ·have HR := Lib.hid (HNo.out (by rw [HCKy.out]; rfl))
      go_wp2_with fail
      go_quiet (fail)
      have hB4 := below_drewN HBK.out nq
      generalize World.drewN _ nq = W8 at *
      go_wp2_with fail
      go_ret
      exact ⟨by rw [HR.out]; rfl, hB4⟩
     have HCKz : Hid (T k = allTo (fun j => !decide (g.R.getD j 0 = x)) k) := Lib.hid (by rw [HCKy.out]; rfl)
     go_wp2_with fail
     go_quiet (fail)
     have hB4 := below_drewN HBK.out nq
     have HG4 := Lib.hid (HG.out.up (below_drewN (Below.refl _ _) nq))
     have HT4 := Lib.hid (HT.out.up (below_drewN (Below.refl _ _) nq))
     clear HG HT hB HBK HA6 z0 z1 z2 z3 zlt r0 r1 r2 r3 r4 HCKy
     generalize World.drewN _ nq = W8 at *
     go_wp2_with fail
     go_loopg [8] k (fun jx s8 W => ∃ j : Nat, s8 = .int .i64 j ∧ j ≤ k ∧ k - j ≤ jx ∧ Hid (allTo (fun j => !decide (g.R.getD j 0 = x)) j = true) ∧ Hid (GB W s0 g) ∧ Hid (RolAt W t g) ∧ Below s0 w W)
     case atStart => exact ⟨0, rfl, by omega, by omega, Lib.hid rfl, HG4, HT4, hB4⟩
     case round =>
      clear hB4 HG4 HT4
      rename World => W
      obtain ⟨j, rfl, hj, hjx, HJ, HG, HT, hB⟩ := hrel
      by_cases hjl : j < k
      ·have hjz : (j : Int) < (k : Int) := by omega
       have hj15 : j < 15 := by omega
       have hj15z : (j : Int) < 15 := by omega
       obtain ⟨-, r1, -, -, -⟩ := HT.out.row hlt
       obtain ⟨-, p1, -, -, -⟩ := HT.out.row hj15
       simp only [Nat.zero_add] at r1 p1
       rw [HX1.out] at r1
       have hpj : allTo (fun j => !decide (g.R.getD j 0 = x)) (j + 1) = !decide (g.R.getD j 0 = x) := by
        show (allTo _ j && _) = _
        rw [HJ.out, Bool.true_and]
       have hpn : (!decide (g.R.getD j 0 = x)) = false → T k = false := fun h => by rw [HCKz.out]; exact allTo_no hjl h
       generalize g.R.getD j 0 = y at *
       have HBK := Lib.hid hB
       by_cases h1 : y = x
       ·have e1 : (y == x) = true := by simp [h1]
        have HR := Lib.hid (HNo.out (hpn (by rw [decide_eq_true h1]; rfl)))
        clear h1 hpn hpj
        go_wp2_with fail
        go_quiet (fail)
        have hB4 := below_drewN HBK.out nq
        generalize World.drewN _ nq = W8 at *
        go_wp2_with fail
        go_ret
        exact ⟨by rw [HR.out]; rfl, hB4⟩
       ·have e1 : (y == x) = false := by simp [h1]
        rw [decide_eq_false h1] at hpj
        have HJ2 := Lib.hid (hpj.trans rfl)
        clear h1 hpn hpj
        go_wp2_with fail
        go_quiet (fail)
        have hB4 := below_drewN HBK.out nq
        have HG4 := Lib.hid (HG.out.up (below_drewN (Below.refl _ _) nq))
        have HT4 := Lib.hid (HT.out.up (below_drewN (Below.refl _ _) nq))
        clear HG HT hB HBK r1 p1
        generalize World.drewN _ nq = W8 at *
        go_wp2_with fail
        go_roundg (k - (j + 1))
        case measure => omega
        case rel => exact ⟨j + 1, by go_num, by omega, by omega, HJ2, HG4, HT4, hB4⟩
      ·obtain rfl : j = k := by omega
       have hjz : ¬ (j : Int) < (j : Int) := by omega
       have HA2 := HNx.out (by rw [HCKz.out]; exact HJ.out)
       go_wp2_with fail
       go_roundg (15 - (j + 1))
       case measure => omega
       case rel => exact ⟨j + 1, by go_num, by omega, by omega, HA2, HG, HT, hB⟩
    ·obtain rfl : k = 15 := by omega
     have HR := Lib.hid (HV3.out.trans HA.out)
     go_wp2_with fail
     go_ret
     exact ⟨by rw [HR.out]; rfl, hB⟩
def fnE (G : List Ent) (nm : ByteArray) : Int := if fix G nm < G.length then fix G nm else 0
def fnQ (G : List Ent) (nm : ByteArray) : Bool := decide (fix G nm < G.length)
theorem fn_at {G : List Ent} {nm : ByteArray} {k : Nat} (hk : k < G.length) (h0 : ∀ j, j < k → (G.getD j ent0).nm ≠ nm) (h : (G.getD k ent0).nm = nm) : fnE G nm = k ∧ fnQ G nm = true := by
 have := fix_at hk h0 h
 unfold fnE fnQ
 rw [this]
 exact ⟨if_pos hk, decide_eq_true hk⟩
theorem fn_no {G : List Ent} {nm : ByteArray} (h0 : ∀ j, j < G.length → (G.getD j ent0).nm ≠ nm) : fnE G nm = 0 ∧ fnQ G nm = false := by
 have := fix_no h0
 unfold fnE fnQ
 rw [this]
 exact ⟨if_neg (by omega), decide_eq_false (by omega)⟩
set_option maxRecDepth 20000 in
set_option maxHeartbeats 1600000 in
theorem rfind10_any (g : Grp) (G : List Ent) (nm : ByteArray) (w : World) (he : EntsAt w g.E G) (lg : G.length = g.m) (hm : g.m ≤ 1000) :
  Calls Tryz.prog 41 #[grpV g, .string nm] w fun e w' => e = .returned (.tuple #[.int .i64 (fnE G nm), .bool (fnQ G nm)]) ∧ Below w.heap.size w w' := by
 have hB := below_alloc_new (w := w) (.cells #[.string g.cur, .int .i64 g.cy, .int .i64 g.cm, .int .i64 g.cp, .slice g.A g.n g.c, .int .i64 g.r0, .int .i64 g.r1, .int .i64 g.r2, .int .i64 g.r3, .int .i64 g.r4, .int .i64 g.r5, .int .i64 g.r6, .int .i64 g.r7, .int .i64 g.r8, .int .i64 g.r9, .int .i64 g.r10, .int .i64 g.r11, .int .i64 g.r12, .int .i64 g.r13, .int .i64 g.r14, .slice g.E g.m g.d] 29)
 have c20 := (gb_new w 29 g).c20
 have hlt20 : w.heap.size < (w.alloc (.cells #[.string g.cur, .int .i64 g.cy, .int .i64 g.cm, .int .i64 g.cp, .slice g.A g.n g.c, .int .i64 g.r0, .int .i64 g.r1, .int .i64 g.r2, .int .i64 g.r3, .int .i64 g.r4, .int .i64 g.r5, .int .i64 g.r6, .int .i64 g.r7, .int .i64 g.r8, .int .i64 g.r9, .int .i64 g.r10, .int .i64 g.r11, .int .i64 g.r12, .int .i64 g.r13, .int .i64 g.r14, .slice g.E g.m g.d] 29)).heap.size := by simp
 have hat := fun k => fn_at (G := G) (nm := nm) (k := k)
 have hno := fn_no (G := G) (nm := nm)
 obtain ⟨s0, hs0⟩ : ∃ s0, w.heap.size = s0 := ⟨_, rfl⟩
 generalize fnE G nm = z at *
 generalize fnQ G nm = q at *
 rw [hs0] at hB c20 hlt20 ⊢
 obtain ⟨E, hE⟩ : ∃ E, g.E = E := ⟨_, rfl⟩
 obtain ⟨m, hm2⟩ : ∃ m, g.m = m := ⟨_, rfl⟩
 rw [hE, hm2] at c20 hB hlt20
 rw [hE] at he
 rw [hm2] at lg hm
 have HM := Lib.hid lg
 have HZ := Lib.hid he
 have HAt := Lib.hid hat
 have HNo := Lib.hid hno
 have HS0 := Lib.hid hs0
 clear he lg hat hno
 go_enter Tryz.func41, Tryz.ntmps41
 go_wp2_with fail
 clear hs0 hE hm2
 go_loopg [6] m (fun kx s6 wr => ∃ k : Nat, s6 = .int .i64 k ∧ k ≤ m ∧ m - k ≤ kx ∧ Hid (∀ j, j < k → (G.getD j ent0).nm ≠ nm) ∧ Hid (wr.cell? ⟨s0, 20, none⟩ = some (.slice E m g.d)) ∧ Hid (s0 < wr.heap.size) ∧ Below s0 w wr)
 case atStart => exact ⟨0, rfl, by omega, by omega, Lib.hid (fun j h => absurd h (by omega)), Lib.hid c20, Lib.hid hlt20, hB⟩
 case round =>
  clear hB c20 hlt20
  obtain ⟨k, rfl, hk, hkx, HN, HC, HL, hB⟩ := hrel
  have c20 := HC.out
  by_cases hlt : k < m
  ·have hltz : (k : Int) < (m : Int) := by omega
   obtain ⟨b, off, rfl, hbw, hcs⟩ := ent_at HZ.out (k := k) (by rw [HM.out]; omega)
   obtain ⟨c0, c1, c2, c3, c4⟩ := hcs.up hB (by have := HS0.out; omega)
   have ha := HAt.out k (by rw [HM.out]; exact hlt) HN.out
   have hnx : (G.getD k ent0).nm ≠ nm → Hid (∀ j, j < k + 1 → (G.getD j ent0).nm ≠ nm) := fun h => Lib.hid fun j hj => by
    rcases Nat.lt_or_ge j k with h1 | h1
    ·exact HN.out j h1
    ·obtain rfl : j = k := by omega
     exact h
   obtain ⟨x, hx⟩ : ∃ x, G.getD k ent0 = x := ⟨_, rfl⟩
   rw [hx] at c0 c1 c2 c3 c4 ha hnx
   clear hcs hx HN
   by_cases hq : x.nm = nm
   ·have e3 : (x.nm.toList == nm.toList) = true := by rw [hq]; exact beq_self_eq_true _
    have HR := Lib.hid (ha hq)
    clear ha hnx hq
    go_wp2_with fail
    go_ret2
    exact ⟨by rw [HR.out.1, HR.out.2]; rfl, hB⟩
   ·have e3 : (x.nm.toList == nm.toList) = false := beq_eq_false_iff_ne.2 fun h => hq (bl_inj h)
    have HN2 := hnx hq
    clear ha hnx hq
    go_wp2_with fail
    go_roundg (m - (k + 1))
    case measure => omega
    case rel => exact ⟨k + 1, by go_num, by omega, by omega, HN2, HC, HL, hB⟩
  ·obtain rfl : k = m := by omega
   have hltz : ¬ (k : Int) < (k : Int) := by omega
   have HR := Lib.hid (HNo.out (by rw [HM.out]; exact HN.out))
   go_wp2_with fail
   go_ret2
   exact ⟨by rw [HR.out.1, HR.out.2]; rfl, hB⟩
def rowX (L : List Acc) (R : List Int) (G : List Ent) (i : Nat) : Bool := dsN G i && enrB L R (G.getD i ent0)
def ensR (L : List Acc) (R : List Int) (G : List Ent) : Bool := decide (1 ≤ G.length) && (decide (G.length ≤ 12) && (!(G.getD 0 ent0).jt && allTo (rowX L R G) G.length))
def grpR (g : Grp) (L : List Acc) (G : List Ent) : Bool := bokR g L && ensR L g.R G
theorem fn_row {G : List Ent} {k : Nat} (hk : k < G.length) : (dsN G k = true → fnE G (G.getD k ent0).nm = k) ∧ (dsN G k = false → fnE G (G.getD k ent0).nm ≠ k) := by
 have hle : fix G (G.getD k ent0).nm ≤ k := by
  obtain ⟨nm, hnm⟩ : ∃ nm, (G.getD k ent0).nm = nm := ⟨_, rfl⟩
  rw [hnm]
  rw [List.getD_eq_getElem?_getD, List.getElem?_eq_getElem hk] at hnm
  rcases Nat.lt_or_ge k (fix G nm) with h | h
  ·have h3 := List.not_of_lt_findIdx (show k < G.findIdx fun e => decide (e.nm = nm) from h)
   simp only [Option.getD_some] at hnm
   simp [hnm] at h3
  ·exact h
 have h1 := fix_ds hk
 have e : fnE G (G.getD k ent0).nm = (fix G (G.getD k ent0).nm : Nat) := by
  unfold fnE
  rw [if_pos (by omega)]
 rw [e]
 refine ⟨fun h => by rw [h1.2 h], fun h h2 => ?_⟩
 rw [h1.1 (by omega)] at h; cases h
def rv10Fa (X : Value) (g : Grp) (b off k s0 : Nat) (x : Ent) (z : Int) (q : Bool) : List (Nat × AS.Fact) := [(36, AS.Fact.is (X)), (37, AS.Fact.is (.pointer (some ⟨s0, 20, none⟩))), (38, AS.Fact.is (.slice (some ⟨b, off, none⟩) g.m g.d)), (39, AS.Fact.is (.int .i64 (k : Int))), (40, AS.Fact.is (.pointer (some ⟨b, off + k * 5, none⟩))), (41, AS.Fact.is (.pointer (some ⟨b, off + k * 5, none⟩))), (42, AS.Fact.is (.string x.nm)), (43, AS.Fact.is (.tuple #[.int .i64 z, .bool q])), (35, AS.Fact.is (.tuple #[.int .i64 z, .bool q])), (44, AS.Fact.is (.int .i64 z)), (45, AS.Fact.is (.bool q)), (4, AS.Fact.is (.int .i64 z)), (5, AS.Fact.is (.bool q))]
def rv10Fb (k : Nat) (z : Int) : List (Nat × AS.Fact) := [(46, AS.Fact.is (.int .i64 z)), (47, AS.Fact.is (.int .i64 (k : Int))), (48, AS.Fact.is (.bool true)), (49, AS.Fact.is (.bool true)), (50, AS.Fact.is (undef)), (51, AS.Fact.is (undef)), (52, AS.Fact.is (undef)), (53, AS.Fact.is (undef)), (54, AS.Fact.is (undef)), (55, AS.Fact.is (undef)), (56, AS.Fact.is (undef)), (57, AS.Fact.is (undef)), (58, AS.Fact.is (.bool true))]
def rv10Fc (X : Value) (g : Grp) (b off k s0 : Nat) (x : Ent) (z : Int) (q2 : Bool) : List (Nat × AS.Fact) := [(46, AS.Fact.is (.int .i64 z)), (47, AS.Fact.is (.int .i64 (k : Int))), (48, AS.Fact.is (.bool false)), (49, AS.Fact.is (.bool false)), (50, AS.Fact.is (X)), (51, AS.Fact.is (.pointer (some ⟨s0, 20, none⟩))), (52, AS.Fact.is (.slice (some ⟨b, off, none⟩) g.m g.d)), (53, AS.Fact.is (.int .i64 (k : Int))), (54, AS.Fact.is (.pointer (some ⟨b, off + k * 5, none⟩))), (55, AS.Fact.is (eV x)), (56, AS.Fact.is (.bool q2)), (57, AS.Fact.is (.bool (!q2))), (58, AS.Fact.is (.bool (!q2)))]
set_option maxRecDepth 20000 in
set_option maxHeartbeats 6400000 in
theorem rvalid10_any (g : Grp) (L : List Acc) (G : List Ent) (w : World) (hk : GrK w g L G) (hs : Sm g G) (hw : GrW g L G) :
  Calls Tryz.prog 16 #[grpV g] w fun e' w' => e' = .returned (.bool (grpR g L G)) ∧ Below w.heap.size w w' := by
 have hv : grpR g L G = (bokR g L && (decide (1 ≤ G.length) && (decide (G.length ≤ 12) && (!(G.getD 0 ent0).jt && allTo (rowX L g.R G) G.length)))) := rfl
 rw [hk.lg] at hv
 have hrow : ∀ k, rowX L g.R G k = (dsN G k && enrB L g.R (G.getD k ent0)) := fun _ => rfl
 have h1 : ∀ k, k < g.m → ∀ w, AccAt w g.A L → EntsK w G → Calls Tryz.prog 42 #[grpV g, eV (G.getD k ent0)] w fun e' w' => e' = .returned (.bool (enrB L g.R (G.getD k ent0))) ∧ Below w.heap.size w w' := fun k hk2 w hz he => by
  have hm := getD_mem_acc (d := ent0) (L := G) (i := k) (by rw [hk.lg]; exact hk2)
  have := hs.e _ hm
  have := hs.n
  have := hw.txt _ hm
  exact rent_any g L _ w hz hk.ln (by omega) (he _ hm) (by omega) (by omega) this.1 this.2
 have h2 := fun nm w h => rfind10_any g G nm w h hk.lg (by have := hs.m; omega)
 have h3 := fun w h => rbooks_any g L w h hk.ln (by have := hs.n; omega) hw.cur
 have hfn : ∀ k, k < g.m → (dsN G k = true → fnE G (G.getD k ent0).nm = k) ∧ (dsN G k = false → fnE G (G.getD k ent0).nm ≠ k) := fun k hk2 => fn_row (by rw [hk.lg]; exact hk2)
 have hat := fun k (hk2 : k < g.m) => ent_at hk.he (k := k) (by rw [hk.lg]; exact hk2)
 obtain ⟨X, hX⟩ : ∃ X : Value, X = grpV g := ⟨_, rfl⟩
 rw [← hX] at h1 h2 h3
 generalize grpR g L G = r at *
 generalize bokR g L = qb at *
 obtain ⟨P, hP⟩ : ∃ P : Nat → Bool, rowX L g.R G = P := ⟨_, rfl⟩
 rw [hP] at hv
 simp only [hP] at hrow
 obtain ⟨s0, hs0⟩ : ∃ s0, w.heap.size = s0 := ⟨_, rfl⟩
 have hm14 := hs.m
 have HS0 := Lib.hid hs0
 have HX := Lib.hid hX
 have HV := Lib.hid hv
 have HRow := Lib.hid hrow
 have H1 := Lib.hid h1
 have H2 := Lib.hid h2
 have HBO := Lib.hid h3
 have HFN := Lib.hid hfn
 have HAt := Lib.hid hat
 have HZ := Lib.hid hk.hz
 have HEK := Lib.hid hk.hk
 have HEA := Lib.hid hk.he
 clear hk hs hw hv hrow h1 h2 h3 hfn hat hX hP
 by_cases hqm : qb = false ∨ g.m = 0
 ·have hB := below_alloc_new (w := w) (.cells #[.string g.cur, .int .i64 g.cy, .int .i64 g.cm, .int .i64 g.cp, .slice g.A g.n g.c, .int .i64 g.r0, .int .i64 g.r1, .int .i64 g.r2, .int .i64 g.r3, .int .i64 g.r4, .int .i64 g.r5, .int .i64 g.r6, .int .i64 g.r7, .int .i64 g.r8, .int .i64 g.r9, .int .i64 g.r10, .int .i64 g.r11, .int .i64 g.r12, .int .i64 g.r13, .int .i64 g.r14, .slice g.E g.m g.d] 29)
  have hG := gb_new w 29 g
  have HB := Lib.hid hB
  have hsz : s0 ≤ (w.alloc (.cells #[.string g.cur, .int .i64 g.cy, .int .i64 g.cm, .int .i64 g.cp, .slice g.A g.n g.c, .int .i64 g.r0, .int .i64 g.r1, .int .i64 g.r2, .int .i64 g.r3, .int .i64 g.r4, .int .i64 g.r5, .int .i64 g.r6, .int .i64 g.r7, .int .i64 g.r8, .int .i64 g.r9, .int .i64 g.r10, .int .i64 g.r11, .int .i64 g.r12, .int .i64 g.r13, .int .i64 g.r14, .slice g.E g.m g.d] 29)).heap.size := by simp; omega
  rw [hs0] at hB hG ⊢
  have HG := Lib.hid hG
  have HSZ := Lib.hid hsz
  have c20 := hG.c20
  have c20' := fun w' (h : Below (w.alloc (.cells #[.string g.cur, .int .i64 g.cy, .int .i64 g.cm, .int .i64 g.cp, .slice g.A g.n g.c, .int .i64 g.r0, .int .i64 g.r1, .int .i64 g.r2, .int .i64 g.r3, .int .i64 g.r4, .int .i64 g.r5, .int .i64 g.r6, .int .i64 g.r7, .int .i64 g.r8, .int .i64 g.r9, .int .i64 g.r10, .int .i64 g.r11, .int .i64 g.r12, .int .i64 g.r13, .int .i64 g.r14, .slice g.E g.m g.d] 29)).heap.size (w.alloc (.cells #[.string g.cur, .int .i64 g.cy, .int .i64 g.cm, .int .i64 g.cp, .slice g.A g.n g.c, .int .i64 g.r0, .int .i64 g.r1, .int .i64 g.r2, .int .i64 g.r3, .int .i64 g.r4, .int .i64 g.r5, .int .i64 g.r6, .int .i64 g.r7, .int .i64 g.r8, .int .i64 g.r9, .int .i64 g.r10, .int .i64 g.r11, .int .i64 g.r12, .int .i64 g.r13, .int .i64 g.r14, .slice g.E g.m g.d] 29)) w') => (hG.up h).c20
  have HC := Lib.hid c20'
  clear hG c20' hsz
  rcases hqm with rfl | hm0
  ·have HR : Hid (r = false) := Lib.hid (by rw [HV.out]; rfl)
   go_enter Tryz.func16, Tryz.ntmps16
   go_wp2_with (first | (refine wpList_load_is rfl 29 _ rfl (.pointer (some ⟨s0, 0, none⟩)) rfl X (gb_lV HG.out HX.out) ?_) | (go_at_call 40; (with_reducible refine (HBO.out _ (HZ.out.up (HB.out))).mono ?_); rintro e1 w1 ⟨rfl, hb⟩; have hB2 := hB.trans (hb.mono HSZ.out); have HG2 := Lib.hid (HG.out.up hb); have HSZ2 : Hid (s0 ≤ w1.heap.size) := Lib.hid (Nat.le_trans HSZ.out hb.size); clear hb hB HSZ HG HB))
   go_ret
   exact ⟨by rw [HR.out]; rfl, hB2⟩
  ·have HR : Hid (r = false) := Lib.hid (by rw [HV.out, decide_eq_false (show ¬ 1 ≤ g.m by omega)]; simp)
   have em : decide ((g.m : Int) < 1) = true := decide_eq_true (by omega)
   clear hm0
   cases qb
   ·go_enter Tryz.func16, Tryz.ntmps16
    go_wp2_with (first | (refine wpList_load_is rfl 29 _ rfl (.pointer (some ⟨s0, 0, none⟩)) rfl X (gb_lV HG.out HX.out) ?_) | (go_at_call 40; (with_reducible refine (HBO.out _ (HZ.out.up (HB.out))).mono ?_); rintro e1 w1 ⟨rfl, hb⟩; have hB2 := hB.trans (hb.mono HSZ.out); have HG2 := Lib.hid (HG.out.up hb); have HSZ2 : Hid (s0 ≤ w1.heap.size) := Lib.hid (Nat.le_trans HSZ.out hb.size); clear hb hB HSZ HG HB))
    go_ret
    exact ⟨by rw [HR.out]; rfl, hB2⟩
   ·go_enter Tryz.func16, Tryz.ntmps16
    go_wp2_with (first | (refine wpList_load_is rfl 29 _ rfl (.pointer (some ⟨s0, 0, none⟩)) rfl X (gb_lV HG.out HX.out) ?_) | (go_at_call 40; (with_reducible refine (HBO.out _ (HZ.out.up (HB.out))).mono ?_); rintro e1 w1 ⟨rfl, hb⟩; have hB2 := hB.trans (hb.mono HSZ.out); have HG2 := Lib.hid (HG.out.up hb); have HSZ2 : Hid (s0 ≤ w1.heap.size) := Lib.hid (Nat.le_trans HSZ.out hb.size); have hb9 := hb; clear hb hB HSZ HG HB c20; have c20 := HC.out w1 hb9; clear hb9))
    go_ret
    exact ⟨by rw [HR.out]; rfl, hB2⟩
 have hqb : qb = true := by cases qb; exact absurd (.inl rfl) hqm; rfl
 subst hqb
 have hm1 : 1 ≤ g.m := by
  rcases Nat.eq_zero_or_pos g.m with h | h
  ·exact absurd (.inr h) hqm
  ·exact h
 clear hqm
 have em : decide ((g.m : Int) < 1) = false := decide_eq_false (by omega)
 obtain ⟨b, off, eE, hbw, hc0⟩ := HAt.out 0 (by omega)
 have hB := below_alloc_new (w := w) (.cells #[.string g.cur, .int .i64 g.cy, .int .i64 g.cm, .int .i64 g.cp, .slice g.A g.n g.c, .int .i64 g.r0, .int .i64 g.r1, .int .i64 g.r2, .int .i64 g.r3, .int .i64 g.r4, .int .i64 g.r5, .int .i64 g.r6, .int .i64 g.r7, .int .i64 g.r8, .int .i64 g.r9, .int .i64 g.r10, .int .i64 g.r11, .int .i64 g.r12, .int .i64 g.r13, .int .i64 g.r14, .slice g.E g.m g.d] 29)
 have HB := Lib.hid hB
 have hG := gb_new w 29 g
 have hsz : s0 ≤ (w.alloc (.cells #[.string g.cur, .int .i64 g.cy, .int .i64 g.cm, .int .i64 g.cp, .slice g.A g.n g.c, .int .i64 g.r0, .int .i64 g.r1, .int .i64 g.r2, .int .i64 g.r3, .int .i64 g.r4, .int .i64 g.r5, .int .i64 g.r6, .int .i64 g.r7, .int .i64 g.r8, .int .i64 g.r9, .int .i64 g.r10, .int .i64 g.r11, .int .i64 g.r12, .int .i64 g.r13, .int .i64 g.r14, .slice g.E g.m g.d] 29)).heap.size := by simp; omega
 have hc20 : ∀ w', Below (w.alloc (.cells #[.string g.cur, .int .i64 g.cy, .int .i64 g.cm, .int .i64 g.cp, .slice g.A g.n g.c, .int .i64 g.r0, .int .i64 g.r1, .int .i64 g.r2, .int .i64 g.r3, .int .i64 g.r4, .int .i64 g.r5, .int .i64 g.r6, .int .i64 g.r7, .int .i64 g.r8, .int .i64 g.r9, .int .i64 g.r10, .int .i64 g.r11, .int .i64 g.r12, .int .i64 g.r13, .int .i64 g.r14, .slice g.E g.m g.d] 29)).heap.size (w.alloc (.cells #[.string g.cur, .int .i64 g.cy, .int .i64 g.cm, .int .i64 g.cp, .slice g.A g.n g.c, .int .i64 g.r0, .int .i64 g.r1, .int .i64 g.r2, .int .i64 g.r3, .int .i64 g.r4, .int .i64 g.r5, .int .i64 g.r6, .int .i64 g.r7, .int .i64 g.r8, .int .i64 g.r9, .int .i64 g.r10, .int .i64 g.r11, .int .i64 g.r12, .int .i64 g.r13, .int .i64 g.r14, .slice g.E g.m g.d] 29)) w' → w'.cell? ⟨s0, 20, none⟩ = some (.slice (some ⟨b, off, none⟩) g.m g.d) := fun w' h => by rw [← eE, ← hs0]; exact (hG.up h).c20
 have hd4 : ∀ w', Below w.heap.size w w' → w'.cell? ⟨b, off + 4, none⟩ = some (.bool (G.getD 0 ent0).jt) := fun w' h => by
  have := (hc0.up h hbw).c4
  simpa only [Nat.zero_mul, Nat.add_zero] using this
 rw [hs0] at hB hG
 rw [eE] at hB hG hsz hc20
 have HB : Hid (Below w.heap.size w (w.alloc (.cells #[.string g.cur, .int .i64 g.cy, .int .i64 g.cm, .int .i64 g.cp, .slice g.A g.n g.c, .int .i64 g.r0, .int .i64 g.r1, .int .i64 g.r2, .int .i64 g.r3, .int .i64 g.r4, .int .i64 g.r5, .int .i64 g.r6, .int .i64 g.r7, .int .i64 g.r8, .int .i64 g.r9, .int .i64 g.r10, .int .i64 g.r11, .int .i64 g.r12, .int .i64 g.r13, .int .i64 g.r14, .slice (some ⟨b, off, none⟩) g.m g.d] 29))) := Lib.hid (by rw [hs0]; exact hB)
 have HG := Lib.hid hG
 have HSZ := Lib.hid hsz
 have HC := Lib.hid hc20
 have HD4 := Lib.hid hd4
 have hv2 := HV.out
 rw [decide_eq_true hm1, Bool.true_and, Bool.true_and] at hv2
 have h0z : (0 : Int) < (g.m : Int) := by omega
 rw [hs0]
 have c20 := hG.c20
 rw [eE] at c20
 rcases Nat.lt_or_ge 12 g.m with k1 | k1
 ·have e1 : decide ((12 : Int) < (g.m : Int)) = true := decide_eq_true (by omega)
  have HR : Hid (r = false) := Lib.hid (by rw [hv2, decide_eq_false (by omega)]; rfl)
  clear k1 hv2 hbw hc0 hc20 hd4 hG hsz
  go_enter Tryz.func16, Tryz.ntmps16
  go_wp2_with (first | (refine wpList_load_is rfl 29 _ rfl (.pointer (some ⟨s0, 0, none⟩)) rfl X (gb_lV HG.out HX.out) ?_) | (go_at_call 40; (with_reducible refine (HBO.out _ (HZ.out.up (HB.out))).mono ?_); rintro e1 w1 ⟨rfl, hb⟩; have hB2 := hB.trans (hb.mono HSZ.out); have HG2 := Lib.hid (HG.out.up hb); have HSZ2 : Hid (s0 ≤ w1.heap.size) := Lib.hid (Nat.le_trans HSZ.out hb.size); have hb9 := hb; clear hb hB HSZ HG HB c20; have c20 := HC.out w1 hb9; have d4 := HD4.out w1 (by rw [hs0]; exact hB2); clear hb9))
  go_ret
  exact ⟨by rw [HR.out]; rfl, hB2⟩
 have e1 : decide ((12 : Int) < (g.m : Int)) = false := decide_eq_false (by omega)
 rw [decide_eq_true k1, Bool.true_and] at hv2
 generalize (G.getD 0 ent0).jt = jt at *
 cases jt
 case true =>
  have HR : Hid (r = false) := Lib.hid (by rw [hv2]; rfl)
  clear k1 hv2 hbw hc0 hc20 hd4 hG hsz
  go_enter Tryz.func16, Tryz.ntmps16
  go_wp2_with (first | (refine wpList_load_is rfl 29 _ rfl (.pointer (some ⟨s0, 0, none⟩)) rfl X (gb_lV HG.out HX.out) ?_) | (go_at_call 40; (with_reducible refine (HBO.out _ (HZ.out.up (HB.out))).mono ?_); rintro e1 w1 ⟨rfl, hb⟩; have hB2 := hB.trans (hb.mono HSZ.out); have HG2 := Lib.hid (HG.out.up hb); have HSZ2 : Hid (s0 ≤ w1.heap.size) := Lib.hid (Nat.le_trans HSZ.out hb.size); have hb9 := hb; clear hb hB HSZ HG HB c20; have c20 := HC.out w1 hb9; have d4 := HD4.out w1 (by rw [hs0]; exact hB2); clear hb9))
  go_ret
  exact ⟨by rw [HR.out]; rfl, hB2⟩
 have HV2 := Lib.hid (show r = allTo P g.m from hv2)
 clear k1 hv2 hc0 hc20 hd4 hG HV hsz
 go_enter Tryz.func16, Tryz.ntmps16
 go_wp2_with (first | (refine wpList_load_is rfl 29 _ rfl (.pointer (some ⟨s0, 0, none⟩)) rfl X (gb_lV HG.out HX.out) ?_) | (go_at_call 40; (with_reducible refine (HBO.out _ (HZ.out.up (HB.out))).mono ?_); rintro e1 w1 ⟨rfl, hb⟩; have hB2 := hB.trans (hb.mono HSZ.out); have HG2 := Lib.hid (HG.out.up hb); have HSZ2 : Hid (s0 ≤ w1.heap.size) := Lib.hid (Nat.le_trans HSZ.out hb.size); have hb9 := hb; clear hb hB HSZ HG HB c20; have c20 := HC.out w1 hb9; have d4 := HD4.out w1 (by rw [hs0]; exact hB2); clear hb9))
 clear c20
 try clear c20
 have hat2 : ∀ k, k < g.m → E5 w b (off + k * 5) (G.getD k ent0) := fun k hk => by
  obtain ⟨b', off', e', hb', hc'⟩ := HAt.out k hk
  rw [eE] at e'
  cases e'
  exact hc'
 have HAt2 := Lib.hid hat2
 have HEA2 : Hid (EntsAt w (some ⟨b, off, none⟩) G) := Lib.hid (by rw [← eE]; exact HEA.out)
 have HEE := Lib.hid eE
 have HBW := Lib.hid hbw
 clear HAt hat2 hs0 eE hbw HEA HC HD4
 go_loopg [3] g.m (fun kx s3 wr => ∃ k : Nat, s3 = .int .i64 k ∧ k ≤ g.m ∧ g.m - k ≤ kx ∧ Hid (allTo P k = true) ∧ Hid (GB wr s0 g) ∧ Below s0 w wr)
 case atStart => exact ⟨0, rfl, by omega, by omega, Lib.hid rfl, HG2, hB2⟩
 case round =>
  clear hB2 HG2
  obtain ⟨k, rfl, hk, hkx, HA, HG, hB⟩ := hrel
  obtain ⟨W0, hW0⟩ : ∃ W0, wr = W0 := ⟨_, rfl⟩
  subst hW0
  have HC20 : Hid (∀ w', Below wr.heap.size wr w' → w'.cell? ⟨s0, 20, none⟩ = some (.slice (some ⟨b, off, none⟩) g.m g.d)) := Lib.hid fun w' h => by rw [← HEE.out]; exact (HG.out.up h).c20
  have c20 := HC20.out wr (Below.refl _ _)
  have hsz : s0 ≤ wr.heap.size := Nat.le_of_lt HG.out.lt
  by_cases hlt : k < g.m
  ·have hltz : (k : Int) < (g.m : Int) := by omega
   have hd5 := (HAt2.out k hlt).up hB (by have := HS0.out; have := HBW.out; omega)
   have hno : P k = false → r = false := fun h => by rw [HV2.out]; exact allTo_no hlt h
   have hnx : P k = true → Hid (allTo P (k + 1) = true) := fun h => Lib.hid (by show (allTo P k && P k) = true; rw [HA.out, h]; rfl)
   have hrow := HRow.out k
   have hfn := HFN.out k hlt
   have h1x := fun w h h' => H1.out k hlt w h h'
   obtain ⟨x, hx⟩ : ∃ x, G.getD k ent0 = x := ⟨_, rfl⟩
   rw [hx] at hd5 hrow hfn h1x
   have h2x := fun w h => H2.out x.nm w h
   have hea : EntsAt wr (some ⟨b, off, none⟩) G := HEA2.out.up (by rw [HS0.out]; exact hB)
   have hea3 : ∀ w, EntsAt w (some ⟨b, off, none⟩) G → EntsAt w g.E G := fun w h => by rw [HEE.out]; exact h
   generalize enrB L g.R x = q2 at *
   generalize P k = pk at *
   obtain ⟨z, hz⟩ : ∃ z, fnE G x.nm = z := ⟨_, rfl⟩
   obtain ⟨q, hq⟩ : ∃ q, fnQ G x.nm = q := ⟨_, rfl⟩
   rw [hz, hq] at h2x
   rw [hz] at hfn
   have hfi : ∀ w, EntsAt w (some ⟨b, off, none⟩) G → Calls Tryz.prog 41 #[X, .string x.nm] w fun e' w' => e' = .returned (.tuple #[.int .i64 z, .bool q]) ∧ Below w.heap.size w w' := fun w h => h2x w (hea3 w h)
   have hbW : b < wr.heap.size := by have := HS0.out; have := HBW.out; omega
   have HD5 := Lib.hid hd5
   have HEA := Lib.hid hea
   have HFI := Lib.hid hfi
   have HEN := Lib.hid h1x
   have HNoo := Lib.hid hno
   have HNx := Lib.hid hnx
   have HRo := Lib.hid hrow
   have HFx := Lib.hid hfn
   have HZ9 : Hid (AccAt wr g.A L) := Lib.hid (HZ.out.up (by rw [HS0.out]; exact hB))
   have HEK9 : Hid (EntsK wr G) := Lib.hid (HEK.out.up (by rw [HS0.out]; exact hB))
   clear hd5 hno hnx hrow hfn h1x hx h2x hea hea3 hz hq hfi HA
   go_wp2_with fail
   refine AS.region_facts (rv10Fa X g b off k s0 x z q) (HNo wr) [[], [], [37], [], [38, 39], [40], [41], [36, 42], [43], [35], [35], [44], [45]] [] [[]] [0, 0, 0, 0, 0, 0, 0, 0, 0, 0, 0, 0, 0] [] (fun u => by simp only [rv10Fa, AS.temps, List.map_cons, List.map_nil, fillL, List.setIfInBounds_toArray, List.set_cons_zero, List.set_cons_succ]; rfl) (by kernel_rfl) (by kernel_rfl) (HNo.st wr) (dc_drew (Below.refl _ _)) ?_ ?_
   ·refine AS.sc rfl rfl rfl ?_ ?_
    ·intro k_ u w_ hk_ hJ hF K hK
     clear hF
     refine wp_load_is 29 _ rfl (.pointer (some ⟨s0, 0, none⟩)) rfl X (gb_lV (HG.out.up (hJ : Below wr.heap.size wr w_)) HX.out) ?_
     exact hK.out _ _ bR (rfl) trivial
    refine AS.sc rfl rfl rfl ?_ ?_
    ·intro k_ u w_ hk_ hJ hF K hK
     clear hF
     go_simp
     exact hK.out _ _ bR (rfl) trivial
    refine AS.sc rfl rfl rfl ?_ ?_
    ·intro k_ u w_ hk_ hJ hF K hK
     have h37 : u 37 = .pointer (some ⟨s0, 20, none⟩) := AS.facts_get hF 37 (by simp)
     clear hF
     simp only [h37] at hK ⊢
     clear h37
     have c20 := HC20.out w_ (hJ : Below wr.heap.size wr w_)
     go_simp
     exact hK.out _ _ bR (rfl) trivial
    refine AS.sc rfl rfl rfl ?_ ?_
    ·intro k_ u w_ hk_ hJ hF K hK
     clear hF
     go_simp
     exact hK.out _ _ bR (rfl) trivial
    refine AS.sc rfl rfl rfl ?_ ?_
    ·intro k_ u w_ hk_ hJ hF K hK
     have h38 : u 38 = .slice (some ⟨b, off, none⟩) g.m g.d := AS.facts_get hF 38 (by simp)
     have h39 : u 39 = .int .i64 (k : Int) := AS.facts_get hF 39 (by simp)
     clear hF
     simp only [h38, h39] at hK ⊢
     clear h38 h39
     go_simp
     exact hK.out _ _ bR (rfl) trivial
    refine AS.sc rfl rfl rfl ?_ ?_
    ·intro k_ u w_ hk_ hJ hF K hK
     have h40 : u 40 = .pointer (some ⟨b, off + k * 5, none⟩) := AS.facts_get hF 40 (by simp)
     clear hF
     simp only [h40] at hK ⊢
     clear h40
     go_simp
     exact hK.out _ _ bR (rfl) trivial
    refine AS.sc rfl rfl rfl ?_ ?_
    ·intro k_ u w_ hk_ hJ hF K hK
     have h41 : u 41 = .pointer (some ⟨b, off + k * 5, none⟩) := AS.facts_get hF 41 (by simp)
     clear hF
     simp only [h41] at hK ⊢
     clear h41
     obtain ⟨d0, d1, d2, d3, d4⟩ := HD5.out.up (hJ : Below wr.heap.size wr w_) hbW
     go_simp
     exact hK.out _ _ bR (rfl) trivial
    refine AS.sc rfl rfl rfl ?_ ?_
    ·intro k_ u w_ hk_ hJ hF K hK
     have h36 : u 36 = X := AS.facts_get hF 36 (by simp)
     have h42 : u 42 = .string x.nm := AS.facts_get hF 42 (by simp)
     clear hF
     simp only [h36, h42] at hK ⊢
     clear h36 h42
     have he9 := HEA.out.up (hJ : Below wr.heap.size wr w_)
     go_simp
     refine (HFI.out _ he9).mono ?_
     rintro e w3 ⟨rfl, hb⟩
     exact hK.out _ _ hb (rfl) trivial
    refine AS.sc rfl rfl rfl ?_ ?_
    ·intro k_ u w_ hk_ hJ hF K hK
     have h43 : u 43 = .tuple #[.int .i64 z, .bool q] := AS.facts_get hF 43 (by simp)
     clear hF
     simp only [h43] at hK ⊢
     clear h43
     go_simp
     exact hK.out _ _ bR (rfl) trivial
    refine AS.sc rfl rfl rfl ?_ ?_
    ·intro k_ u w_ hk_ hJ hF K hK
     have h35 : u 35 = .tuple #[.int .i64 z, .bool q] := AS.facts_get hF 35 (by simp)
     clear hF
     simp only [h35] at hK ⊢
     clear h35
     go_simp
     exact hK.out _ _ bR (rfl) trivial
    refine AS.sc rfl rfl rfl ?_ ?_
    ·intro k_ u w_ hk_ hJ hF K hK
     have h35 : u 35 = .tuple #[.int .i64 z, .bool q] := AS.facts_get hF 35 (by simp)
     clear hF
     simp only [h35] at hK ⊢
     clear h35
     go_simp
     exact hK.out _ _ bR (rfl) trivial
    refine AS.sc rfl rfl rfl ?_ ?_
    ·intro k_ u w_ hk_ hJ hF K hK
     have h44 : u 44 = .int .i64 z := AS.facts_get hF 44 (by simp)
     clear hF
     simp only [h44] at hK ⊢
     clear h44
     go_simp
     exact hK.out _ _ bR (rfl) trivial
    refine AS.sc rfl rfl rfl ?_ ?_
    ·intro k_ u w_ hk_ hJ hF K hK
     have h45 : u 45 = .bool q := AS.facts_get hF 45 (by simp)
     clear hF
     simp only [h45] at hK ⊢
     clear h45
     go_simp
     exact hK.out _ _ bR (rfl) trivial
    exact AS.StepsOk.nil
   ·intro u W9 hJ9 hF
    have h4 : u 4 = .int .i64 z := AS.facts_get hF 4 (by simp [rv10Fa, AS.temps])
    have h5 : u 5 = .bool q := AS.facts_get hF 5 (by simp [rv10Fa, AS.temps])
    have hB9 : Below wr.heap.size wr W9 := hJ9
    clear hF hJ9
    rename World => W8
    try simp only [h4, h5]
    clear h4 h5
    have HG8 := Lib.hid (HG.out.up hB9)
    have hB8 := hB.trans (hB9.mono hsz)
    have hsz8 : s0 ≤ W8.heap.size := Nat.le_of_lt HG8.out.lt
    have HC28 : Hid (∀ w', Below W8.heap.size W8 w' → w'.cell? ⟨s0, 20, none⟩ = some (.slice (some ⟨b, off, none⟩) g.m g.d)) := Lib.hid fun w' h => by rw [← HEE.out]; exact (HG8.out.up h).c20
    have HD58 := Lib.hid (HD5.out.up hB9 hbW)
    have hbW8 : b < W8.heap.size := Nat.lt_of_lt_of_le hbW hB9.size
    have HZ98 := Lib.hid (HZ9.out.up hB9)
    have HEK98 := Lib.hid (HEK9.out.up hB9)
    clear HG HC20 HD5 HZ9 HEK9 HEA HFI hB9 hbW c20 hB
    cases hds : dsN G k
    ·have HZK : Hid ((z != (k : Int)) = true) := Lib.hid (by simpa using HFx.out.2 hds)
     have HR := Lib.hid (HNoo.out (by rw [HRo.out, hds]; rfl))
     have hB := hB8
     clear hds HRo HFx HNoo HNx
     go_wp2_with fail
     refine AS.region_facts (rv10Fb k z) (HNo W8) [[], [], [46, 47], [48], [49], [49], [49], [49], [49], [49], [49], [49], [49, 57]] [] [[]] [0, 0, 0, 0, 0, 0, 0, 0, 0, 0, 0, 0, 0] [] (fun u => by simp only [rv10Fb, AS.temps, List.map_cons, List.map_nil, fillL, List.setIfInBounds_toArray, List.set_cons_zero, List.set_cons_succ]; rfl) (by kernel_rfl) (by kernel_rfl) (HNo.st W8) (dc_drew (Below.refl _ _)) ?_ ?_
     ·refine AS.sc rfl rfl rfl ?_ ?_
      ·intro k_ u w_ hk_ hJ hF K hK
       clear hF
       go_simp
       exact hK.out _ _ bR (rfl) trivial
      refine AS.sc rfl rfl rfl ?_ ?_
      ·intro k_ u w_ hk_ hJ hF K hK
       clear hF
       go_simp
       exact hK.out _ _ bR (rfl) trivial
      refine AS.sc rfl rfl rfl ?_ ?_
      ·intro k_ u w_ hk_ hJ hF K hK
       have h46 : u 46 = .int .i64 z := AS.facts_get hF 46 (by simp)
       have h47 : u 47 = .int .i64 (k : Int) := AS.facts_get hF 47 (by simp)
       clear hF
       simp only [h46, h47] at hK ⊢
       clear h46 h47
       have hz9 := HZK.out
       go_simp
       exact hK.out _ _ bR (rfl) trivial
      refine AS.sc rfl rfl rfl ?_ ?_
      ·intro k_ u w_ hk_ hJ hF K hK
       have h48 : u 48 = .bool true := AS.facts_get hF 48 (by simp)
       clear hF
       simp only [h48] at hK ⊢
       clear h48
       go_simp
       exact hK.out _ _ bR (rfl) trivial
      refine AS.sc rfl rfl rfl ?_ ?_
      ·intro k_ u w_ hk_ hJ hF K hK
       have h49 : u 49 = .bool true := AS.facts_get hF 49 (by simp)
       clear hF
       simp only [h49] at hK ⊢
       clear h49
       go_simp
       exact hK.out _ _ bR (rfl) trivial
      refine AS.sc rfl rfl rfl ?_ ?_
      ·intro k_ u w_ hk_ hJ hF K hK
       have h49 : u 49 = .bool true := AS.facts_get hF 49 (by simp)
       clear hF
       simp only [h49] at hK ⊢
       clear h49
       go_simp
       exact hK.out _ _ bR (rfl) trivial
      refine AS.sc rfl rfl rfl ?_ ?_
      ·intro k_ u w_ hk_ hJ hF K hK
       have h49 : u 49 = .bool true := AS.facts_get hF 49 (by simp)
       clear hF
       simp only [h49] at hK ⊢
       clear h49
       go_simp
       exact hK.out _ _ bR (rfl) trivial
      refine AS.sc rfl rfl rfl ?_ ?_
      ·intro k_ u w_ hk_ hJ hF K hK
       have h49 : u 49 = .bool true := AS.facts_get hF 49 (by simp)
       clear hF
       simp only [h49] at hK ⊢
       clear h49
       go_simp
       exact hK.out _ _ bR (rfl) trivial
      refine AS.sc rfl rfl rfl ?_ ?_
      ·intro k_ u w_ hk_ hJ hF K hK
       have h49 : u 49 = .bool true := AS.facts_get hF 49 (by simp)
       clear hF
       simp only [h49] at hK ⊢
       clear h49
       go_simp
       exact hK.out _ _ bR (rfl) trivial
      refine AS.sc rfl rfl rfl ?_ ?_
      ·intro k_ u w_ hk_ hJ hF K hK
       have h49 : u 49 = .bool true := AS.facts_get hF 49 (by simp)
       clear hF
       simp only [h49] at hK ⊢
       clear h49
       go_simp
       exact hK.out _ _ bR (rfl) trivial
      refine AS.sc rfl rfl rfl ?_ ?_
      ·intro k_ u w_ hk_ hJ hF K hK
       have h49 : u 49 = .bool true := AS.facts_get hF 49 (by simp)
       clear hF
       simp only [h49] at hK ⊢
       clear h49
       go_simp
       exact hK.out _ _ bR (rfl) trivial
      refine AS.sc rfl rfl rfl ?_ ?_
      ·intro k_ u w_ hk_ hJ hF K hK
       have h49 : u 49 = .bool true := AS.facts_get hF 49 (by simp)
       clear hF
       simp only [h49] at hK ⊢
       clear h49
       go_simp
       exact hK.out _ _ bR (rfl) trivial
      refine AS.sc rfl rfl rfl ?_ ?_
      ·intro k_ u w_ hk_ hJ hF K hK
       have h49 : u 49 = .bool true := AS.facts_get hF 49 (by simp)
       have h57 : u 57 = undef := AS.facts_get hF 57 (by simp)
       clear hF
       simp only [h49, h57] at hK ⊢
       clear h49 h57
       go_simp
       exact hK.out _ _ bR (rfl) trivial
      exact AS.StepsOk.nil
     ·intro u W9 hJ9 hF
      have h58 : u 58 = .bool true := AS.facts_get hF 58 (by simp [rv10Fb, AS.temps])
      have hB9 : Below W8.heap.size W8 W9 := hJ9
      clear hF hJ9
      simp only [h58]
      clear h58
      go_wp2_with fail
      go_ret
      exact ⟨by rw [HR.out]; rfl, hB8.trans (hB9.mono hsz8)⟩
    ·have hzk := HFx.out.1 hds
     have HZK : Hid ((z != (k : Int)) = false) := Lib.hid (by rw [hzk]; simp)
     have hrow := HRo.out
     rw [hds, Bool.true_and] at hrow
     clear hds hzk HRo HFx
     go_wp2_with fail
     refine AS.region_facts (rv10Fc X g b off k s0 x z q2) (HNo W8) [[], [], [46, 47], [48], [49], [49], [51, 49], [49], [52, 53, 49], [54, 49], [50, 55, 49], [56, 49], [49, 57]] [] [[]] [0, 0, 0, 0, 0, 0, 0, 0, 0, 0, 0, 0, 0] [] (fun u => by simp only [rv10Fc, AS.temps, List.map_cons, List.map_nil, fillL, List.setIfInBounds_toArray, List.set_cons_zero, List.set_cons_succ]; rfl) (by kernel_rfl) (by kernel_rfl) (HNo.st W8) (dc_drew (Below.refl _ _)) ?_ ?_
     ·refine AS.sc rfl rfl rfl ?_ ?_
      ·intro k_ u w_ hk_ hJ hF K hK
       clear hF
       go_simp
       exact hK.out _ _ bR (rfl) trivial
      refine AS.sc rfl rfl rfl ?_ ?_
      ·intro k_ u w_ hk_ hJ hF K hK
       clear hF
       go_simp
       exact hK.out _ _ bR (rfl) trivial
      refine AS.sc rfl rfl rfl ?_ ?_
      ·intro k_ u w_ hk_ hJ hF K hK
       have h46 : u 46 = .int .i64 z := AS.facts_get hF 46 (by simp)
       have h47 : u 47 = .int .i64 (k : Int) := AS.facts_get hF 47 (by simp)
       clear hF
       simp only [h46, h47] at hK ⊢
       clear h46 h47
       have hz9 := HZK.out
       go_simp
       exact hK.out _ _ bR (rfl) trivial
      refine AS.sc rfl rfl rfl ?_ ?_
      ·intro k_ u w_ hk_ hJ hF K hK
       have h48 : u 48 = .bool false := AS.facts_get hF 48 (by simp)
       clear hF
       simp only [h48] at hK ⊢
       clear h48
       go_simp
       exact hK.out _ _ bR (rfl) trivial
      refine AS.sc rfl rfl rfl ?_ ?_
      ·intro k_ u w_ hk_ hJ hF K hK
       have h49 : u 49 = .bool false := AS.facts_get hF 49 (by simp)
       clear hF
       simp only [h49] at hK ⊢
       clear h49
       refine wp_load_is 29 _ rfl (.pointer (some ⟨s0, 0, none⟩)) rfl X (gb_lV (HG8.out.up (hJ : Below W8.heap.size W8 w_)) HX.out) ?_
       exact hK.out _ _ bR (rfl) trivial
      refine AS.sc rfl rfl rfl ?_ ?_
      ·intro k_ u w_ hk_ hJ hF K hK
       have h49 : u 49 = .bool false := AS.facts_get hF 49 (by simp)
       clear hF
       simp only [h49] at hK ⊢
       clear h49
       go_simp
       exact hK.out _ _ bR (rfl) trivial
      refine AS.sc rfl rfl rfl ?_ ?_
      ·intro k_ u w_ hk_ hJ hF K hK
       have h51 : u 51 = .pointer (some ⟨s0, 20, none⟩) := AS.facts_get hF 51 (by simp)
       have h49 : u 49 = .bool false := AS.facts_get hF 49 (by simp)
       clear hF
       simp only [h51, h49] at hK ⊢
       clear h51 h49
       have c20 := HC28.out w_ (hJ : Below W8.heap.size W8 w_)
       go_simp
       exact hK.out _ _ bR (rfl) trivial
      refine AS.sc rfl rfl rfl ?_ ?_
      ·intro k_ u w_ hk_ hJ hF K hK
       have h49 : u 49 = .bool false := AS.facts_get hF 49 (by simp)
       clear hF
       simp only [h49] at hK ⊢
       clear h49
       go_simp
       exact hK.out _ _ bR (rfl) trivial
      refine AS.sc rfl rfl rfl ?_ ?_
      ·intro k_ u w_ hk_ hJ hF K hK
       have h52 : u 52 = .slice (some ⟨b, off, none⟩) g.m g.d := AS.facts_get hF 52 (by simp)
       have h53 : u 53 = .int .i64 (k : Int) := AS.facts_get hF 53 (by simp)
       have h49 : u 49 = .bool false := AS.facts_get hF 49 (by simp)
       clear hF
       simp only [h52, h53, h49] at hK ⊢
       clear h52 h53 h49
       go_simp
       exact hK.out _ _ bR (rfl) trivial
      refine AS.sc rfl rfl rfl ?_ ?_
      ·intro k_ u w_ hk_ hJ hF K hK
       have h54 : u 54 = .pointer (some ⟨b, off + k * 5, none⟩) := AS.facts_get hF 54 (by simp)
       have h49 : u 49 = .bool false := AS.facts_get hF 49 (by simp)
       clear hF
       simp only [h54, h49] at hK ⊢
       clear h54 h49
       obtain ⟨d0, d1, d2, d3, d4⟩ := HD58.out.up (hJ : Below W8.heap.size W8 w_) hbW8
       go_simp
       exact hK.out _ _ bR (rfl) trivial
      refine AS.sc rfl rfl rfl ?_ ?_
      ·intro k_ u w_ hk_ hJ hF K hK
       have h50 : u 50 = X := AS.facts_get hF 50 (by simp)
       have h55 : u 55 = eV x := AS.facts_get hF 55 (by simp)
       have h49 : u 49 = .bool false := AS.facts_get hF 49 (by simp)
       clear hF
       simp only [h50, h55, h49] at hK ⊢
       clear h50 h55 h49
       have he9 := HEK98.out.up (hJ : Below W8.heap.size W8 w_)
       have hz9 := HZ98.out.up (hJ : Below W8.heap.size W8 w_)
       go_simp
       refine (HEN.out _ hz9 he9).mono ?_
       rintro e w3 ⟨rfl, hb⟩
       exact hK.out _ _ hb (rfl) trivial
      refine AS.sc rfl rfl rfl ?_ ?_
      ·intro k_ u w_ hk_ hJ hF K hK
       have h56 : u 56 = .bool q2 := AS.facts_get hF 56 (by simp)
       have h49 : u 49 = .bool false := AS.facts_get hF 49 (by simp)
       clear hF
       simp only [h56, h49] at hK ⊢
       clear h56 h49
       go_simp
       exact hK.out _ _ bR (rfl) trivial
      refine AS.sc rfl rfl rfl ?_ ?_
      ·intro k_ u w_ hk_ hJ hF K hK
       have h49 : u 49 = .bool false := AS.facts_get hF 49 (by simp)
       have h57 : u 57 = .bool (!q2) := AS.facts_get hF 57 (by simp)
       clear hF
       simp only [h49, h57] at hK ⊢
       clear h49 h57
       go_simp
       exact hK.out _ _ bR (rfl) trivial
      exact AS.StepsOk.nil
     ·intro u W9 hJ9 hF
      have h58 : u 58 = .bool (!q2) := AS.facts_get hF 58 (by simp [rv10Fc, AS.temps])
      have hB9 : Below W8.heap.size W8 W9 := hJ9
      clear hF hJ9
      simp only [h58]
      clear h58
      cases q2
      ·have HR := Lib.hid (HNoo.out hrow)
       go_wp2_with fail
       go_ret
       exact ⟨by rw [HR.out]; rfl, hB8.trans (hB9.mono hsz8)⟩
      ·have HA2 := HNx.out hrow
       have HG10 := Lib.hid (HG8.out.up hB9)
       go_wp2_with fail
       go_roundg (g.m - (k + 1))
       case measure => omega
       case rel => exact ⟨k + 1, by go_num, by omega, by omega, HA2, HG10, hB8.trans (hB9.mono hsz8)⟩
  ·have hke : k = g.m := by omega
   have hltz : ¬ (k : Int) < (g.m : Int) := by omega
   have HR : Hid (r = true) := Lib.hid (by rw [HV2.out, ← hke]; exact HA.out)
   clear hke
   go_wp2_with fail
   go_ret
   exact ⟨by rw [HR.out]; rfl, hB⟩
def inB (y m k n : Int) : Bool := decide (pdF y m k 0 ≤ n) && decide (n ≤ pdL y m k (k - 1))
set_option maxRecDepth 20000 in
set_option maxHeartbeats 1600000 in
theorem rincal_any (y m k n : Int) (w : World) (hk : -9223372036854775807 ≤ k ∧ k ≤ 9223372036854775807) : Calls Tryz.prog 53 #[calV y m k, .int .i64 n] w fun e w' => e = .returned (.bool (inB y m k n)) ∧ Below w.heap.size w w' := by
 have hB := below_alloc_new (w := w) (.cells #[.int .i64 y, .int .i64 m, .int .i64 k] 23)
 have hR := rg_new w 23 [.int .i64 y, .int .i64 m, .int .i64 k]
 have H1 := Lib.hid (fun W => rfirst7_any y m k 0 W)
 have H2 := Lib.hid (fun W => rlast7_any y m k (k - 1) W)
 have hq : inB y m k n = (decide (pdF y m k 0 ≤ n) && decide (n ≤ pdL y m k (k - 1))) := rfl
 rw [hq]
 clear hq
 generalize pdF y m k 0 = a at *
 generalize pdL y m k (k - 1) = b at *
 generalize clE y m k 0 = c at *
 generalize clE y m k (k - 1) = d at *
 have c0 := hR.cell 0 _ rfl
 have c1 := hR.cell 1 _ rfl
 have c2 := hR.cell 2 _ rfl
 generalize hW : w.alloc (.cells #[.int .i64 y, .int .i64 m, .int .i64 k] 23) = W0 at *
 have HR := Lib.hid hR
 have HB := Lib.hid hB
 have hwk : wrap64 (k - 1) = k - 1 := by unfold wrap64; omega
 clear hR hB hk
 by_cases h1 : a ≤ n
 ·rw [decide_eq_true h1, Bool.true_and]
  go_enter Tryz.func53, Tryz.ntmps53
  go_wp2_with (first
   | (go_at_call 74; refine (H1.out _).mono ?_; rintro e w5 ⟨rfl, hb5⟩; have hR5 := HR.out.up hb5; have d0 := hR5.cell 0 _ rfl; have d1 := hR5.cell 1 _ rfl; have d2 := hR5.cell 2 _ rfl; have HB5 := Lib.hid (below_more HB.out hb5); clear hb5 hR5)
   | (go_at_call 75; refine (H2.out _).mono ?_; rintro e w6 ⟨rfl, hb6⟩; have HB6 := Lib.hid (below_more HB5.out hb6); clear hb6))
  go_ret
  exact ⟨by first | rfl | simp, HB6.out⟩
 ·have e1 : decide (a ≤ n) = false := decide_eq_false h1
  rw [e1, Bool.false_and]
  go_enter Tryz.func53, Tryz.ntmps53
  go_wp2_with (first
   | (go_at_call 74; refine (H1.out _).mono ?_; rintro e w5 ⟨rfl, hb5⟩; have hR5 := HR.out.up hb5; have d0 := hR5.cell 0 _ rfl; have d1 := hR5.cell 1 _ rfl; have d2 := hR5.cell 2 _ rfl; have HB5 := Lib.hid (below_more HB.out hb5); clear hb5 hR5)
   | (go_at_call 75; refine (H2.out _).mono ?_; rintro e w6 ⟨rfl, hb6⟩; have HB6 := Lib.hid (below_more HB5.out hb6); clear hb6))
  go_ret
  exact ⟨by first | rfl | simp, HB6.out⟩
set_option maxRecDepth 100000 in
set_option maxHeartbeats 3200000 in
theorem rline_any (g : Grp) (e : Int) (l : Lnk) (V : Value) (hV : V = grpV g) (w : World) : Calls Tryz.prog 73 #[V, .int .i64 e, lnkV l] w fun e' w' => e' = .returned (.bool (lnB g e l)) ∧ Below w.heap.size w w' := by
 rw [grpV_is] at hV
 obtain ⟨gs, hgs⟩ : ∃ gs, (grpC g).toArray = gs := ⟨_, rfl⟩
 rw [hgs] at hV
 subst hV
 have hR := (rg_new w 29 (grpC g)).up (below_alloc_new (.cells #[.int .i64 l.frm, .int .i64 l.tgt, .int .i64 l.since] 46))
 have hl := lb_new (w.alloc (.cells (grpC g).toArray 29)) 46 l
 have hB := below_new (below_alloc_new (w := w) (.cells (grpC g).toArray 29)) (.cells #[.int .i64 l.frm, .int .i64 l.tgt, .int .i64 l.since] 46)
 rw [hgs] at hR hl hB
 rw [World.size_alloc] at hl
 obtain ⟨⟨d0, d1, d2⟩, -⟩ := hl
 simp only [Nat.zero_add] at d0 d1 d2
 have c20 := hR.cell 20 _ rfl
 have HMV := Lib.hid (fun W => ermvalid_any l.tgt W)
 have hq : lnB g e l = (!decide (l.tgt = 0) && (amtB l.tgt && (decide (l.since = -1) || ((decide (0 ≤ l.since) && decide (l.since < g.m)) && !decide (l.since = e))))) := rfl
 rw [hq]
 have HB := Lib.hid hB
 clear hR hB hq hgs
 generalize amtB l.tgt = am at *
 have ARM : True := trivial
 by_cases h0 : l.tgt = 0
 ·have e3 : (l.tgt == 0) = true := by simp [h0]
  rw [decide_eq_true h0]
  clear h0
  go_enter Tryz.func73, Tryz.ntmps73
  go_wp2_with fail
  go_ret
  exact ⟨by first | rfl | simp, HB.out⟩
 have e3 : (l.tgt == 0) = false := by simp [h0]
 rw [decide_eq_false h0, Bool.not_false, Bool.true_and]
 clear h0
 cases am
 ·rw [Bool.false_and]
  go_enter Tryz.func73, Tryz.ntmps73
  go_wp2_with (go_at_call 95; refine (HMV.out _).mono ?_; rintro e w4 ⟨rfl, rfl⟩)
  go_ret
  exact ⟨by first | rfl | simp, HB.out⟩
 rw [Bool.true_and]
 by_cases h1 : l.since = -1
 ·have e4 : (l.since == -1) = true := by simp [h1]
  rw [decide_eq_true h1, Bool.true_or]
  clear h1
  go_enter Tryz.func73, Tryz.ntmps73
  go_wp2_with (go_at_call 95; refine (HMV.out _).mono ?_; rintro e w4 ⟨rfl, rfl⟩)
  go_ret
  exact ⟨by first | rfl | simp, HB.out⟩
 have e4 : (l.since == -1) = false := by simp [h1]
 rw [decide_eq_false h1, Bool.false_or]
 clear h1
 rcases Int.lt_or_le l.since 0 with h2 | h2
 ·have e5 : decide (0 ≤ l.since) = false := decide_eq_false (by omega)
  rw [e5, Bool.false_and, Bool.false_and]
  clear h2
  go_enter Tryz.func73, Tryz.ntmps73
  go_wp2_with (go_at_call 95; refine (HMV.out _).mono ?_; rintro e w4 ⟨rfl, rfl⟩)
  go_ret
  exact ⟨by first | rfl | simp, HB.out⟩
 have e5 : decide (0 ≤ l.since) = true := decide_eq_true h2
 rw [e5, Bool.true_and]
 rcases Int.lt_or_le l.since g.m with h3 | h3
 ·have e6 : decide (l.since < (g.m : Int)) = true := decide_eq_true h3
  rw [e6, Bool.true_and]
  have e7 : (l.since != e) = !decide (l.since = e) := rfl
  go_enter Tryz.func73, Tryz.ntmps73
  go_wp2_with (go_at_call 95; refine (HMV.out _).mono ?_; rintro e w4 ⟨rfl, rfl⟩)
  go_ret
  exact ⟨by first | rfl | (simp; done) | (rw [← e7]; rfl), HB.out⟩
 ·have e6 : decide (l.since < (g.m : Int)) = false := decide_eq_false (by omega)
  rw [e6, Bool.false_and]
  go_enter Tryz.func73, Tryz.ntmps73
  go_wp2_with (go_at_call 95; refine (HMV.out _).mono ?_; rintro e w4 ⟨rfl, rfl⟩)
  go_ret
  exact ⟨by first | rfl | simp, HB.out⟩
def shpFa (GV : Value) (x : Ety) (l : Lnk) (bb off k s0 : Nat) (q : Bool) : List (Nat × AS.Fact) := [(80, AS.Fact.is (GV)), (81, AS.Fact.is (.pointer (some ⟨s0 + 1, 1, none⟩))), (82, AS.Fact.is (.int .i64 x.ent)), (83, AS.Fact.is (.pointer (some ⟨s0 + 1, 6, none⟩))), (84, AS.Fact.is (.slice (some ⟨bb, off, none⟩) x.n x.c)), (85, AS.Fact.is (.int .i64 k)), (86, AS.Fact.is (.pointer (some ⟨bb, off + k * 3, none⟩))), (87, AS.Fact.is (.agg #[.int .i64 l.frm, .int .i64 l.tgt, .int .i64 l.since])), (88, AS.Fact.is (.bool q)), (89, AS.Fact.is (.bool (!q)))]
def orgR (kind of_ : Int) : Bool := if kind = 3 then decide (1 ≤ of_) else decide (of_ = 0)
def shpB (gp : Bool) (g : Grp) (x : Ety) (X : List Lnk) : Bool := gp && (decide (1 ≤ x.id) && (decide (0 ≤ x.ent) && (decide (x.ent < g.m) && (decide (1 ≤ x.kind) && (decide (x.kind ≤ 3) && (orgR x.kind x.of_ && (txtB x.txt && (decide (2 ≤ x.n) && (decide (x.n ≤ 40) && X.all (lnB g x.ent))))))))))
set_option maxRecDepth 100000 in
set_option maxHeartbeats 12800000 in
theorem rshape_any (g : Grp) (x : Ety) (X : List Lnk) (L : List Acc) (G : List Ent) (w : World) (hk : GrK w g L G) (hs : Sm g G) (hw : GrW g L G) (hx : EtyK w x X) (hn : x.n ≤ 1000) (ht : x.txt.size ≤ maxLen) : Calls Tryz.prog 51 #[grpV g, etyV x] w fun e w' => e = .returned (.bool (shpB (grpR g L G) g x X)) ∧ Below w.heap.size w w' := by
 obtain ⟨GV, hGV⟩ : ∃ GV, GV = grpV g := ⟨_, rfl⟩
 have HGV := Lib.hid (fun W (h : GrK W g L G) => rvalid10_any g L G W h hs hw)
 have HPR := Lib.hid (fun W => rprint_any x.txt W ht)
 rw [← hGV] at HGV
 have HGV0 := Lib.hid hGV
 have HN := Lib.hid hx.ln
 rw [grpV_is]
 obtain ⟨gs, hgs⟩ : ∃ gs, (grpC g).toArray = gs := ⟨_, rfl⟩
 obtain ⟨xs, hxs⟩ : ∃ xs, (etyC x).toArray = xs := ⟨_, rfl⟩
 have hxV : etyV x = .agg xs := by rw [etyV_is, hxs]
 rw [hgs, hxV]
 obtain ⟨s0, hs0⟩ : ∃ s0, w.heap.size = s0 := ⟨_, rfl⟩
 obtain ⟨w2, hw2⟩ : ∃ w2, (w.alloc (.cells gs 29)).alloc (.cells xs 42) = w2 := ⟨_, rfl⟩
 have HGB : Hid (Rg w2 s0 (grpC g)) := Lib.hid (by rw [← hw2, ← hgs, ← hs0]; exact (rg_new w _ _).up (below_alloc_new _))
 have HXB : Hid (Rg w2 (s0 + 1) (etyC x)) := Lib.hid (by
  rw [← hw2, ← hxs, ← hs0]
  have h9 := rg_new (w.alloc (.cells gs 29)) 42 (etyC x)
  rw [World.size_alloc] at h9
  exact h9)
 have HB2 : Hid (Below w.heap.size w w2) := Lib.hid (by rw [← hw2]; exact below_new (below_alloc_new _) _)
 have HLL : Hid (∀ w9, Rg w9 s0 (grpC g) → (Instr.loadAt 29 (.pointer (some ⟨s0, 0, none⟩))).run Tryz.prog w9 = .ok GV w9) := Lib.hid (fun w9 h9 => by rw [hGV, grpV_is]; exact h9.load 0 29 (grpC g) rfl _ Tryz.underlying29 rfl (by kernel_rfl))
 have HLG : Hid (∀ w9, Below w2.heap.size w2 w9 → (Instr.loadAt 29 (.pointer (some ⟨s0, 0, none⟩))).run Tryz.prog w9 = .ok GV w9) := Lib.hid (fun w9 h9 => HLL.out w9 (HGB.out.up h9))
 have HK2 := Lib.hid (hk.up HB2.out)
 have HZ2 := Lib.hid (hx.hz.up HB2.out)
 have hq : shpB (grpR g L G) g x X = (grpR g L G && (decide (1 ≤ x.id) && (decide (0 ≤ x.ent) && (decide (x.ent < g.m) && (decide (1 ≤ x.kind) && (decide (x.kind ≤ 3) && (orgR x.kind x.of_ && (txtB x.txt && (decide (2 ≤ x.n) && (decide (x.n ≤ 40) && X.all (lnB g x.ent))))))))))) := rfl
 rw [hq]
 clear hq hk hs hw hx ht hGV hgs hxs hxV
 have HS0 := Lib.hid hs0
 generalize grpR g L G = gp at *
 generalize txtB x.txt = tx at *
 cases gp
 ·rw [Bool.false_and]
  have HM9 : True := trivial
  go_enter Tryz.func51, Tryz.ntmps51
  go_wp2_with (first
   | (clear HM9; refine wpList_load_is rfl 29 _ rfl (.pointer (some ⟨s0, 0, none⟩)) rfl GV (HLG.out _ (Below.refl _ _)) ?_)
   | (go_at_call 16; refine (HGV.out _ HK2.out).mono ?_; rintro e w5 ⟨rfl, hb5⟩; have hS5 := HXB.out.up hb5; have hG5 := HGB.out.up hb5; have HB5 := Lib.hid (HB2.out.trans (hb5.mono HB2.out.size)); have d0 := hS5.cell 0 _ rfl; have d1 := hS5.cell 1 _ rfl; have d3 := hS5.cell 3 _ rfl; have d4 := hS5.cell 4 _ rfl; have d5 := hS5.cell 5 _ rfl; have d6 := hS5.cell 6 _ rfl; have c20 := hG5.cell 20 _ rfl; have HS5 := Lib.hid hS5; have HG5 := Lib.hid hG5; have HZ5 := Lib.hid (HZ2.out.up hb5); clear hb5 hS5 hG5)
   | (go_at_call 72; refine (HPR.out _).mono ?_; rintro e w6 ⟨rfl, hb6⟩; have hS6 := HS5.out.up hb6; have d6b := hS6.cell 6 _ rfl; have HB6 := Lib.hid (below_more HB5.out hb6); have HS6 := Lib.hid hS6; have HG6 := Lib.hid (HG5.out.up hb6); have HZ6 := Lib.hid (HZ5.out.up hb6); clear hb6 hS6))
  go_ret
  exact ⟨by first | rfl | simp, HB5.out⟩
 rw [Bool.true_and]
 rcases Int.lt_or_le x.id 1 with g1 | g1
 ·have e1 : decide (1 ≤ x.id) = false := decide_eq_false (by omega)
  have e2 : decide (x.id < 1) = true := decide_eq_true g1
  rw [e1, Bool.false_and]
  have HM9 : True := trivial
  go_enter Tryz.func51, Tryz.ntmps51
  go_wp2_with (first
   | (clear HM9; refine wpList_load_is rfl 29 _ rfl (.pointer (some ⟨s0, 0, none⟩)) rfl GV (HLG.out _ (Below.refl _ _)) ?_)
   | (go_at_call 16; refine (HGV.out _ HK2.out).mono ?_; rintro e w5 ⟨rfl, hb5⟩; have hS5 := HXB.out.up hb5; have hG5 := HGB.out.up hb5; have HB5 := Lib.hid (HB2.out.trans (hb5.mono HB2.out.size)); have d0 := hS5.cell 0 _ rfl; have d1 := hS5.cell 1 _ rfl; have d3 := hS5.cell 3 _ rfl; have d4 := hS5.cell 4 _ rfl; have d5 := hS5.cell 5 _ rfl; have d6 := hS5.cell 6 _ rfl; have c20 := hG5.cell 20 _ rfl; have HS5 := Lib.hid hS5; have HG5 := Lib.hid hG5; have HZ5 := Lib.hid (HZ2.out.up hb5); clear hb5 hS5 hG5)
   | (go_at_call 72; refine (HPR.out _).mono ?_; rintro e w6 ⟨rfl, hb6⟩; have hS6 := HS5.out.up hb6; have d6b := hS6.cell 6 _ rfl; have HB6 := Lib.hid (below_more HB5.out hb6); have HS6 := Lib.hid hS6; have HG6 := Lib.hid (HG5.out.up hb6); have HZ6 := Lib.hid (HZ5.out.up hb6); clear hb6 hS6))
  go_ret
  exact ⟨by first | rfl | simp, HB5.out⟩
 have e1 : decide (1 ≤ x.id) = true := decide_eq_true g1
 have e2 : decide (x.id < 1) = false := decide_eq_false (by omega)
 rw [e1, Bool.true_and]
 rcases Int.lt_or_le x.ent 0 with g1 | g1
 ·have e3 : decide (0 ≤ x.ent) = false := decide_eq_false (by omega)
  have e4 : decide (x.ent < 0) = true := decide_eq_true g1
  rw [e3, Bool.false_and]
  have HM9 : True := trivial
  go_enter Tryz.func51, Tryz.ntmps51
  go_wp2_with (first
   | (clear HM9; refine wpList_load_is rfl 29 _ rfl (.pointer (some ⟨s0, 0, none⟩)) rfl GV (HLG.out _ (Below.refl _ _)) ?_)
   | (go_at_call 16; refine (HGV.out _ HK2.out).mono ?_; rintro e w5 ⟨rfl, hb5⟩; have hS5 := HXB.out.up hb5; have hG5 := HGB.out.up hb5; have HB5 := Lib.hid (HB2.out.trans (hb5.mono HB2.out.size)); have d0 := hS5.cell 0 _ rfl; have d1 := hS5.cell 1 _ rfl; have d3 := hS5.cell 3 _ rfl; have d4 := hS5.cell 4 _ rfl; have d5 := hS5.cell 5 _ rfl; have d6 := hS5.cell 6 _ rfl; have c20 := hG5.cell 20 _ rfl; have HS5 := Lib.hid hS5; have HG5 := Lib.hid hG5; have HZ5 := Lib.hid (HZ2.out.up hb5); clear hb5 hS5 hG5)
   | (go_at_call 72; refine (HPR.out _).mono ?_; rintro e w6 ⟨rfl, hb6⟩; have hS6 := HS5.out.up hb6; have d6b := hS6.cell 6 _ rfl; have HB6 := Lib.hid (below_more HB5.out hb6); have HS6 := Lib.hid hS6; have HG6 := Lib.hid (HG5.out.up hb6); have HZ6 := Lib.hid (HZ5.out.up hb6); clear hb6 hS6))
  go_ret
  exact ⟨by first | rfl | simp, HB5.out⟩
 have e3 : decide (0 ≤ x.ent) = true := decide_eq_true g1
 have e4 : decide (x.ent < 0) = false := decide_eq_false (by omega)
 rw [e3, Bool.true_and]
 rcases Int.lt_or_le x.ent g.m |>.symm with g1 | g1
 ·have e5 : decide (x.ent < (g.m : Int)) = false := decide_eq_false (by omega)
  have e6 : decide ((g.m : Int) ≤ x.ent) = true := decide_eq_true g1
  rw [e5, Bool.false_and]
  have HM9 : True := trivial
  go_enter Tryz.func51, Tryz.ntmps51
  go_wp2_with (first
   | (clear HM9; refine wpList_load_is rfl 29 _ rfl (.pointer (some ⟨s0, 0, none⟩)) rfl GV (HLG.out _ (Below.refl _ _)) ?_)
   | (go_at_call 16; refine (HGV.out _ HK2.out).mono ?_; rintro e w5 ⟨rfl, hb5⟩; have hS5 := HXB.out.up hb5; have hG5 := HGB.out.up hb5; have HB5 := Lib.hid (HB2.out.trans (hb5.mono HB2.out.size)); have d0 := hS5.cell 0 _ rfl; have d1 := hS5.cell 1 _ rfl; have d3 := hS5.cell 3 _ rfl; have d4 := hS5.cell 4 _ rfl; have d5 := hS5.cell 5 _ rfl; have d6 := hS5.cell 6 _ rfl; have c20 := hG5.cell 20 _ rfl; have HS5 := Lib.hid hS5; have HG5 := Lib.hid hG5; have HZ5 := Lib.hid (HZ2.out.up hb5); clear hb5 hS5 hG5)
   | (go_at_call 72; refine (HPR.out _).mono ?_; rintro e w6 ⟨rfl, hb6⟩; have hS6 := HS5.out.up hb6; have d6b := hS6.cell 6 _ rfl; have HB6 := Lib.hid (below_more HB5.out hb6); have HS6 := Lib.hid hS6; have HG6 := Lib.hid (HG5.out.up hb6); have HZ6 := Lib.hid (HZ5.out.up hb6); clear hb6 hS6))
  go_ret
  exact ⟨by first | rfl | simp, HB5.out⟩
 have e5 : decide (x.ent < (g.m : Int)) = true := decide_eq_true (by omega)
 have e6 : decide ((g.m : Int) ≤ x.ent) = false := decide_eq_false (by omega)
 rw [e5, Bool.true_and]
 rcases Int.lt_or_le x.kind 1 with g1 | g1
 ·have e7 : decide (1 ≤ x.kind) = false := decide_eq_false (by omega)
  have e8 : decide (x.kind < 1) = true := decide_eq_true g1
  rw [e7, Bool.false_and]
  have HM9 : True := trivial
  go_enter Tryz.func51, Tryz.ntmps51
  go_wp2_with (first
   | (clear HM9; refine wpList_load_is rfl 29 _ rfl (.pointer (some ⟨s0, 0, none⟩)) rfl GV (HLG.out _ (Below.refl _ _)) ?_)
   | (go_at_call 16; refine (HGV.out _ HK2.out).mono ?_; rintro e w5 ⟨rfl, hb5⟩; have hS5 := HXB.out.up hb5; have hG5 := HGB.out.up hb5; have HB5 := Lib.hid (HB2.out.trans (hb5.mono HB2.out.size)); have d0 := hS5.cell 0 _ rfl; have d1 := hS5.cell 1 _ rfl; have d3 := hS5.cell 3 _ rfl; have d4 := hS5.cell 4 _ rfl; have d5 := hS5.cell 5 _ rfl; have d6 := hS5.cell 6 _ rfl; have c20 := hG5.cell 20 _ rfl; have HS5 := Lib.hid hS5; have HG5 := Lib.hid hG5; have HZ5 := Lib.hid (HZ2.out.up hb5); clear hb5 hS5 hG5)
   | (go_at_call 72; refine (HPR.out _).mono ?_; rintro e w6 ⟨rfl, hb6⟩; have hS6 := HS5.out.up hb6; have d6b := hS6.cell 6 _ rfl; have HB6 := Lib.hid (below_more HB5.out hb6); have HS6 := Lib.hid hS6; have HG6 := Lib.hid (HG5.out.up hb6); have HZ6 := Lib.hid (HZ5.out.up hb6); clear hb6 hS6))
  go_ret
  exact ⟨by first | rfl | simp, HB5.out⟩
 have e7 : decide (1 ≤ x.kind) = true := decide_eq_true g1
 have e8 : decide (x.kind < 1) = false := decide_eq_false (by omega)
 rw [e7, Bool.true_and]
 rcases Int.lt_or_le 3 x.kind with g1 | g1
 ·have e9 : decide (x.kind ≤ 3) = false := decide_eq_false (by omega)
  have e10 : decide ((3 : Int) < x.kind) = true := decide_eq_true g1
  rw [e9, Bool.false_and]
  have HM9 : True := trivial
  go_enter Tryz.func51, Tryz.ntmps51
  go_wp2_with (first
   | (clear HM9; refine wpList_load_is rfl 29 _ rfl (.pointer (some ⟨s0, 0, none⟩)) rfl GV (HLG.out _ (Below.refl _ _)) ?_)
   | (go_at_call 16; refine (HGV.out _ HK2.out).mono ?_; rintro e w5 ⟨rfl, hb5⟩; have hS5 := HXB.out.up hb5; have hG5 := HGB.out.up hb5; have HB5 := Lib.hid (HB2.out.trans (hb5.mono HB2.out.size)); have d0 := hS5.cell 0 _ rfl; have d1 := hS5.cell 1 _ rfl; have d3 := hS5.cell 3 _ rfl; have d4 := hS5.cell 4 _ rfl; have d5 := hS5.cell 5 _ rfl; have d6 := hS5.cell 6 _ rfl; have c20 := hG5.cell 20 _ rfl; have HS5 := Lib.hid hS5; have HG5 := Lib.hid hG5; have HZ5 := Lib.hid (HZ2.out.up hb5); clear hb5 hS5 hG5)
   | (go_at_call 72; refine (HPR.out _).mono ?_; rintro e w6 ⟨rfl, hb6⟩; have hS6 := HS5.out.up hb6; have d6b := hS6.cell 6 _ rfl; have HB6 := Lib.hid (below_more HB5.out hb6); have HS6 := Lib.hid hS6; have HG6 := Lib.hid (HG5.out.up hb6); have HZ6 := Lib.hid (HZ5.out.up hb6); clear hb6 hS6))
  go_ret
  exact ⟨by first | rfl | simp, HB5.out⟩
 have e9 : decide (x.kind ≤ 3) = true := decide_eq_true g1
 have e10 : decide ((3 : Int) < x.kind) = false := decide_eq_false (by omega)
 rw [e9, Bool.true_and]
 unfold orgR
 by_cases hk3 : x.kind = 3
 ·have e11 : (x.kind == 3) = true := by simp [hk3]
  have e12 : (x.kind != 3) = false := by simp [hk3]
  rw [if_pos hk3]
  clear hk3
  rcases Int.lt_or_le x.of_ 1 with g1 | g1
  ·have e13 : decide (1 ≤ x.of_) = false := decide_eq_false (by omega)
   have e14 : decide (x.of_ < 1) = true := decide_eq_true g1
   rw [e13, Bool.false_and]
   have HM9 : True := trivial
   go_enter Tryz.func51, Tryz.ntmps51
   go_wp2_with (first
    | (clear HM9; refine wpList_load_is rfl 29 _ rfl (.pointer (some ⟨s0, 0, none⟩)) rfl GV (HLG.out _ (Below.refl _ _)) ?_)
    | (go_at_call 16; refine (HGV.out _ HK2.out).mono ?_; rintro e w5 ⟨rfl, hb5⟩; have hS5 := HXB.out.up hb5; have hG5 := HGB.out.up hb5; have HB5 := Lib.hid (HB2.out.trans (hb5.mono HB2.out.size)); have d0 := hS5.cell 0 _ rfl; have d1 := hS5.cell 1 _ rfl; have d3 := hS5.cell 3 _ rfl; have d4 := hS5.cell 4 _ rfl; have d5 := hS5.cell 5 _ rfl; have d6 := hS5.cell 6 _ rfl; have c20 := hG5.cell 20 _ rfl; have HS5 := Lib.hid hS5; have HG5 := Lib.hid hG5; have HZ5 := Lib.hid (HZ2.out.up hb5); clear hb5 hS5 hG5)
    | (go_at_call 72; refine (HPR.out _).mono ?_; rintro e w6 ⟨rfl, hb6⟩; have hS6 := HS5.out.up hb6; have d6b := hS6.cell 6 _ rfl; have HB6 := Lib.hid (below_more HB5.out hb6); have HS6 := Lib.hid hS6; have HG6 := Lib.hid (HG5.out.up hb6); have HZ6 := Lib.hid (HZ5.out.up hb6); clear hb6 hS6))
   go_ret
   exact ⟨by first | rfl | simp, HB5.out⟩
  have e13 : decide (1 ≤ x.of_) = true := decide_eq_true g1
  have e14 : decide (x.of_ < 1) = false := decide_eq_false (by omega)
  rw [e13, Bool.true_and]
  cases tx
  ·rw [Bool.false_and]
   have HM9 : True := trivial
   go_enter Tryz.func51, Tryz.ntmps51
   go_wp2_with (first
    | (clear HM9; refine wpList_load_is rfl 29 _ rfl (.pointer (some ⟨s0, 0, none⟩)) rfl GV (HLG.out _ (Below.refl _ _)) ?_)
    | (go_at_call 16; refine (HGV.out _ HK2.out).mono ?_; rintro e w5 ⟨rfl, hb5⟩; have hS5 := HXB.out.up hb5; have hG5 := HGB.out.up hb5; have HB5 := Lib.hid (HB2.out.trans (hb5.mono HB2.out.size)); have d0 := hS5.cell 0 _ rfl; have d1 := hS5.cell 1 _ rfl; have d3 := hS5.cell 3 _ rfl; have d4 := hS5.cell 4 _ rfl; have d5 := hS5.cell 5 _ rfl; have d6 := hS5.cell 6 _ rfl; have c20 := hG5.cell 20 _ rfl; have HS5 := Lib.hid hS5; have HG5 := Lib.hid hG5; have HZ5 := Lib.hid (HZ2.out.up hb5); clear hb5 hS5 hG5)
    | (go_at_call 72; refine (HPR.out _).mono ?_; rintro e w6 ⟨rfl, hb6⟩; have hS6 := HS5.out.up hb6; have d6b := hS6.cell 6 _ rfl; have HB6 := Lib.hid (below_more HB5.out hb6); have HS6 := Lib.hid hS6; have HG6 := Lib.hid (HG5.out.up hb6); have HZ6 := Lib.hid (HZ5.out.up hb6); clear hb6 hS6))
   go_ret
   exact ⟨by first | rfl | simp, HB6.out⟩
  rw [Bool.true_and]
  rcases Nat.lt_or_ge x.n 2 with g2 | g2
  ·have f2 : decide (2 ≤ x.n) = false := decide_eq_false (by omega)
   have f3 : decide ((x.n : Int) < 2) = true := decide_eq_true (by omega)
   rw [f2, Bool.false_and]
   have HM9 : True := trivial
   go_enter Tryz.func51, Tryz.ntmps51
   go_wp2_with (first
    | (clear HM9; refine wpList_load_is rfl 29 _ rfl (.pointer (some ⟨s0, 0, none⟩)) rfl GV (HLG.out _ (Below.refl _ _)) ?_)
    | (go_at_call 16; refine (HGV.out _ HK2.out).mono ?_; rintro e w5 ⟨rfl, hb5⟩; have hS5 := HXB.out.up hb5; have hG5 := HGB.out.up hb5; have HB5 := Lib.hid (HB2.out.trans (hb5.mono HB2.out.size)); have d0 := hS5.cell 0 _ rfl; have d1 := hS5.cell 1 _ rfl; have d3 := hS5.cell 3 _ rfl; have d4 := hS5.cell 4 _ rfl; have d5 := hS5.cell 5 _ rfl; have d6 := hS5.cell 6 _ rfl; have c20 := hG5.cell 20 _ rfl; have HS5 := Lib.hid hS5; have HG5 := Lib.hid hG5; have HZ5 := Lib.hid (HZ2.out.up hb5); clear hb5 hS5 hG5)
    | (go_at_call 72; refine (HPR.out _).mono ?_; rintro e w6 ⟨rfl, hb6⟩; have hS6 := HS5.out.up hb6; have d6b := hS6.cell 6 _ rfl; have HB6 := Lib.hid (below_more HB5.out hb6); have HS6 := Lib.hid hS6; have HG6 := Lib.hid (HG5.out.up hb6); have HZ6 := Lib.hid (HZ5.out.up hb6); clear hb6 hS6))
   go_ret
   exact ⟨by first | rfl | simp, HB6.out⟩
  have f2 : decide (2 ≤ x.n) = true := decide_eq_true g2
  have f3 : decide ((x.n : Int) < 2) = false := decide_eq_false (by omega)
  rw [f2, Bool.true_and]
  rcases Nat.lt_or_ge 40 x.n with g4 | g4
  ·have f4 : decide (x.n ≤ 40) = false := decide_eq_false (by omega)
   have f5 : decide ((40 : Int) < (x.n : Int)) = true := decide_eq_true (by omega)
   rw [f4, Bool.false_and]
   have HM9 : True := trivial
   go_enter Tryz.func51, Tryz.ntmps51
   go_wp2_with (first
    | (clear HM9; refine wpList_load_is rfl 29 _ rfl (.pointer (some ⟨s0, 0, none⟩)) rfl GV (HLG.out _ (Below.refl _ _)) ?_)
    | (go_at_call 16; refine (HGV.out _ HK2.out).mono ?_; rintro e w5 ⟨rfl, hb5⟩; have hS5 := HXB.out.up hb5; have hG5 := HGB.out.up hb5; have HB5 := Lib.hid (HB2.out.trans (hb5.mono HB2.out.size)); have d0 := hS5.cell 0 _ rfl; have d1 := hS5.cell 1 _ rfl; have d3 := hS5.cell 3 _ rfl; have d4 := hS5.cell 4 _ rfl; have d5 := hS5.cell 5 _ rfl; have d6 := hS5.cell 6 _ rfl; have c20 := hG5.cell 20 _ rfl; have HS5 := Lib.hid hS5; have HG5 := Lib.hid hG5; have HZ5 := Lib.hid (HZ2.out.up hb5); clear hb5 hS5 hG5)
    | (go_at_call 72; refine (HPR.out _).mono ?_; rintro e w6 ⟨rfl, hb6⟩; have hS6 := HS5.out.up hb6; have d6b := hS6.cell 6 _ rfl; have HB6 := Lib.hid (below_more HB5.out hb6); have HS6 := Lib.hid hS6; have HG6 := Lib.hid (HG5.out.up hb6); have HZ6 := Lib.hid (HZ5.out.up hb6); clear hb6 hS6))
   go_ret
   exact ⟨by first | rfl | simp, HB6.out⟩
  have f4 : decide (x.n ≤ 40) = true := decide_eq_true g4
  have f5 : decide ((40 : Int) < (x.n : Int)) = false := decide_eq_false (by omega)
  rw [f4, Bool.true_and]
  skip
  obtain ⟨q9, hq9⟩ : ∃ q9, X.all (lnB g x.ent) = q9 := ⟨_, rfl⟩
  rw [hq9]
  have HQ9 := Lib.hid hq9
  clear hq9
  have HM9 : True := trivial
  go_enter Tryz.func51, Tryz.ntmps51
  go_wp2_with (first
   | (clear HM9; refine wpList_load_is rfl 29 _ rfl (.pointer (some ⟨s0, 0, none⟩)) rfl GV (HLG.out _ (Below.refl _ _)) ?_)
   | (go_at_call 16; refine (HGV.out _ HK2.out).mono ?_; rintro e w5 ⟨rfl, hb5⟩; have hS5 := HXB.out.up hb5; have hG5 := HGB.out.up hb5; have HB5 := Lib.hid (HB2.out.trans (hb5.mono HB2.out.size)); have d0 := hS5.cell 0 _ rfl; have d1 := hS5.cell 1 _ rfl; have d3 := hS5.cell 3 _ rfl; have d4 := hS5.cell 4 _ rfl; have d5 := hS5.cell 5 _ rfl; have d6 := hS5.cell 6 _ rfl; have c20 := hG5.cell 20 _ rfl; have HS5 := Lib.hid hS5; have HG5 := Lib.hid hG5; have HZ5 := Lib.hid (HZ2.out.up hb5); clear hb5 hS5 hG5)
   | (go_at_call 72; refine (HPR.out _).mono ?_; rintro e w6 ⟨rfl, hb6⟩; have hS6 := HS5.out.up hb6; have d6b := hS6.cell 6 _ rfl; have HB6 := Lib.hid (below_more HB5.out hb6); have HS6 := Lib.hid hS6; have HG6 := Lib.hid (HG5.out.up hb6); have HZ6 := Lib.hid (HZ5.out.up hb6); clear hb6 hS6))
  go_loopg [5] x.n (fun kx s5 wr => ∃ k : Nat, s5 = .int .i64 k ∧ k ≤ x.n ∧ x.n - k ≤ kx ∧ Hid ((X.take k).all (lnB g x.ent) = true) ∧ Below w6.heap.size w6 wr)
  case atStart => exact ⟨0, rfl, by omega, by omega, Lib.hid rfl, Below.refl _ _⟩
  case round =>
   clear d0 d1 d3 d4 d5 d6 d6b c20
   obtain ⟨k, rfl, hk, hkx, HT, hBi⟩ := hrel
   have hxb := HS6.out.up hBi
   have e6 := hxb.cell 6 _ rfl
   have HXB := Lib.hid hxb
   have HBI := Lib.hid hBi
   have HLG : Hid (∀ w9, Below wr.heap.size wr w9 → (Instr.loadAt 29 (.pointer (some ⟨s0, 0, none⟩))).run Tryz.prog w9 = .ok GV w9) := Lib.hid (fun w9 h9 => HLL.out w9 ((HG6.out.up hBi).up h9))
   have HZw := Lib.hid (HZ6.out.up hBi)
   clear hxb hBi
   by_cases hlt : k < x.n
   ·have hltz : (k : Int) < (x.n : Int) := by omega
    obtain ⟨bb, off, hA, hbw, hcs⟩ := HZw.out (by rw [HN.out]; omega)
    have hkl : k < X.length := by rw [HN.out]; exact hlt
    have hlc := hcs k hkl
    have hst : (X.take (k + 1)).all (lnB g x.ent) = lnB g x.ent (X.getD k lnk0) := by
     rw [take_succ_getD (d := lnk0) hkl, List.all_append, HT.out, List.all_cons, List.all_nil, Bool.true_and, Bool.and_true]
    have hno := fun h => all_no (p := lnB g x.ent) hkl h
    generalize X.getD k lnk0 = l at *
    have HLN := Lib.hid (fun W => rline_any g x.ent l GV HGV0.out W)
    have HX6 : Hid ((etyC x)[6]? = some (.slice (some ⟨bb, off, none⟩) x.n x.c)) := Lib.hid (by rw [← hA]; rfl)
    clear hA
    have HLC := Lib.hid hlc
    have HBL := Lib.hid hbw
    have HZK := Lib.hid hltz
    have HST := Lib.hid hst
    have HNO := Lib.hid hno
    generalize lnB g x.ent l = q at *
    clear hst hno hcs hlc hbw
    go_wp2_with fail
    refine AS.region_facts (shpFa GV x l bb off k s0 q) (HNo wr) [[], [], [81], [], [83], [], [84, 85], [86], [80, 82, 87], [88]] [] [[]] [0, 0, 0, 0, 0, 0, 0, 0, 0, 0] [] (fun u => by simp only [shpFa, AS.temps, List.map_cons, List.map_nil, fillL, List.setIfInBounds_toArray, List.set_cons_zero, List.set_cons_succ]; rfl) (by kernel_rfl) (by kernel_rfl) (HNo.st wr) (dc_drew (Below.refl _ _)) ?_ ?_
    ·refine AS.sc rfl rfl rfl ?_ ?_
     ·intro k_ u w_ hk_ hJ hF K hK
      have hJ0 : Below wr.heap.size wr w_ := hJ
      clear hF
      refine wp_load_is 29 _ rfl (.pointer (some ⟨s0, 0, none⟩)) rfl GV (HLG.out _ hJ0) ?_
      exact hK.out _ _ bR (rfl) trivial
     refine AS.sc rfl rfl rfl ?_ ?_
     ·intro k_ u w_ hk_ hJ hF K hK
      clear hF
      go_simp
      exact hK.out _ _ bR (rfl) trivial
     refine AS.sc rfl rfl rfl ?_ ?_
     ·intro k_ u w_ hk_ hJ hF K hK
      have h81 : u 81 = .pointer (some ⟨s0 + 1, 1, none⟩) := AS.facts_get hF 81 (by simp)
      have hJ0 : Below wr.heap.size wr w_ := hJ
      clear hF
      simp only [h81] at hK ⊢
      clear h81
      have c19 := (HXB.out.up hJ0).cell 1 _ rfl
      go_simp
      exact hK.out _ _ bR (rfl) trivial
     refine AS.sc rfl rfl rfl ?_ ?_
     ·intro k_ u w_ hk_ hJ hF K hK
      clear hF
      go_simp
      exact hK.out _ _ bR (rfl) trivial
     refine AS.sc rfl rfl rfl ?_ ?_
     ·intro k_ u w_ hk_ hJ hF K hK
      have h83 : u 83 = .pointer (some ⟨s0 + 1, 6, none⟩) := AS.facts_get hF 83 (by simp)
      have hJ0 : Below wr.heap.size wr w_ := hJ
      clear hF
      simp only [h83] at hK ⊢
      clear h83
      have c69 := (HXB.out.up hJ0).cell 6 _ HX6.out
      go_simp
      exact hK.out _ _ bR (rfl) trivial
     refine AS.sc rfl rfl rfl ?_ ?_
     ·intro k_ u w_ hk_ hJ hF K hK
      clear hF
      go_simp
      exact hK.out _ _ bR (rfl) trivial
     refine AS.sc rfl rfl rfl ?_ ?_
     ·intro k_ u w_ hk_ hJ hF K hK
      have h84 : u 84 = .slice (some ⟨bb, off, none⟩) x.n x.c := AS.facts_get hF 84 (by simp)
      have h85 : u 85 = .int .i64 k := AS.facts_get hF 85 (by simp)
      clear hF
      simp only [h84, h85] at hK ⊢
      clear h84 h85
      have hz9 := HZK.out
      go_simp
      exact hK.out _ _ bR (rfl) trivial
     refine AS.sc rfl rfl rfl ?_ ?_
     ·intro k_ u w_ hk_ hJ hF K hK
      have h86 : u 86 = .pointer (some ⟨bb, off + k * 3, none⟩) := AS.facts_get hF 86 (by simp)
      have hJ0 : Below wr.heap.size wr w_ := hJ
      clear hF
      simp only [h86] at hK ⊢
      clear h86
      obtain ⟨z0, z1, z2⟩ := HLC.out.up hJ0 HBL.out
      go_simp
      exact hK.out _ _ bR (rfl) trivial
     refine AS.sc rfl rfl rfl ?_ ?_
     ·intro k_ u w_ hk_ hJ hF K hK
      have h80 : u 80 = GV := AS.facts_get hF 80 (by simp)
      have h82 : u 82 = .int .i64 x.ent := AS.facts_get hF 82 (by simp)
      have h87 : u 87 = .agg #[.int .i64 l.frm, .int .i64 l.tgt, .int .i64 l.since] := AS.facts_get hF 87 (by simp)
      clear hF
      simp only [h80, h82, h87] at hK ⊢
      clear h80 h82 h87
      go_simp
      refine (HLN.out _).mono ?_
      rintro e w3 ⟨rfl, hb⟩
      exact hK.out _ _ hb (rfl) trivial
     refine AS.sc rfl rfl rfl ?_ ?_
     ·intro k_ u w_ hk_ hJ hF K hK
      have h88 : u 88 = .bool q := AS.facts_get hF 88 (by simp)
      clear hF
      simp only [h88] at hK ⊢
      clear h88
      go_simp
      exact hK.out _ _ bR (rfl) trivial
     exact AS.StepsOk.nil
    ·intro u W9 hJ9 hF
     have h89 : u 89 = .bool (!q) := AS.facts_get hF 89 (by simp [shpFa, AS.temps])
     have hB9 : Below wr.heap.size wr W9 := hJ9
     clear hF hJ9
     generalize W9 = W8 at *
     cases q
     ·replace h89 : u 89 = .bool true := h89
      simp only [h89]
      have E : Hid (q9 = false) := Lib.hid (by rw [← HQ9.out]; exact HNO.out rfl)
      go_wp2_with fail
      go_ret
      exact ⟨by rw [E.out]; rfl, by first | exact HB6.out.trans ((HBI.out.trans (hB9.mono HBI.out.size)).mono (by have := HB6.out.size; omega)) | (rw [← HS0.out]; exact HB6.out.trans ((HBI.out.trans (hB9.mono HBI.out.size)).mono (by have := HB6.out.size; omega)))⟩
     ·replace h89 : u 89 = .bool false := h89
      simp only [h89]
      have HT2 : Hid ((X.take (k + 1)).all (lnB g x.ent) = true) := Lib.hid HST.out
      go_wp2_with fail
      go_roundg (x.n - (k + 1))
      case measure => omega
      case rel => exact ⟨k + 1, by go_num, by omega, by omega, HT2, HBI.out.trans (hB9.mono HBI.out.size)⟩
   ·obtain rfl : k = x.n := by omega
    have hltz : ¬ (x.n : Int) < (x.n : Int) := by omega
    have E : Hid (q9 = true) := Lib.hid (by rw [← HQ9.out]; have h9 := HT.out; rwa [show X.take x.n = X by rw [← HN.out, List.take_length]] at h9)
    go_wp2_with fail
    go_ret
    exact ⟨by rw [E.out]; rfl, by first | exact HB6.out.trans (HBI.out.mono (by have := HB6.out.size; omega)) | (rw [← HS0.out]; exact HB6.out.trans (HBI.out.mono (by have := HB6.out.size; omega)))⟩
 ·have e11 : (x.kind == 3) = false := by simp [hk3]
  have e12 : (x.kind != 3) = true := by simp [hk3]
  rw [if_neg hk3]
  clear hk3
  by_cases hof : x.of_ = 0
  ·have e13 : decide (x.of_ = 0) = true := decide_eq_true hof
   have e14 : (x.of_ != 0) = false := by simp [hof]
   rw [e13, Bool.true_and]
   clear hof
   cases tx
   ·rw [Bool.false_and]
    have HM9 : True := trivial
    go_enter Tryz.func51, Tryz.ntmps51
    go_wp2_with (first
     | (clear HM9; refine wpList_load_is rfl 29 _ rfl (.pointer (some ⟨s0, 0, none⟩)) rfl GV (HLG.out _ (Below.refl _ _)) ?_)
     | (go_at_call 16; refine (HGV.out _ HK2.out).mono ?_; rintro e w5 ⟨rfl, hb5⟩; have hS5 := HXB.out.up hb5; have hG5 := HGB.out.up hb5; have HB5 := Lib.hid (HB2.out.trans (hb5.mono HB2.out.size)); have d0 := hS5.cell 0 _ rfl; have d1 := hS5.cell 1 _ rfl; have d3 := hS5.cell 3 _ rfl; have d4 := hS5.cell 4 _ rfl; have d5 := hS5.cell 5 _ rfl; have d6 := hS5.cell 6 _ rfl; have c20 := hG5.cell 20 _ rfl; have HS5 := Lib.hid hS5; have HG5 := Lib.hid hG5; have HZ5 := Lib.hid (HZ2.out.up hb5); clear hb5 hS5 hG5)
     | (go_at_call 72; refine (HPR.out _).mono ?_; rintro e w6 ⟨rfl, hb6⟩; have hS6 := HS5.out.up hb6; have d6b := hS6.cell 6 _ rfl; have HB6 := Lib.hid (below_more HB5.out hb6); have HS6 := Lib.hid hS6; have HG6 := Lib.hid (HG5.out.up hb6); have HZ6 := Lib.hid (HZ5.out.up hb6); clear hb6 hS6))
    go_ret
    exact ⟨by first | rfl | simp, HB6.out⟩
   rw [Bool.true_and]
   rcases Nat.lt_or_ge x.n 2 with g2 | g2
   ·have f2 : decide (2 ≤ x.n) = false := decide_eq_false (by omega)
    have f3 : decide ((x.n : Int) < 2) = true := decide_eq_true (by omega)
    rw [f2, Bool.false_and]
    have HM9 : True := trivial
    go_enter Tryz.func51, Tryz.ntmps51
    go_wp2_with (first
     | (clear HM9; refine wpList_load_is rfl 29 _ rfl (.pointer (some ⟨s0, 0, none⟩)) rfl GV (HLG.out _ (Below.refl _ _)) ?_)
     | (go_at_call 16; refine (HGV.out _ HK2.out).mono ?_; rintro e w5 ⟨rfl, hb5⟩; have hS5 := HXB.out.up hb5; have hG5 := HGB.out.up hb5; have HB5 := Lib.hid (HB2.out.trans (hb5.mono HB2.out.size)); have d0 := hS5.cell 0 _ rfl; have d1 := hS5.cell 1 _ rfl; have d3 := hS5.cell 3 _ rfl; have d4 := hS5.cell 4 _ rfl; have d5 := hS5.cell 5 _ rfl; have d6 := hS5.cell 6 _ rfl; have c20 := hG5.cell 20 _ rfl; have HS5 := Lib.hid hS5; have HG5 := Lib.hid hG5; have HZ5 := Lib.hid (HZ2.out.up hb5); clear hb5 hS5 hG5)
     | (go_at_call 72; refine (HPR.out _).mono ?_; rintro e w6 ⟨rfl, hb6⟩; have hS6 := HS5.out.up hb6; have d6b := hS6.cell 6 _ rfl; have HB6 := Lib.hid (below_more HB5.out hb6); have HS6 := Lib.hid hS6; have HG6 := Lib.hid (HG5.out.up hb6); have HZ6 := Lib.hid (HZ5.out.up hb6); clear hb6 hS6))
    go_ret
    exact ⟨by first | rfl | simp, HB6.out⟩
   have f2 : decide (2 ≤ x.n) = true := decide_eq_true g2
   have f3 : decide ((x.n : Int) < 2) = false := decide_eq_false (by omega)
   rw [f2, Bool.true_and]
   rcases Nat.lt_or_ge 40 x.n with g4 | g4
   ·have f4 : decide (x.n ≤ 40) = false := decide_eq_false (by omega)
    have f5 : decide ((40 : Int) < (x.n : Int)) = true := decide_eq_true (by omega)
    rw [f4, Bool.false_and]
    have HM9 : True := trivial
    go_enter Tryz.func51, Tryz.ntmps51
    go_wp2_with (first
     | (clear HM9; refine wpList_load_is rfl 29 _ rfl (.pointer (some ⟨s0, 0, none⟩)) rfl GV (HLG.out _ (Below.refl _ _)) ?_)
     | (go_at_call 16; refine (HGV.out _ HK2.out).mono ?_; rintro e w5 ⟨rfl, hb5⟩; have hS5 := HXB.out.up hb5; have hG5 := HGB.out.up hb5; have HB5 := Lib.hid (HB2.out.trans (hb5.mono HB2.out.size)); have d0 := hS5.cell 0 _ rfl; have d1 := hS5.cell 1 _ rfl; have d3 := hS5.cell 3 _ rfl; have d4 := hS5.cell 4 _ rfl; have d5 := hS5.cell 5 _ rfl; have d6 := hS5.cell 6 _ rfl; have c20 := hG5.cell 20 _ rfl; have HS5 := Lib.hid hS5; have HG5 := Lib.hid hG5; have HZ5 := Lib.hid (HZ2.out.up hb5); clear hb5 hS5 hG5)
     | (go_at_call 72; refine (HPR.out _).mono ?_; rintro e w6 ⟨rfl, hb6⟩; have hS6 := HS5.out.up hb6; have d6b := hS6.cell 6 _ rfl; have HB6 := Lib.hid (below_more HB5.out hb6); have HS6 := Lib.hid hS6; have HG6 := Lib.hid (HG5.out.up hb6); have HZ6 := Lib.hid (HZ5.out.up hb6); clear hb6 hS6))
    go_ret
    exact ⟨by first | rfl | simp, HB6.out⟩
   have f4 : decide (x.n ≤ 40) = true := decide_eq_true g4
   have f5 : decide ((40 : Int) < (x.n : Int)) = false := decide_eq_false (by omega)
   rw [f4, Bool.true_and]
   skip
   obtain ⟨q9, hq9⟩ : ∃ q9, X.all (lnB g x.ent) = q9 := ⟨_, rfl⟩
   rw [hq9]
   have HQ9 := Lib.hid hq9
   clear hq9
   have HM9 : True := trivial
   go_enter Tryz.func51, Tryz.ntmps51
   go_wp2_with (first
    | (clear HM9; refine wpList_load_is rfl 29 _ rfl (.pointer (some ⟨s0, 0, none⟩)) rfl GV (HLG.out _ (Below.refl _ _)) ?_)
    | (go_at_call 16; refine (HGV.out _ HK2.out).mono ?_; rintro e w5 ⟨rfl, hb5⟩; have hS5 := HXB.out.up hb5; have hG5 := HGB.out.up hb5; have HB5 := Lib.hid (HB2.out.trans (hb5.mono HB2.out.size)); have d0 := hS5.cell 0 _ rfl; have d1 := hS5.cell 1 _ rfl; have d3 := hS5.cell 3 _ rfl; have d4 := hS5.cell 4 _ rfl; have d5 := hS5.cell 5 _ rfl; have d6 := hS5.cell 6 _ rfl; have c20 := hG5.cell 20 _ rfl; have HS5 := Lib.hid hS5; have HG5 := Lib.hid hG5; have HZ5 := Lib.hid (HZ2.out.up hb5); clear hb5 hS5 hG5)
    | (go_at_call 72; refine (HPR.out _).mono ?_; rintro e w6 ⟨rfl, hb6⟩; have hS6 := HS5.out.up hb6; have d6b := hS6.cell 6 _ rfl; have HB6 := Lib.hid (below_more HB5.out hb6); have HS6 := Lib.hid hS6; have HG6 := Lib.hid (HG5.out.up hb6); have HZ6 := Lib.hid (HZ5.out.up hb6); clear hb6 hS6))
   go_loopg [5] x.n (fun kx s5 wr => ∃ k : Nat, s5 = .int .i64 k ∧ k ≤ x.n ∧ x.n - k ≤ kx ∧ Hid ((X.take k).all (lnB g x.ent) = true) ∧ Below w6.heap.size w6 wr)
   case atStart => exact ⟨0, rfl, by omega, by omega, Lib.hid rfl, Below.refl _ _⟩
   case round =>
    clear d0 d1 d3 d4 d5 d6 d6b c20
    obtain ⟨k, rfl, hk, hkx, HT, hBi⟩ := hrel
    have hxb := HS6.out.up hBi
    have e6 := hxb.cell 6 _ rfl
    have HXB := Lib.hid hxb
    have HBI := Lib.hid hBi
    have HLG : Hid (∀ w9, Below wr.heap.size wr w9 → (Instr.loadAt 29 (.pointer (some ⟨s0, 0, none⟩))).run Tryz.prog w9 = .ok GV w9) := Lib.hid (fun w9 h9 => HLL.out w9 ((HG6.out.up hBi).up h9))
    have HZw := Lib.hid (HZ6.out.up hBi)
    clear hxb hBi
    by_cases hlt : k < x.n
    ·have hltz : (k : Int) < (x.n : Int) := by omega
     obtain ⟨bb, off, hA, hbw, hcs⟩ := HZw.out (by rw [HN.out]; omega)
     have hkl : k < X.length := by rw [HN.out]; exact hlt
     have hlc := hcs k hkl
     have hst : (X.take (k + 1)).all (lnB g x.ent) = lnB g x.ent (X.getD k lnk0) := by
      rw [take_succ_getD (d := lnk0) hkl, List.all_append, HT.out, List.all_cons, List.all_nil, Bool.true_and, Bool.and_true]
     have hno := fun h => all_no (p := lnB g x.ent) hkl h
     generalize X.getD k lnk0 = l at *
     have HLN := Lib.hid (fun W => rline_any g x.ent l GV HGV0.out W)
     have HX6 : Hid ((etyC x)[6]? = some (.slice (some ⟨bb, off, none⟩) x.n x.c)) := Lib.hid (by rw [← hA]; rfl)
     clear hA
     have HLC := Lib.hid hlc
     have HBL := Lib.hid hbw
     have HZK := Lib.hid hltz
     have HST := Lib.hid hst
     have HNO := Lib.hid hno
     generalize lnB g x.ent l = q at *
     clear hst hno hcs hlc hbw
     go_wp2_with fail
     refine AS.region_facts (shpFa GV x l bb off k s0 q) (HNo wr) [[], [], [81], [], [83], [], [84, 85], [86], [80, 82, 87], [88]] [] [[]] [0, 0, 0, 0, 0, 0, 0, 0, 0, 0] [] (fun u => by simp only [shpFa, AS.temps, List.map_cons, List.map_nil, fillL, List.setIfInBounds_toArray, List.set_cons_zero, List.set_cons_succ]; rfl) (by kernel_rfl) (by kernel_rfl) (HNo.st wr) (dc_drew (Below.refl _ _)) ?_ ?_
     ·refine AS.sc rfl rfl rfl ?_ ?_
      ·intro k_ u w_ hk_ hJ hF K hK
       have hJ0 : Below wr.heap.size wr w_ := hJ
       clear hF
       refine wp_load_is 29 _ rfl (.pointer (some ⟨s0, 0, none⟩)) rfl GV (HLG.out _ hJ0) ?_
       exact hK.out _ _ bR (rfl) trivial
      refine AS.sc rfl rfl rfl ?_ ?_
      ·intro k_ u w_ hk_ hJ hF K hK
       clear hF
       go_simp
       exact hK.out _ _ bR (rfl) trivial
      refine AS.sc rfl rfl rfl ?_ ?_
      ·intro k_ u w_ hk_ hJ hF K hK
       have h81 : u 81 = .pointer (some ⟨s0 + 1, 1, none⟩) := AS.facts_get hF 81 (by simp)
       have hJ0 : Below wr.heap.size wr w_ := hJ
       clear hF
       simp only [h81] at hK ⊢
       clear h81
       have c19 := (HXB.out.up hJ0).cell 1 _ rfl
       go_simp
       exact hK.out _ _ bR (rfl) trivial
      refine AS.sc rfl rfl rfl ?_ ?_
      ·intro k_ u w_ hk_ hJ hF K hK
       clear hF
       go_simp
       exact hK.out _ _ bR (rfl) trivial
      refine AS.sc rfl rfl rfl ?_ ?_
      ·intro k_ u w_ hk_ hJ hF K hK
       have h83 : u 83 = .pointer (some ⟨s0 + 1, 6, none⟩) := AS.facts_get hF 83 (by simp)
       have hJ0 : Below wr.heap.size wr w_ := hJ
       clear hF
       simp only [h83] at hK ⊢
       clear h83
       have c69 := (HXB.out.up hJ0).cell 6 _ HX6.out
       go_simp
       exact hK.out _ _ bR (rfl) trivial
      refine AS.sc rfl rfl rfl ?_ ?_
      ·intro k_ u w_ hk_ hJ hF K hK
       clear hF
       go_simp
       exact hK.out _ _ bR (rfl) trivial
      refine AS.sc rfl rfl rfl ?_ ?_
      ·intro k_ u w_ hk_ hJ hF K hK
       have h84 : u 84 = .slice (some ⟨bb, off, none⟩) x.n x.c := AS.facts_get hF 84 (by simp)
       have h85 : u 85 = .int .i64 k := AS.facts_get hF 85 (by simp)
       clear hF
       simp only [h84, h85] at hK ⊢
       clear h84 h85
       have hz9 := HZK.out
       go_simp
       exact hK.out _ _ bR (rfl) trivial
      refine AS.sc rfl rfl rfl ?_ ?_
      ·intro k_ u w_ hk_ hJ hF K hK
       have h86 : u 86 = .pointer (some ⟨bb, off + k * 3, none⟩) := AS.facts_get hF 86 (by simp)
       have hJ0 : Below wr.heap.size wr w_ := hJ
       clear hF
       simp only [h86] at hK ⊢
       clear h86
       obtain ⟨z0, z1, z2⟩ := HLC.out.up hJ0 HBL.out
       go_simp
       exact hK.out _ _ bR (rfl) trivial
      refine AS.sc rfl rfl rfl ?_ ?_
      ·intro k_ u w_ hk_ hJ hF K hK
       have h80 : u 80 = GV := AS.facts_get hF 80 (by simp)
       have h82 : u 82 = .int .i64 x.ent := AS.facts_get hF 82 (by simp)
       have h87 : u 87 = .agg #[.int .i64 l.frm, .int .i64 l.tgt, .int .i64 l.since] := AS.facts_get hF 87 (by simp)
       clear hF
       simp only [h80, h82, h87] at hK ⊢
       clear h80 h82 h87
       go_simp
       refine (HLN.out _).mono ?_
       rintro e w3 ⟨rfl, hb⟩
       exact hK.out _ _ hb (rfl) trivial
      refine AS.sc rfl rfl rfl ?_ ?_
      ·intro k_ u w_ hk_ hJ hF K hK
       have h88 : u 88 = .bool q := AS.facts_get hF 88 (by simp)
       clear hF
       simp only [h88] at hK ⊢
       clear h88
       go_simp
       exact hK.out _ _ bR (rfl) trivial
      exact AS.StepsOk.nil
     ·intro u W9 hJ9 hF
      have h89 : u 89 = .bool (!q) := AS.facts_get hF 89 (by simp [shpFa, AS.temps])
      have hB9 : Below wr.heap.size wr W9 := hJ9
      clear hF hJ9
      generalize W9 = W8 at *
      cases q
      ·replace h89 : u 89 = .bool true := h89
       simp only [h89]
       have E : Hid (q9 = false) := Lib.hid (by rw [← HQ9.out]; exact HNO.out rfl)
       go_wp2_with fail
       go_ret
       exact ⟨by rw [E.out]; rfl, by first | exact HB6.out.trans ((HBI.out.trans (hB9.mono HBI.out.size)).mono (by have := HB6.out.size; omega)) | (rw [← HS0.out]; exact HB6.out.trans ((HBI.out.trans (hB9.mono HBI.out.size)).mono (by have := HB6.out.size; omega)))⟩
      ·replace h89 : u 89 = .bool false := h89
       simp only [h89]
       have HT2 : Hid ((X.take (k + 1)).all (lnB g x.ent) = true) := Lib.hid HST.out
       go_wp2_with fail
       go_roundg (x.n - (k + 1))
       case measure => omega
       case rel => exact ⟨k + 1, by go_num, by omega, by omega, HT2, HBI.out.trans (hB9.mono HBI.out.size)⟩
    ·obtain rfl : k = x.n := by omega
     have hltz : ¬ (x.n : Int) < (x.n : Int) := by omega
     have E : Hid (q9 = true) := Lib.hid (by rw [← HQ9.out]; have h9 := HT.out; rwa [show X.take x.n = X by rw [← HN.out, List.take_length]] at h9)
     go_wp2_with fail
     go_ret
     exact ⟨by rw [E.out]; rfl, by first | exact HB6.out.trans (HBI.out.mono (by have := HB6.out.size; omega)) | (rw [← HS0.out]; exact HB6.out.trans (HBI.out.mono (by have := HB6.out.size; omega)))⟩
  ·have e13 : decide (x.of_ = 0) = false := decide_eq_false hof
   have e14 : (x.of_ != 0) = true := by simp [hof]
   rw [e13, Bool.false_and]
   clear hof
   have HM9 : True := trivial
   go_enter Tryz.func51, Tryz.ntmps51
   go_wp2_with (first
    | (clear HM9; refine wpList_load_is rfl 29 _ rfl (.pointer (some ⟨s0, 0, none⟩)) rfl GV (HLG.out _ (Below.refl _ _)) ?_)
    | (go_at_call 16; refine (HGV.out _ HK2.out).mono ?_; rintro e w5 ⟨rfl, hb5⟩; have hS5 := HXB.out.up hb5; have hG5 := HGB.out.up hb5; have HB5 := Lib.hid (HB2.out.trans (hb5.mono HB2.out.size)); have d0 := hS5.cell 0 _ rfl; have d1 := hS5.cell 1 _ rfl; have d3 := hS5.cell 3 _ rfl; have d4 := hS5.cell 4 _ rfl; have d5 := hS5.cell 5 _ rfl; have d6 := hS5.cell 6 _ rfl; have c20 := hG5.cell 20 _ rfl; have HS5 := Lib.hid hS5; have HG5 := Lib.hid hG5; have HZ5 := Lib.hid (HZ2.out.up hb5); clear hb5 hS5 hG5)
    | (go_at_call 72; refine (HPR.out _).mono ?_; rintro e w6 ⟨rfl, hb6⟩; have hS6 := HS5.out.up hb6; have d6b := hS6.cell 6 _ rfl; have HB6 := Lib.hid (below_more HB5.out hb6); have HS6 := Lib.hid hS6; have HG6 := Lib.hid (HG5.out.up hb6); have HZ6 := Lib.hid (HZ5.out.up hb6); clear hb6 hS6))
   go_ret
   exact ⟨by first | rfl | simp, HB5.out⟩
set_option maxRecDepth 100000 in
set_option maxHeartbeats 1600000 in
theorem cd_build (g : Grp) (x : Ety) (w : World) : (Instr.build 136 #[(0, grpV g), (1, etyV x)]).run Tryz.prog w = .ok (cdV g x) w := by
 exact run_build w 136 _ _ (by kernel_rfl)
def fst6 (r0 r1 r2 r3 r4 r5 : Int) : Int := if r0 = 0 then (if r1 = 0 then (if r2 = 0 then (if r3 = 0 then (if r4 = 0 then (r5) else r4) else r3) else r2) else r1) else r0
def hdN (g : Grp) (x : Ety) (L : List Acc) (G : List Ent) : Int := if (grpP g L G && (decide (1 ≤ x.id) && (entIn g x.ent && orgB x.kind x.of_))) = true then 0 else 1
def blN (X : List Lnk) : Int := if wr (sumT X) = 0 then 0 else 11
def chkN (g : Grp) (x : Ety) (X : List Lnk) (L : List Acc) (G : List Ent) : Int := fst6 (hdN g x L G) (erB (txtB x.txt)) (erB (lsB g x.ent X)) (er17 (acB (G.getD x.ent.toNat ent0).L X)) (prE g.cy g.cm g.cp x.day) (blN X)
theorem hdN_ent {g : Grp} {x : Ety} {L : List Acc} {G : List Ent} (h : hdN g x L G = 0) : entIn g x.ent = true := by
 unfold hdN at h
 split at h
 ·rename_i h1
  simp only [Bool.and_eq_true] at h1
  exact h1.2.2.1
 ·cases h
theorem echecks_any (w : World) : Calls Tryz.prog 91 #[] w fun e w' => e = .returned (.slice (some ⟨w.heap.size, 0, none⟩) 6 6) ∧ w' = w.alloc (.cells #[.func (.func 111) #[] #[], .func (.func 112) #[] #[], .func (.func 113) #[] #[], .func (.func 114) #[] #[], .func (.func 115) #[] #[], .func (.func 116) #[] #[]] 134) := by
 go_enter Tryz.func91, Tryz.ntmps91
 go_wp2_with fail
 go_ret
 exact ⟨rfl, rfl⟩
set_option maxRecDepth 100000 in
set_option maxHeartbeats 6400000 in
theorem gcheck_any (g : Grp) (x : Ety) (X : List Lnk) (L : List Acc) (G : List Ent) (w : World) (hk : GrK w g L G) (hs : Sm g G) (hw : GrW g L G) (hx : EtyK w x X) (hn : x.n ≤ 1000) : Calls Tryz.prog 70 #[grpV g, etyV x] w fun e w' => e = .returned (.int .i64 (chkN g x X L G)) ∧ Below w.heap.size w w' := by
 obtain ⟨V, hV⟩ : ∃ V, V = cdV g x := ⟨_, rfl⟩
 have H0 := Lib.hid (fun W (h : Below w.heap.size w W) => ghead_any g x L G V hV W (hk.up h) hs hw)
 have H1 := Lib.hid (fun W (_ : Below w.heap.size w W) => gtext_any g x V hV W)
 have H2 := Lib.hid (fun W (h : Below w.heap.size w W) => glines_any g x X V hV W (hx.up h) hn)
 have H3 := Lib.hid (fun he W (h : Below w.heap.size w W) => gaccs_any g x X L G V hV W (hk.up h) hs (hx.up h) hn he)
 have H4 := Lib.hid (fun W (_ : Below w.heap.size w W) => gdate_any g x V hV W)
 have H5 := Lib.hid (fun W (h : Below w.heap.size w W) => gbal_any g x X V hV W (hx.up h) hn)
 have HE := Lib.hid (hdN_ent (g := g) (x := x) (L := L) (G := G))
 have e0 : (if (grpP g L G && (decide (1 ≤ x.id) && (entIn g x.ent && orgB x.kind x.of_))) = true then 0 else 1 : Int) = hdN g x L G := rfl
 have e5 : (if wr (sumT X) = 0 then 0 else 11 : Int) = blN X := rfl
 rw [e0] at H0
 rw [e5] at H5
 have hc : chkN g x X L G = fst6 (hdN g x L G) (erB (txtB x.txt)) (erB (lsB g x.ent X)) (er17 (acB (G.getD x.ent.toNat ent0).L X)) (prE g.cy g.cm g.cp x.day) (blN X) := rfl
 rw [hc]
 clear e0 e5 hc
 generalize hdN g x L G = r0 at *
 generalize erB (txtB x.txt) = r1 at *
 generalize erB (lsB g x.ent X) = r2 at *
 generalize er17 (acB (G.getD x.ent.toNat ent0).L X) = r3 at *
 generalize prE g.cy g.cm g.cp x.day = r4 at *
 generalize blN X = r5 at *
 generalize entIn g x.ent = en at *
 obtain ⟨GV, hGV⟩ : ∃ GV, GV = grpV g := ⟨_, rfl⟩
 obtain ⟨XV, hXV⟩ : ∃ XV, XV = etyV x := ⟨_, rfl⟩
 have HBD := Lib.hid (fun W => cd_build g x W)
 rw [← hGV, ← hXV, ← hV] at HBD
 have HGV := Lib.hid hGV
 have HXV := Lib.hid hXV
 have HV := Lib.hid hV
 rw [grpV_is]
 obtain ⟨gs, hgs⟩ : ∃ gs, (grpC g).toArray = gs := ⟨_, rfl⟩
 obtain ⟨xs, hxs⟩ : ∃ xs, (etyC x).toArray = xs := ⟨_, rfl⟩
 have hxV : etyV x = .agg xs := by rw [etyV_is, hxs]
 rw [hgs, hxV]
 obtain ⟨w2, hw2⟩ : ∃ w2, (w.alloc (.cells gs 29)).alloc (.cells xs 42) = w2 := ⟨_, rfl⟩
 have HG2 : Hid (Rg w2 w.heap.size (grpC g)) := Lib.hid (by rw [← hw2, ← hgs]; exact (rg_new w _ _).up (below_alloc_new _))
 have HX2 : Hid (Rg w2 (w.heap.size + 1) (etyC x)) := Lib.hid (by
  rw [← hw2, ← hxs]
  have h9 := rg_new (w.alloc (.cells gs 29)) 42 (etyC x)
  rw [World.size_alloc] at h9
  exact h9)
 have HB2 : Hid (Below w.heap.size w w2) := Lib.hid (by rw [← hw2]; exact below_new (below_alloc_new _) _)
 have hs2 : w2.heap.size = w.heap.size + 2 := by rw [← hw2]; simp
 have HS2 := Lib.hid hs2
 clear hV hGV hXV hgs hxs hxV hs2 hk hx hs hw
 go_enter Tryz.func70, Tryz.ntmps70
 go_wp2_with (go_at_call 91; refine (echecks_any _).mono ?_; rintro e w3 ⟨rfl, hw3⟩; have HW3 := Lib.hid hw3; clear hw3)
 have HF3 : Hid (Rg w3 w2.heap.size [.func (.func 111) #[] #[], .func (.func 112) #[] #[], .func (.func 113) #[] #[], .func (.func 114) #[] #[], .func (.func 115) #[] #[], .func (.func 116) #[] #[]]) := Lib.hid (by rw [HW3.out]; exact rg_new w2 _ _)
 have hB3 : Below w2.heap.size w2 w3 := by rw [HW3.out]; exact below_alloc_new _
 have HB3 := Lib.hid (HB2.out.trans (hB3.mono HB2.out.size))
 have HG3 := Lib.hid (HG2.out.up hB3)
 have HX3 := Lib.hid (HX2.out.up hB3)
 clear hB3 HG2 HX2 HB2 HW3
 go_loopg [10] 6 (fun kx s10 wr => ∃ k : Nat, s10 = .int .i64 k ∧ k ≤ 6 ∧ 6 - k ≤ kx ∧ (0 < k → r0 = 0) ∧ (1 < k → r1 = 0) ∧ (2 < k → r2 = 0) ∧ (3 < k → r3 = 0) ∧ (4 < k → r4 = 0) ∧ (5 < k → r5 = 0) ∧ Below w3.heap.size w3 wr)
 case atStart => exact ⟨0, rfl, by omega, by omega, fun h => absurd h (by omega), fun h => absurd h (by omega), fun h => absurd h (by omega), fun h => absurd h (by omega), fun h => absurd h (by omega), fun h => absurd h (by omega), Below.refl _ _⟩
 case round =>
  obtain ⟨k, rfl, hk, hkx, q0, q1, q2, q3, q4, q5, hBi⟩ := hrel
  have hF := HF3.out.up hBi
  have HG := Lib.hid (HG3.out.up hBi)
  have HX := Lib.hid (HX3.out.up hBi)
  have HBW := Lib.hid (HB3.out.trans (hBi.mono HB3.out.size))
  have HBI := Lib.hid hBi
  have HLG : Hid ((Instr.loadAt 29 (.pointer (some ⟨w.heap.size, 0, none⟩))).run Tryz.prog wr = .ok GV wr) := Lib.hid (by rw [HGV.out, grpV_is]; exact HG.out.load 0 29 (grpC g) rfl _ Tryz.underlying29 rfl (by kernel_rfl))
  have HLX : Hid ((Instr.loadAt 42 (.pointer (some ⟨w.heap.size + 1, 0, none⟩))).run Tryz.prog wr = .ok XV wr) := Lib.hid (by rw [HXV.out, etyV_is]; exact HX.out.load 0 42 (etyC x) rfl _ Tryz.underlying42 rfl (by kernel_rfl))
  clear hBi
  have hk6 : k = 0 ∨ k = 1 ∨ k = 2 ∨ k = 3 ∨ k = 4 ∨ k = 5 ∨ k = 6 := by omega
  rcases hk6 with rfl | rfl | rfl | rfl | rfl | rfl | rfl
  ·have c0 := hF.cell 0 _ rfl
   have HJ := H0
   by_cases hr : r0 = 0
   ·have HR := Lib.hid hr
    have e0 : (r0 != 0) = false := by simp [hr]
    clear hr hF
    go_wp2_with (first
     | (refine wpList_load_is rfl 29 _ rfl (.pointer (some ⟨w.heap.size, 0, none⟩)) rfl GV HLG.out ?_)
     | (refine wpList_load_is rfl 42 _ rfl (.pointer (some ⟨w.heap.size + 1, 0, none⟩)) rfl XV HLX.out ?_)
     | (refine wpList_build_is rfl 136 _ rfl [(0, GV), (1, XV)] rfl V (HBD.out _) ?_)
     | (go_at_call 111; refine (HJ.out _ HBW.out).mono ?_; rintro e w5 ⟨rfl, hb5⟩; have HB5 := Lib.hid (HBI.out.trans (hb5.mono HBI.out.size)); clear hb5))
    go_roundg 5
    case measure => omega
    case rel => exact ⟨1, by first | rfl | go_num, by omega, by omega, fun _ => HR.out, fun h => absurd h (by omega), fun h => absurd h (by omega), fun h => absurd h (by omega), fun h => absurd h (by omega), fun h => absurd h (by omega), HB5.out⟩
   ·have E : Hid (fst6 r0 r1 r2 r3 r4 r5 = r0) := Lib.hid (by unfold fst6; rw [if_neg hr])
    have e0 : (r0 != 0) = true := by simp [hr]
    clear hr hF q0 q1 q2 q3 q4 q5
    go_wp2_with (first
     | (refine wpList_load_is rfl 29 _ rfl (.pointer (some ⟨w.heap.size, 0, none⟩)) rfl GV HLG.out ?_)
     | (refine wpList_load_is rfl 42 _ rfl (.pointer (some ⟨w.heap.size + 1, 0, none⟩)) rfl XV HLX.out ?_)
     | (refine wpList_build_is rfl 136 _ rfl [(0, GV), (1, XV)] rfl V (HBD.out _) ?_)
     | (go_at_call 111; refine (HJ.out _ HBW.out).mono ?_; rintro e w5 ⟨rfl, hb5⟩; have HB5 := Lib.hid (HBI.out.trans (hb5.mono HBI.out.size)); clear hb5))
    go_ret
    exact ⟨by rw [E.out]; rfl, HB3.out.trans (HB5.out.mono HB3.out.size)⟩
  ·have c0 := hF.cell 1 _ rfl
   have HJ := H1
   by_cases hr : r1 = 0
   ·have HR := Lib.hid hr
    have e0 : (r1 != 0) = false := by simp [hr]
    clear hr hF
    go_wp2_with (first
     | (refine wpList_load_is rfl 29 _ rfl (.pointer (some ⟨w.heap.size, 0, none⟩)) rfl GV HLG.out ?_)
     | (refine wpList_load_is rfl 42 _ rfl (.pointer (some ⟨w.heap.size + 1, 0, none⟩)) rfl XV HLX.out ?_)
     | (refine wpList_build_is rfl 136 _ rfl [(0, GV), (1, XV)] rfl V (HBD.out _) ?_)
     | (go_at_call 112; refine (HJ.out _ HBW.out).mono ?_; rintro e w5 ⟨rfl, hb5⟩; have HB5 := Lib.hid (HBI.out.trans (hb5.mono HBI.out.size)); clear hb5))
    go_roundg 4
    case measure => omega
    case rel => exact ⟨2, by first | rfl | go_num, by omega, by omega, fun _ => q0 (by omega), fun _ => HR.out, fun h => absurd h (by omega), fun h => absurd h (by omega), fun h => absurd h (by omega), fun h => absurd h (by omega), HB5.out⟩
   ·have E : Hid (fst6 r0 r1 r2 r3 r4 r5 = r1) := Lib.hid (by unfold fst6; rw [if_pos (q0 (by omega)), if_neg hr])
    have e0 : (r1 != 0) = true := by simp [hr]
    clear hr hF q0 q1 q2 q3 q4 q5
    go_wp2_with (first
     | (refine wpList_load_is rfl 29 _ rfl (.pointer (some ⟨w.heap.size, 0, none⟩)) rfl GV HLG.out ?_)
     | (refine wpList_load_is rfl 42 _ rfl (.pointer (some ⟨w.heap.size + 1, 0, none⟩)) rfl XV HLX.out ?_)
     | (refine wpList_build_is rfl 136 _ rfl [(0, GV), (1, XV)] rfl V (HBD.out _) ?_)
     | (go_at_call 112; refine (HJ.out _ HBW.out).mono ?_; rintro e w5 ⟨rfl, hb5⟩; have HB5 := Lib.hid (HBI.out.trans (hb5.mono HBI.out.size)); clear hb5))
    go_ret
    exact ⟨by rw [E.out]; rfl, HB3.out.trans (HB5.out.mono HB3.out.size)⟩
  ·have c0 := hF.cell 2 _ rfl
   have HJ := H2
   by_cases hr : r2 = 0
   ·have HR := Lib.hid hr
    have e0 : (r2 != 0) = false := by simp [hr]
    clear hr hF
    go_wp2_with (first
     | (refine wpList_load_is rfl 29 _ rfl (.pointer (some ⟨w.heap.size, 0, none⟩)) rfl GV HLG.out ?_)
     | (refine wpList_load_is rfl 42 _ rfl (.pointer (some ⟨w.heap.size + 1, 0, none⟩)) rfl XV HLX.out ?_)
     | (refine wpList_build_is rfl 136 _ rfl [(0, GV), (1, XV)] rfl V (HBD.out _) ?_)
     | (go_at_call 113; refine (HJ.out _ HBW.out).mono ?_; rintro e w5 ⟨rfl, hb5⟩; have HB5 := Lib.hid (HBI.out.trans (hb5.mono HBI.out.size)); clear hb5))
    go_roundg 3
    case measure => omega
    case rel => exact ⟨3, by first | rfl | go_num, by omega, by omega, fun _ => q0 (by omega), fun _ => q1 (by omega), fun _ => HR.out, fun h => absurd h (by omega), fun h => absurd h (by omega), fun h => absurd h (by omega), HB5.out⟩
   ·have E : Hid (fst6 r0 r1 r2 r3 r4 r5 = r2) := Lib.hid (by unfold fst6; rw [if_pos (q0 (by omega)), if_pos (q1 (by omega)), if_neg hr])
    have e0 : (r2 != 0) = true := by simp [hr]
    clear hr hF q0 q1 q2 q3 q4 q5
    go_wp2_with (first
     | (refine wpList_load_is rfl 29 _ rfl (.pointer (some ⟨w.heap.size, 0, none⟩)) rfl GV HLG.out ?_)
     | (refine wpList_load_is rfl 42 _ rfl (.pointer (some ⟨w.heap.size + 1, 0, none⟩)) rfl XV HLX.out ?_)
     | (refine wpList_build_is rfl 136 _ rfl [(0, GV), (1, XV)] rfl V (HBD.out _) ?_)
     | (go_at_call 113; refine (HJ.out _ HBW.out).mono ?_; rintro e w5 ⟨rfl, hb5⟩; have HB5 := Lib.hid (HBI.out.trans (hb5.mono HBI.out.size)); clear hb5))
    go_ret
    exact ⟨by rw [E.out]; rfl, HB3.out.trans (HB5.out.mono HB3.out.size)⟩
  ·have c0 := hF.cell 3 _ rfl
   have HJ := Lib.hid (H3.out (HE.out (q0 (by omega))))
   by_cases hr : r3 = 0
   ·have HR := Lib.hid hr
    have e0 : (r3 != 0) = false := by simp [hr]
    clear hr hF
    go_wp2_with (first
     | (refine wpList_load_is rfl 29 _ rfl (.pointer (some ⟨w.heap.size, 0, none⟩)) rfl GV HLG.out ?_)
     | (refine wpList_load_is rfl 42 _ rfl (.pointer (some ⟨w.heap.size + 1, 0, none⟩)) rfl XV HLX.out ?_)
     | (refine wpList_build_is rfl 136 _ rfl [(0, GV), (1, XV)] rfl V (HBD.out _) ?_)
     | (go_at_call 114; refine (HJ.out _ HBW.out).mono ?_; rintro e w5 ⟨rfl, hb5⟩; have HB5 := Lib.hid (HBI.out.trans (hb5.mono HBI.out.size)); clear hb5))
    go_roundg 2
    case measure => omega
    case rel => exact ⟨4, by first | rfl | go_num, by omega, by omega, fun _ => q0 (by omega), fun _ => q1 (by omega), fun _ => q2 (by omega), fun _ => HR.out, fun h => absurd h (by omega), fun h => absurd h (by omega), HB5.out⟩
   ·have E : Hid (fst6 r0 r1 r2 r3 r4 r5 = r3) := Lib.hid (by unfold fst6; rw [if_pos (q0 (by omega)), if_pos (q1 (by omega)), if_pos (q2 (by omega)), if_neg hr])
    have e0 : (r3 != 0) = true := by simp [hr]
    clear hr hF q0 q1 q2 q3 q4 q5
    go_wp2_with (first
     | (refine wpList_load_is rfl 29 _ rfl (.pointer (some ⟨w.heap.size, 0, none⟩)) rfl GV HLG.out ?_)
     | (refine wpList_load_is rfl 42 _ rfl (.pointer (some ⟨w.heap.size + 1, 0, none⟩)) rfl XV HLX.out ?_)
     | (refine wpList_build_is rfl 136 _ rfl [(0, GV), (1, XV)] rfl V (HBD.out _) ?_)
     | (go_at_call 114; refine (HJ.out _ HBW.out).mono ?_; rintro e w5 ⟨rfl, hb5⟩; have HB5 := Lib.hid (HBI.out.trans (hb5.mono HBI.out.size)); clear hb5))
    go_ret
    exact ⟨by rw [E.out]; rfl, HB3.out.trans (HB5.out.mono HB3.out.size)⟩
  ·have c0 := hF.cell 4 _ rfl
   have HJ := H4
   by_cases hr : r4 = 0
   ·have HR := Lib.hid hr
    have e0 : (r4 != 0) = false := by simp [hr]
    clear hr hF
    go_wp2_with (first
     | (refine wpList_load_is rfl 29 _ rfl (.pointer (some ⟨w.heap.size, 0, none⟩)) rfl GV HLG.out ?_)
     | (refine wpList_load_is rfl 42 _ rfl (.pointer (some ⟨w.heap.size + 1, 0, none⟩)) rfl XV HLX.out ?_)
     | (refine wpList_build_is rfl 136 _ rfl [(0, GV), (1, XV)] rfl V (HBD.out _) ?_)
     | (go_at_call 115; refine (HJ.out _ HBW.out).mono ?_; rintro e w5 ⟨rfl, hb5⟩; have HB5 := Lib.hid (HBI.out.trans (hb5.mono HBI.out.size)); clear hb5))
    go_roundg 1
    case measure => omega
    case rel => exact ⟨5, by first | rfl | go_num, by omega, by omega, fun _ => q0 (by omega), fun _ => q1 (by omega), fun _ => q2 (by omega), fun _ => q3 (by omega), fun _ => HR.out, fun h => absurd h (by omega), HB5.out⟩
   ·have E : Hid (fst6 r0 r1 r2 r3 r4 r5 = r4) := Lib.hid (by unfold fst6; rw [if_pos (q0 (by omega)), if_pos (q1 (by omega)), if_pos (q2 (by omega)), if_pos (q3 (by omega)), if_neg hr])
    have e0 : (r4 != 0) = true := by simp [hr]
    clear hr hF q0 q1 q2 q3 q4 q5
    go_wp2_with (first
     | (refine wpList_load_is rfl 29 _ rfl (.pointer (some ⟨w.heap.size, 0, none⟩)) rfl GV HLG.out ?_)
     | (refine wpList_load_is rfl 42 _ rfl (.pointer (some ⟨w.heap.size + 1, 0, none⟩)) rfl XV HLX.out ?_)
     | (refine wpList_build_is rfl 136 _ rfl [(0, GV), (1, XV)] rfl V (HBD.out _) ?_)
     | (go_at_call 115; refine (HJ.out _ HBW.out).mono ?_; rintro e w5 ⟨rfl, hb5⟩; have HB5 := Lib.hid (HBI.out.trans (hb5.mono HBI.out.size)); clear hb5))
    go_ret
    exact ⟨by rw [E.out]; rfl, HB3.out.trans (HB5.out.mono HB3.out.size)⟩
  ·have c0 := hF.cell 5 _ rfl
   have HJ := H5
   by_cases hr : r5 = 0
   ·have HR := Lib.hid hr
    have e0 : (r5 != 0) = false := by simp [hr]
    clear hr hF
    go_wp2_with (first
     | (refine wpList_load_is rfl 29 _ rfl (.pointer (some ⟨w.heap.size, 0, none⟩)) rfl GV HLG.out ?_)
     | (refine wpList_load_is rfl 42 _ rfl (.pointer (some ⟨w.heap.size + 1, 0, none⟩)) rfl XV HLX.out ?_)
     | (refine wpList_build_is rfl 136 _ rfl [(0, GV), (1, XV)] rfl V (HBD.out _) ?_)
     | (go_at_call 116; refine (HJ.out _ HBW.out).mono ?_; rintro e w5 ⟨rfl, hb5⟩; have HB5 := Lib.hid (HBI.out.trans (hb5.mono HBI.out.size)); clear hb5))
    go_roundg 0
    case measure => omega
    case rel => exact ⟨6, by first | rfl | go_num, by omega, by omega, fun _ => q0 (by omega), fun _ => q1 (by omega), fun _ => q2 (by omega), fun _ => q3 (by omega), fun _ => q4 (by omega), fun _ => HR.out, HB5.out⟩
   ·have E : Hid (fst6 r0 r1 r2 r3 r4 r5 = r5) := Lib.hid (by unfold fst6; rw [if_pos (q0 (by omega)), if_pos (q1 (by omega)), if_pos (q2 (by omega)), if_pos (q3 (by omega)), if_pos (q4 (by omega))])
    have e0 : (r5 != 0) = true := by simp [hr]
    clear hr hF q0 q1 q2 q3 q4 q5
    go_wp2_with (first
     | (refine wpList_load_is rfl 29 _ rfl (.pointer (some ⟨w.heap.size, 0, none⟩)) rfl GV HLG.out ?_)
     | (refine wpList_load_is rfl 42 _ rfl (.pointer (some ⟨w.heap.size + 1, 0, none⟩)) rfl XV HLX.out ?_)
     | (refine wpList_build_is rfl 136 _ rfl [(0, GV), (1, XV)] rfl V (HBD.out _) ?_)
     | (go_at_call 116; refine (HJ.out _ HBW.out).mono ?_; rintro e w5 ⟨rfl, hb5⟩; have HB5 := Lib.hid (HBI.out.trans (hb5.mono HBI.out.size)); clear hb5))
    go_ret
    exact ⟨by rw [E.out]; rfl, HB3.out.trans (HB5.out.mono HB3.out.size)⟩
  ·have E : Hid (fst6 r0 r1 r2 r3 r4 r5 = 0) := Lib.hid (by unfold fst6; rw [if_pos (q0 (by omega)), if_pos (q1 (by omega)), if_pos (q2 (by omega)), if_pos (q3 (by omega)), if_pos (q4 (by omega))]; exact q5 (by omega))
   clear hF q0 q1 q2 q3 q4 q5
   go_wp2_with fail
   go_ret
   exact ⟨by rw [E.out]; rfl, HBW.out⟩
theorem five_up {w w5 : World} {a1 a2 a3 a4 a5 : Addr} {u1 u2 u3 u4 u5 : Value} (h : w.cell? a1 = some u1 ∧ w.cell? a2 = some u2 ∧ w.cell? a3 = some u3 ∧ w.cell? a4 = some u4 ∧ w.cell? a5 = some u5) (hb : Below w.heap.size w w5) :
  w5.cell? a1 = some u1 ∧ w5.cell? a2 = some u2 ∧ w5.cell? a3 = some u3 ∧ w5.cell? a4 = some u4 ∧ w5.cell? a5 = some u5 := by
 obtain ⟨h1, h2, h3, h4, h5⟩ := h
 exact ⟨(hb.cell (World.block_lt_of_cell? w a1 h1)).trans h1, (hb.cell (World.block_lt_of_cell? w a2 h2)).trans h2, (hb.cell (World.block_lt_of_cell? w a3 h3)).trans h3, (hb.cell (World.block_lt_of_cell? w a4 h4)).trans h4, (hb.cell (World.block_lt_of_cell? w a5 h5)).trans h5⟩
theorem five_below {w0 w w5 : World} {a1 a2 a3 a4 a5 : Addr} {u1 u2 u3 u4 u5 v1 v2 v3 v4 v5 : Value} (h0 : w0.cell? a1 = some v1 ∧ w0.cell? a2 = some v2 ∧ w0.cell? a3 = some v3 ∧ w0.cell? a4 = some v4 ∧ w0.cell? a5 = some v5) (h : w.cell? a1 = some u1 ∧ w.cell? a2 = some u2 ∧ w.cell? a3 = some u3 ∧ w.cell? a4 = some u4 ∧ w.cell? a5 = some u5) (hb : Below w0.heap.size w w5) :
  w5.cell? a1 = some u1 ∧ w5.cell? a2 = some u2 ∧ w5.cell? a3 = some u3 ∧ w5.cell? a4 = some u4 ∧ w5.cell? a5 = some u5 := by
 obtain ⟨g1, g2, g3, g4, g5⟩ := h0
 obtain ⟨h1, h2, h3, h4, h5⟩ := h
 exact ⟨(hb.cell (World.block_lt_of_cell? w0 a1 g1)).trans h1, (hb.cell (World.block_lt_of_cell? w0 a2 g2)).trans h2, (hb.cell (World.block_lt_of_cell? w0 a3 g3)).trans h3, (hb.cell (World.block_lt_of_cell? w0 a4 g4)).trans h4, (hb.cell (World.block_lt_of_cell? w0 a5 g5)).trans h5⟩
def erD (ic : Bool) (b : Int) : Int := if ic = true then b else 2
def rtlN (g : Grp) (x : Ety) (X : List Lnk) : Int := if inB g.cy g.cm g.cp x.day = true then (if wr (sumT X) = 0 then 0 else 11) else 2
def rchkN (sh ac : Bool) (t : Int) : Int := if sh = true then if ac = true then t else 17 else 1
theorem shpB_ent {gp : Bool} {g : Grp} {x : Ety} {X : List Lnk} (h : shpB gp g x X = true) : entIn g x.ent = true := by
 unfold shpB at h
 simp only [Bool.and_eq_true] at h
 unfold entIn
 rw [h.2.2.1, h.2.2.2.1]; rfl
theorem shpB_gp {gp : Bool} {g : Grp} {x : Ety} {X : List Lnk} (h : shpB gp g x X = true) : gp = true := by
 unfold shpB at h
 simp only [Bool.and_eq_true] at h
 exact h.1
theorem grpR_cl {g : Grp} {L : List Acc} {G : List Ent} (h : grpR g L G = true) : clV g.cy g.cm g.cp = true := by
 unfold grpR bokR at h
 simp only [Bool.and_eq_true] at h
 exact h.1.2.1
set_option maxRecDepth 100000 in
set_option maxHeartbeats 6400000 in
theorem ercheck_any (g : Grp) (x : Ety) (X : List Lnk) (L : List Acc) (G : List Ent) (w : World) (hk : GrK w g L G) (hs : Sm g G) (hw : GrW g L G) (hx : EtyK w x X) (hn : x.n ≤ 1000) (ht : x.txt.size ≤ maxLen) : Calls Tryz.prog 33 #[grpV g, etyV x] w fun e w' => e = .returned (.int .i64 (rchkN (shpB (grpR g L G) g x X) (acB (G.getD x.ent.toNat ent0).L X) (rtlN g x X))) ∧ Below w.heap.size w w' := by
 obtain ⟨GV, hGV⟩ : ∃ GV, GV = grpV g := ⟨_, rfl⟩
 obtain ⟨XV, hXV⟩ : ∃ XV, XV = etyV x := ⟨_, rfl⟩
 have HSH := Lib.hid (fun W (h : GrK W g L G) (h2 : EtyK W x X) => rshape_any g x X L G W h hs hw h2 hn ht)
 rw [← hGV, ← hXV] at HSH
 have HN := Lib.hid hx.ln
 have hsE := shpB_ent (gp := grpR g L G) (g := g) (x := x) (X := X)
 rw [grpV_is]
 obtain ⟨gs, hgs⟩ : ∃ gs, (grpC g).toArray = gs := ⟨_, rfl⟩
 obtain ⟨xs, hxs⟩ : ∃ xs, (etyC x).toArray = xs := ⟨_, rfl⟩
 have hxV : etyV x = .agg xs := by rw [etyV_is, hxs]
 rw [hgs, hxV]
 obtain ⟨s0, hs0⟩ : ∃ s0, w.heap.size = s0 := ⟨_, rfl⟩
 obtain ⟨w2, hw2⟩ : ∃ w2, (w.alloc (.cells gs 29)).alloc (.cells xs 42) = w2 := ⟨_, rfl⟩
 have HGB : Hid (Rg w2 s0 (grpC g)) := Lib.hid (by rw [← hw2, ← hgs, ← hs0]; exact (rg_new w _ _).up (below_alloc_new _))
 have HXB : Hid (Rg w2 (s0 + 1) (etyC x)) := Lib.hid (by
  rw [← hw2, ← hxs, ← hs0]
  have h9 := rg_new (w.alloc (.cells gs 29)) 42 (etyC x)
  rw [World.size_alloc] at h9
  exact h9)
 have HB2 : Hid (Below w.heap.size w w2) := Lib.hid (by rw [← hw2]; exact below_new (below_alloc_new _) _)
 have HLG : Hid ((Instr.loadAt 29 (.pointer (some ⟨s0, 0, none⟩))).run Tryz.prog w2 = .ok GV w2) := Lib.hid (by rw [hGV, grpV_is]; exact HGB.out.load 0 29 (grpC g) rfl _ Tryz.underlying29 rfl (by kernel_rfl))
 have HLX : Hid ((Instr.loadAt 42 (.pointer (some ⟨s0 + 1, 0, none⟩))).run Tryz.prog w2 = .ok XV w2) := Lib.hid (by rw [hXV, etyV_is]; exact HXB.out.load 0 42 (etyC x) rfl _ Tryz.underlying42 rfl (by kernel_rfl))
 have HK2 := Lib.hid (hk.up HB2.out)
 have HX2 := Lib.hid (hx.up HB2.out)
 have HSM := Lib.hid hs
 have HIC := Lib.hid (fun W => rincal_any g.cy g.cm g.cp x.day W)
 have hsG := shpB_gp (gp := grpR g L G) (g := g) (x := x) (X := X)
 have HCL := Lib.hid (fun h => grpR_cl (g := g) (L := L) (G := G) (hsG h))
 clear hsG
 generalize shpB (grpR g L G) g x X = sh at *
 clear hk hs hw hx ht hGV hXV hgs hxs hxV
 have HS0 := Lib.hid hs0
 cases sh
 ·have HM1 : True := trivial; have HM2 : True := trivial; go_enter Tryz.func33, Tryz.ntmps33
  go_wp2_with (first
   | (clear HM1; refine wpList_load_is rfl 29 _ rfl (.pointer (some ⟨s0, 0, none⟩)) rfl GV HLG.out ?_)
   | (clear HM2; refine wpList_load_is rfl 42 _ rfl (.pointer (some ⟨s0 + 1, 0, none⟩)) rfl XV HLX.out ?_)
   | (go_at_call 51; refine (HSH.out _ HK2.out HX2.out).mono ?_; rintro e w5 ⟨rfl, hb5⟩; have HBi5 := Lib.hid hb5; have HB5 := Lib.hid (HB2.out.trans (hb5.mono HB2.out.size)); clear hb5))
  go_ret
  exact ⟨by first | rfl | simp [rchkN], HB5.out⟩
 have he := hsE rfl
 clear hsE
 have hck : -9223372036854775807 ≤ g.cp ∧ g.cp ≤ 9223372036854775807 := by have := clV_iff.1 (HCL.out rfl); omega
 obtain ⟨j, hj⟩ : ∃ j : Nat, x.ent = (j : Int) := ⟨x.ent.toNat, by unfold entIn at he; simp at he; omega⟩
 have hjm : j < g.m := by unfold entIn at he; simp at he; omega
 rw [hj, Int.toNat_natCast]
 have hjG : j < G.length := by rw [HK2.out.lg]; exact hjm
 obtain ⟨eb, eoff, hE, hew, he5⟩ := ent_at HK2.out.he hjG
 have hmem : G.getD j ent0 ∈ G := getD_mem_acc hjG
 have hek := HK2.out.hk _ hmem
 have hen := (HSM.out.e _ hmem).1
 generalize G.getD j ent0 = ey at *
 have HE5 := Lib.hid he5
 have HEW := Lib.hid hew
 have HEZ := Lib.hid hek.hz
 have HF := Lib.hid (fun c W (h : AccAt W ey.A ey.L) => rfind_any ey.A ey.c ey.L c W h (by rw [hek.ln]; omega))
 rw [hek.ln] at HF
 have HC20 : Hid ((grpC g)[20]? = some (.slice (some ⟨eb, eoff, none⟩) g.m g.d)) := Lib.hid (by rw [← hE]; rfl)
 have HC1 : Hid ((etyC x)[1]? = some (.int .i64 (j : Int))) := Lib.hid (by rw [← hj]; rfl)
 have hjz : (j : Int) < (g.m : Int) := by omega
 have hj0 : (0 : Int) ≤ (j : Int) := by omega
 have HCK := Lib.hid hck
 have hrt : rtlN g x X = erD (inB g.cy g.cm g.cp x.day) (blN X) := rfl
 rw [hrt]
 generalize inB g.cy g.cm g.cp x.day = ic at *
 clear he5 hew hek hen hmem hjG he hck hrt
 have HM1 : True := trivial; have HM2 : True := trivial; go_enter Tryz.func33, Tryz.ntmps33
 go_wp2_with (first
   | (clear HM1; refine wpList_load_is rfl 29 _ rfl (.pointer (some ⟨s0, 0, none⟩)) rfl GV HLG.out ?_)
   | (clear HM2; refine wpList_load_is rfl 42 _ rfl (.pointer (some ⟨s0 + 1, 0, none⟩)) rfl XV HLX.out ?_)
   | (go_at_call 51; refine (HSH.out _ HK2.out HX2.out).mono ?_; rintro e w5 ⟨rfl, hb5⟩; have HBi5 := Lib.hid hb5; have HB5 := Lib.hid (HB2.out.trans (hb5.mono HB2.out.size)); clear hb5))
 go_loopg [5] x.n (fun kx s5 wr => ∃ k : Nat, s5 = .int .i64 k ∧ k ≤ x.n ∧ x.n - k ≤ kx ∧ Hid ((X.take k).all (fun l => (fnd ey.L l.frm).isSome) = true) ∧ Below w5.heap.size w5 wr)
 case atStart => exact ⟨0, rfl, by omega, by omega, Lib.hid rfl, Below.refl _ _⟩
 case round =>
  obtain ⟨k, rfl, hk, hkx, HT, hBi⟩ := hrel
  have hW : Below w2.heap.size w2 wr := HBi5.out.trans (hBi.mono HBi5.out.size)
  have hxb := HXB.out.up hW
  have hgb := HGB.out.up hW
  have HBW := Lib.hid (HB2.out.trans (hW.mono HB2.out.size))
  have HBI := Lib.hid hBi
  have HEZw := Lib.hid (HEZ.out.up hW)
  by_cases hlt : k < x.n
  ·have hltz : (k : Int) < (x.n : Int) := by omega
   obtain ⟨bb, off, hA, hbw, hcs⟩ := HX2.out.hz (by rw [HN.out]; omega)
   have hkl : k < X.length := by rw [HN.out]; exact hlt
   obtain ⟨f0, f1, f2⟩ := (hcs k hkl).up hW hbw
   have e6 := hxb.cell 6 (.slice (some ⟨bb, off, none⟩) x.n x.c) (by rw [← hA]; rfl)
   have hst : (X.take (k + 1)).all (fun l => (fnd ey.L l.frm).isSome) = (fnd ey.L (X.getD k lnk0).frm).isSome := by
    rw [take_succ_getD (d := lnk0) hkl, List.all_append, HT.out, List.all_cons, List.all_nil, Bool.true_and, Bool.and_true]
   have hno := fun h => all_no (p := fun l => (fnd ey.L l.frm).isSome) hkl h
   generalize X.getD k lnk0 = l at *
   have HFD := Lib.hid (fun W h => HF.out l.frm W h)
   have hS0 : wr.drew.cell? ⟨s0, 20, none⟩ = some (.slice (some ⟨eb, eoff, none⟩) g.m g.d) ∧ wr.drew.cell? ⟨s0 + 1, 1, none⟩ = some (.int .i64 j) ∧ wr.drew.cell? ⟨eb, eoff + j * 5 + 2, none⟩ = some (.slice ey.A ey.n ey.c) ∧ wr.drew.cell? ⟨s0 + 1, 6, none⟩ = some (.slice (some ⟨bb, off, none⟩) x.n x.c) ∧ wr.drew.cell? ⟨bb, off + k * 3, none⟩ = some (.int .i64 l.frm) := ⟨hgb.cell 20 _ HC20.out, hxb.cell 1 _ HC1.out, (HE5.out.up hW HEW.out).c2, e6, f0⟩
   have HST := Lib.hid hst
   have HNO := Lib.hid hno
   clear hst hno hcs hBi hW hxb hgb f0 f1 f2 hbw hA
   have hS1 := fun o => five_up (w := wr) (w5 := (wr.alloc o).drew) hS0 (dc_drew (below_alloc_new o))
   have HS1 := Lib.hid hS1
   clear hS1
   generalize fndA ey.L l.frm = ac at *
   generalize (fnd ey.L l.frm).isSome = fb at *
   go_wp2_with fail
   go_region_held_law (fun w' => w'.cell? ⟨s0, 20, none⟩ = some (.slice (some ⟨eb, eoff, none⟩) g.m g.d) ∧ w'.cell? ⟨s0 + 1, 1, none⟩ = some (.int .i64 j) ∧ w'.cell? ⟨eb, eoff + j * 5 + 2, none⟩ = some (.slice ey.A ey.n ey.c) ∧ w'.cell? ⟨s0 + 1, 6, none⟩ = some (.slice (some ⟨bb, off, none⟩) x.n x.c) ∧ w'.cell? ⟨bb, off + k * 3, none⟩ = some (.int .i64 l.frm)) (first | with_reducible exact hS6 _ _ _ _ | with_reducible exact hS5 | with_reducible exact hS0 | with_reducible exact HS1.out _ | go_keep | exact hS5 | exact hS0 | exact HS1.out _)
    (first
     | (go_at_call 52; refine (HFD.out wr.drew (HEZw.out.up (dc_drew (Below.refl _ _)))).mono ?_; rintro e w6 ⟨rfl, hb6⟩; have hS5 := five_up hS0 hb6; have HB6 : Below wr.heap.size wr w6 := (dc_drew (Below.refl wr.heap.size wr)).trans hb6)
     | (go_at_call 52; refine (HFD.out (wr.alloc (.cells #[.int .i64 acc0.code, .int .i64 acc0.kind, .int .i64 acc0.basis, .int .i64 acc0.par] 91)).drew (HEZw.out.up (dc_drew (below_alloc_new _)))).mono ?_; rintro e w6 ⟨rfl, hb6⟩; have hS5 := five_up (HS1.out _) hb6; have hS6 := fun v0 v1 v2 v3 => five_below hS0 hS5 (bset4 (Below.refl wr.heap.size _) (Nat.le_refl _) v0 v1 v2 v3); have HB6 : Below wr.heap.size wr w6 := (dc_drew (below_alloc_new _)).trans (hb6.mono (by show _ ≤ (wr.alloc (.cells #[.int .i64 acc0.code, .int .i64 acc0.kind, .int .i64 acc0.basis, .int .i64 acc0.par] 91)).heap.size; simp)); obtain ⟨⟨z0, z1, z2, z3⟩, zlt, zf⟩ := (ab_new wr 91 acc0).up (Below.trans (dc_drew (Below.refl _ _)) hb6); have zf0 := zf 0; have zf1 := zf 1; have zf2 := zf 2; have zf3 := zf 3; simp only [Nat.zero_add] at z1 z2 z3; clear zf))
   all_goals
    have HB7 : Hid (∀ v0 v1 v2 v3 : Value, Below w5.heap.size w5 (w6.alloc (.cells #[v0, v1, v2, v3] 91)) ∧ Below w5.heap.size w5 ((((w6.setCell ⟨wr.heap.size, 0, none⟩ v0).setCell ⟨wr.heap.size, 1, none⟩ v1).setCell ⟨wr.heap.size, 2, none⟩ v2).setCell ⟨wr.heap.size, 3, none⟩ v3)) := Lib.hid (fun v0 v1 v2 v3 => ⟨below_new (HBI.out.trans (HB6.mono HBI.out.size)) _, bset4 (HBI.out.trans (HB6.mono HBI.out.size)) HBI.out.size _ _ _ _⟩)
    clear HB6 hb6 hS0
    cases fb
    ·have E : Hid (acB ey.L X = false) := Lib.hid (HNO.out rfl)
     go_wp2_with fail
     go_ret
     exact ⟨by rw [E.out]; rfl, by first | exact HB5.out.trans (Below.mono (by first | exact (HB7.out _ _ _ _).1 | exact (HB7.out _ _ _ _).2) HB5.out.size) | (rw [← HS0.out]; exact HB5.out.trans (Below.mono (by first | exact (HB7.out _ _ _ _).1 | exact (HB7.out _ _ _ _).2) HB5.out.size))⟩
    ·have HT2 : Hid ((X.take (k + 1)).all (fun l => (fnd ey.L l.frm).isSome) = true) := Lib.hid HST.out
     go_wp2_with fail
     go_roundg (x.n - (k + 1))
     case measure => omega
     case rel => exact ⟨k + 1, by go_num, by omega, by omega, HT2, by first | exact (HB7.out _ _ _ _).1 | exact (HB7.out _ _ _ _).2⟩
  ·obtain rfl : k = x.n := by omega
   have hltz : ¬ (x.n : Int) < (x.n : Int) := by omega
   have E : Hid (acB ey.L X = true) := Lib.hid (by have h9 := HT.out; rwa [show X.take x.n = X by rw [← HN.out, List.take_length]] at h9)
   have e6 := hxb.cell 6 _ rfl
   have e2 := hxb.cell 2 _ rfl
   have c1 := hgb.cell 1 _ rfl
   have c2 := hgb.cell 2 _ rfl
   have c3 := hgb.cell 3 _ rfl
   have HXr := Lib.hid hxb
   have HIW := Lib.hid (fun W => HIC.out W HCK.out)
   have HSU := Lib.hid (fun W (h : LnkAt W x.A X) => rsum11_any x.A x.c X W h (by rw [HN.out]; exact hn))
   rw [HN.out] at HSU
   have HZr := Lib.hid (HX2.out.hz.up hW)
   have hbl : blN X = if Go.Proofs.YtacmccijnkojeaaGreat.wr (sumT X) = 0 then 0 else 11 := rfl
   generalize Go.Proofs.YtacmccijnkojeaaGreat.wr (sumT X) = sm at *
   clear hxb hgb hW
   have A9 : True := trivial
   cases ic
   ·go_wp2_with (go_at_call 53; refine (HIW.out _).mono ?_; rintro e w7 ⟨rfl, hb7⟩; have HB7 := Lib.hid (HBW.out.trans (hb7.mono HBW.out.size)); clear hb7)
    go_ret
    have hfin : rchkN true (acB ey.L X) (erD false (blN X)) = 2 := by rw [E.out]; rfl
    exact ⟨by rw [hfin]; rfl, by first | exact HB7.out | (rw [← HS0.out]; exact HB7.out)⟩
   ·by_cases h0 : sm = 0
    ·have HFN := Lib.hid (show rchkN true (acB ey.L X) (erD true (blN X)) = 0 by rw [E.out, hbl, if_pos h0]; rfl)
     clear hbl
     subst h0
     go_wp2_with (first
      | (go_at_call 53; refine (HIW.out _).mono ?_; rintro e w7 ⟨rfl, hb7⟩; have h6b := (HXr.out.up hb7).cell 6 _ rfl; have HB7 := Lib.hid (HBW.out.trans (hb7.mono HBW.out.size)); have HZ7 := Lib.hid (HZr.out.up hb7); clear hb7)
      | (go_at_call 54; refine (HSU.out _ HZ7.out).mono ?_; rintro e w8 ⟨rfl, hb8⟩; have HB8 := Lib.hid (below_more HB7.out hb8); clear hb8))
     go_ret
     exact ⟨by rw [HFN.out]; rfl, by first | exact HB8.out | (rw [← HS0.out]; exact HB8.out)⟩
    ·have h0b : (sm != 0) = true := by simp [h0]
     have HFN := Lib.hid (show rchkN true (acB ey.L X) (erD true (blN X)) = 11 by rw [E.out, hbl, if_neg h0]; rfl)
     clear hbl
     go_wp2_with (first
      | (go_at_call 53; refine (HIW.out _).mono ?_; rintro e w7 ⟨rfl, hb7⟩; have h6b := (HXr.out.up hb7).cell 6 _ rfl; have HB7 := Lib.hid (HBW.out.trans (hb7.mono HBW.out.size)); have HZ7 := Lib.hid (HZr.out.up hb7); clear hb7)
      | (go_at_call 54; refine (HSU.out _ HZ7.out).mono ?_; rintro e w8 ⟨rfl, hb8⟩; have HB8 := Lib.hid (below_more HB7.out hb8); clear hb8))
     go_ret
     exact ⟨by rw [HFN.out]; rfl, by first | exact HB8.out | (rw [← HS0.out]; exact HB8.out)⟩
end Go.Proofs.YtacmccijnkojeaaGreat
