/- Contracts of the functions that the statements reach, part 6: what was proved of each, callees first. -/
import Derived.Deep.RegionHeldLaw
import Derived.WalkSpells
import Derived.Lib.SliceRun
import Derived.Shelf.SlSortCmp.NoneTotal
import Derived.Ground.SlsfProg
import Derived.Shelf.SlGeneric
import Derived.Test.YtaeccljkmijpaaaGreatProg
import Derived.BigQuiet
import Derived.Test.YtaeccljkmijpaaaGreatLS5
namespace Go.Proofs.YtaeccljkmijpaaaGreat
open Go.RowKit
def rowR (L : List Acc) (R : List Int) (i : Nat) : Bool := chkR L R i && dsR R i
def bokR (g : Grp) (L : List Acc) : Bool := curB g.cur && (clV g.cy g.cm g.cp && (vB L true && (allTo (fun i => basB (L.getD i acc0)) L.length && allTo (rowR L g.R) 15)))
set_option maxRecDepth 20000 in
set_option maxHeartbeats 6400000 in
theorem rbooks_any (g : Grp) (L : List Acc) (w : World) (hz : AccAt w g.A L) (ln : L.length = g.n) (hl : g.n ≤ 1000) (hs1 : g.cur.size ≤ maxLen) :
  Calls Tryz.prog 78 #[grpV g] w fun e' w' => e' = .returned (.bool (bokR g L)) ∧ Below w.heap.size w w' := by
 have hB := below_alloc_new (w := w) (.cells #[.string g.cur, .int .i64 g.cy, .int .i64 g.cm, .int .i64 g.cp, .slice g.A g.n g.c, .int .i64 g.r0, .int .i64 g.r1, .int .i64 g.r2, .int .i64 g.r3, .int .i64 g.r4, .int .i64 g.r5, .int .i64 g.r6, .int .i64 g.r7, .int .i64 g.r8, .int .i64 g.r9, .int .i64 g.r10, .int .i64 g.r11, .int .i64 g.r12, .int .i64 g.r13, .int .i64 g.r14, .slice g.E g.m g.d] 29)
 have hG := gb_new w 29 g
 have h1 := fun w => rcur_any g.cur w hs1
 have h2 := fun w => rvalid7_any g.cy g.cm g.cp w
 have h3 : ∀ w, AccAt w g.A L → Calls Tryz.prog 122 #[.slice g.A g.n g.c, .bool true] w fun e' w' => e' = .returned (.bool (vB L true)) ∧ Below w.heap.size w w' := fun w h => by
  have h9 := rvalid8_any g.A g.c L true w h (by omega)
  rw [ln, ← vB_eq] at h9
  exact h9
 have h4 := fun w => rroles_any g w
 have h5 := fun x w h => racct_any g L x w h ln hl
 have hv : bokR g L = (curB g.cur && (clV g.cy g.cm g.cp && (vB L true && (allTo (fun i => basB (L.getD i acc0)) L.length && allTo (rowR L g.R) 15)))) := rfl
 rw [ln] at hv
 have hck : ∀ k, rowR L g.R k = (((fnd L (g.R.getD k 0)).isSome && (decide ((fndA L (g.R.getD k 0)).kind = rlK k) && decide ((fndA L (g.R.getD k 0)).basis = rlB k))) && allTo (fun j => !decide (g.R.getD j 0 = g.R.getD k 0)) k) := fun _ => rfl
 obtain ⟨U, hU⟩ : ∃ U : Value, rolV g = U := ⟨_, rfl⟩
 rw [hU] at h4
 obtain ⟨X, hX⟩ : ∃ X : Value, X = grpV g := ⟨_, rfl⟩
 rw [← hX] at h5
 generalize bokR g L = r at *
 generalize curB g.cur = q1 at *
 generalize clV g.cy g.cm g.cp = q2 at *
 generalize vB L true = q3 at *
 obtain ⟨P, hP⟩ : ∃ P : Nat → Bool, (fun i => basB (L.getD i acc0)) = P := ⟨_, rfl⟩
 have hpb : ∀ k, basB (L.getD k acc0) = P k := fun k => by rw [← hP]
 obtain ⟨T, hT⟩ : ∃ T : Nat → Bool, rowR L g.R = T := ⟨_, rfl⟩
 rw [hP, hT] at hv
 simp only [hT] at hck
 obtain ⟨s0, hs0⟩ : ∃ s0, w.heap.size = s0 := ⟨_, rfl⟩
 have hsz : s0 ≤ (w.alloc (.cells #[.string g.cur, .int .i64 g.cy, .int .i64 g.cm, .int .i64 g.cp, .slice g.A g.n g.c, .int .i64 g.r0, .int .i64 g.r1, .int .i64 g.r2, .int .i64 g.r3, .int .i64 g.r4, .int .i64 g.r5, .int .i64 g.r6, .int .i64 g.r7, .int .i64 g.r8, .int .i64 g.r9, .int .i64 g.r10, .int .i64 g.r11, .int .i64 g.r12, .int .i64 g.r13, .int .i64 g.r14, .slice g.E g.m g.d] 29)).heap.size := by simp; omega
 rw [hs0] at hB hG ⊢
 have HS0 := Lib.hid hs0
 have HG := Lib.hid hG
 have HU := Lib.hid hU
 have HX := Lib.hid hX
 have HCU := Lib.hid h1
 have HCL := Lib.hid h2
 have HCH := Lib.hid h3
 have HRO := Lib.hid h4
 have H5 := Lib.hid h5
 have HSZ := Lib.hid hsz
 have HZ := Lib.hid hz
 have HL := Lib.hid ln
 have HV := Lib.hid hv
 have HPB := Lib.hid hpb
 have HCK := Lib.hid hck
 have c0 := hG.c0
 have c1 := hG.c1
 have c2 := hG.c2
 have c3 := hG.c3
 have c4 := hG.c4
 clear hz ln hG h1 h2 h3 h4 h5 hv hck hU hX hsz hP hT hpb hs1
 cases q1
 ·have HR := Lib.hid (show r = false from HV.out)
  clear HV
  go_enter Tryz.func78, Tryz.ntmps78
  go_wp2_with (first | (go_at_call 120; refine (HCU.out _).mono ?_; rintro e1 w1 ⟨rfl, rfl⟩))
  go_ret
  exact ⟨by rw [HR.out]; rfl, hB⟩
 cases q2
 ·have HR := Lib.hid (show r = false from HV.out)
  clear HV
  go_enter Tryz.func78, Tryz.ntmps78
  go_wp2_with (first | (go_at_call 120; refine (HCU.out _).mono ?_; rintro e1 w1 ⟨rfl, rfl⟩) | (go_at_call 121; refine (HCL.out _).mono ?_; rintro e1 w1 ⟨rfl, hb⟩; have hB2 := hB.trans (hb.mono HSZ.out); have HSZ2 := Lib.hid (Nat.le_trans HSZ.out hb.size); have HG2 := Lib.hid (HG.out.up hb); clear hb hB HSZ HG c0 c1 c2 c3 c4; have hB := hB2; have HSZ := HSZ2; have HG := HG2; clear hB2 HSZ2 HG2; have c0 := HG.out.c0; have c1 := HG.out.c1; have c2 := HG.out.c2; have c3 := HG.out.c3; have c4 := HG.out.c4))
  go_ret
  exact ⟨by rw [HR.out]; rfl, hB⟩
 cases q3
 ·have HR := Lib.hid (show r = false from HV.out)
  clear HV
  go_enter Tryz.func78, Tryz.ntmps78
  go_wp2_with (first | (go_at_call 120; refine (HCU.out _).mono ?_; rintro e1 w1 ⟨rfl, rfl⟩) | (go_at_call 121; refine (HCL.out _).mono ?_; rintro e1 w1 ⟨rfl, hb⟩; have hB2 := hB.trans (hb.mono HSZ.out); have HSZ2 := Lib.hid (Nat.le_trans HSZ.out hb.size); have HG2 := Lib.hid (HG.out.up hb); clear hb hB HSZ HG c0 c1 c2 c3 c4; have hB := hB2; have HSZ := HSZ2; have HG := HG2; clear hB2 HSZ2 HG2; have c0 := HG.out.c0; have c1 := HG.out.c1; have c2 := HG.out.c2; have c3 := HG.out.c3; have c4 := HG.out.c4) | (go_at_call 122; (with_reducible refine (HCH.out _ (HZ.out.up (by rw [HS0.out]; exact hB))).mono ?_); rintro e1 w2 ⟨rfl, hb⟩; have hB2 := hB.trans (hb.mono HSZ.out); have HSZ2 := Lib.hid (Nat.le_trans HSZ.out hb.size); have HG2 := Lib.hid (HG.out.up hb); clear hb hB HSZ HG c0 c1 c2 c3 c4; have hB := hB2; have HSZ := HSZ2; have HG := HG2; clear hB2 HSZ2 HG2; have c0 := HG.out.c0; have c1 := HG.out.c1; have c2 := HG.out.c2; have c3 := HG.out.c3; have c4 := HG.out.c4))
  go_ret
  exact ⟨by rw [HR.out]; rfl, hB⟩
 have HV2 := Lib.hid (show r = (allTo P g.n && allTo T 15) from HV.out)
 clear HV
 go_enter Tryz.func78, Tryz.ntmps78
 go_wp2_with (first | (go_at_call 120; refine (HCU.out _).mono ?_; rintro e1 w1 ⟨rfl, rfl⟩) | (go_at_call 121; refine (HCL.out _).mono ?_; rintro e1 w1 ⟨rfl, hb⟩; have hB2 := hB.trans (hb.mono HSZ.out); have HSZ2 := Lib.hid (Nat.le_trans HSZ.out hb.size); have HG2 := Lib.hid (HG.out.up hb); clear hb hB HSZ HG c0 c1 c2 c3 c4; have hB := hB2; have HSZ := HSZ2; have HG := HG2; clear hB2 HSZ2 HG2; have c0 := HG.out.c0; have c1 := HG.out.c1; have c2 := HG.out.c2; have c3 := HG.out.c3; have c4 := HG.out.c4) | (go_at_call 122; (with_reducible refine (HCH.out _ (HZ.out.up (by rw [HS0.out]; exact hB))).mono ?_); rintro e1 w2 ⟨rfl, hb⟩; have hB2 := hB.trans (hb.mono HSZ.out); have HSZ2 := Lib.hid (Nat.le_trans HSZ.out hb.size); have HG2 := Lib.hid (HG.out.up hb); clear hb hB HSZ HG c0 c1 c2 c3 c4; have hB := hB2; have HSZ := HSZ2; have HG := HG2; clear hB2 HSZ2 HG2; have c0 := HG.out.c0; have c1 := HG.out.c1; have c2 := HG.out.c2; have c3 := HG.out.c3; have c4 := HG.out.c4))
 clear hs0 HCU HCL HCH c0 c1 c2 c3 c4
 obtain ⟨A, hA⟩ : ∃ A, g.A = A := ⟨_, rfl⟩
 rw [hA]
 have HAE := Lib.hid hA
 have HZA : Hid (AccAt w A L) := Lib.hid (by rw [← hA]; exact HZ.out)
 clear hA
 go_loopg [3] g.n (fun kx s3 wr => ∃ k : Nat, s3 = .int .i64 k ∧ k ≤ g.n ∧ g.n - k ≤ kx ∧ Hid (allTo P k = true) ∧ Hid (GB wr s0 g) ∧ Below s0 w wr)
 case atStart => exact ⟨0, rfl, by omega, by omega, Lib.hid rfl, HG, hB⟩
 case round =>
  clear hB HG HSZ
  obtain ⟨k, rfl, hk, hkx, HA, HG, hB⟩ := hrel
  have HSZ : Hid (s0 ≤ wr.heap.size) := Lib.hid (Nat.le_of_lt HG.out.lt)
  by_cases hlt : k < g.n
  ·have hltz : (k : Int) < (g.n : Int) := by omega
   obtain ⟨b, off, rfl, hbw, hcs⟩ := HZA.out (by rw [HL.out]; omega)
   have c4 := HG.out.c4
   rw [HAE.out] at c4
   obtain ⟨d0, d1, d2, d3⟩ := (hcs k (by rw [HL.out]; exact hlt)).up hB (by have := HS0.out; omega)
   have hp := HPB.out k
   have hno : P k = false → r = false := fun h => by rw [HV2.out, allTo_no hlt h]; rfl
   have hnx : P k = true → Hid (allTo P (k + 1) = true) := fun h => Lib.hid (by show (allTo P k && P k) = true; rw [HA.out, h]; rfl)
   obtain ⟨x, hx⟩ : ∃ x, L.getD k acc0 = x := ⟨_, rfl⟩
   rw [hx] at d0 d1 d2 d3 hp
   have hb := fun w => rbas_any x w
   rw [hp] at hb
   generalize P k = q at *
   have HBA := Lib.hid hb
   clear hcs hx hp hb HA hbw
   cases q
   ·have HR := Lib.hid (hno rfl)
    clear hno hnx
    go_wp2_with (go_at_call 123; refine (HBA.out _).mono ?_; rintro e1 w2 ⟨rfl, hb⟩; have hB2 := hB.trans (hb.mono HSZ.out); clear hb)
    go_ret
    exact ⟨by rw [HR.out]; rfl, hB2⟩
   ·have HA2 := hnx rfl
    clear hno hnx
    go_wp2_with (go_at_call 123; refine (HBA.out _).mono ?_; rintro e1 w2 ⟨rfl, hb⟩; have hB2 := hB.trans (hb.mono HSZ.out); have HG2 := Lib.hid (HG.out.up hb); clear hb)
    go_roundg (g.n - (k + 1))
    case measure => omega
    case rel => exact ⟨k + 1, by go_num, by omega, by omega, HA2, HG2, hB2⟩
  ·have hke : k = g.n := by omega
   have hltz : ¬ (k : Int) < (g.n : Int) := by omega
   have HV3 : Hid (r = allTo T 15) := Lib.hid (by rw [HV2.out, ← hke, HA.out]; rfl)
   have c4 := HG.out.c4
   rw [HAE.out] at c4
   have c0 := HG.out.c0
   have c1 := HG.out.c1
   have c2 := HG.out.c2
   have c3 := HG.out.c3
   clear hke HV2 HPB HL
   go_wp2_with (first | (refine wpList_load_is rfl 26 _ rfl (.pointer (some ⟨s0, 5, none⟩)) rfl U (gb_rU HG.out HU.out) ?_) | (go_at_call 124; refine (HRO.out _).mono ?_; rintro e1 w2 ⟨⟨t, rfl, ht⟩, hb⟩; have HT := Lib.hid ht; clear ht; have hB2 := hB.trans (hb.mono HSZ.out); have HSZ2 := Lib.hid (Nat.le_trans HSZ.out hb.size); have HG2 := Lib.hid (HG.out.up hb); clear hb hB HSZ HG c0 c1 c2 c3 c4; have hB := hB2; have HSZ := HSZ2; have HG := HG2; clear hB2 HSZ2 HG2; have c0 := HG.out.c0; have c1 := HG.out.c1; have c2 := HG.out.c2; have c3 := HG.out.c3; have c4 := HG.out.c4))
   clear c0 c1 c2 c3 c4 HRO HU HSZ HAE HZA HA
   go_loopg [5] 15 (fun kx s5 wr => ∃ k : Nat, s5 = .int .i64 k ∧ k ≤ 15 ∧ 15 - k ≤ kx ∧ Hid (allTo T k = true) ∧ Hid (GB wr s0 g) ∧ Hid (RolAt wr t g) ∧ Below s0 w wr)
   case atStart => exact ⟨0, rfl, by omega, by omega, Lib.hid rfl, HG, HT, hB⟩
   case round =>
    clear hB HG HT
    rename World => wr
    obtain ⟨k, rfl, hk, hkx, HA, HG, HT, hB⟩ := hrel
    by_cases hlt : k < 15
    ·have hltz : (k : Int) < 15 := by omega
     have hsz : s0 ≤ wr.heap.size := Nat.le_of_lt HG.out.lt
     have hrow := HT.out.row hlt
     have hck := HCK.out k
     have hno : T k = false → r = false := fun h => by rw [HV3.out]; exact allTo_no hlt h
     have hnx : T k = true → Hid (allTo T (k + 1) = true) := fun h => Lib.hid (by show (allTo T k && T k) = true; rw [HA.out, h]; rfl)
     obtain ⟨x, hx⟩ : ∃ x, g.R.getD k 0 = x := ⟨_, rfl⟩
     rw [hx] at hrow hck
     obtain ⟨y2, hy2⟩ : ∃ y, rlK k = y := ⟨_, rfl⟩
     obtain ⟨y3, hy3⟩ : ∃ y, rlB k = y := ⟨_, rfl⟩
     rw [hy2, hy3] at hck
     have RK2 := Lib.hid hy2
     have RK3 := Lib.hid hy3
     clear hy2 hy3
     have h5 := fun w h => H5.out x w h
     generalize (fnd L x).isSome = q1 at *
     generalize fndA L x = fa at *
     have HROW := Lib.hid hrow
     have H5x := Lib.hid h5
     have HNo := Lib.hid hno
     have HNx := Lib.hid hnx
     have HCKx := Lib.hid hck
     have HX1 := Lib.hid hx
     clear hrow h5 hno hnx hck hx HA
     have HZr : Hid (AccAt wr g.A L) := Lib.hid (HZ.out.up (by rw [HS0.out]; exact hB))
     have HC : Hid (∀ w', Below wr.heap.size wr w' → w'.cell? ⟨t, k * 5 + 1, none⟩ = some (.int .i64 x)) := Lib.hid fun w' h => by
      have h1 := HROW.out.2.1
      rw [Nat.zero_add] at h1
      exact (h.cell (p := ⟨t, k * 5 + 1, none⟩) HT.out.1).trans h1
     go_upto_region 12 with fail
     go_cut [6, 7] from 42 to 95 (fun v6 v7 wx => ∃ g6, v6 = .pointer (some ⟨g6, 0, none⟩) ∧ v7 = .bool q1 ∧ Hid (AB wx g6 fa) ∧ Hid (GB wx s0 g) ∧ Hid (RolAt wx t g) ∧ Below s0 w wx)
     case first =>
      refine wp_region_held_drew (S := fun w9 => Below wr.heap.size wr w9) (by kernel_rfl) (dc_drew (Below.refl _ _)) (fun hH => ?_)
      refine wpAnyH_take (i := 0) (v := X) rfl (by kernel_rfl) (by kernel_rfl) (by kernel_rfl) (fun _ _ _ h => h) (yieldsIf_load_is rfl 29 _ rfl (.pointer (some ⟨s0, 0, none⟩)) rfl X (fun w9 h9 => gb_lV (HG.out.up h9) HX.out)) hH ?_
      try simp only [Act.put, List.setIfInBounds_toArray]
      refine wpAnyH_take (i := 1) (v := .slice (some ⟨t, 0, none⟩) 15 15) rfl (by kernel_rfl) (by kernel_rfl) (by kernel_rfl) (fun _ _ _ h => h) (Or.inl ⟨by rfl, fun w9 h9 => by go_simp⟩) hH ?_
      try simp only [Act.put]
      refine wpAnyH_take (i := 2) (v := .int .i64 (k : Int)) rfl (by kernel_rfl) (by kernel_rfl) (by kernel_rfl) (fun _ _ _ h => h) (Or.inl ⟨by rfl, fun w9 h9 => by go_simp⟩) hH ?_
      try simp only [Act.put]
      refine wpAnyH_take (i := 3) (v := .pointer (some ⟨t, k * 5, none⟩)) rfl (by kernel_rfl) (by kernel_rfl) (by kernel_rfl) (fun _ _ _ h => h) (Or.inl ⟨by rfl, fun w9 h9 => by go_simp⟩) hH ?_
      try simp only [Act.put]
      refine wpAnyH_take (i := 4) (v := .pointer (some ⟨t, k * 5 + 1, none⟩)) rfl (by kernel_rfl) (by kernel_rfl) (by kernel_rfl) (fun _ _ _ h => h) (Or.inl ⟨by rfl, fun w9 h9 => by go_simp⟩) hH ?_
      try simp only [Act.put]
      refine wpAnyH_take (i := 5) (v := .int .i64 x) rfl (by kernel_rfl) (by kernel_rfl) (by kernel_rfl) (fun _ _ _ h => h) (Or.inl ⟨by rfl, fun w9 h9 => by have hc9 := HC.out w9 h9; go_simp⟩) hH ?_
      try simp only [Act.put]
      refine wpAnyH_ready (rs := [6, 10]) (by kernel_rfl) (by simp) ?_
      refine AllReadyH.cons rfl (fun K hK => ?_) (AllReadyH.cons rfl (fun K hK => ?_) AllReadyH.nil)
      ·go_simp
       go_wp2_with (go_at_call 125; refine (H5x.out _ (HZr.out.up hH)).mono ?_; rintro e1 w3 ⟨rfl, hb⟩; have hB3 : Below wr.heap.size wr w3 := below_more hH hb; clear hb)
       refine hK.out _ _ hB3 (fun hH2 => ?_)
       clear hK K
       try simp only [Act.put, List.setIfInBounds_toArray, List.set_cons_zero, List.set_cons_succ]
       refine wpAnyH_take (i := 7) (v := .tuple #[accV fa, .bool q1]) rfl (by kernel_rfl) (by kernel_rfl) (by kernel_rfl) (fun _ _ _ h => h) (Or.inl ⟨by rfl, fun w9 h9 => by go_simp⟩) hH2 ?_
       try simp only [Act.put, List.setIfInBounds_toArray]
       refine wpAnyH_take (i := 8) (v := accV fa) rfl (by kernel_rfl) (by kernel_rfl) (by kernel_rfl) (fun _ _ _ h => h) (Or.inl ⟨by rfl, fun w9 h9 => by go_simp⟩) hH2 ?_
       try simp only [Act.put]
       refine wpAnyH_take (i := 9) (v := .bool q1) rfl (by kernel_rfl) (by kernel_rfl) (by kernel_rfl) (fun _ _ _ h => h) (Or.inl ⟨by rfl, fun w9 h9 => by go_simp⟩) hH2 ?_
       try simp only [Act.put]
       refine wpAnyH_ready (rs := [10]) (by kernel_rfl) (by simp) ?_
       refine AllReadyH.cons rfl (fun K hK => ?_) AllReadyH.nil
       go_simp
       refine hK.out _ _ (below_new hB3 _) (fun hH3 => ?_)
       clear hK K
       try simp only [Act.put, List.setIfInBounds_toArray, List.set_cons_zero, List.set_cons_succ]
       refine wpAnyH_ready (rs := [11]) (by kernel_rfl) (by simp) ?_
       refine AllReadyH.cons rfl (fun K hK => ?_) AllReadyH.nil
       go_simp
       refine hK.out _ _ (below_new hB3 _) (fun hH4 => ?_)
       clear hK K
       try simp only [Act.put, List.setIfInBounds_toArray, List.set_cons_zero, List.set_cons_succ]
       refine wpAnyH_ready (rs := [12]) (by kernel_rfl) (by simp) ?_
       refine AllReadyH.cons rfl (fun K hK => ?_) AllReadyH.nil
       go_simp
       refine hK.out _ _ hH4 (fun hH5 => ?_)
       clear hK K
       try simp only [Act.put, List.setIfInBounds_toArray, List.set_cons_zero, List.set_cons_succ]
       refine wpAnyH_done (by kernel_rfl) ?_ _
       go_wp2_with fail
       go_meet
       exact ⟨_, rfl, rfl, Lib.hid (ab_new w3 151 fa), Lib.hid (HG.out.up (below_new hB3 _)), Lib.hid (HT.out.up (below_new hB3 _)), hB.trans ((below_new hB3 _).mono hsz)⟩
      ·go_simp
       refine hK.out _ _ (below_new (dc_drew (Below.refl _ _)) _) (fun hH1 => ?_)
       clear hK K
       try simp only [Act.put, List.setIfInBounds_toArray, List.set_cons_zero, List.set_cons_succ]
       refine wpAnyH_ready (rs := [6]) (by kernel_rfl) (by simp) ?_
       refine AllReadyH.cons rfl (fun K hK => ?_) AllReadyH.nil
       go_simp
       go_wp2_with (go_at_call 125; refine (H5x.out _ (HZr.out.up hH1)).mono ?_; rintro e1 w3 ⟨rfl, hb⟩; have hB3 : Below wr.heap.size wr w3 := below_more hH1 hb; have HA0 : Hid (AB w3 wr.heap.size acc0) := Lib.hid ((ab_new wr.drew 151 acc0).up hb); clear hb)
       refine hK.out _ _ hB3 (fun hH2 => ?_)
       clear hK K
       try simp only [Act.put, List.setIfInBounds_toArray, List.set_cons_zero, List.set_cons_succ]
       refine wpAnyH_take (i := 7) (v := .tuple #[accV fa, .bool q1]) rfl (by kernel_rfl) (by kernel_rfl) (by kernel_rfl) (fun _ _ _ h => h) (Or.inl ⟨by rfl, fun w9 h9 => by go_simp⟩) hH2 ?_
       try simp only [Act.put, List.setIfInBounds_toArray]
       refine wpAnyH_take (i := 8) (v := accV fa) rfl (by kernel_rfl) (by kernel_rfl) (by kernel_rfl) (fun _ _ _ h => h) (Or.inl ⟨by rfl, fun w9 h9 => by go_simp⟩) hH2 ?_
       try simp only [Act.put]
       refine wpAnyH_take (i := 9) (v := .bool q1) rfl (by kernel_rfl) (by kernel_rfl) (by kernel_rfl) (fun _ _ _ h => h) (Or.inl ⟨by rfl, fun w9 h9 => by go_simp⟩) hH2 ?_
       try simp only [Act.put]
       obtain ⟨⟨z0, z1, z2, z3⟩, zlt, zf⟩ := HA0.out
       have zf0 := zf 0
       have zf1 := zf 1
       have zf2 := zf 2
       have zf3 := zf 3
       simp only [Nat.zero_add] at z1 z2 z3
       clear zf
       refine wpAnyH_ready (rs := [11]) (by kernel_rfl) (by simp) ?_
       refine AllReadyH.cons rfl (fun K hK => ?_) AllReadyH.nil
       go_simp
       refine hK.out _ _ (bset4 hB3 (Nat.le_refl _) _ _ _ _) (fun hH4 => ?_)
       clear hK K
       try simp only [Act.put, List.setIfInBounds_toArray, List.set_cons_zero, List.set_cons_succ]
       refine wpAnyH_ready (rs := [12]) (by kernel_rfl) (by simp) ?_
       refine AllReadyH.cons rfl (fun K hK => ?_) AllReadyH.nil
       go_simp
       refine hK.out _ _ hH4 (fun hH5 => ?_)
       clear hK K
       try simp only [Act.put, List.setIfInBounds_toArray, List.set_cons_zero, List.set_cons_succ]
       refine wpAnyH_done (by kernel_rfl) ?_ _
       go_wp2_with fail
       go_meet
       have hB5 := bset4 hB3 (Nat.le_refl _) (.int .i64 fa.code) (.int .i64 fa.kind) (.int .i64 fa.basis) (.int .i64 fa.par)
       exact ⟨_, rfl, rfl, Lib.hid (ab_set4 HA0.out fa), Lib.hid (HG.out.up hB5), Lib.hid (HT.out.up hB5), hB.trans (hB5.mono hsz)⟩
     case rest =>
     clear HG HT hB HC HZr H5x
     rename World => wc
     obtain ⟨g6, rfl, rfl, HA6, HG, HT, hB⟩ := hcut
     obtain ⟨⟨z0, z1, z2, z3⟩, zlt, -⟩ := HA6.out
     simp only [Nat.zero_add] at z1 z2 z3
     obtain ⟨r0, r1, r2, r3, r4⟩ := HT.out.row hlt
     simp only [Nat.zero_add] at r0 r1 r2 r3 r4
     have e2 : (fa.kind != y2) = !decide (fa.kind = y2) := by by_cases h : fa.kind = y2 <;> simp [h]
     have e3 : (fa.basis != y3) = !decide (fa.basis = y3) := by by_cases h : fa.basis = y3 <;> simp [h]
     rw [RK2.out] at r2
     rw [RK3.out] at r3
     have hck9 := HCKx.out
     clear HCKx
     generalize decide (fa.kind = y2) = q2 at *
     generalize decide (fa.basis = y3) = q3 at *
     have HCKy := Lib.hid hck9
     have HBK := Lib.hid hB
     clear hck9
     rcases (show q1 = false ∨ (q1 = true ∧ q2 = false) ∨ (q1 = true ∧ q2 = true ∧ q3 = false) ∨ (q1 = true ∧ q2 = true ∧ q3 = true) from by cases q1 <;> cases q2 <;> cases q3 <;> simp) with rfl | ⟨rfl, rfl⟩ | ⟨rfl, rfl, rfl⟩ | ⟨rfl, rfl, rfl⟩
     ·have HR := Lib.hid (HNo.out (by rw [HCKy.out]; rfl))
      go_wp2_with fail
      go_quiet (fail)
      have hB4 := below_drewN HBK.out nq
      generalize World.drewN _ nq = W8 at *
      go_wp2_with fail
      go_ret
      exact ⟨by rw [HR.out]; rfl, hB4⟩
     ·have HR := Lib.hid (HNo.out (by rw [HCKy.out]; rfl))
      go_wp2_with fail
      go_quiet (fail)
      have hB4 := below_drewN HBK.out nq
      generalize World.drewN _ nq = W8 at *
      go_wp2_with fail
      go_ret
      exact ⟨by rw [HR.out]; rfl, hB4⟩
     ·have HR := Lib.hid (HNo.out (by rw [HCKy.out]; rfl))
      go_wp2_with fail
      go_quiet (fail)
      have hB4 := below_drewN HBK.out nq
      generalize World.drewN _ nq = W8 at *
      go_wp2_with fail
      go_ret
      exact ⟨by rw [HR.out]; rfl, hB4⟩
     have HCKz : Hid (T k = allTo (fun j => !decide (g.R.getD j 0 = x)) k) := Lib.hid (by rw [HCKy.out]; rfl)
     go_wp2_with fail
     go_quiet (fail)
     have hB4 := below_drewN HBK.out nq
     have HG4 := Lib.hid (HG.out.up (below_drewN (Below.refl _ _) nq))
     have HT4 := Lib.hid (HT.out.up (below_drewN (Below.refl _ _) nq))
     clear HG HT hB HBK HA6 z0 z1 z2 z3 zlt r0 r1 r2 r3 r4 HCKy
     generalize World.drewN _ nq = W8 at *
     go_wp2_with fail
     go_loopg [8] k (fun jx s8 W => ∃ j : Nat, s8 = .int .i64 j ∧ j ≤ k ∧ k - j ≤ jx ∧ Hid (allTo (fun j => !decide (g.R.getD j 0 = x)) j = true) ∧ Hid (GB W s0 g) ∧ Hid (RolAt W t g) ∧ Below s0 w W)
     case atStart => exact ⟨0, rfl, by omega, by omega, Lib.hid rfl, HG4, HT4, hB4⟩
     case round =>
      clear hB4 HG4 HT4
      rename World => W
      obtain ⟨j, rfl, hj, hjx, HJ, HG, HT, hB⟩ := hrel
      by_cases hjl : j < k
      ·have hjz : (j : Int) < (k : Int) := by omega
       have hj15 : j < 15 := by omega
       have hj15z : (j : Int) < 15 := by omega
       obtain ⟨-, r1, -, -, -⟩ := HT.out.row hlt
       obtain ⟨-, p1, -, -, -⟩ := HT.out.row hj15
       simp only [Nat.zero_add] at r1 p1
       rw [HX1.out] at r1
       have hpj : allTo (fun j => !decide (g.R.getD j 0 = x)) (j + 1) = !decide (g.R.getD j 0 = x) := by
        show (allTo _ j && _) = _
        rw [HJ.out, Bool.true_and]
       have hpn : (!decide (g.R.getD j 0 = x)) = false → T k = false := fun h => by rw [HCKz.out]; exact allTo_no hjl h
       generalize g.R.getD j 0 = y at *
       have HBK := Lib.hid hB
       by_cases h1 : y = x
       ·have e1 : (y == x) = true := by simp [h1]
        have HR := Lib.hid (HNo.out (hpn (by rw [decide_eq_true h1]; rfl)))
        clear h1 hpn hpj
        go_wp2_with fail
        go_quiet (fail)
        have hB4 := below_drewN HBK.out nq
        generalize World.drewN _ nq = W8 at *
        go_wp2_with fail
        go_ret
        exact ⟨by rw [HR.out]; rfl, hB4⟩
       ·have e1 : (y == x) = false := by simp [h1]
        rw [decide_eq_false h1] at hpj
        have HJ2 := Lib.hid (hpj.trans rfl)
        clear h1 hpn hpj
        go_wp2_with fail
        go_quiet (fail)
        have hB4 := below_drewN HBK.out nq
        have HG4 := Lib.hid (HG.out.up (below_drewN (Below.refl _ _) nq))
        have HT4 := Lib.hid (HT.out.up (below_drewN (Below.refl _ _) nq))
        clear HG HT hB HBK r1 p1
        generalize World.drewN _ nq = W8 at *
        go_wp2_with fail
        go_roundg (k - (j + 1))
        case measure => omega
        case rel => exact ⟨j + 1, by go_num, by omega, by omega, HJ2, HG4, HT4, hB4⟩
      ·obtain rfl : j = k := by omega
       have hjz : ¬ (j : Int) < (j : Int) := by omega
       have HA2 := HNx.out (by rw [HCKz.out]; exact HJ.out)
       go_wp2_with fail
       go_roundg (15 - (j + 1))
       case measure => omega
       case rel => exact ⟨j + 1, by go_num, by omega, by omega, HA2, HG, HT, hB⟩
    ·obtain rfl : k = 15 := by omega
     have HR := Lib.hid (HV3.out.trans HA.out)
     go_wp2_with fail
     go_ret
     exact ⟨by rw [HR.out]; rfl, hB⟩
def fnE (G : List Ent) (nm : ByteArray) : Int := if fix G nm < G.length then fix G nm else 0
def fnQ (G : List Ent) (nm : ByteArray) : Bool := decide (fix G nm < G.length)
theorem fn_at {G : List Ent} {nm : ByteArray} {k : Nat} (hk : k < G.length) (h0 : ∀ j, j < k → (G.getD j ent0).nm ≠ nm) (h : (G.getD k ent0).nm = nm) : fnE G nm = k ∧ fnQ G nm = true := by
 have := fix_at hk h0 h
 unfold fnE fnQ
 rw [this]
 exact ⟨if_pos hk, decide_eq_true hk⟩
theorem fn_no {G : List Ent} {nm : ByteArray} (h0 : ∀ j, j < G.length → (G.getD j ent0).nm ≠ nm) : fnE G nm = 0 ∧ fnQ G nm = false := by
 have := fix_no h0
 unfold fnE fnQ
 rw [this]
 exact ⟨if_neg (by omega), decide_eq_false (by omega)⟩
set_option maxRecDepth 20000 in
set_option maxHeartbeats 1600000 in
theorem rfind10_any (g : Grp) (G : List Ent) (nm : ByteArray) (w : World) (he : EntsAt w g.E G) (lg : G.length = g.m) (hm : g.m ≤ 1000) :
  Calls Tryz.prog 79 #[grpV g, .string nm] w fun e w' => e = .returned (.tuple #[.int .i64 (fnE G nm), .bool (fnQ G nm)]) ∧ Below w.heap.size w w' := by
 have hB := below_alloc_new (w := w) (.cells #[.string g.cur, .int .i64 g.cy, .int .i64 g.cm, .int .i64 g.cp, .slice g.A g.n g.c, .int .i64 g.r0, .int .i64 g.r1, .int .i64 g.r2, .int .i64 g.r3, .int .i64 g.r4, .int .i64 g.r5, .int .i64 g.r6, .int .i64 g.r7, .int .i64 g.r8, .int .i64 g.r9, .int .i64 g.r10, .int .i64 g.r11, .int .i64 g.r12, .int .i64 g.r13, .int .i64 g.r14, .slice g.E g.m g.d] 29)
 have c20 := (gb_new w 29 g).c20
 have hlt20 : w.heap.size < (w.alloc (.cells #[.string g.cur, .int .i64 g.cy, .int .i64 g.cm, .int .i64 g.cp, .slice g.A g.n g.c, .int .i64 g.r0, .int .i64 g.r1, .int .i64 g.r2, .int .i64 g.r3, .int .i64 g.r4, .int .i64 g.r5, .int .i64 g.r6, .int .i64 g.r7, .int .i64 g.r8, .int .i64 g.r9, .int .i64 g.r10, .int .i64 g.r11, .int .i64 g.r12, .int .i64 g.r13, .int .i64 g.r14, .slice g.E g.m g.d] 29)).heap.size := by simp
 have hat := fun k => fn_at (G := G) (nm := nm) (k := k)
 have hno := fn_no (G := G) (nm := nm)
 obtain ⟨s0, hs0⟩ : ∃ s0, w.heap.size = s0 := ⟨_, rfl⟩
 generalize fnE G nm = z at *
 generalize fnQ G nm = q at *
 rw [hs0] at hB c20 hlt20 ⊢
 obtain ⟨E, hE⟩ : ∃ E, g.E = E := ⟨_, rfl⟩
 obtain ⟨m, hm2⟩ : ∃ m, g.m = m := ⟨_, rfl⟩
 rw [hE, hm2] at c20 hB hlt20
 rw [hE] at he
 rw [hm2] at lg hm
 have HM := Lib.hid lg
 have HZ := Lib.hid he
 have HAt := Lib.hid hat
 have HNo := Lib.hid hno
 have HS0 := Lib.hid hs0
 clear he lg hat hno
 go_enter Tryz.func79, Tryz.ntmps79
 go_wp2_with fail
 clear hs0 hE hm2
 go_loopg [6] m (fun kx s6 wr => ∃ k : Nat, s6 = .int .i64 k ∧ k ≤ m ∧ m - k ≤ kx ∧ Hid (∀ j, j < k → (G.getD j ent0).nm ≠ nm) ∧ Hid (wr.cell? ⟨s0, 20, none⟩ = some (.slice E m g.d)) ∧ Hid (s0 < wr.heap.size) ∧ Below s0 w wr)
 case atStart => exact ⟨0, rfl, by omega, by omega, Lib.hid (fun j h => absurd h (by omega)), Lib.hid c20, Lib.hid hlt20, hB⟩
 case round =>
  clear hB c20 hlt20
  obtain ⟨k, rfl, hk, hkx, HN, HC, HL, hB⟩ := hrel
  have c20 := HC.out
  by_cases hlt : k < m
  ·have hltz : (k : Int) < (m : Int) := by omega
   obtain ⟨b, off, rfl, hbw, hcs⟩ := ent_at HZ.out (k := k) (by rw [HM.out]; omega)
   obtain ⟨c0, c1, c2, c3, c4⟩ := hcs.up hB (by have := HS0.out; omega)
   have ha := HAt.out k (by rw [HM.out]; exact hlt) HN.out
   have hnx : (G.getD k ent0).nm ≠ nm → Hid (∀ j, j < k + 1 → (G.getD j ent0).nm ≠ nm) := fun h => Lib.hid fun j hj => by
    rcases Nat.lt_or_ge j k with h1 | h1
    ·exact HN.out j h1
    ·obtain rfl : j = k := by omega
     exact h
   obtain ⟨x, hx⟩ : ∃ x, G.getD k ent0 = x := ⟨_, rfl⟩
   rw [hx] at c0 c1 c2 c3 c4 ha hnx
   clear hcs hx HN
   by_cases hq : x.nm = nm
   ·have e3 : (x.nm.toList == nm.toList) = true := by rw [hq]; exact beq_self_eq_true _
    have HR := Lib.hid (ha hq)
    clear ha hnx hq
    go_wp2_with fail
    go_ret2
    exact ⟨by rw [HR.out.1, HR.out.2]; rfl, hB⟩
   ·have e3 : (x.nm.toList == nm.toList) = false := beq_eq_false_iff_ne.2 fun h => hq (bl_inj h)
    have HN2 := hnx hq
    clear ha hnx hq
    go_wp2_with fail
    go_roundg (m - (k + 1))
    case measure => omega
    case rel => exact ⟨k + 1, by go_num, by omega, by omega, HN2, HC, HL, hB⟩
  ·obtain rfl : k = m := by omega
   have hltz : ¬ (k : Int) < (k : Int) := by omega
   have HR := Lib.hid (HNo.out (by rw [HM.out]; exact HN.out))
   go_wp2_with fail
   go_ret2
   exact ⟨by rw [HR.out.1, HR.out.2]; rfl, hB⟩
def rowX (L : List Acc) (R : List Int) (G : List Ent) (i : Nat) : Bool := dsN G i && enrB L R (G.getD i ent0)
def ensR (L : List Acc) (R : List Int) (G : List Ent) : Bool := decide (1 ≤ G.length) && (decide (G.length ≤ 12) && (!(G.getD 0 ent0).jt && allTo (rowX L R G) G.length))
def grpR (g : Grp) (L : List Acc) (G : List Ent) : Bool := bokR g L && ensR L g.R G
theorem fn_row {G : List Ent} {k : Nat} (hk : k < G.length) : (dsN G k = true → fnE G (G.getD k ent0).nm = k) ∧ (dsN G k = false → fnE G (G.getD k ent0).nm ≠ k) := by
 have hle : fix G (G.getD k ent0).nm ≤ k := by
  obtain ⟨nm, hnm⟩ : ∃ nm, (G.getD k ent0).nm = nm := ⟨_, rfl⟩
  rw [hnm]
  rw [List.getD_eq_getElem?_getD, List.getElem?_eq_getElem hk] at hnm
  rcases Nat.lt_or_ge k (fix G nm) with h | h
  ·have h3 := List.not_of_lt_findIdx (show k < G.findIdx fun e => decide (e.nm = nm) from h)
   simp only [Option.getD_some] at hnm
   simp [hnm] at h3
  ·exact h
 have h1 := fix_ds hk
 have e : fnE G (G.getD k ent0).nm = (fix G (G.getD k ent0).nm : Nat) := by
  unfold fnE
  rw [if_pos (by omega)]
 rw [e]
 refine ⟨fun h => by rw [h1.2 h], fun h h2 => ?_⟩
 rw [h1.1 (by omega)] at h; cases h
def rv10Fa (X : Value) (g : Grp) (b off k s0 : Nat) (x : Ent) (z : Int) (q : Bool) : List (Nat × AS.Fact) := [(36, AS.Fact.is (X)), (37, AS.Fact.is (.pointer (some ⟨s0, 20, none⟩))), (38, AS.Fact.is (.slice (some ⟨b, off, none⟩) g.m g.d)), (39, AS.Fact.is (.int .i64 (k : Int))), (40, AS.Fact.is (.pointer (some ⟨b, off + k * 5, none⟩))), (41, AS.Fact.is (.pointer (some ⟨b, off + k * 5, none⟩))), (42, AS.Fact.is (.string x.nm)), (43, AS.Fact.is (.tuple #[.int .i64 z, .bool q])), (35, AS.Fact.is (.tuple #[.int .i64 z, .bool q])), (44, AS.Fact.is (.int .i64 z)), (45, AS.Fact.is (.bool q)), (4, AS.Fact.is (.int .i64 z)), (5, AS.Fact.is (.bool q))]
def rv10Fb (k : Nat) (z : Int) : List (Nat × AS.Fact) := [(46, AS.Fact.is (.int .i64 z)), (47, AS.Fact.is (.int .i64 (k : Int))), (48, AS.Fact.is (.bool true)), (49, AS.Fact.is (.bool true)), (50, AS.Fact.is (undef)), (51, AS.Fact.is (undef)), (52, AS.Fact.is (undef)), (53, AS.Fact.is (undef)), (54, AS.Fact.is (undef)), (55, AS.Fact.is (undef)), (56, AS.Fact.is (undef)), (57, AS.Fact.is (undef)), (58, AS.Fact.is (.bool true))]
def rv10Fc (X : Value) (g : Grp) (b off k s0 : Nat) (x : Ent) (z : Int) (q2 : Bool) : List (Nat × AS.Fact) := [(46, AS.Fact.is (.int .i64 z)), (47, AS.Fact.is (.int .i64 (k : Int))), (48, AS.Fact.is (.bool false)), (49, AS.Fact.is (.bool false)), (50, AS.Fact.is (X)), (51, AS.Fact.is (.pointer (some ⟨s0, 20, none⟩))), (52, AS.Fact.is (.slice (some ⟨b, off, none⟩) g.m g.d)), (53, AS.Fact.is (.int .i64 (k : Int))), (54, AS.Fact.is (.pointer (some ⟨b, off + k * 5, none⟩))), (55, AS.Fact.is (eV x)), (56, AS.Fact.is (.bool q2)), (57, AS.Fact.is (.bool (!q2))), (58, AS.Fact.is (.bool (!q2)))]
set_option maxRecDepth 20000 in
set_option maxHeartbeats 6400000 in
theorem rvalid10_any (g : Grp) (L : List Acc) (G : List Ent) (w : World) (hk : GrK w g L G) (hs : Sm g G) (hw : GrW g L G) :
  Calls Tryz.prog 43 #[grpV g] w fun e' w' => e' = .returned (.bool (grpR g L G)) ∧ Below w.heap.size w w' := by
 have hv : grpR g L G = (bokR g L && (decide (1 ≤ G.length) && (decide (G.length ≤ 12) && (!(G.getD 0 ent0).jt && allTo (rowX L g.R G) G.length)))) := rfl
 rw [hk.lg] at hv
 have hrow : ∀ k, rowX L g.R G k = (dsN G k && enrB L g.R (G.getD k ent0)) := fun _ => rfl
 have h1 : ∀ k, k < g.m → ∀ w, AccAt w g.A L → EntsK w G → Calls Tryz.prog 80 #[grpV g, eV (G.getD k ent0)] w fun e' w' => e' = .returned (.bool (enrB L g.R (G.getD k ent0))) ∧ Below w.heap.size w w' := fun k hk2 w hz he => by
  have hm := getD_mem_acc (d := ent0) (L := G) (i := k) (by rw [hk.lg]; exact hk2)
  have := hs.e _ hm
  have := hs.n
  have := hw.txt _ hm
  exact rent_any g L _ w hz hk.ln (by omega) (he _ hm) (by omega) (by omega) this.1 this.2
 have h2 := fun nm w h => rfind10_any g G nm w h hk.lg (by have := hs.m; omega)
 have h3 := fun w h => rbooks_any g L w h hk.ln (by have := hs.n; omega) hw.cur
 have hfn : ∀ k, k < g.m → (dsN G k = true → fnE G (G.getD k ent0).nm = k) ∧ (dsN G k = false → fnE G (G.getD k ent0).nm ≠ k) := fun k hk2 => fn_row (by rw [hk.lg]; exact hk2)
 have hat := fun k (hk2 : k < g.m) => ent_at hk.he (k := k) (by rw [hk.lg]; exact hk2)
 obtain ⟨X, hX⟩ : ∃ X : Value, X = grpV g := ⟨_, rfl⟩
 rw [← hX] at h1 h2 h3
 generalize grpR g L G = r at *
 generalize bokR g L = qb at *
 obtain ⟨P, hP⟩ : ∃ P : Nat → Bool, rowX L g.R G = P := ⟨_, rfl⟩
 rw [hP] at hv
 simp only [hP] at hrow
 obtain ⟨s0, hs0⟩ : ∃ s0, w.heap.size = s0 := ⟨_, rfl⟩
 have hm14 := hs.m
 have HS0 := Lib.hid hs0
 have HX := Lib.hid hX
 have HV := Lib.hid hv
 have HRow := Lib.hid hrow
 have H1 := Lib.hid h1
 have H2 := Lib.hid h2
 have HBO := Lib.hid h3
 have HFN := Lib.hid hfn
 have HAt := Lib.hid hat
 have HZ := Lib.hid hk.hz
 have HEK := Lib.hid hk.hk
 have HEA := Lib.hid hk.he
 clear hk hs hw hv hrow h1 h2 h3 hfn hat hX hP
 by_cases hqm : qb = false ∨ g.m = 0
 ·have hB := below_alloc_new (w := w) (.cells #[.string g.cur, .int .i64 g.cy, .int .i64 g.cm, .int .i64 g.cp, .slice g.A g.n g.c, .int .i64 g.r0, .int .i64 g.r1, .int .i64 g.r2, .int .i64 g.r3, .int .i64 g.r4, .int .i64 g.r5, .int .i64 g.r6, .int .i64 g.r7, .int .i64 g.r8, .int .i64 g.r9, .int .i64 g.r10, .int .i64 g.r11, .int .i64 g.r12, .int .i64 g.r13, .int .i64 g.r14, .slice g.E g.m g.d] 29)
  have hG := gb_new w 29 g
  have HB := Lib.hid hB
  have hsz : s0 ≤ (w.alloc (.cells #[.string g.cur, .int .i64 g.cy, .int .i64 g.cm, .int .i64 g.cp, .slice g.A g.n g.c, .int .i64 g.r0, .int .i64 g.r1, .int .i64 g.r2, .int .i64 g.r3, .int .i64 g.r4, .int .i64 g.r5, .int .i64 g.r6, .int .i64 g.r7, .int .i64 g.r8, .int .i64 g.r9, .int .i64 g.r10, .int .i64 g.r11, .int .i64 g.r12, .int .i64 g.r13, .int .i64 g.r14, .slice g.E g.m g.d] 29)).heap.size := by simp; omega
  rw [hs0] at hB hG ⊢
  have HG := Lib.hid hG
  have HSZ := Lib.hid hsz
  have c20 := hG.c20
  have c20' := fun w' (h : Below (w.alloc (.cells #[.string g.cur, .int .i64 g.cy, .int .i64 g.cm, .int .i64 g.cp, .slice g.A g.n g.c, .int .i64 g.r0, .int .i64 g.r1, .int .i64 g.r2, .int .i64 g.r3, .int .i64 g.r4, .int .i64 g.r5, .int .i64 g.r6, .int .i64 g.r7, .int .i64 g.r8, .int .i64 g.r9, .int .i64 g.r10, .int .i64 g.r11, .int .i64 g.r12, .int .i64 g.r13, .int .i64 g.r14, .slice g.E g.m g.d] 29)).heap.size (w.alloc (.cells #[.string g.cur, .int .i64 g.cy, .int .i64 g.cm, .int .i64 g.cp, .slice g.A g.n g.c, .int .i64 g.r0, .int .i64 g.r1, .int .i64 g.r2, .int .i64 g.r3, .int .i64 g.r4, .int .i64 g.r5, .int .i64 g.r6, .int .i64 g.r7, .int .i64 g.r8, .int .i64 g.r9, .int .i64 g.r10, .int .i64 g.r11, .int .i64 g.r12, .int .i64 g.r13, .int .i64 g.r14, .slice g.E g.m g.d] 29)) w') => (hG.up h).c20
  have HC := Lib.hid c20'
  clear hG c20' hsz
  rcases hqm with rfl | hm0
  ·have HR : Hid (r = false) := Lib.hid (by rw [HV.out]; rfl)
   go_enter Tryz.func43, Tryz.ntmps43
   go_wp2_with (first | (refine wpList_load_is rfl 29 _ rfl (.pointer (some ⟨s0, 0, none⟩)) rfl X (gb_lV HG.out HX.out) ?_) | (go_at_call 78; (with_reducible refine (HBO.out _ (HZ.out.up (HB.out))).mono ?_); rintro e1 w1 ⟨rfl, hb⟩; have hB2 := hB.trans (hb.mono HSZ.out); have HG2 := Lib.hid (HG.out.up hb); have HSZ2 : Hid (s0 ≤ w1.heap.size) := Lib.hid (Nat.le_trans HSZ.out hb.size); clear hb hB HSZ HG HB))
   go_ret
   exact ⟨by rw [HR.out]; rfl, hB2⟩
  ·have HR : Hid (r = false) := Lib.hid (by rw [HV.out, decide_eq_false (show ¬ 1 ≤ g.m by omega)]; simp)
   have em : decide ((g.m : Int) < 1) = true := decide_eq_true (by omega)
   clear hm0
   cases qb
   ·go_enter Tryz.func43, Tryz.ntmps43
    go_wp2_with (first | (refine wpList_load_is rfl 29 _ rfl (.pointer (some ⟨s0, 0, none⟩)) rfl X (gb_lV HG.out HX.out) ?_) | (go_at_call 78; (with_reducible refine (HBO.out _ (HZ.out.up (HB.out))).mono ?_); rintro e1 w1 ⟨rfl, hb⟩; have hB2 := hB.trans (hb.mono HSZ.out); have HG2 := Lib.hid (HG.out.up hb); have HSZ2 : Hid (s0 ≤ w1.heap.size) := Lib.hid (Nat.le_trans HSZ.out hb.size); clear hb hB HSZ HG HB))
    go_ret
    exact ⟨by rw [HR.out]; rfl, hB2⟩
   ·go_enter Tryz.func43, Tryz.ntmps43
    go_wp2_with (first | (refine wpList_load_is rfl 29 _ rfl (.pointer (some ⟨s0, 0, none⟩)) rfl X (gb_lV HG.out HX.out) ?_) | (go_at_call 78; (with_reducible refine (HBO.out _ (HZ.out.up (HB.out))).mono ?_); rintro e1 w1 ⟨rfl, hb⟩; have hB2 := hB.trans (hb.mono HSZ.out); have HG2 := Lib.hid (HG.out.up hb); have HSZ2 : Hid (s0 ≤ w1.heap.size) := Lib.hid (Nat.le_trans HSZ.out hb.size); have hb9 := hb; clear hb hB HSZ HG HB c20; have c20 := HC.out w1 hb9; clear hb9))
    go_ret
    exact ⟨by rw [HR.out]; rfl, hB2⟩
 have hqb : qb = true := by cases qb; exact absurd (.inl rfl) hqm; rfl
 subst hqb
 have hm1 : 1 ≤ g.m := by
  rcases Nat.eq_zero_or_pos g.m with h | h
  ·exact absurd (.inr h) hqm
  ·exact h
 clear hqm
 have em : decide ((g.m : Int) < 1) = false := decide_eq_false (by omega)
 obtain ⟨b, off, eE, hbw, hc0⟩ := HAt.out 0 (by omega)
 have hB := below_alloc_new (w := w) (.cells #[.string g.cur, .int .i64 g.cy, .int .i64 g.cm, .int .i64 g.cp, .slice g.A g.n g.c, .int .i64 g.r0, .int .i64 g.r1, .int .i64 g.r2, .int .i64 g.r3, .int .i64 g.r4, .int .i64 g.r5, .int .i64 g.r6, .int .i64 g.r7, .int .i64 g.r8, .int .i64 g.r9, .int .i64 g.r10, .int .i64 g.r11, .int .i64 g.r12, .int .i64 g.r13, .int .i64 g.r14, .slice g.E g.m g.d] 29)
 have HB := Lib.hid hB
 have hG := gb_new w 29 g
 have hsz : s0 ≤ (w.alloc (.cells #[.string g.cur, .int .i64 g.cy, .int .i64 g.cm, .int .i64 g.cp, .slice g.A g.n g.c, .int .i64 g.r0, .int .i64 g.r1, .int .i64 g.r2, .int .i64 g.r3, .int .i64 g.r4, .int .i64 g.r5, .int .i64 g.r6, .int .i64 g.r7, .int .i64 g.r8, .int .i64 g.r9, .int .i64 g.r10, .int .i64 g.r11, .int .i64 g.r12, .int .i64 g.r13, .int .i64 g.r14, .slice g.E g.m g.d] 29)).heap.size := by simp; omega
 have hc20 : ∀ w', Below (w.alloc (.cells #[.string g.cur, .int .i64 g.cy, .int .i64 g.cm, .int .i64 g.cp, .slice g.A g.n g.c, .int .i64 g.r0, .int .i64 g.r1, .int .i64 g.r2, .int .i64 g.r3, .int .i64 g.r4, .int .i64 g.r5, .int .i64 g.r6, .int .i64 g.r7, .int .i64 g.r8, .int .i64 g.r9, .int .i64 g.r10, .int .i64 g.r11, .int .i64 g.r12, .int .i64 g.r13, .int .i64 g.r14, .slice g.E g.m g.d] 29)).heap.size (w.alloc (.cells #[.string g.cur, .int .i64 g.cy, .int .i64 g.cm, .int .i64 g.cp, .slice g.A g.n g.c, .int .i64 g.r0, .int .i64 g.r1, .int .i64 g.r2, .int .i64 g.r3, .int .i64 g.r4, .int .i64 g.r5, .int .i64 g.r6, .int .i64 g.r7, .int .i64 g.r8, .int .i64 g.r9, .int .i64 g.r10, .int .i64 g.r11, .int .i64 g.r12, .int .i64 g.r13, .int .i64 g.r14, .slice g.E g.m g.d] 29)) w' → w'.cell? ⟨s0, 20, none⟩ = some (.slice (some ⟨b, off, none⟩) g.m g.d) := fun w' h => by rw [← eE, ← hs0]; exact (hG.up h).c20
 have hd4 : ∀ w', Below w.heap.size w w' → w'.cell? ⟨b, off + 4, none⟩ = some (.bool (G.getD 0 ent0).jt) := fun w' h => by
  have := (hc0.up h hbw).c4
  simpa only [Nat.zero_mul, Nat.add_zero] using this
 rw [hs0] at hB hG
 rw [eE] at hB hG hsz hc20
 have HB : Hid (Below w.heap.size w (w.alloc (.cells #[.string g.cur, .int .i64 g.cy, .int .i64 g.cm, .int .i64 g.cp, .slice g.A g.n g.c, .int .i64 g.r0, .int .i64 g.r1, .int .i64 g.r2, .int .i64 g.r3, .int .i64 g.r4, .int .i64 g.r5, .int .i64 g.r6, .int .i64 g.r7, .int .i64 g.r8, .int .i64 g.r9, .int .i64 g.r10, .int .i64 g.r11, .int .i64 g.r12, .int .i64 g.r13, .int .i64 g.r14, .slice (some ⟨b, off, none⟩) g.m g.d] 29))) := Lib.hid (by rw [hs0]; exact hB)
 have HG := Lib.hid hG
 have HSZ := Lib.hid hsz
 have HC := Lib.hid hc20
 have HD4 := Lib.hid hd4
 have hv2 := HV.out
 rw [decide_eq_true hm1, Bool.true_and, Bool.true_and] at hv2
 have h0z : (0 : Int) < (g.m : Int) := by omega
 rw [hs0]
 have c20 := hG.c20
 rw [eE] at c20
 rcases Nat.lt_or_ge 12 g.m with k1 | k1
 ·have e1 : decide ((12 : Int) < (g.m : Int)) = true := decide_eq_true (by omega)
  have HR : Hid (r = false) := Lib.hid (by rw [hv2, decide_eq_false (by omega)]; rfl)
  clear k1 hv2 hbw hc0 hc20 hd4 hG hsz
  go_enter Tryz.func43, Tryz.ntmps43
  go_wp2_with (first | (refine wpList_load_is rfl 29 _ rfl (.pointer (some ⟨s0, 0, none⟩)) rfl X (gb_lV HG.out HX.out) ?_) | (go_at_call 78; (with_reducible refine (HBO.out _ (HZ.out.up (HB.out))).mono ?_); rintro e1 w1 ⟨rfl, hb⟩; have hB2 := hB.trans (hb.mono HSZ.out); have HG2 := Lib.hid (HG.out.up hb); have HSZ2 : Hid (s0 ≤ w1.heap.size) := Lib.hid (Nat.le_trans HSZ.out hb.size); have hb9 := hb; clear hb hB HSZ HG HB c20; have c20 := HC.out w1 hb9; have d4 := HD4.out w1 (by rw [hs0]; exact hB2); clear hb9))
  go_ret
  exact ⟨by rw [HR.out]; rfl, hB2⟩
 have e1 : decide ((12 : Int) < (g.m : Int)) = false := decide_eq_false (by omega)
 rw [decide_eq_true k1, Bool.true_and] at hv2
 generalize (G.getD 0 ent0).jt = jt at *
 cases jt
 case true =>
  have HR : Hid (r = false) := Lib.hid (by rw [hv2]; rfl)
  clear k1 hv2 hbw hc0 hc20 hd4 hG hsz
  go_enter Tryz.func43, Tryz.ntmps43
  go_wp2_with (first | (refine wpList_load_is rfl 29 _ rfl (.pointer (some ⟨s0, 0, none⟩)) rfl X (gb_lV HG.out HX.out) ?_) | (go_at_call 78; (with_reducible refine (HBO.out _ (HZ.out.up (HB.out))).mono ?_); rintro e1 w1 ⟨rfl, hb⟩; have hB2 := hB.trans (hb.mono HSZ.out); have HG2 := Lib.hid (HG.out.up hb); have HSZ2 : Hid (s0 ≤ w1.heap.size) := Lib.hid (Nat.le_trans HSZ.out hb.size); have hb9 := hb; clear hb hB HSZ HG HB c20; have c20 := HC.out w1 hb9; have d4 := HD4.out w1 (by rw [hs0]; exact hB2); clear hb9))
  go_ret
  exact ⟨by rw [HR.out]; rfl, hB2⟩
 have HV2 := Lib.hid (show r = allTo P g.m from hv2)
 clear k1 hv2 hc0 hc20 hd4 hG HV hsz
 go_enter Tryz.func43, Tryz.ntmps43
 go_wp2_with (first | (refine wpList_load_is rfl 29 _ rfl (.pointer (some ⟨s0, 0, none⟩)) rfl X (gb_lV HG.out HX.out) ?_) | (go_at_call 78; (with_reducible refine (HBO.out _ (HZ.out.up (HB.out))).mono ?_); rintro e1 w1 ⟨rfl, hb⟩; have hB2 := hB.trans (hb.mono HSZ.out); have HG2 := Lib.hid (HG.out.up hb); have HSZ2 : Hid (s0 ≤ w1.heap.size) := Lib.hid (Nat.le_trans HSZ.out hb.size); have hb9 := hb; clear hb hB HSZ HG HB c20; have c20 := HC.out w1 hb9; have d4 := HD4.out w1 (by rw [hs0]; exact hB2); clear hb9))
 clear c20
 try clear c20
 have hat2 : ∀ k, k < g.m → E5 w b (off + k * 5) (G.getD k ent0) := fun k hk => by
  obtain ⟨b', off', e', hb', hc'⟩ := HAt.out k hk
  rw [eE] at e'
  cases e'
  exact hc'
 have HAt2 := Lib.hid hat2
 have HEA2 : Hid (EntsAt w (some ⟨b, off, none⟩) G) := Lib.hid (by rw [← eE]; exact HEA.out)
 have HEE := Lib.hid eE
 have HBW := Lib.hid hbw
 clear HAt hat2 hs0 eE hbw HEA HC HD4
 go_loopg [3] g.m (fun kx s3 wr => ∃ k : Nat, s3 = .int .i64 k ∧ k ≤ g.m ∧ g.m - k ≤ kx ∧ Hid (allTo P k = true) ∧ Hid (GB wr s0 g) ∧ Below s0 w wr)
 case atStart => exact ⟨0, rfl, by omega, by omega, Lib.hid rfl, HG2, hB2⟩
 case round =>
  clear hB2 HG2
  obtain ⟨k, rfl, hk, hkx, HA, HG, hB⟩ := hrel
  obtain ⟨W0, hW0⟩ : ∃ W0, wr = W0 := ⟨_, rfl⟩
  subst hW0
  have HC20 : Hid (∀ w', Below wr.heap.size wr w' → w'.cell? ⟨s0, 20, none⟩ = some (.slice (some ⟨b, off, none⟩) g.m g.d)) := Lib.hid fun w' h => by rw [← HEE.out]; exact (HG.out.up h).c20
  have c20 := HC20.out wr (Below.refl _ _)
  have hsz : s0 ≤ wr.heap.size := Nat.le_of_lt HG.out.lt
  by_cases hlt : k < g.m
  ·have hltz : (k : Int) < (g.m : Int) := by omega
   have hd5 := (HAt2.out k hlt).up hB (by have := HS0.out; have := HBW.out; omega)
   have hno : P k = false → r = false := fun h => by rw [HV2.out]; exact allTo_no hlt h
   have hnx : P k = true → Hid (allTo P (k + 1) = true) := fun h => Lib.hid (by show (allTo P k && P k) = true; rw [HA.out, h]; rfl)
   have hrow := HRow.out k
   have hfn := HFN.out k hlt
   have h1x := fun w h h' => H1.out k hlt w h h'
   obtain ⟨x, hx⟩ : ∃ x, G.getD k ent0 = x := ⟨_, rfl⟩
   rw [hx] at hd5 hrow hfn h1x
   have h2x := fun w h => H2.out x.nm w h
   have hea : EntsAt wr (some ⟨b, off, none⟩) G := HEA2.out.up (by rw [HS0.out]; exact hB)
   have hea3 : ∀ w, EntsAt w (some ⟨b, off, none⟩) G → EntsAt w g.E G := fun w h => by rw [HEE.out]; exact h
   generalize enrB L g.R x = q2 at *
   generalize P k = pk at *
   obtain ⟨z, hz⟩ : ∃ z, fnE G x.nm = z := ⟨_, rfl⟩
   obtain ⟨q, hq⟩ : ∃ q, fnQ G x.nm = q := ⟨_, rfl⟩
   rw [hz, hq] at h2x
   rw [hz] at hfn
   have hfi : ∀ w, EntsAt w (some ⟨b, off, none⟩) G → Calls Tryz.prog 79 #[X, .string x.nm] w fun e' w' => e' = .returned (.tuple #[.int .i64 z, .bool q]) ∧ Below w.heap.size w w' := fun w h => h2x w (hea3 w h)
   have hbW : b < wr.heap.size := by have := HS0.out; have := HBW.out; omega
   have HD5 := Lib.hid hd5
   have HEA := Lib.hid hea
   have HFI := Lib.hid hfi
   have HEN := Lib.hid h1x
   have HNoo := Lib.hid hno
   have HNx := Lib.hid hnx
   have HRo := Lib.hid hrow
   have HFx := Lib.hid hfn
   have HZ9 : Hid (AccAt wr g.A L) := Lib.hid (HZ.out.up (by rw [HS0.out]; exact hB))
   have HEK9 : Hid (EntsK wr G) := Lib.hid (HEK.out.up (by rw [HS0.out]; exact hB))
   clear hd5 hno hnx hrow hfn h1x hx h2x hea hea3 hz hq hfi HA
   go_wp2_with fail
   refine AS.region_facts (rv10Fa X g b off k s0 x z q) (HNo wr) [[], [], [37], [], [38, 39], [40], [41], [36, 42], [43], [35], [35], [44], [45]] [] [[]] [0, 0, 0, 0, 0, 0, 0, 0, 0, 0, 0, 0, 0] [] (fun u => by simp only [rv10Fa, AS.temps, List.map_cons, List.map_nil, fillL, List.setIfInBounds_toArray, List.set_cons_zero, List.set_cons_succ]; rfl) (by kernel_rfl) (by kernel_rfl) (HNo.st wr) (dc_drew (Below.refl _ _)) ?_ ?_
   ·refine AS.sc rfl rfl rfl ?_ ?_
    ·intro k_ u w_ hk_ hJ hF K hK
     clear hF
     refine wp_load_is 29 _ rfl (.pointer (some ⟨s0, 0, none⟩)) rfl X (gb_lV (HG.out.up (hJ : Below wr.heap.size wr w_)) HX.out) ?_
     exact hK.out _ _ (Below.refl _ _) (rfl) trivial
    refine AS.sc rfl rfl rfl ?_ ?_
    ·intro k_ u w_ hk_ hJ hF K hK
     clear hF
     go_simp
     exact hK.out _ _ (Below.refl _ _) (rfl) trivial
    refine AS.sc rfl rfl rfl ?_ ?_
    ·intro k_ u w_ hk_ hJ hF K hK
     have h37 : u 37 = .pointer (some ⟨s0, 20, none⟩) := AS.facts_get hF 37 (by simp)
     clear hF
     simp only [h37] at hK ⊢
     clear h37
     have c20 := HC20.out w_ (hJ : Below wr.heap.size wr w_)
     go_simp
     exact hK.out _ _ (Below.refl _ _) (rfl) trivial
    refine AS.sc rfl rfl rfl ?_ ?_
    ·intro k_ u w_ hk_ hJ hF K hK
     clear hF
     go_simp
     exact hK.out _ _ (Below.refl _ _) (rfl) trivial
    refine AS.sc rfl rfl rfl ?_ ?_
    ·intro k_ u w_ hk_ hJ hF K hK
     have h38 : u 38 = .slice (some ⟨b, off, none⟩) g.m g.d := AS.facts_get hF 38 (by simp)
     have h39 : u 39 = .int .i64 (k : Int) := AS.facts_get hF 39 (by simp)
     clear hF
     simp only [h38, h39] at hK ⊢
     clear h38 h39
     go_simp
     exact hK.out _ _ (Below.refl _ _) (rfl) trivial
    refine AS.sc rfl rfl rfl ?_ ?_
    ·intro k_ u w_ hk_ hJ hF K hK
     have h40 : u 40 = .pointer (some ⟨b, off + k * 5, none⟩) := AS.facts_get hF 40 (by simp)
     clear hF
     simp only [h40] at hK ⊢
     clear h40
     go_simp
     exact hK.out _ _ (Below.refl _ _) (rfl) trivial
    refine AS.sc rfl rfl rfl ?_ ?_
    ·intro k_ u w_ hk_ hJ hF K hK
     have h41 : u 41 = .pointer (some ⟨b, off + k * 5, none⟩) := AS.facts_get hF 41 (by simp)
     clear hF
     simp only [h41] at hK ⊢
     clear h41
     obtain ⟨d0, d1, d2, d3, d4⟩ := HD5.out.up (hJ : Below wr.heap.size wr w_) hbW
     go_simp
     exact hK.out _ _ (Below.refl _ _) (rfl) trivial
    refine AS.sc rfl rfl rfl ?_ ?_
    ·intro k_ u w_ hk_ hJ hF K hK
     have h36 : u 36 = X := AS.facts_get hF 36 (by simp)
     have h42 : u 42 = .string x.nm := AS.facts_get hF 42 (by simp)
     clear hF
     simp only [h36, h42] at hK ⊢
     clear h36 h42
     have he9 := HEA.out.up (hJ : Below wr.heap.size wr w_)
     go_simp
     refine (HFI.out _ he9).mono ?_
     rintro e w3 ⟨rfl, hb⟩
     exact hK.out _ _ hb (rfl) trivial
    refine AS.sc rfl rfl rfl ?_ ?_
    ·intro k_ u w_ hk_ hJ hF K hK
     have h43 : u 43 = .tuple #[.int .i64 z, .bool q] := AS.facts_get hF 43 (by simp)
     clear hF
     simp only [h43] at hK ⊢
     clear h43
     go_simp
     exact hK.out _ _ (Below.refl _ _) (rfl) trivial
    refine AS.sc rfl rfl rfl ?_ ?_
    ·intro k_ u w_ hk_ hJ hF K hK
     have h35 : u 35 = .tuple #[.int .i64 z, .bool q] := AS.facts_get hF 35 (by simp)
     clear hF
     simp only [h35] at hK ⊢
     clear h35
     go_simp
     exact hK.out _ _ (Below.refl _ _) (rfl) trivial
    refine AS.sc rfl rfl rfl ?_ ?_
    ·intro k_ u w_ hk_ hJ hF K hK
     have h35 : u 35 = .tuple #[.int .i64 z, .bool q] := AS.facts_get hF 35 (by simp)
     clear hF
     simp only [h35] at hK ⊢
     clear h35
     go_simp
     exact hK.out _ _ (Below.refl _ _) (rfl) trivial
    refine AS.sc rfl rfl rfl ?_ ?_
    ·intro k_ u w_ hk_ hJ hF K hK
     have h44 : u 44 = .int .i64 z := AS.facts_get hF 44 (by simp)
     clear hF
     simp only [h44] at hK ⊢
     clear h44
     go_simp
     exact hK.out _ _ (Below.refl _ _) (rfl) trivial
    refine AS.sc rfl rfl rfl ?_ ?_
    ·intro k_ u w_ hk_ hJ hF K hK
     have h45 : u 45 = .bool q := AS.facts_get hF 45 (by simp)
     clear hF
     simp only [h45] at hK ⊢
     clear h45
     go_simp
     exact hK.out _ _ (Below.refl _ _) (rfl) trivial
    exact AS.StepsOk.nil
   ·intro u W9 hJ9 hF
    have h4 : u 4 = .int .i64 z := AS.facts_get hF 4 (by simp [rv10Fa, AS.temps])
    have h5 : u 5 = .bool q := AS.facts_get hF 5 (by simp [rv10Fa, AS.temps])
    have hB9 : Below wr.heap.size wr W9 := hJ9
    clear hF hJ9
    rename World => W8
    try simp only [h4, h5]
    clear h4 h5
    have HG8 := Lib.hid (HG.out.up hB9)
    have hB8 := hB.trans (hB9.mono hsz)
    have hsz8 : s0 ≤ W8.heap.size := Nat.le_of_lt HG8.out.lt
    have HC28 : Hid (∀ w', Below W8.heap.size W8 w' → w'.cell? ⟨s0, 20, none⟩ = some (.slice (some ⟨b, off, none⟩) g.m g.d)) := Lib.hid fun w' h => by rw [← HEE.out]; exact (HG8.out.up h).c20
    have HD58 := Lib.hid (HD5.out.up hB9 hbW)
    have hbW8 : b < W8.heap.size := Nat.lt_of_lt_of_le hbW hB9.size
    have HZ98 := Lib.hid (HZ9.out.up hB9)
    have HEK98 := Lib.hid (HEK9.out.up hB9)
    clear HG HC20 HD5 HZ9 HEK9 HEA HFI hB9 hbW c20 hB
    cases hds : dsN G k
    ·have HZK : Hid ((z != (k : Int)) = true) := Lib.hid (by simpa using HFx.out.2 hds)
     have HR := Lib.hid (HNoo.out (by rw [HRo.out, hds]; rfl))
     have hB := hB8
     clear hds HRo HFx HNoo HNx
     go_wp2_with fail
     refine AS.region_facts (rv10Fb k z) (HNo W8) [[], [], [46, 47], [48], [49], [49], [49], [49], [49], [49], [49], [49], [49, 57]] [] [[]] [0, 0, 0, 0, 0, 0, 0, 0, 0, 0, 0, 0, 0] [] (fun u => by simp only [rv10Fb, AS.temps, List.map_cons, List.map_nil, fillL, List.setIfInBounds_toArray, List.set_cons_zero, List.set_cons_succ]; rfl) (by kernel_rfl) (by kernel_rfl) (HNo.st W8) (dc_drew (Below.refl _ _)) ?_ ?_
     ·refine AS.sc rfl rfl rfl ?_ ?_
      ·intro k_ u w_ hk_ hJ hF K hK
       clear hF
       go_simp
       exact hK.out _ _ (Below.refl _ _) (rfl) trivial
      refine AS.sc rfl rfl rfl ?_ ?_
      ·intro k_ u w_ hk_ hJ hF K hK
       clear hF
       go_simp
       exact hK.out _ _ (Below.refl _ _) (rfl) trivial
      refine AS.sc rfl rfl rfl ?_ ?_
      ·intro k_ u w_ hk_ hJ hF K hK
       have h46 : u 46 = .int .i64 z := AS.facts_get hF 46 (by simp)
       have h47 : u 47 = .int .i64 (k : Int) := AS.facts_get hF 47 (by simp)
       clear hF
       simp only [h46, h47] at hK ⊢
       clear h46 h47
       have hz9 := HZK.out
       go_simp
       exact hK.out _ _ (Below.refl _ _) (rfl) trivial
      refine AS.sc rfl rfl rfl ?_ ?_
      ·intro k_ u w_ hk_ hJ hF K hK
       have h48 : u 48 = .bool true := AS.facts_get hF 48 (by simp)
       clear hF
       simp only [h48] at hK ⊢
       clear h48
       go_simp
       exact hK.out _ _ (Below.refl _ _) (rfl) trivial
      refine AS.sc rfl rfl rfl ?_ ?_
      ·intro k_ u w_ hk_ hJ hF K hK
       have h49 : u 49 = .bool true := AS.facts_get hF 49 (by simp)
       clear hF
       simp only [h49] at hK ⊢
       clear h49
       go_simp
       exact hK.out _ _ (Below.refl _ _) (rfl) trivial
      refine AS.sc rfl rfl rfl ?_ ?_
      ·intro k_ u w_ hk_ hJ hF K hK
       have h49 : u 49 = .bool true := AS.facts_get hF 49 (by simp)
       clear hF
       simp only [h49] at hK ⊢
       clear h49
       go_simp
       exact hK.out _ _ (Below.refl _ _) (rfl) trivial
      refine AS.sc rfl rfl rfl ?_ ?_
      ·intro k_ u w_ hk_ hJ hF K hK
       have h49 : u 49 = .bool true := AS.facts_get hF 49 (by simp)
       clear hF
       simp only [h49] at hK ⊢
       clear h49
       go_simp
       exact hK.out _ _ (Below.refl _ _) (rfl) trivial
      refine AS.sc rfl rfl rfl ?_ ?_
      ·intro k_ u w_ hk_ hJ hF K hK
       have h49 : u 49 = .bool true := AS.facts_get hF 49 (by simp)
       clear hF
       simp only [h49] at hK ⊢
       clear h49
       go_simp
       exact hK.out _ _ (Below.refl _ _) (rfl) trivial
      refine AS.sc rfl rfl rfl ?_ ?_
      ·intro k_ u w_ hk_ hJ hF K hK
       have h49 : u 49 = .bool true := AS.facts_get hF 49 (by simp)
       clear hF
       simp only [h49] at hK ⊢
       clear h49
       go_simp
       exact hK.out _ _ (Below.refl _ _) (rfl) trivial
      refine AS.sc rfl rfl rfl ?_ ?_
      ·intro k_ u w_ hk_ hJ hF K hK
       have h49 : u 49 = .bool true := AS.facts_get hF 49 (by simp)
       clear hF
       simp only [h49] at hK ⊢
       clear h49
       go_simp
       exact hK.out _ _ (Below.refl _ _) (rfl) trivial
      refine AS.sc rfl rfl rfl ?_ ?_
      ·intro k_ u w_ hk_ hJ hF K hK
       have h49 : u 49 = .bool true := AS.facts_get hF 49 (by simp)
       clear hF
       simp only [h49] at hK ⊢
       clear h49
       go_simp
       exact hK.out _ _ (Below.refl _ _) (rfl) trivial
      refine AS.sc rfl rfl rfl ?_ ?_
      ·intro k_ u w_ hk_ hJ hF K hK
       have h49 : u 49 = .bool true := AS.facts_get hF 49 (by simp)
       clear hF
       simp only [h49] at hK ⊢
       clear h49
       go_simp
       exact hK.out _ _ (Below.refl _ _) (rfl) trivial
      refine AS.sc rfl rfl rfl ?_ ?_
      ·intro k_ u w_ hk_ hJ hF K hK
       have h49 : u 49 = .bool true := AS.facts_get hF 49 (by simp)
       have h57 : u 57 = undef := AS.facts_get hF 57 (by simp)
       clear hF
       simp only [h49, h57] at hK ⊢
       clear h49 h57
       go_simp
       exact hK.out _ _ (Below.refl _ _) (rfl) trivial
      exact AS.StepsOk.nil
     ·intro u W9 hJ9 hF
      have h58 : u 58 = .bool true := AS.facts_get hF 58 (by simp [rv10Fb, AS.temps])
      have hB9 : Below W8.heap.size W8 W9 := hJ9
      clear hF hJ9
      simp only [h58]
      clear h58
      go_wp2_with fail
      go_ret
      exact ⟨by rw [HR.out]; rfl, hB8.trans (hB9.mono hsz8)⟩
    ·have hzk := HFx.out.1 hds
     have HZK : Hid ((z != (k : Int)) = false) := Lib.hid (by rw [hzk]; simp)
     have hrow := HRo.out
     rw [hds, Bool.true_and] at hrow
     clear hds hzk HRo HFx
     go_wp2_with fail
     refine AS.region_facts (rv10Fc X g b off k s0 x z q2) (HNo W8) [[], [], [46, 47], [48], [49], [49], [51, 49], [49], [52, 53, 49], [54, 49], [50, 55, 49], [56, 49], [49, 57]] [] [[]] [0, 0, 0, 0, 0, 0, 0, 0, 0, 0, 0, 0, 0] [] (fun u => by simp only [rv10Fc, AS.temps, List.map_cons, List.map_nil, fillL, List.setIfInBounds_toArray, List.set_cons_zero, List.set_cons_succ]; rfl) (by kernel_rfl) (by kernel_rfl) (HNo.st W8) (dc_drew (Below.refl _ _)) ?_ ?_
     ·refine AS.sc rfl rfl rfl ?_ ?_
      ·intro k_ u w_ hk_ hJ hF K hK
       clear hF
       go_simp
       exact hK.out _ _ (Below.refl _ _) (rfl) trivial
      refine AS.sc rfl rfl rfl ?_ ?_
      ·intro k_ u w_ hk_ hJ hF K hK
       clear hF
       go_simp
       exact hK.out _ _ (Below.refl _ _) (rfl) trivial
      refine AS.sc rfl rfl rfl ?_ ?_
      ·intro k_ u w_ hk_ hJ hF K hK
       have h46 : u 46 = .int .i64 z := AS.facts_get hF 46 (by simp)
       have h47 : u 47 = .int .i64 (k : Int) := AS.facts_get hF 47 (by simp)
       clear hF
       simp only [h46, h47] at hK ⊢
       clear h46 h47
       have hz9 := HZK.out
       go_simp
       exact hK.out _ _ (Below.refl _ _) (rfl) trivial
      refine AS.sc rfl rfl rfl ?_ ?_
      ·intro k_ u w_ hk_ hJ hF K hK
       have h48 : u 48 = .bool false := AS.facts_get hF 48 (by simp)
       clear hF
       simp only [h48] at hK ⊢
       clear h48
       go_simp
       exact hK.out _ _ (Below.refl _ _) (rfl) trivial
      refine AS.sc rfl rfl rfl ?_ ?_
      ·intro k_ u w_ hk_ hJ hF K hK
       have h49 : u 49 = .bool false := AS.facts_get hF 49 (by simp)
       clear hF
       simp only [h49] at hK ⊢
       clear h49
       refine wp_load_is 29 _ rfl (.pointer (some ⟨s0, 0, none⟩)) rfl X (gb_lV (HG8.out.up (hJ : Below W8.heap.size W8 w_)) HX.out) ?_
       exact hK.out _ _ (Below.refl _ _) (rfl) trivial
      refine AS.sc rfl rfl rfl ?_ ?_
      ·intro k_ u w_ hk_ hJ hF K hK
       have h49 : u 49 = .bool false := AS.facts_get hF 49 (by simp)
       clear hF
       simp only [h49] at hK ⊢
       clear h49
       go_simp
       exact hK.out _ _ (Below.refl _ _) (rfl) trivial
      refine AS.sc rfl rfl rfl ?_ ?_
      ·intro k_ u w_ hk_ hJ hF K hK
       have h51 : u 51 = .pointer (some ⟨s0, 20, none⟩) := AS.facts_get hF 51 (by simp)
       have h49 : u 49 = .bool false := AS.facts_get hF 49 (by simp)
       clear hF
       simp only [h51, h49] at hK ⊢
       clear h51 h49
       have c20 := HC28.out w_ (hJ : Below W8.heap.size W8 w_)
       go_simp
       exact hK.out _ _ (Below.refl _ _) (rfl) trivial
      refine AS.sc rfl rfl rfl ?_ ?_
      ·intro k_ u w_ hk_ hJ hF K hK
       have h49 : u 49 = .bool false := AS.facts_get hF 49 (by simp)
       clear hF
       simp only [h49] at hK ⊢
       clear h49
       go_simp
       exact hK.out _ _ (Below.refl _ _) (rfl) trivial
      refine AS.sc rfl rfl rfl ?_ ?_
      ·intro k_ u w_ hk_ hJ hF K hK
       have h52 : u 52 = .slice (some ⟨b, off, none⟩) g.m g.d := AS.facts_get hF 52 (by simp)
       have h53 : u 53 = .int .i64 (k : Int) := AS.facts_get hF 53 (by simp)
       have h49 : u 49 = .bool false := AS.facts_get hF 49 (by simp)
       clear hF
       simp only [h52, h53, h49] at hK ⊢
       clear h52 h53 h49
       go_simp
       exact hK.out _ _ (Below.refl _ _) (rfl) trivial
      refine AS.sc rfl rfl rfl ?_ ?_
      ·intro k_ u w_ hk_ hJ hF K hK
       have h54 : u 54 = .pointer (some ⟨b, off + k * 5, none⟩) := AS.facts_get hF 54 (by simp)
       have h49 : u 49 = .bool false := AS.facts_get hF 49 (by simp)
       clear hF
       simp only [h54, h49] at hK ⊢
       clear h54 h49
       obtain ⟨d0, d1, d2, d3, d4⟩ := HD58.out.up (hJ : Below W8.heap.size W8 w_) hbW8
       go_simp
       exact hK.out _ _ (Below.refl _ _) (rfl) trivial
      refine AS.sc rfl rfl rfl ?_ ?_
      ·intro k_ u w_ hk_ hJ hF K hK
       have h50 : u 50 = X := AS.facts_get hF 50 (by simp)
       have h55 : u 55 = eV x := AS.facts_get hF 55 (by simp)
       have h49 : u 49 = .bool false := AS.facts_get hF 49 (by simp)
       clear hF
       simp only [h50, h55, h49] at hK ⊢
       clear h50 h55 h49
       have he9 := HEK98.out.up (hJ : Below W8.heap.size W8 w_)
       have hz9 := HZ98.out.up (hJ : Below W8.heap.size W8 w_)
       go_simp
       refine (HEN.out _ hz9 he9).mono ?_
       rintro e w3 ⟨rfl, hb⟩
       exact hK.out _ _ hb (rfl) trivial
      refine AS.sc rfl rfl rfl ?_ ?_
      ·intro k_ u w_ hk_ hJ hF K hK
       have h56 : u 56 = .bool q2 := AS.facts_get hF 56 (by simp)
       have h49 : u 49 = .bool false := AS.facts_get hF 49 (by simp)
       clear hF
       simp only [h56, h49] at hK ⊢
       clear h56 h49
       go_simp
       exact hK.out _ _ (Below.refl _ _) (rfl) trivial
      refine AS.sc rfl rfl rfl ?_ ?_
      ·intro k_ u w_ hk_ hJ hF K hK
       have h49 : u 49 = .bool false := AS.facts_get hF 49 (by simp)
       have h57 : u 57 = .bool (!q2) := AS.facts_get hF 57 (by simp)
       clear hF
       simp only [h49, h57] at hK ⊢
       clear h49 h57
       go_simp
       exact hK.out _ _ (Below.refl _ _) (rfl) trivial
      exact AS.StepsOk.nil
     ·intro u W9 hJ9 hF
      have h58 : u 58 = .bool (!q2) := AS.facts_get hF 58 (by simp [rv10Fc, AS.temps])
      have hB9 : Below W8.heap.size W8 W9 := hJ9
      clear hF hJ9
      simp only [h58]
      clear h58
      cases q2
      ·have HR := Lib.hid (HNoo.out hrow)
       go_wp2_with fail
       go_ret
       exact ⟨by rw [HR.out]; rfl, hB8.trans (hB9.mono hsz8)⟩
      ·have HA2 := HNx.out hrow
       have HG10 := Lib.hid (HG8.out.up hB9)
       go_wp2_with fail
       go_roundg (g.m - (k + 1))
       case measure => omega
       case rel => exact ⟨k + 1, by go_num, by omega, by omega, HA2, HG10, hB8.trans (hB9.mono hsz8)⟩
  ·have hke : k = g.m := by omega
   have hltz : ¬ (k : Int) < (g.m : Int) := by omega
   have HR : Hid (r = true) := Lib.hid (by rw [HV2.out, ← hke]; exact HA.out)
   clear hke
   go_wp2_with fail
   go_ret
   exact ⟨by rw [HR.out]; rfl, hB⟩
theorem allTo_and {p q : Nat → Bool} : ∀ {n : Nat}, allTo (fun i => p i && q i) n = (allTo p n && allTo q n)
 | 0 => rfl
 | n + 1 => by
  show (allTo (fun i => p i && q i) n && (p n && q n)) = ((allTo p n && p n) && (allTo q n && q n))
  rw [allTo_and]
  cases allTo p n <;> cases allTo q n <;> cases p n <;> cases q n <;> rfl
theorem allTo_all {p : Acc → Bool} {L : List Acc} : L.all p = allTo (fun i => p (L.getD i acc0)) L.length := by
 rw [Bool.eq_iff_iff, all_getD (d := acc0), allTo_is]
theorem grp_eq (g : Grp) (L : List Acc) (G : List Ent) : grpP g L G = grpR g L G := by
 have h1 : rlsB L g.R = allTo (rowR L g.R) 15 := by
  unfold rlsB
  exact allTo_and.symm
 have h2 : chaB L = (vB L true && allTo (fun i => basB (L.getD i acc0)) L.length) := by
  unfold chaB
  rw [allTo_all]
 have h3 : rlsB L g.R = true → ensP L g.R G = ensR L g.R G := fun h => by
  have hd : allTo (dsR g.R) 15 = true := by
   unfold rlsB at h
   rw [Bool.and_eq_true] at h
   exact h.2
  have he : ∀ e, enpB L g.R e = enrB L g.R e := fun e => by
   unfold enpB enrB
   congr 4
   funext i
   exact opn_eq (R_len g) hd _
  unfold ensP ensR
  congr 4
  funext i
  unfold rowP rowX
  rw [he]
 unfold grpP grpR bokR
 rw [h2, ← h1]
 cases hr : rlsB L g.R
 ·simp
 ·rw [h3 hr]
  cases curB g.cur <;> cases clV g.cy g.cm g.cp <;> cases vB L true <;> simp
open Go.RowKit Go.Maps
abbrev Etl := Ety × List Lnk
structure JD where
 b : Nat
 g : Grp
 L : List Acc
 G : List Ent
 A : Option Addr
 n : Nat
 c : Nat
 Xs : List Etl
 bi : Nat
 br : Nat
section
variable {M : Nat → Prop} {B : Nat} {w w' : World} {j : JD}
end
open Go.RowKit
theorem infoAcJ : (Tryz.prog.info? 151).map (fun i => (i.zero, i.size, i.bytes)) = some (some (.agg #[.int .i64 0, .int .i64 0, .int .i64 0, .int .i64 0]), 4, 32) := by kernel_rfl
set_option maxRecDepth 100000 in
theorem gs_cells : (lyA.all smpL).toArray = #[.int .i64 1000, .int .i64 1, .int .i64 1, .int .i64 0, .int .i64 1010, .int .i64 1, .int .i64 1, .int .i64 1000, .int .i64 1100, .int .i64 1, .int .i64 1, .int .i64 1000, .int .i64 1200, .int .i64 1, .int .i64 1, .int .i64 1000, .int .i64 1300, .int .i64 1, .int .i64 3, .int .i64 0, .int .i64 1500, .int .i64 1, .int .i64 3, .int .i64 0, .int .i64 1600, .int .i64 1, .int .i64 3, .int .i64 0, .int .i64 1700, .int .i64 1, .int .i64 3, .int .i64 0, .int .i64 2000, .int .i64 2, .int .i64 1, .int .i64 0, .int .i64 2100, .int .i64 2, .int .i64 1, .int .i64 2000, .int .i64 3000, .int .i64 3, .int .i64 3, .int .i64 0, .int .i64 3100, .int .i64 3, .int .i64 3, .int .i64 0, .int .i64 3200, .int .i64 3, .int .i64 3, .int .i64 0, .int .i64 3300, .int .i64 3, .int .i64 3, .int .i64 0, .int .i64 3400, .int .i64 3, .int .i64 3, .int .i64 0, .int .i64 3500, .int .i64 3, .int .i64 3, .int .i64 0, .int .i64 4000, .int .i64 4, .int .i64 2, .int .i64 0, .int .i64 4100, .int .i64 4, .int .i64 2, .int .i64 4000, .int .i64 4500, .int .i64 4, .int .i64 2, .int .i64 0, .int .i64 4600, .int .i64 4, .int .i64 2, .int .i64 0, .int .i64 4700, .int .i64 4, .int .i64 2, .int .i64 0, .int .i64 5000, .int .i64 5, .int .i64 2, .int .i64 0, .int .i64 5100, .int .i64 5, .int .i64 2, .int .i64 0, .int .i64 5500, .int .i64 5, .int .i64 2, .int .i64 0, .int .i64 5600, .int .i64 5, .int .i64 2, .int .i64 0, .int .i64 5700, .int .i64 5, .int .i64 2, .int .i64 0] := by kernel_rfl
set_option maxRecDepth 100000 in
set_option maxHeartbeats 3200000 in
theorem gschart_any (w : World) : Calls Tryz.prog 106 #[] w fun e w' => e = .returned (.slice (some ⟨w.heap.size, 0, none⟩) 26 26) ∧ Wh 151 w' w.heap.size (lyA.all smpL) ∧ Below w.heap.size w w' := by
 have HW : Hid (∀ cs, cs = (#[.int .i64 1000, .int .i64 1, .int .i64 1, .int .i64 0, .int .i64 1010, .int .i64 1, .int .i64 1, .int .i64 1000, .int .i64 1100, .int .i64 1, .int .i64 1, .int .i64 1000, .int .i64 1200, .int .i64 1, .int .i64 1, .int .i64 1000, .int .i64 1300, .int .i64 1, .int .i64 3, .int .i64 0, .int .i64 1500, .int .i64 1, .int .i64 3, .int .i64 0, .int .i64 1600, .int .i64 1, .int .i64 3, .int .i64 0, .int .i64 1700, .int .i64 1, .int .i64 3, .int .i64 0, .int .i64 2000, .int .i64 2, .int .i64 1, .int .i64 0, .int .i64 2100, .int .i64 2, .int .i64 1, .int .i64 2000, .int .i64 3000, .int .i64 3, .int .i64 3, .int .i64 0, .int .i64 3100, .int .i64 3, .int .i64 3, .int .i64 0, .int .i64 3200, .int .i64 3, .int .i64 3, .int .i64 0, .int .i64 3300, .int .i64 3, .int .i64 3, .int .i64 0, .int .i64 3400, .int .i64 3, .int .i64 3, .int .i64 0, .int .i64 3500, .int .i64 3, .int .i64 3, .int .i64 0, .int .i64 4000, .int .i64 4, .int .i64 2, .int .i64 0, .int .i64 4100, .int .i64 4, .int .i64 2, .int .i64 4000, .int .i64 4500, .int .i64 4, .int .i64 2, .int .i64 0, .int .i64 4600, .int .i64 4, .int .i64 2, .int .i64 0, .int .i64 4700, .int .i64 4, .int .i64 2, .int .i64 0, .int .i64 5000, .int .i64 5, .int .i64 2, .int .i64 0, .int .i64 5100, .int .i64 5, .int .i64 2, .int .i64 0, .int .i64 5500, .int .i64 5, .int .i64 2, .int .i64 0, .int .i64 5600, .int .i64 5, .int .i64 2, .int .i64 0, .int .i64 5700, .int .i64 5, .int .i64 2, .int .i64 0] : Array Value) → Wh 151 (w.alloc (.cells cs 151)) w.heap.size (lyA.all smpL)) := Lib.hid (fun cs h => by rw [h, ← gs_cells]; exact Wh.new w 151 (lyA.all smpL))
 have HB := Lib.hid (fun o => below_alloc_new (w := w) o)
 go_enter Tryz.func106, Tryz.ntmps106
 go_wp2_with fail
 go_ret
 exact ⟨rfl, HW.out _ rfl, HB.out _⟩
set_option maxRecDepth 100000 in
set_option maxHeartbeats 3200000 in
theorem gsrol_any (w : World) : Calls Tryz.prog 107 #[] w fun e w' => e = .returned (.agg #[.int .i64 1500, .int .i64 1600, .int .i64 1700, .int .i64 1200, .int .i64 3100, .int .i64 3200, .int .i64 3300, .int .i64 3400, .int .i64 3500, .int .i64 4500, .int .i64 4600, .int .i64 4700, .int .i64 5500, .int .i64 5600, .int .i64 5700]) ∧ Below w.heap.size w w' := by
 obtain ⟨s0, hs0⟩ : ∃ s0, w.heap.size = s0 := ⟨_, rfl⟩
 obtain ⟨w2, hw2⟩ : ∃ w2, w.alloc (.cells #[.int .i64 0, .int .i64 0, .int .i64 0, .int .i64 0, .int .i64 0, .int .i64 0, .int .i64 0, .int .i64 0, .int .i64 0, .int .i64 0, .int .i64 0, .int .i64 0, .int .i64 0, .int .i64 0, .int .i64 0] 26) = w2 := ⟨_, rfl⟩
 have HZ : Hid (Wh 26 w2 s0 [.int .i64 0, .int .i64 0, .int .i64 0, .int .i64 0, .int .i64 0, .int .i64 0, .int .i64 0, .int .i64 0, .int .i64 0, .int .i64 0, .int .i64 0, .int .i64 0, .int .i64 0, .int .i64 0, .int .i64 0]) := Lib.hid (by rw [← hw2, ← hs0]; exact Wh.new w 26 [.int .i64 0, .int .i64 0, .int .i64 0, .int .i64 0, .int .i64 0, .int .i64 0, .int .i64 0, .int .i64 0, .int .i64 0, .int .i64 0, .int .i64 0, .int .i64 0, .int .i64 0, .int .i64 0, .int .i64 0])
 have HON := Lib.hid (fun W (h : Only (fun k => k = w.heap.size) w2 W) => only_new (w := w) (by rw [hw2]; exact h))
 rw [hs0] at HON
 have HS0 := Lib.hid hs0
 go_enter Tryz.func107, Tryz.ntmps107
 go_wp2_with (refine wpList_store_wh rfl 26 _ _ rfl s0 rfl 26 [.int .i64 0, .int .i64 0, .int .i64 0, .int .i64 0, .int .i64 0, .int .i64 0, .int .i64 0, .int .i64 0, .int .i64 0, .int .i64 0, .int .i64 0, .int .i64 0, .int .i64 0, .int .i64 0, .int .i64 0] [.int .i64 1500, .int .i64 1600, .int .i64 1700, .int .i64 1200, .int .i64 3100, .int .i64 3200, .int .i64 3300, .int .i64 3400, .int .i64 3500, .int .i64 4500, .int .i64 4600, .int .i64 4700, .int .i64 5500, .int .i64 5600, .int .i64 5700] rfl HZ.out rfl (by kernel_rfl) (by kernel_rfl) ?_; intro W8 hr8 ho8 hz8)
 exact bodyPost_ret (v := .agg #[.int .i64 1500, .int .i64 1600, .int .i64 1700, .int .i64 1200, .int .i64 3100, .int .i64 3200, .int .i64 3300, .int .i64 3400, .int .i64 3500, .int .i64 4500, .int .i64 4600, .int .i64 4700, .int .i64 5500, .int .i64 5600, .int .i64 5700]) (results_cell_mid Tryz.results107 _ _ s0 [.int .i64 1500, .int .i64 1600, .int .i64 1700, .int .i64 1200, .int .i64 3100, .int .i64 3200, .int .i64 3300, .int .i64 3400, .int .i64 3500, .int .i64 4500, .int .i64 4600, .int .i64 4700, .int .i64 5500, .int .i64 5600, .int .i64 5700] _ rfl hr8.out.range Tryz.underlying26 rfl (by kernel_rfl)) rfl ⟨rfl, by have h9 := HON.out _ ho8.out; first | exact h9 | (rw [HS0.out]; exact h9)⟩
theorem gs_idx (i : Nat) (h : i < 14) (w : World) : (Instr.index 185 (.agg #[.int .i64 1, .int .i64 1010, .int .i64 1, .int .i64 1100, .int .i64 1, .int .i64 1200, .int .i64 1, .int .i64 1300, .int .i64 1, .int .i64 1500, .int .i64 2, .int .i64 2000, .int .i64 2, .int .i64 2100, .int .i64 3, .int .i64 3000, .int .i64 3, .int .i64 3300, .int .i64 4, .int .i64 4000, .int .i64 4, .int .i64 4100, .int .i64 4, .int .i64 4700, .int .i64 5, .int .i64 5000, .int .i64 5, .int .i64 5100]) (.int .i64 (i : Int))).run Tryz.prog w = .ok (.agg #[.int .i64 (seK i), .int .i64 (seT i)]) w := by
 have h1 : Tryz.t184.size = 2 := by kernel_rfl
 have hs : ∀ w : World, (sizeOf 184).run Tryz.prog w = .ok 2 w := fun w => by simp [sizeOf, h1, go_sem]
 have ha : ∀ w : World, (isAgg 184).run Tryz.prog w = .ok true w := fun w => by simp [isAgg, run_underlying Tryz.underlying184, go_sem]
 have hi : i = 0 ∨ i = 1 ∨ i = 2 ∨ i = 3 ∨ i = 4 ∨ i = 5 ∨ i = 6 ∨ i = 7 ∨ i = 8 ∨ i = 9 ∨ i = 10 ∨ i = 11 ∨ i = 12 ∨ i = 13 := by omega
 rcases hi with rfl | rfl | rfl | rfl | rfl | rfl | rfl | rfl | rfl | rfl | rfl | rfl | rfl | rfl <;>
  (simp [Instr.index, Go.part, run_underlying Tryz.underlying185, asIntOf, hs, ha, go_sem]; try exact ⟨rfl, rfl⟩)
set_option maxRecDepth 100000 in
set_option maxHeartbeats 12800000 in
theorem gsent_any (nm cu : ByteArray) (jt : Bool) (w : World) : Calls Tryz.prog 108 #[.string nm, .string cu, .bool jt] w fun e w' => (∃ p : EAd, e = .returned (.agg #[.string nm, .string cu, .slice p.A 14 p.c, .slice p.B 14 p.d, .bool jt]) ∧ EOw w.heap.size p w') ∧ Below w.heap.size w w' := by
 obtain ⟨i0, hi, hz1, hz2, hz3⟩ := info_parts infoAcJ
 obtain ⟨i1, hj, hy1, hy2, hy3⟩ := info_parts infoLk
 obtain ⟨s0, hs0⟩ : ∃ s0, w.heap.size = s0 := ⟨_, rfl⟩
 have HS0 := Lib.hid hs0
 obtain ⟨w2, hw2⟩ : ∃ w2, (w.alloc (.cells #[.string ⟨#[]⟩, .string ⟨#[]⟩, .slice none 0 0, .slice none 0 0, .bool false] 119)).alloc (.cells #[.int .i64 0, .int .i64 0, .int .i64 0, .int .i64 0, .int .i64 0, .int .i64 0, .int .i64 0, .int .i64 0, .int .i64 0, .int .i64 0, .int .i64 0, .int .i64 0, .int .i64 0, .int .i64 0, .int .i64 0, .int .i64 0, .int .i64 0, .int .i64 0, .int .i64 0, .int .i64 0, .int .i64 0, .int .i64 0, .int .i64 0, .int .i64 0, .int .i64 0, .int .i64 0, .int .i64 0, .int .i64 0] 185) = w2 := ⟨_, rfl⟩
 have hb01 : Below s0 w (w.alloc (.cells #[.string ⟨#[]⟩, .string ⟨#[]⟩, .slice none 0 0, .slice none 0 0, .bool false] 119)) := by rw [← hs0]; exact below_alloc_new _
 have hw0 : Wh 119 (w.alloc (.cells #[.string ⟨#[]⟩, .string ⟨#[]⟩, .slice none 0 0, .slice none 0 0, .bool false] 119)) s0 [.string ⟨#[]⟩, .string ⟨#[]⟩, .slice none 0 0, .slice none 0 0, .bool false] := by rw [← hs0]; exact Wh.new w 119 [.string ⟨#[]⟩, .string ⟨#[]⟩, .slice none 0 0, .slice none 0 0, .bool false]
 have hs1 : (w.alloc (.cells #[.string ⟨#[]⟩, .string ⟨#[]⟩, .slice none 0 0, .slice none 0 0, .bool false] 119)).heap.size = s0 + 1 := by rw [← hs0]; simp
 have hb12 : Below (s0 + 1) (w.alloc (.cells #[.string ⟨#[]⟩, .string ⟨#[]⟩, .slice none 0 0, .slice none 0 0, .bool false] 119)) w2 := by rw [← hw2, ← hs1]; exact below_alloc_new _
 have HZ0 : Hid (Wh 119 w2 s0 [.string ⟨#[]⟩, .string ⟨#[]⟩, .slice none 0 0, .slice none 0 0, .bool false]) := Lib.hid (hw0.up (by rw [hs1]; exact hb12))
 have HA0 : Hid (Wh 185 w2 (s0 + 1) [.int .i64 0, .int .i64 0, .int .i64 0, .int .i64 0, .int .i64 0, .int .i64 0, .int .i64 0, .int .i64 0, .int .i64 0, .int .i64 0, .int .i64 0, .int .i64 0, .int .i64 0, .int .i64 0, .int .i64 0, .int .i64 0, .int .i64 0, .int .i64 0, .int .i64 0, .int .i64 0, .int .i64 0, .int .i64 0, .int .i64 0, .int .i64 0, .int .i64 0, .int .i64 0, .int .i64 0, .int .i64 0]) := Lib.hid (by rw [← hw2]; have h9 := Wh.new (w.alloc (.cells #[.string ⟨#[]⟩, .string ⟨#[]⟩, .slice none 0 0, .slice none 0 0, .bool false] 119)) 185 [.int .i64 0, .int .i64 0, .int .i64 0, .int .i64 0, .int .i64 0, .int .i64 0, .int .i64 0, .int .i64 0, .int .i64 0, .int .i64 0, .int .i64 0, .int .i64 0, .int .i64 0, .int .i64 0, .int .i64 0, .int .i64 0, .int .i64 0, .int .i64 0, .int .i64 0, .int .i64 0, .int .i64 0, .int .i64 0, .int .i64 0, .int .i64 0, .int .i64 0, .int .i64 0, .int .i64 0, .int .i64 0]; rw [hs1] at h9; exact h9)
 have HB2 : Hid (Below s0 w w2) := Lib.hid (hb01.trans (hb12.mono (by omega)))
 have HS2 : Hid (w2.heap.size = s0 + 2) := Lib.hid (by rw [← hw2]; simp [hs0])
 clear hb01 hw0 hs1 hb12
 have HBE : Hid (∀ W, (Instr.build 119 #[(0, .string nm), (1, .string cu), (4, .bool jt)]).run Tryz.prog W = .ok (.agg #[.string nm, .string cu, .slice none 0 0, .slice none 0 0, .bool jt]) W) := Lib.hid (fun W => run_build W 119 _ _ (by kernel_rfl))
 go_enter Tryz.func108, Tryz.ntmps108
 go_upto_region 2 with (refine wpList_store_wh rfl 185 _ _ rfl (s0 + 1) rfl 185 [.int .i64 0, .int .i64 0, .int .i64 0, .int .i64 0, .int .i64 0, .int .i64 0, .int .i64 0, .int .i64 0, .int .i64 0, .int .i64 0, .int .i64 0, .int .i64 0, .int .i64 0, .int .i64 0, .int .i64 0, .int .i64 0, .int .i64 0, .int .i64 0, .int .i64 0, .int .i64 0, .int .i64 0, .int .i64 0, .int .i64 0, .int .i64 0, .int .i64 0, .int .i64 0, .int .i64 0, .int .i64 0] [.int .i64 1, .int .i64 1010, .int .i64 1, .int .i64 1100, .int .i64 1, .int .i64 1200, .int .i64 1, .int .i64 1300, .int .i64 1, .int .i64 1500, .int .i64 2, .int .i64 2000, .int .i64 2, .int .i64 2100, .int .i64 3, .int .i64 3000, .int .i64 3, .int .i64 3300, .int .i64 4, .int .i64 4000, .int .i64 4, .int .i64 4100, .int .i64 4, .int .i64 4700, .int .i64 5, .int .i64 5000, .int .i64 5, .int .i64 5100] rfl HA0.out rfl (by kernel_rfl) (by kernel_rfl) ?_; intro w3 hr3 ho3 hz3; have HA3 := Lib.hid hr3.out; have HO3 := Lib.hid ho3.out; have HS3 : Hid (w3.heap.size = s0 + 2) := Lib.hid (by rw [hz3]; exact HS2.out); clear hr3 ho3 hz3)
 have HZ3 := Lib.hid (HZ0.out.only HO3.out (by show ¬ s0 = s0 + 1; omega))
 have HB3 := Lib.hid (HB2.out.trans (HO3.out.below (B := s0) (fun k hk => by have : k = s0 + 1 := hk; omega) (by have := HS2.out; omega)))
 have HE4 : Hid (Wh 119 (w3.alloc (.cells #[.string ⟨#[]⟩, .string ⟨#[]⟩, .slice none 0 0, .slice none 0 0, .bool false] 119)) (s0 + 2) [.string ⟨#[]⟩, .string ⟨#[]⟩, .slice none 0 0, .slice none 0 0, .bool false]) := Lib.hid (by have h9 := Wh.new w3 119 [.string ⟨#[]⟩, .string ⟨#[]⟩, .slice none 0 0, .slice none 0 0, .bool false]; rw [HS3.out] at h9; exact h9)
 have hs3 := HS3.out
 go_upto_region 4 with (first
  | (refine wpList_build_is rfl 119 _ rfl [(0, .string nm), (1, .string cu), (4, .bool jt)] rfl (.agg #[.string nm, .string cu, .slice none 0 0, .slice none 0 0, .bool jt]) (HBE.out _) ?_)
  | (refine wpList_store_wh rfl 119 _ _ rfl (s0 + 2) (by first | rfl | (rw [← HS3.out]; rfl)) 119 [.string ⟨#[]⟩, .string ⟨#[]⟩, .slice none 0 0, .slice none 0 0, .bool false] [.string nm, .string cu, .slice none 0 0, .slice none 0 0, .bool jt] rfl HE4.out rfl (by kernel_rfl) (by kernel_rfl) ?_; intro w4 hr4 ho4 hz4; have HE5 := Lib.hid hr4.out; have hb4 : Below w3.heap.size w3 w4 := only_new (by rw [HS3.out]; exact ho4.out); have HA4 := Lib.hid (HA3.out.up hb4); have HZ4 := Lib.hid (HZ3.out.up hb4); have HB4 := Lib.hid (HB3.out.trans (hb4.mono (by have := HS3.out; omega))); have HS4 : Hid (w4.heap.size = s0 + 3) := Lib.hid (by rw [hz4]; simp [HS3.out]); have HLA : Hid ((Instr.loadAt 185 (.pointer (some ⟨s0 + 1, 0, none⟩))).run Tryz.prog w4 = .ok (.agg #[.int .i64 1, .int .i64 1010, .int .i64 1, .int .i64 1100, .int .i64 1, .int .i64 1200, .int .i64 1, .int .i64 1300, .int .i64 1, .int .i64 1500, .int .i64 2, .int .i64 2000, .int .i64 2, .int .i64 2100, .int .i64 3, .int .i64 3000, .int .i64 3, .int .i64 3300, .int .i64 4, .int .i64 4000, .int .i64 4, .int .i64 4100, .int .i64 4, .int .i64 4700, .int .i64 5, .int .i64 5000, .int .i64 5, .int .i64 5100]) w4) := Lib.hid (HA4.out.rg.load 0 185 [.int .i64 1, .int .i64 1010, .int .i64 1, .int .i64 1100, .int .i64 1, .int .i64 1200, .int .i64 1, .int .i64 1300, .int .i64 1, .int .i64 1500, .int .i64 2, .int .i64 2000, .int .i64 2, .int .i64 2100, .int .i64 3, .int .i64 3000, .int .i64 3, .int .i64 3300, .int .i64 4, .int .i64 4000, .int .i64 4, .int .i64 4100, .int .i64 4, .int .i64 4700, .int .i64 5, .int .i64 5000, .int .i64 5, .int .i64 5100] rfl _ Tryz.underlying185 rfl (by kernel_rfl)); clear hr4 ho4 hz4 hb4)
  | (refine wpList_load_is rfl 185 _ rfl (.pointer (some ⟨s0 + 1, 0, none⟩)) rfl (.agg #[.int .i64 1, .int .i64 1010, .int .i64 1, .int .i64 1100, .int .i64 1, .int .i64 1200, .int .i64 1, .int .i64 1300, .int .i64 1, .int .i64 1500, .int .i64 2, .int .i64 2000, .int .i64 2, .int .i64 2100, .int .i64 3, .int .i64 3000, .int .i64 3, .int .i64 3300, .int .i64 4, .int .i64 4000, .int .i64 4, .int .i64 4100, .int .i64 4, .int .i64 4700, .int .i64 5, .int .i64 5000, .int .i64 5, .int .i64 5100]) HLA.out ?_))
 have HIX : Hid (∀ (i : Nat) (h : i < 14) (W : World), (Instr.index 185 (.agg #[.int .i64 1, .int .i64 1010, .int .i64 1, .int .i64 1100, .int .i64 1, .int .i64 1200, .int .i64 1, .int .i64 1300, .int .i64 1, .int .i64 1500, .int .i64 2, .int .i64 2000, .int .i64 2, .int .i64 2100, .int .i64 3, .int .i64 3000, .int .i64 3, .int .i64 3300, .int .i64 4, .int .i64 4000, .int .i64 4, .int .i64 4100, .int .i64 4, .int .i64 4700, .int .i64 5, .int .i64 5000, .int .i64 5, .int .i64 5100]) (.int .i64 (i : Int))).run Tryz.prog W = .ok (.agg #[.int .i64 (seK i), .int .i64 (seT i)]) W) := Lib.hid gs_idx
 obtain ⟨VA, hVA⟩ : ∃ VA, (Value.agg #[.int .i64 1, .int .i64 1010, .int .i64 1, .int .i64 1100, .int .i64 1, .int .i64 1200, .int .i64 1, .int .i64 1300, .int .i64 1, .int .i64 1500, .int .i64 2, .int .i64 2000, .int .i64 2, .int .i64 2100, .int .i64 3, .int .i64 3000, .int .i64 3, .int .i64 3300, .int .i64 4, .int .i64 4000, .int .i64 4, .int .i64 4100, .int .i64 4, .int .i64 4700, .int .i64 5, .int .i64 5000, .int .i64 5, .int .i64 5100]) = VA := ⟨_, rfl⟩
 rw [hVA] at HIX HLA ⊢
 clear hVA
 go_loopg [32] 14 (fun kx s32 wr => ∃ (i : Nat), s32 = .int .i64 i ∧ i ≤ 14 ∧ 14 - i ≤ kx ∧ (∃ va vl, Hid (Wh 119 wr (s0 + 2) [.string nm, .string cu, va, vl, .bool jt]) ∧ Hid (OwnR lyA 151 wr (s0 + 3) va (seA i)) ∧ Hid (OwnR lyL 173 wr (s0 + 3) vl (seL i))) ∧ Hid (Below (s0 + 2) w4 wr) ∧ Hid (s0 + 3 ≤ wr.heap.size))
 case atStart => exact ⟨0, rfl, by omega, by omega, ⟨_, _, Lib.hid HE5.out, Lib.hid OwnR.nil, Lib.hid OwnR.nil⟩, Lib.hid (Below.refl _ _), Lib.hid (by have := HS4.out; omega)⟩
 case round =>
  obtain ⟨i, rfl, hi14, hkx, ⟨va, vl, HG, HA, HV⟩, HB, HW1⟩ := hrel
  by_cases hlt : i < 14
  ·have hltz : (i : Int) < 14 := by omega
   have hlt2 : decide ((i : Int) < 14) = true := decide_eq_true hltz
   have hix := HIX.out i hlt
   obtain ⟨q1, hq1⟩ : ∃ q1, seK i = q1 := ⟨_, rfl⟩
   obtain ⟨q2, hq2⟩ : ∃ q2, seT i = q2 := ⟨_, rfl⟩
   rw [hq1, hq2] at hix
   have HJA : Hid (seA (i + 1) = seA i ++ [⟨10 * ((i : Int) + 1), q1, 0, 0⟩]) := Lib.hid (by rw [seA_s, hq1])
   have HJL : Hid (seL (i + 1) = seL i ++ [⟨10 * ((i : Int) + 1), q2, -25567⟩]) := Lib.hid (by rw [seL_s, hq2])
   clear hq1 hq2
   have hw1 : IntKind.i64.wrap ((i : Int) + 1) = (i : Int) + 1 := by rw [IntKind.wrap_i64]; omega
   have hw10 : IntKind.i64.wrap (10 * ((i : Int) + 1)) = 10 * ((i : Int) + 1) := by rw [IntKind.wrap_i64]; omega
   have HSA : Hid ((seA i).length = i) := Lib.hid (by simp [seA])
   have HSL : Hid ((seL i).length = i) := Lib.hid (by simp [seL])
   have HIL : Hid (i < 14) := Lib.hid hlt
   obtain ⟨A9, c9, hva, -, -⟩ := HA.out.reads
   obtain ⟨B9, d9, hvl, -, -⟩ := HV.out.reads
   rw [HSA.out] at hva
   rw [HSL.out] at hvl
   obtain ⟨s1, hs1⟩ : ∃ s1, wr.heap.size = s1 := ⟨_, rfl⟩
   have HS1 := Lib.hid hs1
   go_upto_region 7 with (refine wpList_store_wh rfl 184 _ _ rfl s1 (by first | rfl | (rw [← HS1.out]; rfl)) 184 [.int .i64 0, .int .i64 0] [.int .i64 q1, .int .i64 q2] rfl (by rw [← HS1.out]; exact Wh.new wr 184 [.int .i64 0, .int .i64 0]) rfl (by kernel_rfl) (by kernel_rfl) ?_; intro w5 hr5 ho5 hz5; have HT5 := Lib.hid hr5.out; have hb5 : Below wr.heap.size wr w5 := only_new (by rw [HS1.out]; exact ho5.out); have HG5 := Lib.hid (HG.out.up hb5); have HA5 := Lib.hid (HA.out.up hb5); have HV5 := Lib.hid (HV.out.up hb5); have HB5 := Lib.hid (HB.out.trans (hb5.mono (by have := HW1.out; omega))); have HW5 : Hid (s0 + 3 ≤ w5.heap.size) := Lib.hid (Nat.le_trans HW1.out hb5.size); have HS5 : Hid (s0 + 3 ≤ s1 ∧ s1 < w5.heap.size) := Lib.hid ⟨by rw [← HS1.out]; exact HW1.out, hr5.out.lt⟩; clear hr5 ho5 hz5 hb5)
   have hx8 : Below w5.heap.size w5 (w5.alloc (.cells #[.int .i64 (10 * ((i : Int) + 1)), .int .i64 q1, .int .i64 0, .int .i64 0] 151)) := below_alloc_new _
   have HX8 := Lib.hid hx8
   have HR8 : Hid (RowAt lyA (w5.alloc (.cells #[.int .i64 (10 * ((i : Int) + 1)), .int .i64 q1, .int .i64 0, .int .i64 0] 151)) (some ⟨w5.heap.size, 0, none⟩) [⟨10 * ((i : Int) + 1), q1, 0, 0⟩]) := Lib.hid (row_one (R := lyA) (x := ⟨10 * ((i : Int) + 1), q1, 0, 0⟩) (Wh.new w5 151 [.int .i64 (10 * ((i : Int) + 1)), .int .i64 q1, .int .i64 0, .int .i64 0]))
   have HA8 := Lib.hid (HA5.out.up hx8)
   have c2 := HG5.out.at 2 _ rfl
   have d0 := HT5.out.at 0 _ rfl
   rw [hva] at c2
   rw [hva] at HA8 HA HA5 HG HG5
   clear hx8
   go_upto_region 8 with (at_builtin; refine wpList_app_row (R := lyA) rfl (.tmp 40) (.tmp 45) 24 rfl i0 _ 32 Tryz.underlying24 hi hz1 hz2 hz3 (by omega) rfl rfl HA8.out (some ⟨w5.heap.size, 0, none⟩) 1 1 [⟨10 * ((i : Int) + 1), q1, 0, 0⟩] rfl rfl HR8.out (by have := HSA.out; have := HIL.out; simp; omega) (by have := HW5.out; have := HX8.out.size; omega) ?_; intro v6 w6 hr6 hg6 hn6; obtain ⟨A6, c6, e6, -, -⟩ := hr6.out.reads; rw [show (seA i ++ [(⟨10 * ((i : Int) + 1), q1, 0, 0⟩ : Acc)]).length = i + 1 from by rw [List.length_append, HSA.out]; rfl] at e6; subst e6; have HR6 := Lib.hid hr6.out; have HG6 := Lib.hid hg6.out; have HN6 := Lib.hid hn6.out; clear hr6 hg6 hn6; have hk6 : Wh 119 w6 (s0 + 2) [.string nm, .string cu, .slice A9 i c9, vl, .bool jt] := (HG5.out.up HX8.out).same (HG6.out.block _ (by have := HX8.out.size; have := HW5.out; omega) (fun e => by have := (HA8.out.lt e.symm).1; omega)); have HK6 := Lib.hid hk6; have c2_ := hk6.at 2 _ rfl; have z2_ := hk6.frozen 2; clear hk6)
   obtain ⟨w7, hw7⟩ : ∃ w7, w6.setCell ⟨s0 + 2, 2, none⟩ (.slice A6 (i + 1) c6) = w7 := ⟨_, rfl⟩
   have HO7 : Hid (Only (fun k => k = s0 + 2) w6 w7) := Lib.hid (by rw [← hw7]; exact Only.setCell (S := fun k => k = s0 + 2) _ (a := ⟨s0 + 2, 2, none⟩) rfl _)
   have HG7 : Hid (Wh 119 w7 (s0 + 2) [.string nm, .string cu, .slice A6 (i + 1) c6, vl, .bool jt]) := Lib.hid (by rw [← hw7]; exact HK6.out.set 2 (.slice A6 (i + 1) c6))
   have HO6 : Hid (Only (fun k => (Value.slice A9 i c9).ownBlock = some k) w5 w6) := Lib.hid ((Only.of HX8.out).trans (Only.grown HG6.out fun k hk => hk))
   have HA7 : Hid (OwnR lyA 151 w7 (s0 + 3) (.slice A6 (i + 1) c6) (seA (i + 1))) := Lib.hid (by rw [HJA.out]; exact HR6.out.blk fun g hg => HO7.out.blk g (HR6.out.lt hg).2 (by have := (HR6.out.lt hg).1; show ¬ g = s0 + 2; omega))
   have HV7 : Hid (OwnR lyL 173 w7 (s0 + 3) vl (seL i)) := Lib.hid ((HV5.out.blk fun g hg => HO6.out.blk g (HV5.out.lt hg).2 (fun e => own_apart HA5.out HV5.out (by decide) e hg)).blk fun g hg => HO7.out.blk g (Nat.lt_of_lt_of_le (HV5.out.lt hg).2 HO6.out.size) (by have := (HV5.out.lt hg).1; show ¬ g = s0 + 2; omega))
   have HT7 : Hid (Wh 184 w7 s1 [.int .i64 q1, .int .i64 q2]) := Lib.hid ((HT5.out.only HO6.out (fun e => by have := (HA.out.lt e).2; have := HS1.out; omega)).only HO7.out (by show ¬ s1 = s0 + 2; have := HS5.out; omega))
   have HB7 : Hid (Below (s0 + 2) w4 w7) := Lib.hid ((HB5.out.trans (HO6.out.below (B := s0 + 2) (fun k hk => by have := (HA5.out.lt hk).1; omega) (by have := HW5.out; omega))).trans (HO7.out.below (B := s0 + 2) (fun k hk => Nat.le_of_eq hk.symm) (by have := HO6.out.size; have := HW5.out; omega)))
   have HW7 : Hid (s0 + 3 ≤ w7.heap.size) := Lib.hid (Nat.le_trans HW5.out (Nat.le_trans HO6.out.size HO7.out.size))
   rw [hw7]
   clear hw7 HG5 HA5 HV5 HT5 HB5 HW5 HO6 HO7 HK6 HR6 HG6 HN6 HA8 HR8 HX8 HA HG HV HB HW1 c2 c2_ z2_ d0
   have hx8 : Below w7.heap.size w7 (w7.alloc (.cells #[.int .i64 (10 * ((i : Int) + 1)), .int .i64 q2, .int .i64 (-25567)] 173)) := below_alloc_new _
   have HX8 := Lib.hid hx8
   have HR8 : Hid (RowAt lyL (w7.alloc (.cells #[.int .i64 (10 * ((i : Int) + 1)), .int .i64 q2, .int .i64 (-25567)] 173)) (some ⟨w7.heap.size, 0, none⟩) [⟨10 * ((i : Int) + 1), q2, -25567⟩]) := Lib.hid (row_one (R := lyL) (x := ⟨10 * ((i : Int) + 1), q2, -25567⟩) (Wh.new w7 173 [.int .i64 (10 * ((i : Int) + 1)), .int .i64 q2, .int .i64 (-25567)]))
   have HV8 := Lib.hid (HV7.out.up hx8)
   have c3 := HG7.out.at 3 _ rfl
   have d1 := HT7.out.at 1 _ rfl
   rw [hvl] at c3
   rw [hvl] at HV8 HV7 HG7
   clear hx8
   go_upto_region 9 with (at_builtin; refine wpList_app_row (R := lyL) rfl (.tmp 49) (.tmp 54) 117 rfl i1 _ 24 Tryz.underlying117 hj hy1 hy2 hy3 (by omega) rfl rfl HV8.out (some ⟨w7.heap.size, 0, none⟩) 1 1 [⟨10 * ((i : Int) + 1), q2, -25567⟩] rfl rfl HR8.out (by have := HSL.out; have := HIL.out; simp; omega) (by have := HW7.out; have := HX8.out.size; omega) ?_; intro v8 w8 hr8 hg8 hn8; obtain ⟨A8, c8, e8, -, -⟩ := hr8.out.reads; rw [show (seL i ++ [(⟨10 * ((i : Int) + 1), q2, -25567⟩ : Lnk)]).length = i + 1 from by rw [List.length_append, HSL.out]; rfl] at e8; subst e8; have HR9 := Lib.hid hr8.out; have HG8 := Lib.hid hg8.out; clear hr8 hg8 hn8; have hk8 : Wh 119 w8 (s0 + 2) [.string nm, .string cu, .slice A6 (i + 1) c6, .slice B9 i d9, .bool jt] := (HG7.out.up HX8.out).same (HG8.out.block _ (by have := HX8.out.size; have := HW7.out; omega) (fun e => by have := (HV8.out.lt e.symm).1; omega)); have HK8 := Lib.hid hk8; have c3_ := hk8.at 3 _ rfl; have z3_ := hk8.frozen 3; clear hk8)
   obtain ⟨w9, hw9⟩ : ∃ w9, w8.setCell ⟨s0 + 2, 3, none⟩ (.slice A8 (i + 1) c8) = w9 := ⟨_, rfl⟩
   have HO9 : Hid (Only (fun k => k = s0 + 2) w8 w9) := Lib.hid (by rw [← hw9]; exact Only.setCell (S := fun k => k = s0 + 2) _ (a := ⟨s0 + 2, 3, none⟩) rfl _)
   have HG9 : Hid (Wh 119 w9 (s0 + 2) [.string nm, .string cu, .slice A6 (i + 1) c6, .slice A8 (i + 1) c8, .bool jt]) := Lib.hid (by rw [← hw9]; exact HK8.out.set 3 (.slice A8 (i + 1) c8))
   have HO8 : Hid (Only (fun k => (Value.slice B9 i d9).ownBlock = some k) w7 w8) := Lib.hid ((Only.of HX8.out).trans (Only.grown HG8.out fun k hk => hk))
   have HV9 : Hid (OwnR lyL 173 w9 (s0 + 3) (.slice A8 (i + 1) c8) (seL (i + 1))) := Lib.hid (by rw [HJL.out]; exact HR9.out.blk fun g hg => HO9.out.blk g (HR9.out.lt hg).2 (by have := (HR9.out.lt hg).1; show ¬ g = s0 + 2; omega))
   have HA9 : Hid (OwnR lyA 151 w9 (s0 + 3) (.slice A6 (i + 1) c6) (seA (i + 1))) := Lib.hid ((HA7.out.blk fun g hg => HO8.out.blk g (HA7.out.lt hg).2 (fun e => own_apart HA7.out HV7.out (by decide) hg e)).blk fun g hg => HO9.out.blk g (Nat.lt_of_lt_of_le (HA7.out.lt hg).2 HO8.out.size) (by have := (HA7.out.lt hg).1; show ¬ g = s0 + 2; omega))
   have HB9 : Hid (Below (s0 + 2) w4 w9) := Lib.hid ((HB7.out.trans (HO8.out.below (B := s0 + 2) (fun k hk => by have := (HV7.out.lt hk).1; omega) (by have := HW7.out; omega))).trans (HO9.out.below (B := s0 + 2) (fun k hk => Nat.le_of_eq hk.symm) (by have := HO8.out.size; have := HW7.out; omega)))
   have HW9 : Hid (s0 + 3 ≤ w9.heap.size) := Lib.hid (Nat.le_trans HW7.out (Nat.le_trans HO8.out.size HO9.out.size))
   rw [hw9]
   clear hw9 HG7 HA7 HV7 HT7 HB7 HW7 HO8 HO9 HK8 HR9 HG8 HV8 HR8 HX8 c3 c3_ z3_ d1
   go_wp2_with fail
   go_roundg (14 - (i + 1))
   case measure => omega
   case rel => exact ⟨i + 1, by go_num, by omega, by omega, ⟨_, _, HG9, HA9, HV9⟩, HB9, HW9⟩
  ·obtain rfl : i = 14 := by omega
   obtain ⟨A, c, e1, -, -⟩ := HA.out.reads
   obtain ⟨B, d, e2, -, -⟩ := HV.out.reads
   rw [show (seA 14).length = 14 from rfl] at e1
   rw [show (seL 14).length = 14 from rfl] at e2
   subst e1 e2
   have HL : Hid ((Instr.loadAt 119 (.pointer (some ⟨s0 + 2, 0, none⟩))).run Tryz.prog wr = .ok (.agg #[.string nm, .string cu, .slice A 14 c, .slice B 14 d, .bool jt]) wr) := Lib.hid (HG.out.rg.load 0 119 [.string nm, .string cu, .slice A 14 c, .slice B 14 d, .bool jt] rfl _ Tryz.underlying119 rfl (by kernel_rfl))
   have HZ9 : Hid (Wh 119 wr s0 [.string ⟨#[]⟩, .string ⟨#[]⟩, .slice none 0 0, .slice none 0 0, .bool false]) := Lib.hid (HZ4.out.same (HB.out.block s0 (by omega)))
   have HM1 : True := trivial
   go_wp2_with (first
    | (clear HM1; refine wpList_load_is rfl 119 _ rfl (.pointer (some ⟨s0 + 2, 0, none⟩)) rfl (.agg #[.string nm, .string cu, .slice A 14 c, .slice B 14 d, .bool jt]) HL.out ?_)
    | (refine wpList_store_wh rfl 119 _ _ rfl s0 (by first | rfl | (rw [← HS0.out]; rfl)) 119 [.string ⟨#[]⟩, .string ⟨#[]⟩, .slice none 0 0, .slice none 0 0, .bool false] [.string nm, .string cu, .slice A 14 c, .slice B 14 d, .bool jt] rfl HZ9.out rfl (by kernel_rfl) (by kernel_rfl) ?_; intro W8 hr8 ho8 hz8))
   refine bodyPost_ret (v := .agg #[.string nm, .string cu, .slice A 14 c, .slice B 14 d, .bool jt]) (results_cell_mid Tryz.results108 _ _ s0 [.string nm, .string cu, .slice A 14 c, .slice B 14 d, .bool jt] _ (by first | rfl | (rw [← HS0.out]; rfl)) hr8.out.range Tryz.underlying119 rfl (by kernel_rfl)) rfl ⟨⟨⟨A, c, B, d⟩, rfl, ?_, ?_⟩, ?_⟩
   ·exact (HA.out.blk fun g hg => ho8.out.blk g (HA.out.lt hg).2 (by have := (HA.out.lt hg).1; show ¬ g = s0; omega)).low (by have := HS0.out; omega)
   ·exact (HV.out.blk fun g hg => ho8.out.blk g (HV.out.lt hg).2 (by have := (HV.out.lt hg).1; show ¬ g = s0; omega)).low (by have := HS0.out; omega)
   ·have h9 := (HB4.out.trans (HB.out.mono (by omega))).trans (ho8.out.below (B := s0) (fun k hk => Nat.le_of_eq hk.symm) (by have := HW1.out; omega))
    rw [HS0.out]
    exact h9
set_option maxRecDepth 100000 in
set_option maxHeartbeats 12800000 in
theorem gsgrp_any (w : World) : Calls Tryz.prog 70 #[] w fun e w' => (∃ A c E p0 p1 p2 p3, e = .returned (grpV (smpG A c E)) ∧ GrK w' (smpG A c E) smpL (smpEs p0 p1 p2 p3)) ∧ Below w.heap.size w w' := by
 obtain ⟨s0, hs0⟩ : ∃ s0, w.heap.size = s0 := ⟨_, rfl⟩
 obtain ⟨w2, hw2⟩ : ∃ w2, w.alloc (.cells #[.string ⟨#[]⟩, .int .i64 0, .int .i64 0, .int .i64 0, .slice none 0 0, .int .i64 0, .int .i64 0, .int .i64 0, .int .i64 0, .int .i64 0, .int .i64 0, .int .i64 0, .int .i64 0, .int .i64 0, .int .i64 0, .int .i64 0, .int .i64 0, .int .i64 0, .int .i64 0, .int .i64 0, .slice none 0 0] 29) = w2 := ⟨_, rfl⟩
 have HZ : Hid (Wh 29 w2 s0 [.string ⟨#[]⟩, .int .i64 0, .int .i64 0, .int .i64 0, .slice none 0 0, .int .i64 0, .int .i64 0, .int .i64 0, .int .i64 0, .int .i64 0, .int .i64 0, .int .i64 0, .int .i64 0, .int .i64 0, .int .i64 0, .int .i64 0, .int .i64 0, .int .i64 0, .int .i64 0, .int .i64 0, .slice none 0 0]) := Lib.hid (by rw [← hw2, ← hs0]; exact Wh.new w 29 [.string ⟨#[]⟩, .int .i64 0, .int .i64 0, .int .i64 0, .slice none 0 0, .int .i64 0, .int .i64 0, .int .i64 0, .int .i64 0, .int .i64 0, .int .i64 0, .int .i64 0, .int .i64 0, .int .i64 0, .int .i64 0, .int .i64 0, .int .i64 0, .int .i64 0, .int .i64 0, .int .i64 0, .slice none 0 0])
 have HB2 : Hid (Below s0 w w2) := Lib.hid (by rw [← hw2, ← hs0]; exact below_alloc_new _)
 have HS2 : Hid (w2.heap.size = s0 + 1) := Lib.hid (by rw [← hw2, ← hs0]; simp)
 have HS0 := Lib.hid hs0
 have HM1 : True := trivial
 have HM2 : True := trivial
 have HM3 : True := trivial
 have HM4 : True := trivial
 have HM5 : True := trivial
 go_enter Tryz.func70, Tryz.ntmps70
 go_wp2_with (first
  | (go_at_call 106; refine (gschart_any _).mono ?_; rintro e w3 ⟨rfl, hw3, hb3⟩; have HW3 := Lib.hid hw3; have HB3 := Lib.hid hb3; clear hw3 hb3; obtain ⟨g3, hg3⟩ : ∃ g3, w2.heap.size = g3 := ⟨_, rfl⟩; have HG3 := Lib.hid hg3; rw [hg3] at HW3)
  | (go_at_call 107; refine (gsrol_any _).mono ?_; rintro e w4 ⟨rfl, hb4⟩; have HW4 := Lib.hid (HW3.out.up hb4); have HB4 := Lib.hid (HB3.out.trans (hb4.mono HB3.out.size)); clear hb4 HW3 HB3)
  | (go_at_call 108; first
    | (clear HM1; refine (gsent_any _ _ _ _).mono ?_; rintro e w6 ⟨⟨p0, rfl, hp⟩, hb⟩; have HP0 : Hid (EOw w4.heap.size p0 w6) := Lib.hid hp; have HC6 := Lib.hid hb; clear hp hb)
    | (clear HM2; refine (gsent_any _ _ _ _).mono ?_; rintro e w7 ⟨⟨p1, rfl, hp⟩, hb⟩; have HP1 : Hid (EOw w4.heap.size p1 w7) := Lib.hid (EOw.low hp HC6.out.size); have HQ0 := Lib.hid (HP0.out.up hb); have HC7 := Lib.hid (HC6.out.trans (hb.mono HC6.out.size)); clear hp hb HC6 HP0)
    | (clear HM3; refine (gsent_any _ _ _ _).mono ?_; rintro e w8 ⟨⟨p2, rfl, hp⟩, hb⟩; have HP2 : Hid (EOw w4.heap.size p2 w8) := Lib.hid (EOw.low hp HC7.out.size); have HQ1 := Lib.hid (HP1.out.up hb); have HR0 := Lib.hid (HQ0.out.up hb); have HC8 := Lib.hid (HC7.out.trans (hb.mono HC7.out.size)); clear hp hb HC7 HP1 HQ0)
    | (clear HM4; refine (gsent_any _ _ _ _).mono ?_; rintro e w9 ⟨⟨p3, rfl, hp⟩, hb⟩; have HP3 : Hid (EOw w4.heap.size p3 w9) := Lib.hid (EOw.low hp HC8.out.size); have HQ2 := Lib.hid (HP2.out.up hb); have HR1 := Lib.hid (HQ1.out.up hb); have HT0 := Lib.hid (HR0.out.up hb); have HC9 := Lib.hid (HC8.out.trans (hb.mono HC8.out.size)); clear hp hb HC8 HP2 HQ1 HR0; obtain ⟨gE, hgE⟩ : ∃ gE, w9.heap.size = gE := ⟨_, rfl⟩; have HGE := Lib.hid hgE; obtain ⟨w10, hw10⟩ : ∃ w10, w9.alloc (.cells #[.string ⟨#[112, 97, 114, 101, 110, 116]⟩, .string ⟨#[69, 85, 82]⟩, .slice p0.A 14 p0.c, .slice p0.B 14 p0.d, .bool false, .string ⟨#[110, 111, 114, 116, 104]⟩, .string ⟨#[69, 85, 82]⟩, .slice p1.A 14 p1.c, .slice p1.B 14 p1.d, .bool false, .string ⟨#[119, 101, 115, 116]⟩, .string ⟨#[85, 83, 68]⟩, .slice p2.A 14 p2.c, .slice p2.B 14 p2.d, .bool false, .string ⟨#[106, 111, 105, 110, 116]⟩, .string ⟨#[85, 83, 68]⟩, .slice p3.A 14 p3.c, .slice p3.B 14 p3.d, .bool true] 119) = w10 := ⟨_, rfl⟩; have HE10 : Hid (Wh 119 w10 gE [.string ⟨#[112, 97, 114, 101, 110, 116]⟩, .string ⟨#[69, 85, 82]⟩, .slice p0.A 14 p0.c, .slice p0.B 14 p0.d, .bool false, .string ⟨#[110, 111, 114, 116, 104]⟩, .string ⟨#[69, 85, 82]⟩, .slice p1.A 14 p1.c, .slice p1.B 14 p1.d, .bool false, .string ⟨#[119, 101, 115, 116]⟩, .string ⟨#[85, 83, 68]⟩, .slice p2.A 14 p2.c, .slice p2.B 14 p2.d, .bool false, .string ⟨#[106, 111, 105, 110, 116]⟩, .string ⟨#[85, 83, 68]⟩, .slice p3.A 14 p3.c, .slice p3.B 14 p3.d, .bool true]) := Lib.hid (by rw [← hw10, ← hgE]; exact Wh.new w9 119 [.string ⟨#[112, 97, 114, 101, 110, 116]⟩, .string ⟨#[69, 85, 82]⟩, .slice p0.A 14 p0.c, .slice p0.B 14 p0.d, .bool false, .string ⟨#[110, 111, 114, 116, 104]⟩, .string ⟨#[69, 85, 82]⟩, .slice p1.A 14 p1.c, .slice p1.B 14 p1.d, .bool false, .string ⟨#[119, 101, 115, 116]⟩, .string ⟨#[85, 83, 68]⟩, .slice p2.A 14 p2.c, .slice p2.B 14 p2.d, .bool false, .string ⟨#[106, 111, 105, 110, 116]⟩, .string ⟨#[85, 83, 68]⟩, .slice p3.A 14 p3.c, .slice p3.B 14 p3.d, .bool true]); have HB10 : Hid (Below w9.heap.size w9 w10) := Lib.hid (by rw [← hw10]; exact below_alloc_new _)))
  | (refine wpList_build_is rfl 29 _ rfl [(0, .string ⟨#[69, 85, 82]⟩), (1, .agg #[.int .i64 2026, .int .i64 1, .int .i64 36]), (2, .slice (some ⟨g3, 0, none⟩) 26 26), (3, .agg #[.int .i64 1500, .int .i64 1600, .int .i64 1700, .int .i64 1200, .int .i64 3100, .int .i64 3200, .int .i64 3300, .int .i64 3400, .int .i64 3500, .int .i64 4500, .int .i64 4600, .int .i64 4700, .int .i64 5500, .int .i64 5600, .int .i64 5700]), (4, .slice (some ⟨gE, 0, none⟩) 4 4)] rfl (.agg #[.string ⟨#[69, 85, 82]⟩, .int .i64 2026, .int .i64 1, .int .i64 36, .slice (some ⟨g3, 0, none⟩) 26 26, .int .i64 1500, .int .i64 1600, .int .i64 1700, .int .i64 1200, .int .i64 3100, .int .i64 3200, .int .i64 3300, .int .i64 3400, .int .i64 3500, .int .i64 4500, .int .i64 4600, .int .i64 4700, .int .i64 5500, .int .i64 5600, .int .i64 5700, .slice (some ⟨gE, 0, none⟩) 4 4]) (run_build _ 29 _ _ (by kernel_rfl)) ?_)
  | (refine wpList_store_wh rfl 29 _ _ rfl s0 rfl 29 [.string ⟨#[]⟩, .int .i64 0, .int .i64 0, .int .i64 0, .slice none 0 0, .int .i64 0, .int .i64 0, .int .i64 0, .int .i64 0, .int .i64 0, .int .i64 0, .int .i64 0, .int .i64 0, .int .i64 0, .int .i64 0, .int .i64 0, .int .i64 0, .int .i64 0, .int .i64 0, .int .i64 0, .slice none 0 0] [.string ⟨#[69, 85, 82]⟩, .int .i64 2026, .int .i64 1, .int .i64 36, .slice (some ⟨g3, 0, none⟩) 26 26, .int .i64 1500, .int .i64 1600, .int .i64 1700, .int .i64 1200, .int .i64 3100, .int .i64 3200, .int .i64 3300, .int .i64 3400, .int .i64 3500, .int .i64 4500, .int .i64 4600, .int .i64 4700, .int .i64 5500, .int .i64 5600, .int .i64 5700, .slice (some ⟨gE, 0, none⟩) 4 4] rfl ((HZ.out.up HB4.out).up HC9.out |>.up HB10.out) rfl (by kernel_rfl) (by kernel_rfl) ?_; intro w11 hr11 ho11 hz11))
 refine bodyPost_ret (v := .agg #[.string ⟨#[69, 85, 82]⟩, .int .i64 2026, .int .i64 1, .int .i64 36, .slice (some ⟨g3, 0, none⟩) 26 26, .int .i64 1500, .int .i64 1600, .int .i64 1700, .int .i64 1200, .int .i64 3100, .int .i64 3200, .int .i64 3300, .int .i64 3400, .int .i64 3500, .int .i64 4500, .int .i64 4600, .int .i64 4700, .int .i64 5500, .int .i64 5600, .int .i64 5700, .slice (some ⟨gE, 0, none⟩) 4 4]) (results_cell_mid Tryz.results70 _ _ s0 [.string ⟨#[69, 85, 82]⟩, .int .i64 2026, .int .i64 1, .int .i64 36, .slice (some ⟨g3, 0, none⟩) 26 26, .int .i64 1500, .int .i64 1600, .int .i64 1700, .int .i64 1200, .int .i64 3100, .int .i64 3200, .int .i64 3300, .int .i64 3400, .int .i64 3500, .int .i64 4500, .int .i64 4600, .int .i64 4700, .int .i64 5500, .int .i64 5600, .int .i64 5700, .slice (some ⟨gE, 0, none⟩) 4 4] _ rfl hr11.out.range Tryz.underlying29 rfl (by kernel_rfl)) rfl ⟨⟨some ⟨g3, 0, none⟩, 26, some ⟨gE, 0, none⟩, p0, p1, p2, p3, rfl, ?_⟩, ?_⟩
 ·have hS2 := HS2.out
  have hG3 := HG3.out
  have h4s := HB4.out.size
  have key : ∀ p, EOw w4.heap.size p w9 → EOw w4.heap.size p w11 := fun p h => by
   have h1 := h.up HB10.out
   have k : ∀ j, w4.heap.size ≤ j → j < w10.heap.size → w11.heap[j]? = w10.heap[j]? := fun j h1 h2 => ho11.out.blk j h2 (by show ¬ j = s0; omega)
   exact ⟨h1.1.blk fun j hj => k j (h1.1.lt hj).1 (h1.1.lt hj).2, h1.2.blk fun j hj => k j (h1.2.lt hj).1 (h1.2.lt hj).2⟩
  have hE : Wh 119 w11 gE [.string ⟨#[112, 97, 114, 101, 110, 116]⟩, .string ⟨#[69, 85, 82]⟩, .slice p0.A 14 p0.c, .slice p0.B 14 p0.d, .bool false, .string ⟨#[110, 111, 114, 116, 104]⟩, .string ⟨#[69, 85, 82]⟩, .slice p1.A 14 p1.c, .slice p1.B 14 p1.d, .bool false, .string ⟨#[119, 101, 115, 116]⟩, .string ⟨#[85, 83, 68]⟩, .slice p2.A 14 p2.c, .slice p2.B 14 p2.d, .bool false, .string ⟨#[106, 111, 105, 110, 116]⟩, .string ⟨#[85, 83, 68]⟩, .slice p3.A 14 p3.c, .slice p3.B 14 p3.d, .bool true] := HE10.out.only ho11.out (by show ¬ gE = s0; have := HGE.out; have := HC9.out.size; omega)
  have hA : Wh 151 w11 g3 (lyA.all smpL) := ((HW4.out.up HC9.out).up HB10.out).only ho11.out (by show ¬ g3 = s0; omega)
  refine ⟨smp_len, rfl, acc_row (fun _ => ⟨g3, 0, rfl, hA.lt, hA.range⟩), ents_row (fun _ => ⟨gE, 0, rfl, hE.lt, hE.range⟩), fun e he => ?_⟩
  simp [smpEs] at he
  rcases he with rfl | rfl | rfl | rfl
  ·exact (key _ HT0.out).k
  ·exact (key _ HR1.out).k
  ·exact (key _ HQ2.out).k
  ·exact (key _ HP3.out).k
 ·have h4s := HB4.out.size
  have h9s := HC9.out.size
  have hS2 := HS2.out
  have h1 : Below s0 w4 w9 := HC9.out.mono (by omega)
  have h2 : Below s0 w9 w10 := HB10.out.mono (by omega)
  have h3 : Below s0 w10 w11 := ho11.out.below (fun k hk => Nat.le_of_eq hk.symm) (by have := HB10.out.size; omega)
  have h4 : Below s0 w2 w4 := HB4.out.mono (by omega)
  have h9 := HB2.out.trans (h4.trans (h1.trans (h2.trans h3)))
  rw [HS0.out]
  exact h9
def stpC (s : Stp) : List Value := [.int .i64 s.e, .int .i64 s.p, .bool s.u]
abbrev stpV (s : Stp) : Value := .agg #[.int .i64 s.e, .int .i64 s.p, .bool s.u]
def lyS : Lay Stp := ⟨stpC, 3, fun _ => rfl, fun a v hv => by simp [stpC] at hv; rcases hv with rfl | rfl | rfl <;> rfl, by decide⟩
def okStp (s : Stp) : Prop := okK s.k
open Go.RowKit Go.Maps
section
variable {w w' : World} {j : LD} {z : Nat} {K : LkL}
set_option maxRecDepth 100000 in
set_option maxHeartbeats 1600000 in
theorem do_any (s : Stp) (h : LK w j z K) (ho : okStp s) (hz : z ≤ 1000) : Calls Tryz.prog 33 #[j.p, stpV s] w fun r w' => r = .returned (.int .i64 (stpE j.n j.k K s)) ∧ LK w' j (z + 1) (stpL j.n j.k K s) ∧ Only (fun i => i = j.bm) w w' := by
 obtain ⟨s0, hs0⟩ : ∃ s0, w.heap.size = s0 := ⟨_, rfl⟩
 obtain ⟨w2, hw2⟩ : ∃ w2, w.alloc (.cells #[.int .i64 s.e, .int .i64 s.p, .bool s.u] 73) = w2 := ⟨_, rfl⟩
 have HXB : Wh 73 w2 s0 (stpC s) := by rw [← hw2, ← hs0]; exact Wh.new w 73 (stpC s)
 have HB2 : Hid (Below w.heap.size w w2) := Lib.hid (by rw [← hw2]; exact below_alloc_new _)
 have HS0 := Lib.hid hs0
 have p0 := HXB.at 0 _ rfl
 have p1 := HXB.at 1 _ rfl
 have p2 := HXB.at 2 _ rfl
 have HLK := Lib.hid (h.up HB2.out)
 have HA := Lib.hid (lock_any s.e s.p HLK.out ho hz)
 have HU := Lib.hid (unlock_any s.e s.p HLK.out ho)
 obtain ⟨e, p, u⟩ := s
 unfold stpE stpL Stp.k
 dsimp only at *
 clear h ho HXB
 cases u
 ·simp only [Bool.false_eq_true, if_false]
  go_enter Tryz.func33, Tryz.ntmps33
  go_wp2_with (go_at_call 45; refine HA.out.mono ?_; rintro r w3 ⟨rfl, h3, o3⟩; have H3 := Lib.hid h3; have O3 := Lib.hid o3; clear h3 o3)
  go_ret
  exact ⟨rfl, H3.out, (Only.of HB2.out).trans O3.out⟩
 ·simp only [if_true]
  go_enter Tryz.func33, Tryz.ntmps33
  go_wp2_with (go_at_call 46; refine HU.out.mono ?_; rintro r w3 ⟨rfl, h3, o3⟩; have H3 := Lib.hid h3; have O3 := Lib.hid o3; clear h3 o3)
  go_ret
  exact ⟨rfl, H3.out.mono (Nat.le_succ _), (Only.of HB2.out).trans O3.out⟩
end
open Go.RowKit Go.Maps
theorem smp_sml (A : Option Addr) (c : Nat) (E : Option Addr) (p0 p1 p2 p3 : EAd) : Sm (smpG A c E) (smpEs p0 p1 p2 p3) := ⟨by show 26 ≤ 60; omega, by show 4 ≤ 14; omega, fun e he => by
 simp [smpEs] at he
 rcases he with rfl | rfl | rfl | rfl <;> exact ⟨by show 14 ≤ 60; omega, by show 14 ≤ 60; omega⟩⟩
theorem smp_wl (A : Option Addr) (c : Nat) (E : Option Addr) (p0 p1 p2 p3 : EAd) : GrW (smpG A c E) smpL (smpEs p0 p1 p2 p3) := ⟨by show 3 ≤ maxLen; unfold maxLen; omega, (by
 have h : ((smpG A c E).R.all fun x => (Lit.int .i64 x).wf) = true := by kernel_rfl
 exact fun x hx => List.all_eq_true.1 h x hx), fun e he => by
 simp [smpEs] at he
 rcases he with rfl | rfl | rfl | rfl
 ·exact ⟨by show 6 ≤ maxLen; unfold maxLen; omega, by show 3 ≤ maxLen; unfold maxLen; omega⟩
 ·exact ⟨by show 5 ≤ maxLen; unfold maxLen; omega, by show 3 ≤ maxLen; unfold maxLen; omega⟩
 ·exact ⟨by show 4 ≤ maxLen; unfold maxLen; omega, by show 3 ≤ maxLen; unfold maxLen; omega⟩
 ·exact ⟨by show 5 ≤ maxLen; unfold maxLen; omega, by show 3 ≤ maxLen; unfold maxLen; omega⟩⟩
def etyD (e d : Int) : Ety := ⟨0, e, d, 0, 0, ⟨#[]⟩, none, 0, 0⟩
theorem etyD_build (e d : Int) (w : World) : (Instr.build 46 #[(1, .int .i64 e), (2, .int .i64 d)]).run Tryz.prog w = .ok (etyV (etyD e d)) w := run_build w 46 _ _ (by kernel_rfl)
theorem aw_add : addE 4 36 [] (1, 1) = 0 ∧ addL 4 36 [] (1, 1) = [(1, 1)] := by decide
theorem aw_chk : chkL 4 2026 1 36 [(1, 1)] 1 20512 = 12 ∧ chkL 4 2026 1 36 [(1, 1)] 1 20513 = 0 := by decide +kernel
set_option maxRecDepth 100000 in
set_option maxHeartbeats 6400000 in
theorem lkawake_any (w : World) : Calls Tryz.prog 27 #[] w fun e w' => e = .returned (.bool true) ∧ Below w.heap.size w w' := by
 have HN := Lib.hid (fun A c E p0 p1 p2 p3 W (h : GrK W (smpG A c E) smpL (smpEs p0 p1 p2 p3)) => lnew_any (smpG A c E) smpL (smpEs p0 p1 p2 p3) W h (smp_sml A c E p0 p1 p2 p3) (smp_wl A c E p0 p1 p2 p3))
 have hok : okK (1, 1) := ⟨rfl, rfl⟩
 have HOK := Lib.hid hok
 clear hok
 have HM1 : True := trivial
 have HM2 : True := trivial
 have HM3 : True := trivial
 have HM4 : True := trivial
 go_enter Tryz.func27, Tryz.ntmps27
 go_wp2_with (first
  | (go_at_call 70; refine (gsgrp_any _).mono ?_; rintro e w3 ⟨⟨A, c, E, p0, p1, p2, p3, rfl, hk⟩, hb⟩; have HK3 := Lib.hid hk; have HB3 := Lib.hid hb; clear hk hb; obtain ⟨GV, hGV⟩ : ∃ GV, GV = grpV (smpG A c E) := ⟨_, rfl⟩; have HN3 := Lib.hid (HN.out A c E p0 p1 p2 p3); rw [← hGV]; rw [← hGV] at HN3; clear hGV)
  | (go_at_call 29; refine (HN3.out _ HK3.out).mono ?_; rintro e w4 ⟨hq, hb⟩; unfold LNewQ at hq; rw [smp_ok, if_pos rfl] at hq; obtain ⟨b, bm, rfl, hj, h1, h2⟩ := hq; have HJ4 : Hid (LK w4 ⟨b, 4, 2026, 1, 36, bm⟩ 0 []) := Lib.hid hj; have HB4 := Lib.hid (HB3.out.trans (hb.mono HB3.out.size)); have HBM := Lib.hid (Nat.le_trans HB3.out.size h2); have HL4 := Lib.hid (lock_any 1 1 HJ4.out HOK.out (by omega)); clear hj hb h1 h2)
  | (go_at_call 45; refine HL4.out.mono ?_; rintro e w5 ⟨he, h5, o5⟩; rw [aw_add.1] at he; subst he; rw [aw_add.2] at h5; have H5 := Lib.hid h5; have HB5 := Lib.hid (HB4.out.trans (o5.below (fun k hk => by have h9 : k = bm := hk; have := HBM.out; omega) HB4.out.size)); clear h5 o5)
  | (clear HM1; refine wpList_build_is rfl 46 _ rfl [(1, .int .i64 1), (2, .int .i64 20512)] rfl (etyV (etyD 1 20512)) (etyD_build _ _ _) ?_)
  | (clear HM2; refine wpList_build_is rfl 46 _ rfl [(1, .int .i64 1), (2, .int .i64 20513)] rfl (etyV (etyD 1 20513)) (etyD_build _ _ _) ?_)
  | (clear HM3; go_at_call 38; refine (check_any (etyD 1 20512) H5.out rfl).mono ?_; rintro e w6 ⟨he, hb⟩; rw [show chkL 4 2026 1 36 [(1, 1)] (etyD 1 20512).ent (etyD 1 20512).day = 12 from aw_chk.1] at he; subst he; have H6 := Lib.hid (H5.out.up hb); have HB6 := Lib.hid (HB5.out.trans (hb.mono HB5.out.size)); clear hb)
  | (clear HM4; go_at_call 38; refine (check_any (etyD 1 20513) H6.out rfl).mono ?_; rintro e w7 ⟨he, hb⟩; rw [show chkL 4 2026 1 36 [(1, 1)] (etyD 1 20513).ent (etyD 1 20513).day = 0 from aw_chk.2] at he; subst he; have HB7 := Lib.hid (HB6.out.trans (hb.mono HB6.out.size)); clear hb))
 go_ret
 exact ⟨rfl, HB7.out⟩
end Go.Proofs.YtaeccljkmijpaaaGreat
namespace Go.Proofs
open Go.Shelf
def Tryz.sortf76_ren : Go.Shelf.Ren := ⟨fun | 6 => 76 | 15 => 117 | 14 => 116 | 28 => 156 | 29 => 157 | 20 => 148 | 21 => 149 | 22 => 150 | 23 => 151 | 24 => 152 | 25 => 153 | 26 => 154 | 27 => 155 | 46 => 177 | 47 => 178 | 48 => 179 | 49 => 180 | 50 => 181 | 57 => 194 | n => n, fun | 22 => 82 | 24 => 89 | 25 => 131 | 3 => 3 | 39 => 162 | 0 => 0 | 53 => 201 | 55 => 203 | 4 => 4 | 46 => 195 | 45 => 194 | 50 => 50 | 5 => 5 | 9 => 9 | 66 => 215 | 70 => 219 | 76 => 227 | 77 => 135 | n => n, fun | n => n⟩
theorem Tryz.sortf76 : Go.Proofs.SlLaysF0.n6 Tryz.prog Tryz.sortf76_ren := {
 mixed := by kernel_rfl
 f6 := ⟨Tryz.f76.name, by decide, Tryz.func76.trans (congrArg some (by kernel_rfl))⟩
 f14 := ⟨Tryz.f116.name, by decide, Tryz.func116.trans (congrArg some (by kernel_rfl))⟩
 f15 := Tryz.func117.trans (congrArg some (by kernel_rfl))
 f20 := ⟨Tryz.f148.name, by decide, Tryz.func148.trans (congrArg some (by kernel_rfl))⟩
 f21 := ⟨Tryz.f149.name, by decide, Tryz.func149.trans (congrArg some (by kernel_rfl))⟩
 f22 := ⟨Tryz.f150.name, by decide, Tryz.func150.trans (congrArg some (by kernel_rfl))⟩
 f23 := ⟨Tryz.f151.name, by decide, Tryz.func151.trans (congrArg some (by kernel_rfl))⟩
 f24 := ⟨Tryz.f152.name, by decide, Tryz.func152.trans (congrArg some (by kernel_rfl))⟩
 f25 := ⟨Tryz.f153.name, by decide, Tryz.func153.trans (congrArg some (by kernel_rfl))⟩
 f26 := ⟨Tryz.f154.name, by decide, Tryz.func154.trans (congrArg some (by kernel_rfl))⟩
 f27 := ⟨Tryz.f155.name, by decide, Tryz.func155.trans (congrArg some (by kernel_rfl))⟩
 f28 := Tryz.func156.trans (congrArg some (by kernel_rfl))
 f29 := Tryz.func157.trans (congrArg some (by kernel_rfl))
 f46 := ⟨Tryz.f177.name, by decide, Tryz.func177.trans (congrArg some (by kernel_rfl))⟩
 f47 := Tryz.func178.trans (congrArg some (by kernel_rfl))
 f48 := Tryz.func179.trans (congrArg some (by kernel_rfl))
 f49 := ⟨Tryz.f180.name, by decide, Tryz.func180.trans (congrArg some (by kernel_rfl))⟩
 f50 := ⟨Tryz.f181.name, by decide, Tryz.func181.trans (congrArg some (by kernel_rfl))⟩
 f57 := ⟨Tryz.f194.name, by decide, Tryz.func194.trans (congrArg some (by kernel_rfl))⟩
 t0 := Tryz.underlying0
 a0 := Tryz.isAgg0
 z0 := Tryz.sizeOf0
 v0 := Tryz.zeroValue0
 t3 := Tryz.underlying3
 a3 := Tryz.isAgg3
 z3 := Tryz.sizeOf3
 v3 := Tryz.zeroValue3
 t4 := Tryz.underlying4
 a4 := Tryz.isAgg4
 z4 := Tryz.sizeOf4
 v4 := Tryz.zeroValue4
 t5 := Tryz.underlying5
 a5 := Tryz.isAgg5
 z5 := Tryz.sizeOf5
 v5 := Tryz.zeroValue5
 t9 := Tryz.underlying9
 a9 := Tryz.isAgg9
 z9 := Tryz.sizeOf9
 v9 := Tryz.zeroValue9
 t22 := Tryz.underlying82
 a22 := Tryz.isAgg82
 z22 := Tryz.sizeOf82
 v22 := Tryz.zeroValue82
 t25 := Tryz.underlying131
 a25 := Tryz.isAgg131
 z25 := Tryz.sizeOf131
 v25 := Tryz.zeroValue131
 t39 := Tryz.underlying162
 a39 := Tryz.isAgg162
 z39 := Tryz.sizeOf162
 v39 := Tryz.zeroValue162
 t45 := Tryz.underlying194
 a45 := Tryz.isAgg194
 z45 := Tryz.sizeOf194
 v45 := Tryz.zeroValue194
 t46 := Tryz.underlying195
 a46 := Tryz.isAgg195
 z46 := Tryz.sizeOf195
 v46 := Tryz.zeroValue195
 t50 := Tryz.underlying50
 a50 := Tryz.isAgg50
 z50 := Tryz.sizeOf50
 v50 := Tryz.zeroValue50
 t53 := Tryz.underlying201
 a53 := Tryz.isAgg201
 z53 := Tryz.sizeOf201
 v53 := Tryz.zeroValue201
 t55 := Tryz.underlying203
 a55 := Tryz.isAgg203
 z55 := Tryz.sizeOf203
 v55 := Tryz.zeroValue203
 t66 := Tryz.underlying215
 a66 := Tryz.isAgg215
 z66 := Tryz.sizeOf215
 v66 := Tryz.zeroValue215
 t70 := Tryz.underlying219
 a70 := Tryz.isAgg219
 z70 := Tryz.sizeOf219
 v70 := Tryz.zeroValue219
 t76 := Tryz.underlying227
 a76 := Tryz.isAgg227
 z76 := Tryz.sizeOf227
 v76 := Tryz.zeroValue227
 t77 := Tryz.underlying135
 a77 := Tryz.isAgg135
 z77 := Tryz.sizeOf135
 v77 := Tryz.zeroValue135 }
end Go.Proofs
namespace Go.Proofs.YtaeccljkmijpaaaGreat
open Go.RowKit Go.Sort Go.Shelf
def cmK (x y : Int × Int) : Int := if cmI x.1 y.1 = 0 then cmI x.2 y.2 else cmI x.1 y.1
theorem cmI_ltx {x y : Int} : cmI x y < 0 ↔ x < y := by unfold cmI; split <;> (try split) <;> omega
theorem cmI_eqx {x y : Int} : cmI x y = 0 ↔ x = y := by unfold cmI; split <;> (try split) <;> omega
theorem ltOf_cmK (x y : Int × Int) : ltOf cmK x y = decide (ltK x y) := by
 unfold ltOf cmK ltK
 by_cases h : cmI x.1 y.1 = 0
 ·rw [if_pos h]
  have h2 := cmI_eqx.1 h
  have h3 := cmI_ltx (x := x.2) (y := y.2)
  refine decide_eq_decide.2 ?_
  rw [h3]; omega
 ·rw [if_neg h]
  have h2 := mt cmI_eqx.2 h
  have h3 := cmI_ltx (x := x.1) (y := y.1)
  refine decide_eq_decide.2 ?_
  rw [h3]; omega
theorem cmK_swo : SWO (ltOf cmK) where
 irrefl x := by rw [ltOf_cmK]; simpa using ltK_irrefl x
 trans x y z h1 h2 := by rw [ltOf_cmK] at *; simp only [decide_eq_true_eq] at *; exact ltK_trans h1 h2
 ntrans x y z h1 h2 := by rw [ltOf_cmK] at *; simp only [decide_eq_false_iff_not] at *; unfold ltK at *; omega
theorem cmK_tot (x y : Int × Int) (h1 : ltOf cmK x y = false) (h2 : ltOf cmK y x = false) : x = y := by
 rw [ltOf_cmK] at h1 h2
 exact ltK_tri (of_decide_eq_false h1) (of_decide_eq_false h2)
structure P2 (w : World) (b : Nat) (k : Int × Int) : Prop where
 c0 : w.cell? ⟨b, 0, none⟩ = some (.int .i64 k.1)
 c1 : w.cell? ⟨b, 1, none⟩ = some (.int .i64 k.2)
 lt : b < w.heap.size
theorem P2.up {w w' : World} {b : Nat} {k : Int × Int} (h : P2 w b k) (hb : Below w.heap.size w w') : P2 w' b k :=
 ⟨(hb.cell (p := ⟨b, 0, none⟩) h.lt).trans h.c0, (hb.cell (p := ⟨b, 1, none⟩) h.lt).trans h.c1, Nat.lt_of_lt_of_le h.lt hb.size⟩
theorem p2_new (w : World) (t : TypeId) (k : Int × Int) : P2 (w.alloc (.cells #[.int .i64 k.1, .int .i64 k.2] t)) w.heap.size k := by
 refine ⟨?_, ?_, by simp⟩ <;> (simp only [World.cell?]; rw [heap_alloc_new]; rfl)
set_option maxHeartbeats 800000 in
theorem lkOr_any (x y : Int) (b : Nat) (w : World) (hx : w.cell? ⟨b, 0, none⟩ = some (.int .i64 x)) (hy : w.cell? ⟨b, 1, none⟩ = some (.int .i64 y)) :
  Calls Tryz.prog 118 #[.slice (some ⟨b, 0, none⟩) 2 2] w fun e w' => e = .returned (.int .i64 (if x = 0 then y else x)) ∧ w = w' := by
 by_cases h0 : x = 0
 ·subst h0
  rw [if_pos rfl]
  by_cases h1 : y = 0
  ·subst h1
   go_enter Tryz.func118, Tryz.ntmps118
   go_wp2
   go_loop [8] (fun i => ∃ j : Nat, j ≤ 2 ∧ i = .int .i64 j) (fun i => 2 - (intOf i).toNat)
   case atStart => exact ⟨0, by omega, rfl⟩
   case round =>
    obtain ⟨j, hj, rfl⟩ := hrel
    have hc : j = 0 ∨ j = 1 ∨ j = 2 := by omega
    rcases hc with rfl | rfl | rfl
    ·go_wp2
     go_round
     case rel => exact ⟨1, by omega, rfl⟩
     case measure => simp [intOf]
    ·go_wp2
     go_round
     case rel => exact ⟨2, by omega, rfl⟩
     case measure => simp [intOf]
    ·go_wp2
     go_ret
     exact ⟨rfl, rfl⟩
  ·have h2 : (y != 0) = true := by simpa using h1
   clear h1
   go_enter Tryz.func118, Tryz.ntmps118
   go_wp2
   go_loop [8] (fun i => ∃ j : Nat, j ≤ 1 ∧ i = .int .i64 j) (fun i => 2 - (intOf i).toNat)
   case atStart => exact ⟨0, by omega, rfl⟩
   case round =>
    obtain ⟨j, hj, rfl⟩ := hrel
    have hc : j = 0 ∨ j = 1 := by omega
    rcases hc with rfl | rfl
    ·go_wp2
     go_round
     case rel => exact ⟨1, by omega, rfl⟩
     case measure => simp [intOf]
    ·go_wp2
     go_ret
     exact ⟨rfl, rfl⟩
 ·rw [if_neg h0]
  have h2 : (x != 0) = true := by simpa using h0
  clear h0
  go_enter Tryz.func118, Tryz.ntmps118
  go_wp2
  go_loop [8] (fun i => i = .int .i64 0) (fun i => 2 - (intOf i).toNat)
  case atStart => exact rfl
  case round =>
   subst hrel
   go_wp2
   go_ret
   exact ⟨rfl, rfl⟩
def GrowsQ (w w' : World) : Prop := ∃ q os, w' = grow (w.drewN q) os
theorem GrowsQ.refl (w : World) : GrowsQ w w := ⟨0, #[], by simp [grow, World.drewN]⟩
theorem grow_drewN (w : World) (os : Array Obj) (q : Nat) : (grow w os).drewN q = grow (w.drewN q) os := by
 unfold grow World.drewN; rfl
theorem drewN_drewN (w : World) (p q : Nat) : (w.drewN p).drewN q = w.drewN (p + q) := by
 unfold World.drewN; simp only [Nat.add_assoc]
theorem GrowsQ.trans {w w' w2 : World} (h : GrowsQ w w') (k : GrowsQ w' w2) : GrowsQ w w2 := by
 obtain ⟨q, os, rfl⟩ := h
 obtain ⟨p, os', rfl⟩ := k
 exact ⟨q + p, os ++ os', by rw [grow_drewN, grow_grow, drewN_drewN]⟩
theorem GrowsQ.below {w w' : World} (h : GrowsQ w w') : Below w.heap.size w w' := by
 obtain ⟨q, os, rfl⟩ := h
 exact ⟨rfl, rfl, rfl, by simp [grow, World.drewN], fun k hk => by
  show (w.heap ++ os)[k]? = w.heap[k]?
  rw [Array.getElem?_append_left hk]⟩
theorem GrowsQ.drew (w : World) : GrowsQ w w.drew := ⟨1, #[], by unfold grow World.drewN World.drew; simp only [Array.append_empty]⟩
theorem GrowsQ.alloc (w : World) (o : Obj) : GrowsQ w (w.alloc o) := ⟨0, #[o], by rw [alloc_eq_grow]; simp [grow, World.drewN]⟩
def lqP (c d : Int) (v : Value) (w : World) : Prop := ∃ b, v = .slice (some ⟨b, 0, none⟩) 2 2 ∧ w.cell? ⟨b, 0, none⟩ = some (.int .i64 c) ∧ w.cell? ⟨b, 1, none⟩ = some (.int .i64 d) ∧ b < w.heap.size
def lqF (c d : Int) : AK.Fact GrowsQ := ⟨lqP c d, fun _ _ _ hb ⟨b, h1, h2, h3, h4⟩ => ⟨b, h1, (hb.below.cell (p := ⟨b, 0, none⟩) h4).trans h2, (hb.below.cell (p := ⟨b, 1, none⟩) h4).trans h3, Nat.lt_of_lt_of_le h4 hb.below.size⟩⟩
def lqL (s0 : Nat) (x1 x2 y1 y2 c d r : Int) : List (Nat × AK.Fact (GrowsQ)) := [(5, AK.Fact.is (.pointer (some ⟨s0, 0, none⟩))), (6, AK.Fact.is (.int .i64 x1)), (7, AK.Fact.is (.pointer (some ⟨s0 + 1, 0, none⟩))), (8, AK.Fact.is (.int .i64 y1)), (9, AK.Fact.is (.int .i64 c)), (10, AK.Fact.is (.pointer (some ⟨s0, 1, none⟩))), (11, AK.Fact.is (.int .i64 x2)), (12, AK.Fact.is (.pointer (some ⟨s0 + 1, 1, none⟩))), (13, AK.Fact.is (.int .i64 y2)), (14, AK.Fact.is (.int .i64 d)), (15, lqF c d), (16, AK.Fact.is (.int .i64 r)), (4, AK.Fact.is (.int .i64 r))]
set_option maxRecDepth 100000 in
set_option maxHeartbeats 3200000 in
theorem lcmp_any (x y : Int × Int) (w : World) :
  Calls Tryz.prog 77 #[.agg #[.int .i64 x.1, .int .i64 x.2], .agg #[.int .i64 y.1, .int .i64 y.2]] w fun e w' => e = .returned (.int .i64 (cmK x y)) ∧ ∃ q os, w' = grow (w.drewN q) os := by
 obtain ⟨x1, x2⟩ := x
 obtain ⟨y1, y2⟩ := y
 dsimp only
 have HC := Lib.hid (ccmp_any x1 y1)
 have HD := Lib.hid (ccmp_any x2 y2)
 have hE : cmK (x1, x2) (y1, y2) = if cmI x1 y1 = 0 then cmI x2 y2 else cmI x1 y1 := rfl
 rw [hE]
 clear hE
 obtain ⟨c, hc⟩ : ∃ c, cmI x1 y1 = c := ⟨_, rfl⟩
 obtain ⟨d, hd⟩ : ∃ d, cmI x2 y2 = d := ⟨_, rfl⟩
 rw [hc] at HC ⊢
 rw [hd] at HD ⊢
 obtain ⟨r, hr⟩ : ∃ r, (if c = 0 then d else c) = r := ⟨_, rfl⟩
 have HOR : Hid (∀ b W, W.cell? ⟨b, 0, none⟩ = some (.int .i64 c) → W.cell? ⟨b, 1, none⟩ = some (.int .i64 d) → Calls Tryz.prog 118 #[.slice (some ⟨b, 0, none⟩) 2 2] W fun e w' => e = .returned (.int .i64 r) ∧ W = w') := Lib.hid (fun b W h1 h2 => by rw [← hr]; exact lkOr_any c d b W h1 h2)
 rw [hr]
 clear hc hd hr
 obtain ⟨s0, hs0⟩ : ∃ s0, w.heap.size = s0 := ⟨_, rfl⟩
 obtain ⟨w2, hw2⟩ : ∃ w2, (w.alloc (.cells #[.int .i64 x1, .int .i64 x2] 89)).alloc (.cells #[.int .i64 y1, .int .i64 y2] 89) = w2 := ⟨_, rfl⟩
 have HX : Hid (P2 w2 s0 (x1, x2)) := Lib.hid (by rw [← hw2, ← hs0]; exact (p2_new w 89 (x1, x2)).up (below_alloc_new _))
 have HY : Hid (P2 w2 (s0 + 1) (y1, y2)) := Lib.hid (by
  rw [← hw2, ← hs0]
  have h9 := p2_new (w.alloc (.cells #[.int .i64 x1, .int .i64 x2] 89)) 89 (y1, y2)
  rw [World.size_alloc] at h9
  exact h9)
 have HG2 : Hid (GrowsQ w w2) := Lib.hid (by rw [← hw2]; exact (GrowsQ.alloc _ _).trans (GrowsQ.alloc _ _))
 go_enter Tryz.func77, Tryz.ntmps77
 go_wp2_with fail
 refine AK.region_facts (Rp := GrowsQ) (Kp := GrowsQ) (lqL s0 x1 x2 y1 y2 c d r) (fun _ _ W => GrowsQ w2 W) [[], [5], [], [7], [6, 8], [], [10], [], [12], [11, 13], [9, 14], [15], [16]] [] [[]] [0, 0, 0, 0, 0, 0, 0, 0, 0, 0, 0, 0, 0] [0, 0, 0, 0, 0, 0, 0, 0, 0, 0, 0, 0, 0] [] (fun u => by simp only [lqL, AK.temps, List.map_cons, List.map_nil, fillL, List.setIfInBounds_toArray, List.set_cons_zero, List.set_cons_succ]; rfl) (by kernel_rfl) (by kernel_rfl) (fun _ _ h => h.below.size) (fun _ _ h => h) (fun _ _ _ _ hb h => h.trans hb) (GrowsQ.drew _) ?_ ?_
 ·refine AK.sc (lim := 0) (lo := 0) rfl rfl rfl rfl ?_ ?_
  ·intro k_ u w_ hk_ hl_ hJ hF K hK
   clear hF
   go_simp
   exact hK.out _ _ (GrowsQ.refl _) (rfl) trivial
  refine AK.sc (lim := 0) (lo := 0) rfl rfl rfl rfl ?_ ?_
  ·intro k_ u w_ hk_ hl_ hJ hF K hK
   have h5 : u 5 = .pointer (some ⟨s0, 0, none⟩) := AK.facts_get hF 5 (by simp)
   clear hF
   simp only [h5] at hK ⊢
   clear h5
   have c_ := (HX.out.up hJ.below).c0
   go_simp
   exact hK.out _ _ (GrowsQ.refl _) (rfl) trivial
  refine AK.sc (lim := 0) (lo := 0) rfl rfl rfl rfl ?_ ?_
  ·intro k_ u w_ hk_ hl_ hJ hF K hK
   clear hF
   go_simp
   exact hK.out _ _ (GrowsQ.refl _) (rfl) trivial
  refine AK.sc (lim := 0) (lo := 0) rfl rfl rfl rfl ?_ ?_
  ·intro k_ u w_ hk_ hl_ hJ hF K hK
   have h7 : u 7 = .pointer (some ⟨s0 + 1, 0, none⟩) := AK.facts_get hF 7 (by simp)
   clear hF
   simp only [h7] at hK ⊢
   clear h7
   have c_ := (HY.out.up hJ.below).c0
   go_simp
   exact hK.out _ _ (GrowsQ.refl _) (rfl) trivial
  refine AK.sc (lim := 0) (lo := 0) rfl rfl rfl rfl ?_ ?_
  ·intro k_ u w_ hk_ hl_ hJ hF K hK
   have h6 : u 6 = .int .i64 x1 := AK.facts_get hF 6 (by simp)
   have h8 : u 8 = .int .i64 y1 := AK.facts_get hF 8 (by simp)
   clear hF
   simp only [h6, h8] at hK ⊢
   clear h6 h8
   go_simp
   refine (HC.out _).mono ?_
   rintro e w6 ⟨rfl, rfl⟩
   exact hK.out _ _ (GrowsQ.refl _) (rfl) trivial
  refine AK.sc (lim := 0) (lo := 0) rfl rfl rfl rfl ?_ ?_
  ·intro k_ u w_ hk_ hl_ hJ hF K hK
   clear hF
   go_simp
   exact hK.out _ _ (GrowsQ.refl _) (rfl) trivial
  refine AK.sc (lim := 0) (lo := 0) rfl rfl rfl rfl ?_ ?_
  ·intro k_ u w_ hk_ hl_ hJ hF K hK
   have h10 : u 10 = .pointer (some ⟨s0, 1, none⟩) := AK.facts_get hF 10 (by simp)
   clear hF
   simp only [h10] at hK ⊢
   clear h10
   have c_ := (HX.out.up hJ.below).c1
   go_simp
   exact hK.out _ _ (GrowsQ.refl _) (rfl) trivial
  refine AK.sc (lim := 0) (lo := 0) rfl rfl rfl rfl ?_ ?_
  ·intro k_ u w_ hk_ hl_ hJ hF K hK
   clear hF
   go_simp
   exact hK.out _ _ (GrowsQ.refl _) (rfl) trivial
  refine AK.sc (lim := 0) (lo := 0) rfl rfl rfl rfl ?_ ?_
  ·intro k_ u w_ hk_ hl_ hJ hF K hK
   have h12 : u 12 = .pointer (some ⟨s0 + 1, 1, none⟩) := AK.facts_get hF 12 (by simp)
   clear hF
   simp only [h12] at hK ⊢
   clear h12
   have c_ := (HY.out.up hJ.below).c1
   go_simp
   exact hK.out _ _ (GrowsQ.refl _) (rfl) trivial
  refine AK.sc (lim := 0) (lo := 0) rfl rfl rfl rfl ?_ ?_
  ·intro k_ u w_ hk_ hl_ hJ hF K hK
   have h11 : u 11 = .int .i64 x2 := AK.facts_get hF 11 (by simp)
   have h13 : u 13 = .int .i64 y2 := AK.facts_get hF 13 (by simp)
   clear hF
   simp only [h11, h13] at hK ⊢
   clear h11 h13
   go_simp
   refine (HD.out _).mono ?_
   rintro e w6 ⟨rfl, rfl⟩
   exact hK.out _ _ (GrowsQ.refl _) (rfl) trivial
  refine AK.sc (lim := 0) (lo := 0) rfl rfl rfl rfl ?_ ?_
  ·intro k_ u w_ hk_ hl_ hJ hF K hK
   have h9 : u 9 = .int .i64 c := AK.facts_get hF 9 (by simp)
   have h14 : u 14 = .int .i64 d := AK.facts_get hF 14 (by simp)
   clear hF
   simp only [h9, h14] at hK ⊢
   clear h9 h14
   go_simp
   have p2_ := p2_new w_ 3 (c, d)
   exact hK.out _ _ (GrowsQ.alloc _ _) ⟨_, rfl, p2_.c0, p2_.c1, p2_.lt⟩ trivial
  refine AK.sc (lim := 0) (lo := 0) rfl rfl rfl rfl ?_ ?_
  ·intro k_ u w_ hk_ hl_ hJ hF K hK
   have h15 : lqP c d (u 15) w_ := AK.facts_get hF 15 (by simp)
   clear hF
   obtain ⟨b15, h15, p0_, p1_, lt_⟩ := h15
   simp only [h15] at hK ⊢
   clear h15
   go_simp
   refine (HOR.out _ _ p0_ p1_).mono ?_
   rintro e w6 ⟨rfl, rfl⟩
   exact hK.out _ _ (GrowsQ.refl _) (rfl) trivial
  refine AK.sc (lim := 0) (lo := 0) rfl rfl rfl rfl ?_ ?_
  ·intro k_ u w_ hk_ hl_ hJ hF K hK
   have h16 : u 16 = .int .i64 r := AK.facts_get hF 16 (by simp)
   clear hF
   simp only [h16] at hK ⊢
   clear h16
   go_simp
   exact hK.out _ _ (GrowsQ.refl _) (rfl) trivial
  exact AK.StepsOk.nil
 ·intro u W9 hJ9 hF
  have h4 : u 4 = .int .i64 r := AK.facts_get hF 4 (by simp [lqL, AK.temps])
  clear hF
  simp only [h4]
  have HJ := Lib.hid hJ9
  clear hJ9
  go_wp2_with fail
  go_ret
  exact ⟨rfl, HG2.out.trans HJ.out⟩
end Go.Proofs.YtaeccljkmijpaaaGreat
