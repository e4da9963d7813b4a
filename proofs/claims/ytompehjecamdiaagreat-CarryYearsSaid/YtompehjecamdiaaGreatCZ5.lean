/- Contracts of the functions that the statements reach, part 5: what was proved of each, callees first. -/
import Derived.Deep.RegionHeldLaw
import Derived.Test.YtompehjecamdiaaGreatCZ4
namespace Go.Proofs.YtompehjecamdiaaGreat
open Go.RowKit
theorem gb_rU {w : World} {b : Nat} {g : Grp} {U : Value} (h : GB w b g) (hU : rolV g = U) : (Instr.loadAt 26 (.pointer (some ⟨b, 5, none⟩))).run Tryz.prog w = .ok U w := hU ▸ gb_roles h
def enrB (L : List Acc) (R : List Int) (e : Ent) : Bool := nameB e.nm && (curB e.cur && (mvB e.L e.K L && allTo (fun i => opnB R (e.K.getD i lnk0).tgt) e.K.length))
set_option maxRecDepth 20000 in
set_option maxHeartbeats 3200000 in
theorem rent_any (g : Grp) (L : List Acc) (e : Ent) (w : World) (hz : AccAt w g.A L) (ln : L.length = g.n) (hl : g.n ≤ 1000) (he : EntK w e.A e.n e.L e.B e.m e.K) (hn : e.n ≤ 1000) (hm : e.m ≤ 1000) (hs1 : e.nm.size ≤ maxLen) (hs2 : e.cur.size ≤ maxLen) :
  Calls Tryz.prog 26 #[grpV g, eV e] w fun e' w' => e' = .returned (.bool (enrB L g.R e)) ∧ Below w.heap.size w w' := by
 have hB1 := below_alloc_new (w := w) (.cells #[.string g.cur, .int .i64 g.cy, .int .i64 g.cm, .int .i64 g.cp, .slice g.A g.n g.c, .int .i64 g.r0, .int .i64 g.r1, .int .i64 g.r2, .int .i64 g.r3, .int .i64 g.r4, .int .i64 g.r5, .int .i64 g.r6, .int .i64 g.r7, .int .i64 g.r8, .int .i64 g.r9, .int .i64 g.r10, .int .i64 g.r11, .int .i64 g.r12, .int .i64 g.r13, .int .i64 g.r14, .slice g.E g.m g.d] 29)
 have hB := below_new hB1 (.cells #[.string e.nm, .string e.cur, .slice e.A e.n e.c, .slice e.B e.m e.d, .bool e.jt] 53)
 have hG := (gb_new w 29 g).up (below_alloc_new (.cells #[.string e.nm, .string e.cur, .slice e.A e.n e.c, .slice e.B e.m e.d, .bool e.jt] 53))
 have hE := eb_new (w.alloc (.cells #[.string g.cur, .int .i64 g.cy, .int .i64 g.cm, .int .i64 g.cp, .slice g.A g.n g.c, .int .i64 g.r0, .int .i64 g.r1, .int .i64 g.r2, .int .i64 g.r3, .int .i64 g.r4, .int .i64 g.r5, .int .i64 g.r6, .int .i64 g.r7, .int .i64 g.r8, .int .i64 g.r9, .int .i64 g.r10, .int .i64 g.r11, .int .i64 g.r12, .int .i64 g.r13, .int .i64 g.r14, .slice g.E g.m g.d] 29)) 53 e.nm e.cur e.A e.n e.c e.B e.m e.d e.jt
 have e1 : (w.alloc (.cells #[.string g.cur, .int .i64 g.cy, .int .i64 g.cm, .int .i64 g.cp, .slice g.A g.n g.c, .int .i64 g.r0, .int .i64 g.r1, .int .i64 g.r2, .int .i64 g.r3, .int .i64 g.r4, .int .i64 g.r5, .int .i64 g.r6, .int .i64 g.r7, .int .i64 g.r8, .int .i64 g.r9, .int .i64 g.r10, .int .i64 g.r11, .int .i64 g.r12, .int .i64 g.r13, .int .i64 g.r14, .slice g.E g.m g.d] 29)).heap.size = w.heap.size + 1 := by simp
 rw [e1] at hE
 have h1 := fun w => rnam_any e.nm w hs1
 have h2 := fun w => rcur_any e.cur w hs2
 have h3 : ∀ w, EntK w e.A e.n e.L e.B e.m e.K → AccAt w g.A L → Calls Tryz.prog 51 #[eV e, .slice g.A g.n g.c] w fun e' w' => e' = .returned (.bool (mvB e.L e.K L)) ∧ Below w.heap.size w w' := fun w h h' => by
  have h9 := rval9_any e.nm e.cur e.A e.c e.L e.B e.d e.K e.jt g.A g.c L w h.hz h.hy h' (by have := h.ln; omega) (by have := h.lm; omega) (by omega)
  rw [h.ln, h.lm, ln] at h9
  exact h9
 have h4 := fun w => rroles_any g w
 have hv : enrB L g.R e = (nameB e.nm && (curB e.cur && (mvB e.L e.K L && allTo (fun i => opnB g.R (e.K.getD i lnk0).tgt) e.K.length))) := rfl
 rw [he.lm] at hv
 obtain ⟨U, hU⟩ : ∃ U : Value, rolV g = U := ⟨_, rfl⟩
 rw [hU] at h4
 generalize enrB L g.R e = r at *
 generalize nameB e.nm = q1 at *
 generalize curB e.cur = q2 at *
 generalize mvB e.L e.K L = q3 at *
 obtain ⟨s0, hs0⟩ : ∃ s0, w.heap.size = s0 := ⟨_, rfl⟩
 have hsz : s0 ≤ ((w.alloc (.cells #[.string g.cur, .int .i64 g.cy, .int .i64 g.cm, .int .i64 g.cp, .slice g.A g.n g.c, .int .i64 g.r0, .int .i64 g.r1, .int .i64 g.r2, .int .i64 g.r3, .int .i64 g.r4, .int .i64 g.r5, .int .i64 g.r6, .int .i64 g.r7, .int .i64 g.r8, .int .i64 g.r9, .int .i64 g.r10, .int .i64 g.r11, .int .i64 g.r12, .int .i64 g.r13, .int .i64 g.r14, .slice g.E g.m g.d] 29)).alloc (.cells #[.string e.nm, .string e.cur, .slice e.A e.n e.c, .slice e.B e.m e.d, .bool e.jt] 53)).heap.size := by simp; omega
 have hek : EntK ((w.alloc (.cells #[.string g.cur, .int .i64 g.cy, .int .i64 g.cm, .int .i64 g.cp, .slice g.A g.n g.c, .int .i64 g.r0, .int .i64 g.r1, .int .i64 g.r2, .int .i64 g.r3, .int .i64 g.r4, .int .i64 g.r5, .int .i64 g.r6, .int .i64 g.r7, .int .i64 g.r8, .int .i64 g.r9, .int .i64 g.r10, .int .i64 g.r11, .int .i64 g.r12, .int .i64 g.r13, .int .i64 g.r14, .slice g.E g.m g.d] 29)).alloc (.cells #[.string e.nm, .string e.cur, .slice e.A e.n e.c, .slice e.B e.m e.d, .bool e.jt] 53)) e.A e.n e.L e.B e.m e.K := he.up hB
 have hz2 := hz.up hB
 rw [hs0] at hB hG hE ⊢
 have HS0 := Lib.hid hs0
 have HG := Lib.hid hG
 have HE := Lib.hid hE
 have HU := Lib.hid hU
 have HNM := Lib.hid h1
 have HCU := Lib.hid h2
 have HMV := Lib.hid h3
 have HRO := Lib.hid h4
 have HSZ := Lib.hid hsz
 have HEK := Lib.hid hek
 have HZ := Lib.hid hz2
 have HY := Lib.hid he.hy
 have HLM := Lib.hid he.lm
 have HV := Lib.hid hv
 have d4 := hG.c4
 obtain ⟨c0, c1, c2, c3, c4, lt⟩ := hE
 clear hz hz2 ln hl he hn hB1 hG e1 h1 h2 h3 h4 hv hU hsz hek hs1 hs2
 cases q1
 ·have HR := Lib.hid (show r = false from HV.out)
  clear HV
  go_enter Tryz.func26, Tryz.ntmps26
  go_wp2_with (first | (go_at_call 50; refine (HNM.out _).mono ?_; rintro e1 w1 ⟨rfl, rfl⟩))
  go_ret
  exact ⟨by rw [HR.out]; rfl, hB⟩
 cases q2
 ·have HR := Lib.hid (show r = false from HV.out)
  clear HV
  go_enter Tryz.func26, Tryz.ntmps26
  go_wp2_with (first | (go_at_call 50; refine (HNM.out _).mono ?_; rintro e1 w1 ⟨rfl, rfl⟩) | (go_at_call 45; refine (HCU.out _).mono ?_; rintro e1 w1 ⟨rfl, rfl⟩))
  go_ret
  exact ⟨by rw [HR.out]; rfl, hB⟩
 cases q3
 ·have HR := Lib.hid (show r = false from HV.out)
  clear HV
  go_enter Tryz.func26, Tryz.ntmps26
  go_wp2_with (first | (go_at_call 50; refine (HNM.out _).mono ?_; rintro e1 w1 ⟨rfl, rfl⟩) | (go_at_call 45; refine (HCU.out _).mono ?_; rintro e1 w1 ⟨rfl, rfl⟩) | (go_at_call 51; (with_reducible refine (HMV.out _ HEK.out HZ.out).mono ?_); rintro e1 w1 ⟨rfl, hb⟩; have hB2 := hB.trans (hb.mono HSZ.out); have HSZ2 := Lib.hid (Nat.le_trans HSZ.out hb.size); have HG2 := Lib.hid (HG.out.up hb); have HE2 := Lib.hid (HE.out.up hb); clear hb hB HSZ HG HE c0 c1 c2 c3 c4 lt; (try clear d4); have hB := hB2; have HSZ := HSZ2; have HG := HG2; have HE := HE2; clear hB2 HSZ2 HG2 HE2; obtain ⟨c0, c1, c2, c3, c4, lt⟩ := HE.out))
  go_ret
  exact ⟨by rw [HR.out]; rfl, hB⟩
 obtain ⟨P, hP⟩ : ∃ P : Nat → Bool, (fun i => opnB g.R (e.K.getD i lnk0).tgt) = P := ⟨_, rfl⟩
 have hv2 := HV.out
 rw [hP] at hv2
 have HV2 := Lib.hid (show r = allTo P e.m from hv2)
 have HP := Lib.hid (fun i => show opnB g.R (e.K.getD i lnk0).tgt = P i from by rw [← hP])
 clear HV hP hv2
 go_enter Tryz.func26, Tryz.ntmps26
 go_wp2_with (first | (go_at_call 50; refine (HNM.out _).mono ?_; rintro e1 w1 ⟨rfl, rfl⟩) | (go_at_call 45; refine (HCU.out _).mono ?_; rintro e1 w1 ⟨rfl, rfl⟩) | (go_at_call 51; (with_reducible refine (HMV.out _ HEK.out HZ.out).mono ?_); rintro e1 w1 ⟨rfl, hb⟩; have hB2 := hB.trans (hb.mono HSZ.out); have HSZ2 := Lib.hid (Nat.le_trans HSZ.out hb.size); have HG2 := Lib.hid (HG.out.up hb); have HE2 := Lib.hid (HE.out.up hb); clear hb hB HSZ HG HE c0 c1 c2 c3 c4 lt; (try clear d4); have hB := hB2; have HSZ := HSZ2; have HG := HG2; have HE := HE2; clear hB2 HSZ2 HG2 HE2; obtain ⟨c0, c1, c2, c3, c4, lt⟩ := HE.out) | (refine wpList_load_is rfl 26 _ rfl (.pointer (some ⟨s0, 5, none⟩)) rfl U (gb_rU HG.out HU.out) ?_) | (go_at_call 49; refine (HRO.out _).mono ?_; rintro e1 w2 ⟨⟨t, rfl, ht⟩, hb⟩; have HT := Lib.hid ht; clear ht; have hB2 := hB.trans (hb.mono HSZ.out); have HSZ2 := Lib.hid (Nat.le_trans HSZ.out hb.size); have HG2 := Lib.hid (HG.out.up hb); have HE2 := Lib.hid (HE.out.up hb); clear hb hB HSZ HG HE c0 c1 c2 c3 c4 lt; (try clear d4); have hB := hB2; have HSZ := HSZ2; have HG := HG2; have HE := HE2; clear hB2 HSZ2 HG2 HE2; obtain ⟨c0, c1, c2, c3, c4, lt⟩ := HE.out))
 clear hs0 HNM HCU HMV HEK HZ HG c0 c1 c2 c3 c4 lt
 obtain ⟨n, hn2⟩ : ∃ n, e.m = n := ⟨_, rfl⟩
 obtain ⟨B, hB9⟩ : ∃ B, e.B = B := ⟨_, rfl⟩
 rw [hn2] at hm HLM HV2 HE
 rw [hB9] at HY HE
 rw [hn2]
 clear hn2 hB9
 have HSW : Hid (s0 = w.heap.size) := Lib.hid HS0.out.symm
 go_loopg [6] n (fun kx s6 wr => ∃ k : Nat, s6 = .int .i64 k ∧ k ≤ n ∧ n - k ≤ kx ∧ Hid (allTo P k = true) ∧ Hid (EB wr (s0 + 1) e.nm e.cur e.A e.n e.c B n e.d e.jt) ∧ Hid (RolAt wr t g) ∧ Below s0 w wr)
 case atStart => exact ⟨0, rfl, by omega, by omega, Lib.hid rfl, HE, HT, hB⟩
 case round =>
  clear hB HE HT HSZ
  obtain ⟨k, rfl, hk, hkx, HA, HE, HT, hB⟩ := hrel
  obtain ⟨c0, c1, c2, c3, c4, lt⟩ := HE.out
  by_cases hlt : k < n
  ·have hltz : (k : Int) < (n : Int) := by omega
   obtain ⟨b, off, rfl, hbw, hcs⟩ := HY.out (by rw [HLM.out]; omega)
   have hb0 : b < s0 := by have := HS0.out; omega
   have hdl := hcs k (by rw [HLM.out]; exact hlt)
   have hp := HP.out k
   have hno : P k = false → r = false := fun h => by rw [HV2.out]; exact allTo_no hlt h
   obtain ⟨x, hx⟩ : ∃ x, e.K.getD k lnk0 = x := ⟨_, rfl⟩
   rw [hx] at hdl hp
   have HDL := Lib.hid hdl
   have HNo := Lib.hid hno
   have HPk : Hid (P k = allTo (fun j => !(decide (x.tgt = g.R.getD j 0) && !rlM j)) 15) := Lib.hid hp.symm
   clear hcs hx hp hno hbw hdl
   go_wp2_with fail
   clear c0 c1 c2 c3 c4 lt
   go_loopg [7] 15 (fun jx s7 W => ∃ j : Nat, s7 = .int .i64 j ∧ j ≤ 15 ∧ 15 - j ≤ jx ∧ Hid (allTo (fun j => !(decide (x.tgt = g.R.getD j 0) && !rlM j)) j = true) ∧ Hid (EB W (s0 + 1) e.nm e.cur e.A e.n e.c (some ⟨b, off, none⟩) n e.d e.jt) ∧ Hid (RolAt W t g) ∧ Below s0 w W)
   case atStart => exact ⟨0, rfl, by omega, by omega, Lib.hid rfl, HE, HT, hB⟩
   case round =>
    clear hB HE HT
    obtain ⟨j, rfl, hj, hjx, HJ, HE, HT, hB⟩ := hrel
    rename World => W
    by_cases hjl : j < 15
    ·have hjz : (j : Int) < 15 := by omega
     obtain ⟨c0, c1, c2, c3, c4, lt⟩ := HE.out
     obtain ⟨d0, d1, d2⟩ := HDL.out.up hB hb0
     obtain ⟨r0, r1, r2, r3, r4⟩ := HT.out.row hjl
     simp only [Nat.zero_add] at r0 r1 r2 r3 r4
     have hpj : allTo (fun j => !(decide (x.tgt = g.R.getD j 0) && !rlM j)) (j + 1) = !(decide (x.tgt = g.R.getD j 0) && !rlM j) := by
      show (allTo _ j && _) = _
      rw [HJ.out, Bool.true_and]
     have hpn : (!(decide (x.tgt = g.R.getD j 0) && !rlM j)) = false → P k = false := fun h => by rw [HPk.out]; exact allTo_no hjl h
     obtain ⟨y, hy⟩ : ∃ y, g.R.getD j 0 = y := ⟨_, rfl⟩
     obtain ⟨m9, hm9⟩ : ∃ m9, rlM j = m9 := ⟨_, rfl⟩
     rw [hy] at r1 hpj hpn
     rw [hm9] at r4 hpj hpn
     have HBK := Lib.hid hB
     have HPJ := Lib.hid hpj
     clear hy hm9 hpj
     by_cases h1 : x.tgt = y
     ·have e1 : (x.tgt == y) = true := by simp [h1]
      rw [decide_eq_true h1] at hpn
      have hpj2 := HPJ.out
      rw [decide_eq_true h1] at hpj2
      clear h1
      cases m9
      ·have HR := Lib.hid (HNo.out (hpn rfl))
       clear hpn hpj2
       go_wp2_with fail
       go_quiet (fail)
       have hB4 := below_drewN HBK.out nq
       generalize World.drewN _ nq = W8 at *
       go_wp2_with fail
       go_ret
       exact ⟨by rw [HR.out]; rfl, hB4⟩
      ·have HJ2 := Lib.hid (hpj2.trans rfl)
       clear hpn hpj2
       go_wp2_with fail
       go_quiet (fail)
       have hB4 := below_drewN HBK.out nq
       have HE4 := Lib.hid (HE.out.up (below_drewN (Below.refl _ _) nq))
       have HT4 := Lib.hid (HT.out.up (below_drewN (Below.refl _ _) nq))
       clear HE HT hB HBK c0 c1 c2 c3 c4 lt d0 d1 d2 r0 r1 r2 r3 r4
       generalize World.drewN _ nq = W8 at *
       go_wp2_with fail
       go_roundg (15 - (j + 1))
       case measure => omega
       case rel => exact ⟨j + 1, by go_num, by omega, by omega, HJ2, HE4, HT4, hB4⟩
     ·have e1 : (x.tgt == y) = false := by simp [h1]
      have hpj2 := HPJ.out
      rw [decide_eq_false h1] at hpj2
      have HJ2 := Lib.hid (hpj2.trans rfl)
      clear h1 hpn hpj2
      go_wp2_with fail
      go_quiet (fail)
      have hB4 := below_drewN HBK.out nq
      have HE4 := Lib.hid (HE.out.up (below_drewN (Below.refl _ _) nq))
      have HT4 := Lib.hid (HT.out.up (below_drewN (Below.refl _ _) nq))
      clear HE HT hB HBK c0 c1 c2 c3 c4 lt d0 d1 d2 r0 r1 r2 r3 r4
      generalize World.drewN _ nq = W8 at *
      go_wp2_with fail
      go_roundg (15 - (j + 1))
      case measure => omega
      case rel => exact ⟨j + 1, by go_num, by omega, by omega, HJ2, HE4, HT4, hB4⟩
    ·obtain rfl : j = 15 := by omega
     have HA2 : Hid (allTo P (k + 1) = true) := Lib.hid (by show (allTo P k && P k) = true; rw [HA.out, HPk.out, HJ.out]; rfl)
     go_wp2_with fail
     go_roundg (n - (k + 1))
     case measure => omega
     case rel => exact ⟨k + 1, by go_num, by omega, by omega, HA2, HE, HT, hB⟩
  ·obtain rfl : k = n := by omega
   have hltz : ¬ (k : Int) < (k : Int) := by omega
   have HR : Hid (r = true) := Lib.hid (by rw [HV2.out]; exact HA.out)
   go_wp2_with fail
   go_ret
   exact ⟨by rw [HR.out]; rfl, hB⟩
def rowR (L : List Acc) (R : List Int) (i : Nat) : Bool := chkR L R i && dsR R i
def bokR (g : Grp) (L : List Acc) : Bool := curB g.cur && (clV g.cy g.cm g.cp && (vB L true && (allTo (fun i => basB (L.getD i acc0)) L.length && allTo (rowR L g.R) 15)))
set_option maxRecDepth 20000 in
set_option maxHeartbeats 6400000 in
theorem rbooks_any (g : Grp) (L : List Acc) (w : World) (hz : AccAt w g.A L) (ln : L.length = g.n) (hl : g.n ≤ 1000) (hs1 : g.cur.size ≤ maxLen) :
  Calls Tryz.prog 24 #[grpV g] w fun e' w' => e' = .returned (.bool (bokR g L)) ∧ Below w.heap.size w w' := by
 have hB := below_alloc_new (w := w) (.cells #[.string g.cur, .int .i64 g.cy, .int .i64 g.cm, .int .i64 g.cp, .slice g.A g.n g.c, .int .i64 g.r0, .int .i64 g.r1, .int .i64 g.r2, .int .i64 g.r3, .int .i64 g.r4, .int .i64 g.r5, .int .i64 g.r6, .int .i64 g.r7, .int .i64 g.r8, .int .i64 g.r9, .int .i64 g.r10, .int .i64 g.r11, .int .i64 g.r12, .int .i64 g.r13, .int .i64 g.r14, .slice g.E g.m g.d] 29)
 have hG := gb_new w 29 g
 have h1 := fun w => rcur_any g.cur w hs1
 have h2 := fun w => rvalid7_any g.cy g.cm g.cp w
 have h3 : ∀ w, AccAt w g.A L → Calls Tryz.prog 47 #[.slice g.A g.n g.c, .bool true] w fun e' w' => e' = .returned (.bool (vB L true)) ∧ Below w.heap.size w w' := fun w h => by
  have h9 := rvalid8_any g.A g.c L true w h (by omega)
  rw [ln, ← vB_eq] at h9
  exact h9
 have h4 := fun w => rroles_any g w
 have h5 := fun x w h => racct_any g L x w h ln hl
 have hv : bokR g L = (curB g.cur && (clV g.cy g.cm g.cp && (vB L true && (allTo (fun i => basB (L.getD i acc0)) L.length && allTo (rowR L g.R) 15)))) := rfl
 rw [ln] at hv
 have hck : ∀ k, rowR L g.R k = (((fnd L (g.R.getD k 0)).isSome && (decide ((fndA L (g.R.getD k 0)).kind = rlK k) && decide ((fndA L (g.R.getD k 0)).basis = rlB k))) && allTo (fun j => !decide (g.R.getD j 0 = g.R.getD k 0)) k) := fun _ => rfl
 obtain ⟨U, hU⟩ : ∃ U : Value, rolV g = U := ⟨_, rfl⟩
 rw [hU] at h4
 obtain ⟨X, hX⟩ : ∃ X : Value, X = grpV g := ⟨_, rfl⟩
 rw [← hX] at h5
 generalize bokR g L = r at *
 generalize curB g.cur = q1 at *
 generalize clV g.cy g.cm g.cp = q2 at *
 generalize vB L true = q3 at *
 obtain ⟨P, hP⟩ : ∃ P : Nat → Bool, (fun i => basB (L.getD i acc0)) = P := ⟨_, rfl⟩
 have hpb : ∀ k, basB (L.getD k acc0) = P k := fun k => by rw [← hP]
 obtain ⟨T, hT⟩ : ∃ T : Nat → Bool, rowR L g.R = T := ⟨_, rfl⟩
 rw [hP, hT] at hv
 simp only [hT] at hck
 obtain ⟨s0, hs0⟩ : ∃ s0, w.heap.size = s0 := ⟨_, rfl⟩
 have hsz : s0 ≤ (w.alloc (.cells #[.string g.cur, .int .i64 g.cy, .int .i64 g.cm, .int .i64 g.cp, .slice g.A g.n g.c, .int .i64 g.r0, .int .i64 g.r1, .int .i64 g.r2, .int .i64 g.r3, .int .i64 g.r4, .int .i64 g.r5, .int .i64 g.r6, .int .i64 g.r7, .int .i64 g.r8, .int .i64 g.r9, .int .i64 g.r10, .int .i64 g.r11, .int .i64 g.r12, .int .i64 g.r13, .int .i64 g.r14, .slice g.E g.m g.d] 29)).heap.size := by simp; omega
 rw [hs0] at hB hG ⊢
 have HS0 := Lib.hid hs0
 have HG := Lib.hid hG
 have HU := Lib.hid hU
 have HX := Lib.hid hX
 have HCU := Lib.hid h1
 have HCL := Lib.hid h2
 have HCH := Lib.hid h3
 have HRO := Lib.hid h4
 have H5 := Lib.hid h5
 have HSZ := Lib.hid hsz
 have HZ := Lib.hid hz
 have HL := Lib.hid ln
 have HV := Lib.hid hv
 have HPB := Lib.hid hpb
 have HCK := Lib.hid hck
 have c0 := hG.c0
 have c1 := hG.c1
 have c2 := hG.c2
 have c3 := hG.c3
 have c4 := hG.c4
 clear hz ln hG h1 h2 h3 h4 h5 hv hck hU hX hsz hP hT hpb hs1
 cases q1
 ·have HR := Lib.hid (show r = false from HV.out)
  clear HV
  go_enter Tryz.func24, Tryz.ntmps24
  go_wp2_with (first | (go_at_call 45; refine (HCU.out _).mono ?_; rintro e1 w1 ⟨rfl, rfl⟩))
  go_ret
  exact ⟨by rw [HR.out]; rfl, hB⟩
 cases q2
 ·have HR := Lib.hid (show r = false from HV.out)
  clear HV
  go_enter Tryz.func24, Tryz.ntmps24
  go_wp2_with (first | (go_at_call 45; refine (HCU.out _).mono ?_; rintro e1 w1 ⟨rfl, rfl⟩) | (go_at_call 46; refine (HCL.out _).mono ?_; rintro e1 w1 ⟨rfl, hb⟩; have hB2 := hB.trans (hb.mono HSZ.out); have HSZ2 := Lib.hid (Nat.le_trans HSZ.out hb.size); have HG2 := Lib.hid (HG.out.up hb); clear hb hB HSZ HG c0 c1 c2 c3 c4; have hB := hB2; have HSZ := HSZ2; have HG := HG2; clear hB2 HSZ2 HG2; have c0 := HG.out.c0; have c1 := HG.out.c1; have c2 := HG.out.c2; have c3 := HG.out.c3; have c4 := HG.out.c4))
  go_ret
  exact ⟨by rw [HR.out]; rfl, hB⟩
 cases q3
 ·have HR := Lib.hid (show r = false from HV.out)
  clear HV
  go_enter Tryz.func24, Tryz.ntmps24
  go_wp2_with (first | (go_at_call 45; refine (HCU.out _).mono ?_; rintro e1 w1 ⟨rfl, rfl⟩) | (go_at_call 46; refine (HCL.out _).mono ?_; rintro e1 w1 ⟨rfl, hb⟩; have hB2 := hB.trans (hb.mono HSZ.out); have HSZ2 := Lib.hid (Nat.le_trans HSZ.out hb.size); have HG2 := Lib.hid (HG.out.up hb); clear hb hB HSZ HG c0 c1 c2 c3 c4; have hB := hB2; have HSZ := HSZ2; have HG := HG2; clear hB2 HSZ2 HG2; have c0 := HG.out.c0; have c1 := HG.out.c1; have c2 := HG.out.c2; have c3 := HG.out.c3; have c4 := HG.out.c4) | (go_at_call 47; (with_reducible refine (HCH.out _ (HZ.out.up (by rw [HS0.out]; exact hB))).mono ?_); rintro e1 w2 ⟨rfl, hb⟩; have hB2 := hB.trans (hb.mono HSZ.out); have HSZ2 := Lib.hid (Nat.le_trans HSZ.out hb.size); have HG2 := Lib.hid (HG.out.up hb); clear hb hB HSZ HG c0 c1 c2 c3 c4; have hB := hB2; have HSZ := HSZ2; have HG := HG2; clear hB2 HSZ2 HG2; have c0 := HG.out.c0; have c1 := HG.out.c1; have c2 := HG.out.c2; have c3 := HG.out.c3; have c4 := HG.out.c4))
  go_ret
  exact ⟨by rw [HR.out]; rfl, hB⟩
 have HV2 := Lib.hid (show r = (allTo P g.n && allTo T 15) from HV.out)
 clear HV
 go_enter Tryz.func24, Tryz.ntmps24
 go_wp2_with (first | (go_at_call 45; refine (HCU.out _).mono ?_; rintro e1 w1 ⟨rfl, rfl⟩) | (go_at_call 46; refine (HCL.out _).mono ?_; rintro e1 w1 ⟨rfl, hb⟩; have hB2 := hB.trans (hb.mono HSZ.out); have HSZ2 := Lib.hid (Nat.le_trans HSZ.out hb.size); have HG2 := Lib.hid (HG.out.up hb); clear hb hB HSZ HG c0 c1 c2 c3 c4; have hB := hB2; have HSZ := HSZ2; have HG := HG2; clear hB2 HSZ2 HG2; have c0 := HG.out.c0; have c1 := HG.out.c1; have c2 := HG.out.c2; have c3 := HG.out.c3; have c4 := HG.out.c4) | (go_at_call 47; (with_reducible refine (HCH.out _ (HZ.out.up (by rw [HS0.out]; exact hB))).mono ?_); rintro e1 w2 ⟨rfl, hb⟩; have hB2 := hB.trans (hb.mono HSZ.out); have HSZ2 := Lib.hid (Nat.le_trans HSZ.out hb.size); have HG2 := Lib.hid (HG.out.up hb); clear hb hB HSZ HG c0 c1 c2 c3 c4; have hB := hB2; have HSZ := HSZ2; have HG := HG2; clear hB2 HSZ2 HG2; have c0 := HG.out.c0; have c1 := HG.out.c1; have c2 := HG.out.c2; have c3 := HG.out.c3; have c4 := HG.out.c4))
 clear hs0 HCU HCL HCH c0 c1 c2 c3 c4
 obtain ⟨A, hA⟩ : ∃ A, g.A = A := ⟨_, rfl⟩
 rw [hA]
 have HAE := Lib.hid hA
 have HZA : Hid (AccAt w A L) := Lib.hid (by rw [← hA]; exact HZ.out)
 clear hA
 go_loopg [3] g.n (fun kx s3 wr => ∃ k : Nat, s3 = .int .i64 k ∧ k ≤ g.n ∧ g.n - k ≤ kx ∧ Hid (allTo P k = true) ∧ Hid (GB wr s0 g) ∧ Below s0 w wr)
 case atStart => exact ⟨0, rfl, by omega, by omega, Lib.hid rfl, HG, hB⟩
 case round =>
  clear hB HG HSZ
  obtain ⟨k, rfl, hk, hkx, HA, HG, hB⟩ := hrel
  have HSZ : Hid (s0 ≤ wr.heap.size) := Lib.hid (Nat.le_of_lt HG.out.lt)
  by_cases hlt : k < g.n
  ·have hltz : (k : Int) < (g.n : Int) := by omega
   obtain ⟨b, off, rfl, hbw, hcs⟩ := HZA.out (by rw [HL.out]; omega)
   have c4 := HG.out.c4
   rw [HAE.out] at c4
   obtain ⟨d0, d1, d2, d3⟩ := (hcs k (by rw [HL.out]; exact hlt)).up hB (by have := HS0.out; omega)
   have hp := HPB.out k
   have hno : P k = false → r = false := fun h => by rw [HV2.out, allTo_no hlt h]; rfl
   have hnx : P k = true → Hid (allTo P (k + 1) = true) := fun h => Lib.hid (by show (allTo P k && P k) = true; rw [HA.out, h]; rfl)
   obtain ⟨x, hx⟩ : ∃ x, L.getD k acc0 = x := ⟨_, rfl⟩
   rw [hx] at d0 d1 d2 d3 hp
   have hb := fun w => rbas_any x w
   rw [hp] at hb
   generalize P k = q at *
   have HBA := Lib.hid hb
   clear hcs hx hp hb HA hbw
   cases q
   ·have HR := Lib.hid (hno rfl)
    clear hno hnx
    go_wp2_with (go_at_call 48; refine (HBA.out _).mono ?_; rintro e1 w2 ⟨rfl, hb⟩; have hB2 := hB.trans (hb.mono HSZ.out); clear hb)
    go_ret
    exact ⟨by rw [HR.out]; rfl, hB2⟩
   ·have HA2 := hnx rfl
    clear hno hnx
    go_wp2_with (go_at_call 48; refine (HBA.out _).mono ?_; rintro e1 w2 ⟨rfl, hb⟩; have hB2 := hB.trans (hb.mono HSZ.out); have HG2 := Lib.hid (HG.out.up hb); clear hb)
    go_roundg (g.n - (k + 1))
    case measure => omega
    case rel => exact ⟨k + 1, by go_num, by omega, by omega, HA2, HG2, hB2⟩
  ·have hke : k = g.n := by omega
   have hltz : ¬ (k : Int) < (g.n : Int) := by omega
   have HV3 : Hid (r = allTo T 15) := Lib.hid (by rw [HV2.out, ← hke, HA.out]; rfl)
   have c4 := HG.out.c4
   rw [HAE.out] at c4
   have c0 := HG.out.c0
   have c1 := HG.out.c1
   have c2 := HG.out.c2
   have c3 := HG.out.c3
   clear hke HV2 HPB HL
   go_wp2_with (first | (refine wpList_load_is rfl 26 _ rfl (.pointer (some ⟨s0, 5, none⟩)) rfl U (gb_rU HG.out HU.out) ?_) | (go_at_call 49; refine (HRO.out _).mono ?_; rintro e1 w2 ⟨⟨t, rfl, ht⟩, hb⟩; have HT := Lib.hid ht; clear ht; have hB2 := hB.trans (hb.mono HSZ.out); have HSZ2 := Lib.hid (Nat.le_trans HSZ.out hb.size); have HG2 := Lib.hid (HG.out.up hb); clear hb hB HSZ HG c0 c1 c2 c3 c4; have hB := hB2; have HSZ := HSZ2; have HG := HG2; clear hB2 HSZ2 HG2; have c0 := HG.out.c0; have c1 := HG.out.c1; have c2 := HG.out.c2; have c3 := HG.out.c3; have c4 := HG.out.c4))
   clear c0 c1 c2 c3 c4 HRO HU HSZ HAE HZA HA
   go_loopg [5] 15 (fun kx s5 wr => ∃ k : Nat, s5 = .int .i64 k ∧ k ≤ 15 ∧ 15 - k ≤ kx ∧ Hid (allTo T k = true) ∧ Hid (GB wr s0 g) ∧ Hid (RolAt wr t g) ∧ Below s0 w wr)
   case atStart => exact ⟨0, rfl, by omega, by omega, Lib.hid rfl, HG, HT, hB⟩
   case round =>
    clear hB HG HT
    rename World => wr
    obtain ⟨k, rfl, hk, hkx, HA, HG, HT, hB⟩ := hrel
    by_cases hlt : k < 15
    ·have hltz : (k : Int) < 15 := by omega
     have hsz : s0 ≤ wr.heap.size := Nat.le_of_lt HG.out.lt
     have hrow := HT.out.row hlt
     have hck := HCK.out k
     have hno : T k = false → r = false := fun h => by rw [HV3.out]; exact allTo_no hlt h
     have hnx : T k = true → Hid (allTo T (k + 1) = true) := fun h => Lib.hid (by show (allTo T k && T k) = true; rw [HA.out, h]; rfl)
     obtain ⟨x, hx⟩ : ∃ x, g.R.getD k 0 = x := ⟨_, rfl⟩
     rw [hx] at hrow hck
     obtain ⟨y2, hy2⟩ : ∃ y, rlK k = y := ⟨_, rfl⟩
     obtain ⟨y3, hy3⟩ : ∃ y, rlB k = y := ⟨_, rfl⟩
     rw [hy2, hy3] at hck
     have RK2 := Lib.hid hy2
     have RK3 := Lib.hid hy3
     clear hy2 hy3
     have h5 := fun w h => H5.out x w h
     generalize (fnd L x).isSome = q1 at *
     generalize fndA L x = fa at *
     have HROW := Lib.hid hrow
     have H5x := Lib.hid h5
     have HNo := Lib.hid hno
     have HNx := Lib.hid hnx
     have HCKx := Lib.hid hck
     have HX1 := Lib.hid hx
     clear hrow h5 hno hnx hck hx HA
     have HZr : Hid (AccAt wr g.A L) := Lib.hid (HZ.out.up (by rw [HS0.out]; exact hB))
     have HC : Hid (∀ w', Below wr.heap.size wr w' → w'.cell? ⟨t, k * 5 + 1, none⟩ = some (.int .i64 x)) := Lib.hid fun w' h => by
      have h1 := HROW.out.2.1
      rw [Nat.zero_add] at h1
      exact (h.cell (p := ⟨t, k * 5 + 1, none⟩) HT.out.1).trans h1
     go_upto_region 12 with fail
     go_cut [6, 7] from 42 to 95 (fun v6 v7 wx => ∃ g6, v6 = .pointer (some ⟨g6, 0, none⟩) ∧ v7 = .bool q1 ∧ Hid (AB wx g6 fa) ∧ Hid (GB wx s0 g) ∧ Hid (RolAt wx t g) ∧ Below s0 w wx)
     case first =>
      refine wp_region_held_drew (S := fun w9 => Below wr.heap.size wr w9) (by kernel_rfl) (dc_drew (Below.refl _ _)) (fun hH => ?_)
      refine wpAnyH_take (i := 0) (v := X) rfl (by kernel_rfl) (by kernel_rfl) (by kernel_rfl) (fun _ _ _ h => h) (yieldsIf_load_is rfl 29 _ rfl (.pointer (some ⟨s0, 0, none⟩)) rfl X (fun w9 h9 => gb_lV (HG.out.up h9) HX.out)) hH ?_
      try simp only [Act.put, List.setIfInBounds_toArray]
      refine wpAnyH_take (i := 1) (v := .slice (some ⟨t, 0, none⟩) 15 15) rfl (by kernel_rfl) (by kernel_rfl) (by kernel_rfl) (fun _ _ _ h => h) (Or.inl ⟨by rfl, fun w9 h9 => by go_simp⟩) hH ?_
      try simp only [Act.put]
      refine wpAnyH_take (i := 2) (v := .int .i64 (k : Int)) rfl (by kernel_rfl) (by kernel_rfl) (by kernel_rfl) (fun _ _ _ h => h) (Or.inl ⟨by rfl, fun w9 h9 => by go_simp⟩) hH ?_
      try simp only [Act.put]
      refine wpAnyH_take (i := 3) (v := .pointer (some ⟨t, k * 5, none⟩)) rfl (by kernel_rfl) (by kernel_rfl) (by kernel_rfl) (fun _ _ _ h => h) (Or.inl ⟨by rfl, fun w9 h9 => by go_simp⟩) hH ?_
      try simp only [Act.put]
      refine wpAnyH_take (i := 4) (v := .pointer (some ⟨t, k * 5 + 1, none⟩)) rfl (by kernel_rfl) (by kernel_rfl) (by kernel_rfl) (fun _ _ _ h => h) (Or.inl ⟨by rfl, fun w9 h9 => by go_simp⟩) hH ?_
      try simp only [Act.put]
      refine wpAnyH_take (i := 5) (v := .int .i64 x) rfl (by kernel_rfl) (by kernel_rfl) (by kernel_rfl) (fun _ _ _ h => h) (Or.inl ⟨by rfl, fun w9 h9 => by have hc9 := HC.out w9 h9; go_simp⟩) hH ?_
      try simp only [Act.put]
      refine wpAnyH_ready (rs := [6, 10]) (by kernel_rfl) (by simp) ?_
      refine AllReadyH.cons rfl (fun K hK => ?_) (AllReadyH.cons rfl (fun K hK => ?_) AllReadyH.nil)
      ·go_simp
       go_wp2_with (go_at_call 42; refine (H5x.out _ (HZr.out.up hH)).mono ?_; rintro e1 w3 ⟨rfl, hb⟩; have hB3 : Below wr.heap.size wr w3 := below_more hH hb; clear hb)
       refine hK.out _ _ hB3 (fun hH2 => ?_)
       clear hK K
       try simp only [Act.put, List.setIfInBounds_toArray, List.set_cons_zero, List.set_cons_succ]
       refine wpAnyH_take (i := 7) (v := .tuple #[accV fa, .bool q1]) rfl (by kernel_rfl) (by kernel_rfl) (by kernel_rfl) (fun _ _ _ h => h) (Or.inl ⟨by rfl, fun w9 h9 => by go_simp⟩) hH2 ?_
       try simp only [Act.put, List.setIfInBounds_toArray]
       refine wpAnyH_take (i := 8) (v := accV fa) rfl (by kernel_rfl) (by kernel_rfl) (by kernel_rfl) (fun _ _ _ h => h) (Or.inl ⟨by rfl, fun w9 h9 => by go_simp⟩) hH2 ?_
       try simp only [Act.put]
       refine wpAnyH_take (i := 9) (v := .bool q1) rfl (by kernel_rfl) (by kernel_rfl) (by kernel_rfl) (fun _ _ _ h => h) (Or.inl ⟨by rfl, fun w9 h9 => by go_simp⟩) hH2 ?_
       try simp only [Act.put]
       refine wpAnyH_ready (rs := [10]) (by kernel_rfl) (by simp) ?_
       refine AllReadyH.cons rfl (fun K hK => ?_) AllReadyH.nil
       go_simp
       refine hK.out _ _ (below_new hB3 _) (fun hH3 => ?_)
       clear hK K
       try simp only [Act.put, List.setIfInBounds_toArray, List.set_cons_zero, List.set_cons_succ]
       refine wpAnyH_ready (rs := [11]) (by kernel_rfl) (by simp) ?_
       refine AllReadyH.cons rfl (fun K hK => ?_) AllReadyH.nil
       go_simp
       refine hK.out _ _ (below_new hB3 _) (fun hH4 => ?_)
       clear hK K
       try simp only [Act.put, List.setIfInBounds_toArray, List.set_cons_zero, List.set_cons_succ]
       refine wpAnyH_ready (rs := [12]) (by kernel_rfl) (by simp) ?_
       refine AllReadyH.cons rfl (fun K hK => ?_) AllReadyH.nil
       go_simp
       refine hK.out _ _ hH4 (fun hH5 => ?_)
       clear hK K
       try simp only [Act.put, List.setIfInBounds_toArray, List.set_cons_zero, List.set_cons_succ]
       refine wpAnyH_done (by kernel_rfl) ?_ _
       go_wp2_with fail
       go_meet
       exact ⟨_, rfl, rfl, Lib.hid (ab_new w3 69 fa), Lib.hid (HG.out.up (below_new hB3 _)), Lib.hid (HT.out.up (below_new hB3 _)), hB.trans ((below_new hB3 _).mono hsz)⟩
      ·go_simp
       refine hK.out _ _ (below_new (dc_drew (Below.refl _ _)) _) (fun hH1 => ?_)
       clear hK K
       try simp only [Act.put, List.setIfInBounds_toArray, List.set_cons_zero, List.set_cons_succ]
       refine wpAnyH_ready (rs := [6]) (by kernel_rfl) (by simp) ?_
       refine AllReadyH.cons rfl (fun K hK => ?_) AllReadyH.nil
       go_simp
       go_wp2_with (go_at_call 42; refine (H5x.out _ (HZr.out.up hH1)).mono ?_; rintro e1 w3 ⟨rfl, hb⟩; have hB3 : Below wr.heap.size wr w3 := below_more hH1 hb; have HA0 : Hid (AB w3 wr.heap.size acc0) := Lib.hid ((ab_new wr.drew 69 acc0).up hb); clear hb)
       refine hK.out _ _ hB3 (fun hH2 => ?_)
       clear hK K
       try simp only [Act.put, List.setIfInBounds_toArray, List.set_cons_zero, List.set_cons_succ]
       refine wpAnyH_take (i := 7) (v := .tuple #[accV fa, .bool q1]) rfl (by kernel_rfl) (by kernel_rfl) (by kernel_rfl) (fun _ _ _ h => h) (Or.inl ⟨by rfl, fun w9 h9 => by go_simp⟩) hH2 ?_
       try simp only [Act.put, List.setIfInBounds_toArray]
       refine wpAnyH_take (i := 8) (v := accV fa) rfl (by kernel_rfl) (by kernel_rfl) (by kernel_rfl) (fun _ _ _ h => h) (Or.inl ⟨by rfl, fun w9 h9 => by go_simp⟩) hH2 ?_
       try simp only [Act.put]
       refine wpAnyH_take (i := 9) (v := .bool q1) rfl (by kernel_rfl) (by kernel_rfl) (by kernel_rfl) (fun _ _ _ h => h) (Or.inl ⟨by rfl, fun w9 h9 => by go_simp⟩) hH2 ?_
       try simp only [Act.put]
       obtain ⟨⟨z0, z1, z2, z3⟩, zlt, zf⟩ := HA0.out
       have zf0 := zf 0
       have zf1 := zf 1
       have zf2 := zf 2
       have zf3 := zf 3
       simp only [Nat.zero_add] at z1 z2 z3
       clear zf
       refine wpAnyH_ready (rs := [11]) (by kernel_rfl) (by simp) ?_
       refine AllReadyH.cons rfl (fun K hK => ?_) AllReadyH.nil
       go_simp
       refine hK.out _ _ (bset4 hB3 (Nat.le_refl _) _ _ _ _) (fun hH4 => ?_)
       clear hK K
       try simp only [Act.put, List.setIfInBounds_toArray, List.set_cons_zero, List.set_cons_succ]
       refine wpAnyH_ready (rs := [12]) (by kernel_rfl) (by simp) ?_
       refine AllReadyH.cons rfl (fun K hK => ?_) AllReadyH.nil
       go_simp
       refine hK.out _ _ hH4 (fun hH5 => ?_)
       clear hK K
       try simp only [Act.put, List.setIfInBounds_toArray, List.set_cons_zero, List.set_cons_succ]
       refine wpAnyH_done (by kernel_rfl) ?_ _
       go_wp2_with fail
       go_meet
       have hB5 := bset4 hB3 (Nat.le_refl _) (.int .i64 fa.code) (.int .i64 fa.kind) (.int .i64 fa.basis) (.int .i64 fa.par)
       exact ⟨_, rfl, rfl, Lib.hid (ab_set4 HA0.out fa), Lib.hid (HG.out.up hB5), Lib.hid (HT.out.up hB5), hB.trans (hB5.mono hsz)⟩
     case rest =>
     clear HG HT hB HC HZr H5x
     rename World => wc
     obtain ⟨g6, rfl, rfl, HA6, HG, HT, hB⟩ := hcut
     obtain ⟨⟨z0, z1, z2, z3⟩, zlt, -⟩ := HA6.out
     simp only [Nat.zero_add] at z1 z2 z3
     obtain ⟨r0, r1, r2, r3, r4⟩ := HT.out.row hlt
     simp only [Nat.zero_add] at r0 r1 r2 r3 r4
     have e2 : (fa.kind != y2) = !decide (fa.kind = y2) := by by_cases h : fa.kind = y2 <;> simp [h]
     have e3 : (fa.basis != y3) = !decide (fa.basis = y3) := by by_cases h : fa.basis = y3 <;> simp [h]
     rw [RK2.out] at r2
     rw [RK3.out] at r3
     have hck9 := HCKx.out
     clear HCKx
     generalize decide (fa.kind = y2) = q2 at *
     generalize decide (fa.basis = y3) = q3 at *
     have HCKy := Lib.hid hck9
     have HBK := Lib.hid hB
     clear hck9
     rcases (show q1 = false ∨ (q1 = true ∧ q2 = false) ∨ (q1 = true ∧ q2 = true ∧ q3 = false) ∨ (q1 = true ∧ q2 = true ∧ q3 = true) from by cases q1 <;> cases q2 <;> cases q3 <;> simp) with rfl | ⟨rfl, rfl⟩ | ⟨rfl, rfl, rfl⟩ | ⟨rfl, rfl, rfl⟩
     ·have HR := Lib.hid (HNo.out (by rw [HCKy.out]; rfl))
      go_wp2_with fail
      go_quiet (fail)
      have hB4 := below_drewN HBK.out nq
      generalize World.drewN _ nq = W8 at *
      go_wp2_with fail
      go_ret
      exact ⟨by rw [HR.out]; rfl, hB4⟩
     ·have HR := Lib.hid (HNo.out (by rw [HCKy.out]; rfl))
      go_wp2_with fail
      go_quiet (fail)
      have hB4 := below_drewN HBK.out nq
      generalize World.drewN _ nq = W8 at *
      go_wp2_with fail
      go_ret
      exact ⟨by rw [HR.out]; rfl, hB4⟩
     ·have HR := Lib.hid (HNo.out (by rw [HCKy.out]; rfl))
      go_wp2_with fail
      go_quiet (fail)
      have hB4 := below_drewN HBK.out nq
      generalize World.drewN _ nq = W8 at *
      go_wp2_with fail
      go_ret
      exact ⟨by rw [HR.out]; rfl, hB4⟩
     have HCKz : Hid (T k = allTo (fun j => !decide (g.R.getD j 0 = x)) k) := Lib.hid (by rw [HCKy.out]; rfl)
     go_wp2_with fail
     go_quiet (fail)
     have hB4 := below_drewN HBK.out nq
     have HG4 := Lib.hid (HG.out.up (below_drewN (Below.refl _ _) nq))
     have HT4 := Lib.hid (HT.out.up (below_drewN (Below.refl _ _) nq))
     clear HG HT hB HBK HA6 z0 z1 z2 z3 zlt r0 r1 r2 r3 r4 HCKy
     generalize World.drewN _ nq = W8 at *
     go_wp2_with fail
     go_loopg [8] k (fun jx s8 W => ∃ j : Nat, s8 = .int .i64 j ∧ j ≤ k ∧ k - j ≤ jx ∧ Hid (allTo (fun j => !decide (g.R.getD j 0 = x)) j = true) ∧ Hid (GB W s0 g) ∧ Hid (RolAt W t g) ∧ Below s0 w W)
     case atStart => exact ⟨0, rfl, by omega, by omega, Lib.hid rfl, HG4, HT4, hB4⟩
     case round =>
      clear hB4 HG4 HT4
      rename World => W
      obtain ⟨j, rfl, hj, hjx, HJ, HG, HT, hB⟩ := hrel
      by_cases hjl : j < k
      ·have hjz : (j : Int) < (k : Int) := by omega
       have hj15 : j < 15 := by omega
       have hj15z : (j : Int) < 15 := by omega
       obtain ⟨-, r1, -, -, -⟩ := HT.out.row hlt
       obtain ⟨-, p1, -, -, -⟩ := HT.out.row hj15
       simp only [Nat.zero_add] at r1 p1
       rw [HX1.out] at r1
       have hpj : allTo (fun j => !decide (g.R.getD j 0 = x)) (j + 1) = !decide (g.R.getD j 0 = x) := by
        show (allTo _ j && _) = _
        rw [HJ.out, Bool.true_and]
       have hpn : (!decide (g.R.getD j 0 = x)) = false → T k = false := fun h => by rw [HCKz.out]; exact allTo_no hjl h
       generalize g.R.getD j 0 = y at *
       have HBK := Lib.hid hB
       by_cases h1 : y = x
       ·have e1 : (y == x) = true := by simp [h1]
        have HR := Lib.hid (HNo.out (hpn (by rw [decide_eq_true h1]; rfl)))
        clear h1 hpn hpj
        go_wp2_with fail
        go_quiet (fail)
        have hB4 := below_drewN HBK.out nq
        generalize World.drewN _ nq = W8 at *
        go_wp2_with fail
        go_ret
        exact ⟨by rw [HR.out]; rfl, hB4⟩
       ·have e1 : (y == x) = false := by simp [h1]
        rw [decide_eq_false h1] at hpj
        have HJ2 := Lib.hid (hpj.trans rfl)
        clear h1 hpn hpj
        go_wp2_with fail
        go_quiet (fail)
        have hB4 := below_drewN HBK.out nq
        have HG4 := Lib.hid (HG.out.up (below_drewN (Below.refl _ _) nq))
        have HT4 := Lib.hid (HT.out.up (below_drewN (Below.refl _ _) nq))
        clear HG HT hB HBK r1 p1
        generalize World.drewN _ nq = W8 at *
        go_wp2_with fail
        go_roundg (k - (j + 1))
        case measure => omega
        case rel => exact ⟨j + 1, by go_num, by omega, by omega, HJ2, HG4, HT4, hB4⟩
      ·obtain rfl : j = k := by omega
       have hjz : ¬ (j : Int) < (j : Int) := by omega
       have HA2 := HNx.out (by rw [HCKz.out]; exact HJ.out)
       go_wp2_with fail
       go_roundg (15 - (j + 1))
       case measure => omega
       case rel => exact ⟨j + 1, by go_num, by omega, by omega, HA2, HG, HT, hB⟩
    ·obtain rfl : k = 15 := by omega
     have HR := Lib.hid (HV3.out.trans HA.out)
     go_wp2_with fail
     go_ret
     exact ⟨by rw [HR.out]; rfl, hB⟩
def fnE (G : List Ent) (nm : ByteArray) : Int := if fix G nm < G.length then fix G nm else 0
def fnQ (G : List Ent) (nm : ByteArray) : Bool := decide (fix G nm < G.length)
theorem fn_at {G : List Ent} {nm : ByteArray} {k : Nat} (hk : k < G.length) (h0 : ∀ j, j < k → (G.getD j ent0).nm ≠ nm) (h : (G.getD k ent0).nm = nm) : fnE G nm = k ∧ fnQ G nm = true := by
 have := fix_at hk h0 h
 unfold fnE fnQ
 rw [this]
 exact ⟨if_pos hk, decide_eq_true hk⟩
theorem fn_no {G : List Ent} {nm : ByteArray} (h0 : ∀ j, j < G.length → (G.getD j ent0).nm ≠ nm) : fnE G nm = 0 ∧ fnQ G nm = false := by
 have := fix_no h0
 unfold fnE fnQ
 rw [this]
 exact ⟨if_neg (by omega), decide_eq_false (by omega)⟩
set_option maxRecDepth 20000 in
set_option maxHeartbeats 1600000 in
theorem rfind10_any (g : Grp) (G : List Ent) (nm : ByteArray) (w : World) (he : EntsAt w g.E G) (lg : G.length = g.m) (hm : g.m ≤ 1000) :
  Calls Tryz.prog 25 #[grpV g, .string nm] w fun e w' => e = .returned (.tuple #[.int .i64 (fnE G nm), .bool (fnQ G nm)]) ∧ Below w.heap.size w w' := by
 have hB := below_alloc_new (w := w) (.cells #[.string g.cur, .int .i64 g.cy, .int .i64 g.cm, .int .i64 g.cp, .slice g.A g.n g.c, .int .i64 g.r0, .int .i64 g.r1, .int .i64 g.r2, .int .i64 g.r3, .int .i64 g.r4, .int .i64 g.r5, .int .i64 g.r6, .int .i64 g.r7, .int .i64 g.r8, .int .i64 g.r9, .int .i64 g.r10, .int .i64 g.r11, .int .i64 g.r12, .int .i64 g.r13, .int .i64 g.r14, .slice g.E g.m g.d] 29)
 have c20 := (gb_new w 29 g).c20
 have hlt20 : w.heap.size < (w.alloc (.cells #[.string g.cur, .int .i64 g.cy, .int .i64 g.cm, .int .i64 g.cp, .slice g.A g.n g.c, .int .i64 g.r0, .int .i64 g.r1, .int .i64 g.r2, .int .i64 g.r3, .int .i64 g.r4, .int .i64 g.r5, .int .i64 g.r6, .int .i64 g.r7, .int .i64 g.r8, .int .i64 g.r9, .int .i64 g.r10, .int .i64 g.r11, .int .i64 g.r12, .int .i64 g.r13, .int .i64 g.r14, .slice g.E g.m g.d] 29)).heap.size := by simp
 have hat := fun k => fn_at (G := G) (nm := nm) (k := k)
 have hno := fn_no (G := G) (nm := nm)
 obtain ⟨s0, hs0⟩ : ∃ s0, w.heap.size = s0 := ⟨_, rfl⟩
 generalize fnE G nm = z at *
 generalize fnQ G nm = q at *
 rw [hs0] at hB c20 hlt20 ⊢
 obtain ⟨E, hE⟩ : ∃ E, g.E = E := ⟨_, rfl⟩
 obtain ⟨m, hm2⟩ : ∃ m, g.m = m := ⟨_, rfl⟩
 rw [hE, hm2] at c20 hB hlt20
 rw [hE] at he
 rw [hm2] at lg hm
 have HM := Lib.hid lg
 have HZ := Lib.hid he
 have HAt := Lib.hid hat
 have HNo := Lib.hid hno
 have HS0 := Lib.hid hs0
 clear he lg hat hno
 go_enter Tryz.func25, Tryz.ntmps25
 go_wp2_with fail
 clear hs0 hE hm2
 go_loopg [6] m (fun kx s6 wr => ∃ k : Nat, s6 = .int .i64 k ∧ k ≤ m ∧ m - k ≤ kx ∧ Hid (∀ j, j < k → (G.getD j ent0).nm ≠ nm) ∧ Hid (wr.cell? ⟨s0, 20, none⟩ = some (.slice E m g.d)) ∧ Hid (s0 < wr.heap.size) ∧ Below s0 w wr)
 case atStart => exact ⟨0, rfl, by omega, by omega, Lib.hid (fun j h => absurd h (by omega)), Lib.hid c20, Lib.hid hlt20, hB⟩
 case round =>
  clear hB c20 hlt20
  obtain ⟨k, rfl, hk, hkx, HN, HC, HL, hB⟩ := hrel
  have c20 := HC.out
  by_cases hlt : k < m
  ·have hltz : (k : Int) < (m : Int) := by omega
   obtain ⟨b, off, rfl, hbw, hcs⟩ := ent_at HZ.out (k := k) (by rw [HM.out]; omega)
   obtain ⟨c0, c1, c2, c3, c4⟩ := hcs.up hB (by have := HS0.out; omega)
   have ha := HAt.out k (by rw [HM.out]; exact hlt) HN.out
   have hnx : (G.getD k ent0).nm ≠ nm → Hid (∀ j, j < k + 1 → (G.getD j ent0).nm ≠ nm) := fun h => Lib.hid fun j hj => by
    rcases Nat.lt_or_ge j k with h1 | h1
    ·exact HN.out j h1
    ·obtain rfl : j = k := by omega
     exact h
   obtain ⟨x, hx⟩ : ∃ x, G.getD k ent0 = x := ⟨_, rfl⟩
   rw [hx] at c0 c1 c2 c3 c4 ha hnx
   clear hcs hx HN
   by_cases hq : x.nm = nm
   ·have e3 : (x.nm.toList == nm.toList) = true := by rw [hq]; exact beq_self_eq_true _
    have HR := Lib.hid (ha hq)
    clear ha hnx hq
    go_wp2_with fail
    go_ret2
    exact ⟨by rw [HR.out.1, HR.out.2]; rfl, hB⟩
   ·have e3 : (x.nm.toList == nm.toList) = false := beq_eq_false_iff_ne.2 fun h => hq (bl_inj h)
    have HN2 := hnx hq
    clear ha hnx hq
    go_wp2_with fail
    go_roundg (m - (k + 1))
    case measure => omega
    case rel => exact ⟨k + 1, by go_num, by omega, by omega, HN2, HC, HL, hB⟩
  ·obtain rfl : k = m := by omega
   have hltz : ¬ (k : Int) < (k : Int) := by omega
   have HR := Lib.hid (HNo.out (by rw [HM.out]; exact HN.out))
   go_wp2_with fail
   go_ret2
   exact ⟨by rw [HR.out.1, HR.out.2]; rfl, hB⟩
def rowX (L : List Acc) (R : List Int) (G : List Ent) (i : Nat) : Bool := dsN G i && enrB L R (G.getD i ent0)
def ensR (L : List Acc) (R : List Int) (G : List Ent) : Bool := decide (1 ≤ G.length) && (decide (G.length ≤ 12) && (!(G.getD 0 ent0).jt && allTo (rowX L R G) G.length))
def grpR (g : Grp) (L : List Acc) (G : List Ent) : Bool := bokR g L && ensR L g.R G
theorem fn_row {G : List Ent} {k : Nat} (hk : k < G.length) : (dsN G k = true → fnE G (G.getD k ent0).nm = k) ∧ (dsN G k = false → fnE G (G.getD k ent0).nm ≠ k) := by
 have hle : fix G (G.getD k ent0).nm ≤ k := by
  obtain ⟨nm, hnm⟩ : ∃ nm, (G.getD k ent0).nm = nm := ⟨_, rfl⟩
  rw [hnm]
  rw [List.getD_eq_getElem?_getD, List.getElem?_eq_getElem hk] at hnm
  rcases Nat.lt_or_ge k (fix G nm) with h | h
  ·have h3 := List.not_of_lt_findIdx (show k < G.findIdx fun e => decide (e.nm = nm) from h)
   simp only [Option.getD_some] at hnm
   simp [hnm] at h3
  ·exact h
 have h1 := fix_ds hk
 have e : fnE G (G.getD k ent0).nm = (fix G (G.getD k ent0).nm : Nat) := by
  unfold fnE
  rw [if_pos (by omega)]
 rw [e]
 refine ⟨fun h => by rw [h1.2 h], fun h h2 => ?_⟩
 rw [h1.1 (by omega)] at h; cases h
def rv10Fa (X : Value) (g : Grp) (b off k s0 : Nat) (x : Ent) (z : Int) (q : Bool) : List (Nat × AS.Fact) := [(36, AS.Fact.is (X)), (37, AS.Fact.is (.pointer (some ⟨s0, 20, none⟩))), (38, AS.Fact.is (.slice (some ⟨b, off, none⟩) g.m g.d)), (39, AS.Fact.is (.int .i64 (k : Int))), (40, AS.Fact.is (.pointer (some ⟨b, off + k * 5, none⟩))), (41, AS.Fact.is (.pointer (some ⟨b, off + k * 5, none⟩))), (42, AS.Fact.is (.string x.nm)), (43, AS.Fact.is (.tuple #[.int .i64 z, .bool q])), (35, AS.Fact.is (.tuple #[.int .i64 z, .bool q])), (44, AS.Fact.is (.int .i64 z)), (45, AS.Fact.is (.bool q)), (4, AS.Fact.is (.int .i64 z)), (5, AS.Fact.is (.bool q))]
def rv10Fb (k : Nat) (z : Int) : List (Nat × AS.Fact) := [(46, AS.Fact.is (.int .i64 z)), (47, AS.Fact.is (.int .i64 (k : Int))), (48, AS.Fact.is (.bool true)), (49, AS.Fact.is (.bool true)), (50, AS.Fact.is (undef)), (51, AS.Fact.is (undef)), (52, AS.Fact.is (undef)), (53, AS.Fact.is (undef)), (54, AS.Fact.is (undef)), (55, AS.Fact.is (undef)), (56, AS.Fact.is (undef)), (57, AS.Fact.is (undef)), (58, AS.Fact.is (.bool true))]
def rv10Fc (X : Value) (g : Grp) (b off k s0 : Nat) (x : Ent) (z : Int) (q2 : Bool) : List (Nat × AS.Fact) := [(46, AS.Fact.is (.int .i64 z)), (47, AS.Fact.is (.int .i64 (k : Int))), (48, AS.Fact.is (.bool false)), (49, AS.Fact.is (.bool false)), (50, AS.Fact.is (X)), (51, AS.Fact.is (.pointer (some ⟨s0, 20, none⟩))), (52, AS.Fact.is (.slice (some ⟨b, off, none⟩) g.m g.d)), (53, AS.Fact.is (.int .i64 (k : Int))), (54, AS.Fact.is (.pointer (some ⟨b, off + k * 5, none⟩))), (55, AS.Fact.is (eV x)), (56, AS.Fact.is (.bool q2)), (57, AS.Fact.is (.bool (!q2))), (58, AS.Fact.is (.bool (!q2)))]
set_option maxRecDepth 20000 in
set_option maxHeartbeats 6400000 in
theorem rvalid10_any (g : Grp) (L : List Acc) (G : List Ent) (w : World) (hk : GrK w g L G) (hs : Sm g G) (hw : GrW g L G) :
  Calls Tryz.prog 11 #[grpV g] w fun e' w' => e' = .returned (.bool (grpR g L G)) ∧ Below w.heap.size w w' := by
 have hv : grpR g L G = (bokR g L && (decide (1 ≤ G.length) && (decide (G.length ≤ 12) && (!(G.getD 0 ent0).jt && allTo (rowX L g.R G) G.length)))) := rfl
 rw [hk.lg] at hv
 have hrow : ∀ k, rowX L g.R G k = (dsN G k && enrB L g.R (G.getD k ent0)) := fun _ => rfl
 have h1 : ∀ k, k < g.m → ∀ w, AccAt w g.A L → EntsK w G → Calls Tryz.prog 26 #[grpV g, eV (G.getD k ent0)] w fun e' w' => e' = .returned (.bool (enrB L g.R (G.getD k ent0))) ∧ Below w.heap.size w w' := fun k hk2 w hz he => by
  have hm := getD_mem_acc (d := ent0) (L := G) (i := k) (by rw [hk.lg]; exact hk2)
  have := hs.e _ hm
  have := hs.n
  have := hw.txt _ hm
  exact rent_any g L _ w hz hk.ln (by omega) (he _ hm) (by omega) (by omega) this.1 this.2
 have h2 := fun nm w h => rfind10_any g G nm w h hk.lg (by have := hs.m; omega)
 have h3 := fun w h => rbooks_any g L w h hk.ln (by have := hs.n; omega) hw.cur
 have hfn : ∀ k, k < g.m → (dsN G k = true → fnE G (G.getD k ent0).nm = k) ∧ (dsN G k = false → fnE G (G.getD k ent0).nm ≠ k) := fun k hk2 => fn_row (by rw [hk.lg]; exact hk2)
 have hat := fun k (hk2 : k < g.m) => ent_at hk.he (k := k) (by rw [hk.lg]; exact hk2)
 obtain ⟨X, hX⟩ : ∃ X : Value, X = grpV g := ⟨_, rfl⟩
 rw [← hX] at h1 h2 h3
 generalize grpR g L G = r at *
 generalize bokR g L = qb at *
 obtain ⟨P, hP⟩ : ∃ P : Nat → Bool, rowX L g.R G = P := ⟨_, rfl⟩
 rw [hP] at hv
 simp only [hP] at hrow
 obtain ⟨s0, hs0⟩ : ∃ s0, w.heap.size = s0 := ⟨_, rfl⟩
 have hm14 := hs.m
 have HS0 := Lib.hid hs0
 have HX := Lib.hid hX
 have HV := Lib.hid hv
 have HRow := Lib.hid hrow
 have H1 := Lib.hid h1
 have H2 := Lib.hid h2
 have HBO := Lib.hid h3
 have HFN := Lib.hid hfn
 have HAt := Lib.hid hat
 have HZ := Lib.hid hk.hz
 have HEK := Lib.hid hk.hk
 have HEA := Lib.hid hk.he
 clear hk hs hw hv hrow h1 h2 h3 hfn hat hX hP
 by_cases hqm : qb = false ∨ g.m = 0
 ·have hB := below_alloc_new (w := w) (.cells #[.string g.cur, .int .i64 g.cy, .int .i64 g.cm, .int .i64 g.cp, .slice g.A g.n g.c, .int .i64 g.r0, .int .i64 g.r1, .int .i64 g.r2, .int .i64 g.r3, .int .i64 g.r4, .int .i64 g.r5, .int .i64 g.r6, .int .i64 g.r7, .int .i64 g.r8, .int .i64 g.r9, .int .i64 g.r10, .int .i64 g.r11, .int .i64 g.r12, .int .i64 g.r13, .int .i64 g.r14, .slice g.E g.m g.d] 29)
  have hG := gb_new w 29 g
  have HB := Lib.hid hB
  have hsz : s0 ≤ (w.alloc (.cells #[.string g.cur, .int .i64 g.cy, .int .i64 g.cm, .int .i64 g.cp, .slice g.A g.n g.c, .int .i64 g.r0, .int .i64 g.r1, .int .i64 g.r2, .int .i64 g.r3, .int .i64 g.r4, .int .i64 g.r5, .int .i64 g.r6, .int .i64 g.r7, .int .i64 g.r8, .int .i64 g.r9, .int .i64 g.r10, .int .i64 g.r11, .int .i64 g.r12, .int .i64 g.r13, .int .i64 g.r14, .slice g.E g.m g.d] 29)).heap.size := by simp; omega
  rw [hs0] at hB hG ⊢
  have HG := Lib.hid hG
  have HSZ := Lib.hid hsz
  have c20 := hG.c20
  have c20' := fun w' (h : Below (w.alloc (.cells #[.string g.cur, .int .i64 g.cy, .int .i64 g.cm, .int .i64 g.cp, .slice g.A g.n g.c, .int .i64 g.r0, .int .i64 g.r1, .int .i64 g.r2, .int .i64 g.r3, .int .i64 g.r4, .int .i64 g.r5, .int .i64 g.r6, .int .i64 g.r7, .int .i64 g.r8, .int .i64 g.r9, .int .i64 g.r10, .int .i64 g.r11, .int .i64 g.r12, .int .i64 g.r13, .int .i64 g.r14, .slice g.E g.m g.d] 29)).heap.size (w.alloc (.cells #[.string g.cur, .int .i64 g.cy, .int .i64 g.cm, .int .i64 g.cp, .slice g.A g.n g.c, .int .i64 g.r0, .int .i64 g.r1, .int .i64 g.r2, .int .i64 g.r3, .int .i64 g.r4, .int .i64 g.r5, .int .i64 g.r6, .int .i64 g.r7, .int .i64 g.r8, .int .i64 g.r9, .int .i64 g.r10, .int .i64 g.r11, .int .i64 g.r12, .int .i64 g.r13, .int .i64 g.r14, .slice g.E g.m g.d] 29)) w') => (hG.up h).c20
  have HC := Lib.hid c20'
  clear hG c20' hsz
  rcases hqm with rfl | hm0
  ·have HR : Hid (r = false) := Lib.hid (by rw [HV.out]; rfl)
   go_enter Tryz.func11, Tryz.ntmps11
   go_wp2_with (first | (refine wpList_load_is rfl 29 _ rfl (.pointer (some ⟨s0, 0, none⟩)) rfl X (gb_lV HG.out HX.out) ?_) | (go_at_call 24; (with_reducible refine (HBO.out _ (HZ.out.up (HB.out))).mono ?_); rintro e1 w1 ⟨rfl, hb⟩; have hB2 := hB.trans (hb.mono HSZ.out); have HG2 := Lib.hid (HG.out.up hb); have HSZ2 : Hid (s0 ≤ w1.heap.size) := Lib.hid (Nat.le_trans HSZ.out hb.size); clear hb hB HSZ HG HB))
   go_ret
   exact ⟨by rw [HR.out]; rfl, hB2⟩
  ·have HR : Hid (r = false) := Lib.hid (by rw [HV.out, decide_eq_false (show ¬ 1 ≤ g.m by omega)]; simp)
   have em : decide ((g.m : Int) < 1) = true := decide_eq_true (by omega)
   clear hm0
   cases qb
   ·go_enter Tryz.func11, Tryz.ntmps11
    go_wp2_with (first | (refine wpList_load_is rfl 29 _ rfl (.pointer (some ⟨s0, 0, none⟩)) rfl X (gb_lV HG.out HX.out) ?_) | (go_at_call 24; (with_reducible refine (HBO.out _ (HZ.out.up (HB.out))).mono ?_); rintro e1 w1 ⟨rfl, hb⟩; have hB2 := hB.trans (hb.mono HSZ.out); have HG2 := Lib.hid (HG.out.up hb); have HSZ2 : Hid (s0 ≤ w1.heap.size) := Lib.hid (Nat.le_trans HSZ.out hb.size); clear hb hB HSZ HG HB))
    go_ret
    exact ⟨by rw [HR.out]; rfl, hB2⟩
   ·go_enter Tryz.func11, Tryz.ntmps11
    go_wp2_with (first | (refine wpList_load_is rfl 29 _ rfl (.pointer (some ⟨s0, 0, none⟩)) rfl X (gb_lV HG.out HX.out) ?_) | (go_at_call 24; (with_reducible refine (HBO.out _ (HZ.out.up (HB.out))).mono ?_); rintro e1 w1 ⟨rfl, hb⟩; have hB2 := hB.trans (hb.mono HSZ.out); have HG2 := Lib.hid (HG.out.up hb); have HSZ2 : Hid (s0 ≤ w1.heap.size) := Lib.hid (Nat.le_trans HSZ.out hb.size); have hb9 := hb; clear hb hB HSZ HG HB c20; have c20 := HC.out w1 hb9; clear hb9))
    go_ret
    exact ⟨by rw [HR.out]; rfl, hB2⟩
 have hqb : qb = true := by cases qb; exact absurd (.inl rfl) hqm; rfl
 subst hqb
 have hm1 : 1 ≤ g.m := by
  rcases Nat.eq_zero_or_pos g.m with h | h
  ·exact absurd (.inr h) hqm
  ·exact h
 clear hqm
 have em : decide ((g.m : Int) < 1) = false := decide_eq_false (by omega)
 obtain ⟨b, off, eE, hbw, hc0⟩ := HAt.out 0 (by omega)
 have hB := below_alloc_new (w := w) (.cells #[.string g.cur, .int .i64 g.cy, .int .i64 g.cm, .int .i64 g.cp, .slice g.A g.n g.c, .int .i64 g.r0, .int .i64 g.r1, .int .i64 g.r2, .int .i64 g.r3, .int .i64 g.r4, .int .i64 g.r5, .int .i64 g.r6, .int .i64 g.r7, .int .i64 g.r8, .int .i64 g.r9, .int .i64 g.r10, .int .i64 g.r11, .int .i64 g.r12, .int .i64 g.r13, .int .i64 g.r14, .slice g.E g.m g.d] 29)
 have HB := Lib.hid hB
 have hG := gb_new w 29 g
 have hsz : s0 ≤ (w.alloc (.cells #[.string g.cur, .int .i64 g.cy, .int .i64 g.cm, .int .i64 g.cp, .slice g.A g.n g.c, .int .i64 g.r0, .int .i64 g.r1, .int .i64 g.r2, .int .i64 g.r3, .int .i64 g.r4, .int .i64 g.r5, .int .i64 g.r6, .int .i64 g.r7, .int .i64 g.r8, .int .i64 g.r9, .int .i64 g.r10, .int .i64 g.r11, .int .i64 g.r12, .int .i64 g.r13, .int .i64 g.r14, .slice g.E g.m g.d] 29)).heap.size := by simp; omega
 have hc20 : ∀ w', Below (w.alloc (.cells #[.string g.cur, .int .i64 g.cy, .int .i64 g.cm, .int .i64 g.cp, .slice g.A g.n g.c, .int .i64 g.r0, .int .i64 g.r1, .int .i64 g.r2, .int .i64 g.r3, .int .i64 g.r4, .int .i64 g.r5, .int .i64 g.r6, .int .i64 g.r7, .int .i64 g.r8, .int .i64 g.r9, .int .i64 g.r10, .int .i64 g.r11, .int .i64 g.r12, .int .i64 g.r13, .int .i64 g.r14, .slice g.E g.m g.d] 29)).heap.size (w.alloc (.cells #[.string g.cur, .int .i64 g.cy, .int .i64 g.cm, .int .i64 g.cp, .slice g.A g.n g.c, .int .i64 g.r0, .int .i64 g.r1, .int .i64 g.r2, .int .i64 g.r3, .int .i64 g.r4, .int .i64 g.r5, .int .i64 g.r6, .int .i64 g.r7, .int .i64 g.r8, .int .i64 g.r9, .int .i64 g.r10, .int .i64 g.r11, .int .i64 g.r12, .int .i64 g.r13, .int .i64 g.r14, .slice g.E g.m g.d] 29)) w' → w'.cell? ⟨s0, 20, none⟩ = some (.slice (some ⟨b, off, none⟩) g.m g.d) := fun w' h => by rw [← eE, ← hs0]; exact (hG.up h).c20
 have hd4 : ∀ w', Below w.heap.size w w' → w'.cell? ⟨b, off + 4, none⟩ = some (.bool (G.getD 0 ent0).jt) := fun w' h => by
  have := (hc0.up h hbw).c4
  simpa only [Nat.zero_mul, Nat.add_zero] using this
 rw [hs0] at hB hG
 rw [eE] at hB hG hsz hc20
 have HB : Hid (Below w.heap.size w (w.alloc (.cells #[.string g.cur, .int .i64 g.cy, .int .i64 g.cm, .int .i64 g.cp, .slice g.A g.n g.c, .int .i64 g.r0, .int .i64 g.r1, .int .i64 g.r2, .int .i64 g.r3, .int .i64 g.r4, .int .i64 g.r5, .int .i64 g.r6, .int .i64 g.r7, .int .i64 g.r8, .int .i64 g.r9, .int .i64 g.r10, .int .i64 g.r11, .int .i64 g.r12, .int .i64 g.r13, .int .i64 g.r14, .slice (some ⟨b, off, none⟩) g.m g.d] 29))) := Lib.hid (by rw [hs0]; exact hB)
 have HG := Lib.hid hG
 have HSZ := Lib.hid hsz
 have HC := Lib.hid hc20
 have HD4 := Lib.hid hd4
 have hv2 := HV.out
 rw [decide_eq_true hm1, Bool.true_and, Bool.true_and] at hv2
 have h0z : (0 : Int) < (g.m : Int) := by omega
 rw [hs0]
 have c20 := hG.c20
 rw [eE] at c20
 rcases Nat.lt_or_ge 12 g.m with k1 | k1
 ·have e1 : decide ((12 : Int) < (g.m : Int)) = true := decide_eq_true (by omega)
  have HR : Hid (r = false) := Lib.hid (by rw [hv2, decide_eq_false (by omega)]; rfl)
  clear k1 hv2 hbw hc0 hc20 hd4 hG hsz
  go_enter Tryz.func11, Tryz.ntmps11
  go_wp2_with (first | (refine wpList_load_is rfl 29 _ rfl (.pointer (some ⟨s0, 0, none⟩)) rfl X (gb_lV HG.out HX.out) ?_) | (go_at_call 24; (with_reducible refine (HBO.out _ (HZ.out.up (HB.out))).mono ?_); rintro e1 w1 ⟨rfl, hb⟩; have hB2 := hB.trans (hb.mono HSZ.out); have HG2 := Lib.hid (HG.out.up hb); have HSZ2 : Hid (s0 ≤ w1.heap.size) := Lib.hid (Nat.le_trans HSZ.out hb.size); have hb9 := hb; clear hb hB HSZ HG HB c20; have c20 := HC.out w1 hb9; have d4 := HD4.out w1 (by rw [hs0]; exact hB2); clear hb9))
  go_ret
  exact ⟨by rw [HR.out]; rfl, hB2⟩
 have e1 : decide ((12 : Int) < (g.m : Int)) = false := decide_eq_false (by omega)
 rw [decide_eq_true k1, Bool.true_and] at hv2
 generalize (G.getD 0 ent0).jt = jt at *
 cases jt
 case true =>
  have HR : Hid (r = false) := Lib.hid (by rw [hv2]; rfl)
  clear k1 hv2 hbw hc0 hc20 hd4 hG hsz
  go_enter Tryz.func11, Tryz.ntmps11
  go_wp2_with (first | (refine wpList_load_is rfl 29 _ rfl (.pointer (some ⟨s0, 0, none⟩)) rfl X (gb_lV HG.out HX.out) ?_) | (go_at_call 24; (with_reducible refine (HBO.out _ (HZ.out.up (HB.out))).mono ?_); rintro e1 w1 ⟨rfl, hb⟩; have hB2 := hB.trans (hb.mono HSZ.out); have HG2 := Lib.hid (HG.out.up hb); have HSZ2 : Hid (s0 ≤ w1.heap.size) := Lib.hid (Nat.le_trans HSZ.out hb.size); have hb9 := hb; clear hb hB HSZ HG HB c20; have c20 := HC.out w1 hb9; have d4 := HD4.out w1 (by rw [hs0]; exact hB2); clear hb9))
  go_ret
  exact ⟨by rw [HR.out]; rfl, hB2⟩
 have HV2 := Lib.hid (show r = allTo P g.m from hv2)
 clear k1 hv2 hc0 hc20 hd4 hG HV hsz
 go_enter Tryz.func11, Tryz.ntmps11
 go_wp2_with (first | (refine wpList_load_is rfl 29 _ rfl (.pointer (some ⟨s0, 0, none⟩)) rfl X (gb_lV HG.out HX.out) ?_) | (go_at_call 24; (with_reducible refine (HBO.out _ (HZ.out.up (HB.out))).mono ?_); rintro e1 w1 ⟨rfl, hb⟩; have hB2 := hB.trans (hb.mono HSZ.out); have HG2 := Lib.hid (HG.out.up hb); have HSZ2 : Hid (s0 ≤ w1.heap.size) := Lib.hid (Nat.le_trans HSZ.out hb.size); have hb9 := hb; clear hb hB HSZ HG HB c20; have c20 := HC.out w1 hb9; have d4 := HD4.out w1 (by rw [hs0]; exact hB2); clear hb9))
 clear c20
 try clear c20
 have hat2 : ∀ k, k < g.m → E5 w b (off + k * 5) (G.getD k ent0) := fun k hk => by
  obtain ⟨b', off', e', hb', hc'⟩ := HAt.out k hk
  rw [eE] at e'
  cases e'
  exact hc'
 have HAt2 := Lib.hid hat2
 have HEA2 : Hid (EntsAt w (some ⟨b, off, none⟩) G) := Lib.hid (by rw [← eE]; exact HEA.out)
 have HEE := Lib.hid eE
 have HBW := Lib.hid hbw
 clear HAt hat2 hs0 eE hbw HEA HC HD4
 go_loopg [3] g.m (fun kx s3 wr => ∃ k : Nat, s3 = .int .i64 k ∧ k ≤ g.m ∧ g.m - k ≤ kx ∧ Hid (allTo P k = true) ∧ Hid (GB wr s0 g) ∧ Below s0 w wr)
 case atStart => exact ⟨0, rfl, by omega, by omega, Lib.hid rfl, HG2, hB2⟩
 case round =>
  clear hB2 HG2
  obtain ⟨k, rfl, hk, hkx, HA, HG, hB⟩ := hrel
  obtain ⟨W0, hW0⟩ : ∃ W0, wr = W0 := ⟨_, rfl⟩
  subst hW0
  have HC20 : Hid (∀ w', Below wr.heap.size wr w' → w'.cell? ⟨s0, 20, none⟩ = some (.slice (some ⟨b, off, none⟩) g.m g.d)) := Lib.hid fun w' h => by rw [← HEE.out]; exact (HG.out.up h).c20
  have c20 := HC20.out wr (Below.refl _ _)
  have hsz : s0 ≤ wr.heap.size := Nat.le_of_lt HG.out.lt
  by_cases hlt : k < g.m
  ·have hltz : (k : Int) < (g.m : Int) := by omega
   have hd5 := (HAt2.out k hlt).up hB (by have := HS0.out; have := HBW.out; omega)
   have hno : P k = false → r = false := fun h => by rw [HV2.out]; exact allTo_no hlt h
   have hnx : P k = true → Hid (allTo P (k + 1) = true) := fun h => Lib.hid (by show (allTo P k && P k) = true; rw [HA.out, h]; rfl)
   have hrow := HRow.out k
   have hfn := HFN.out k hlt
   have h1x := fun w h h' => H1.out k hlt w h h'
   obtain ⟨x, hx⟩ : ∃ x, G.getD k ent0 = x := ⟨_, rfl⟩
   rw [hx] at hd5 hrow hfn h1x
   have h2x := fun w h => H2.out x.nm w h
   have hea : EntsAt wr (some ⟨b, off, none⟩) G := HEA2.out.up (by rw [HS0.out]; exact hB)
   have hea3 : ∀ w, EntsAt w (some ⟨b, off, none⟩) G → EntsAt w g.E G := fun w h => by rw [HEE.out]; exact h
   generalize enrB L g.R x = q2 at *
   generalize P k = pk at *
   obtain ⟨z, hz⟩ : ∃ z, fnE G x.nm = z := ⟨_, rfl⟩
   obtain ⟨q, hq⟩ : ∃ q, fnQ G x.nm = q := ⟨_, rfl⟩
   rw [hz, hq] at h2x
   rw [hz] at hfn
   have hfi : ∀ w, EntsAt w (some ⟨b, off, none⟩) G → Calls Tryz.prog 25 #[X, .string x.nm] w fun e' w' => e' = .returned (.tuple #[.int .i64 z, .bool q]) ∧ Below w.heap.size w w' := fun w h => h2x w (hea3 w h)
   have hbW : b < wr.heap.size := by have := HS0.out; have := HBW.out; omega
   have HD5 := Lib.hid hd5
   have HEA := Lib.hid hea
   have HFI := Lib.hid hfi
   have HEN := Lib.hid h1x
   have HNoo := Lib.hid hno
   have HNx := Lib.hid hnx
   have HRo := Lib.hid hrow
   have HFx := Lib.hid hfn
   have HZ9 : Hid (AccAt wr g.A L) := Lib.hid (HZ.out.up (by rw [HS0.out]; exact hB))
   have HEK9 : Hid (EntsK wr G) := Lib.hid (HEK.out.up (by rw [HS0.out]; exact hB))
   clear hd5 hno hnx hrow hfn h1x hx h2x hea hea3 hz hq hfi HA
   go_wp2_with fail
   refine AS.region_facts (rv10Fa X g b off k s0 x z q) (HNo wr) [[], [], [37], [], [38, 39], [40], [41], [36, 42], [43], [35], [35], [44], [45]] [] [[]] [0, 0, 0, 0, 0, 0, 0, 0, 0, 0, 0, 0, 0] [] (fun u => by simp only [rv10Fa, AS.temps, List.map_cons, List.map_nil, fillL, List.setIfInBounds_toArray, List.set_cons_zero, List.set_cons_succ]; rfl) (by kernel_rfl) (by kernel_rfl) (HNo.st wr) (dc_drew (Below.refl _ _)) ?_ ?_
   ·refine AS.sc rfl rfl rfl ?_ ?_
    ·intro k_ u w_ hk_ hJ hF K hK
     clear hF
     refine wp_load_is 29 _ rfl (.pointer (some ⟨s0, 0, none⟩)) rfl X (gb_lV (HG.out.up (hJ : Below wr.heap.size wr w_)) HX.out) ?_
     exact hK.out _ _ (Below.refl _ _) (rfl) trivial
    refine AS.sc rfl rfl rfl ?_ ?_
    ·intro k_ u w_ hk_ hJ hF K hK
     clear hF
     go_simp
     exact hK.out _ _ (Below.refl _ _) (rfl) trivial
    refine AS.sc rfl rfl rfl ?_ ?_
    ·intro k_ u w_ hk_ hJ hF K hK
     have h37 : u 37 = .pointer (some ⟨s0, 20, none⟩) := AS.facts_get hF 37 (by simp)
     clear hF
     simp only [h37] at hK ⊢
     clear h37
     have c20 := HC20.out w_ (hJ : Below wr.heap.size wr w_)
     go_simp
     exact hK.out _ _ (Below.refl _ _) (rfl) trivial
    refine AS.sc rfl rfl rfl ?_ ?_
    ·intro k_ u w_ hk_ hJ hF K hK
     clear hF
     go_simp
     exact hK.out _ _ (Below.refl _ _) (rfl) trivial
    refine AS.sc rfl rfl rfl ?_ ?_
    ·intro k_ u w_ hk_ hJ hF K hK
     have h38 : u 38 = .slice (some ⟨b, off, none⟩) g.m g.d := AS.facts_get hF 38 (by simp)
     have h39 : u 39 = .int .i64 (k : Int) := AS.facts_get hF 39 (by simp)
     clear hF
     simp only [h38, h39] at hK ⊢
     clear h38 h39
     go_simp
     exact hK.out _ _ (Below.refl _ _) (rfl) trivial
    refine AS.sc rfl rfl rfl ?_ ?_
    ·intro k_ u w_ hk_ hJ hF K hK
     have h40 : u 40 = .pointer (some ⟨b, off + k * 5, none⟩) := AS.facts_get hF 40 (by simp)
     clear hF
     simp only [h40] at hK ⊢
     clear h40
     go_simp
     exact hK.out _ _ (Below.refl _ _) (rfl) trivial
    refine AS.sc rfl rfl rfl ?_ ?_
    ·intro k_ u w_ hk_ hJ hF K hK
     have h41 : u 41 = .pointer (some ⟨b, off + k * 5, none⟩) := AS.facts_get hF 41 (by simp)
     clear hF
     simp only [h41] at hK ⊢
     clear h41
     obtain ⟨d0, d1, d2, d3, d4⟩ := HD5.out.up (hJ : Below wr.heap.size wr w_) hbW
     go_simp
     exact hK.out _ _ (Below.refl _ _) (rfl) trivial
    refine AS.sc rfl rfl rfl ?_ ?_
    ·intro k_ u w_ hk_ hJ hF K hK
     have h36 : u 36 = X := AS.facts_get hF 36 (by simp)
     have h42 : u 42 = .string x.nm := AS.facts_get hF 42 (by simp)
     clear hF
     simp only [h36, h42] at hK ⊢
     clear h36 h42
     have he9 := HEA.out.up (hJ : Below wr.heap.size wr w_)
     go_simp
     refine (HFI.out _ he9).mono ?_
     rintro e w3 ⟨rfl, hb⟩
     exact hK.out _ _ hb (rfl) trivial
    refine AS.sc rfl rfl rfl ?_ ?_
    ·intro k_ u w_ hk_ hJ hF K hK
     have h43 : u 43 = .tuple #[.int .i64 z, .bool q] := AS.facts_get hF 43 (by simp)
     clear hF
     simp only [h43] at hK ⊢
     clear h43
     go_simp
     exact hK.out _ _ (Below.refl _ _) (rfl) trivial
    refine AS.sc rfl rfl rfl ?_ ?_
    ·intro k_ u w_ hk_ hJ hF K hK
     have h35 : u 35 = .tuple #[.int .i64 z, .bool q] := AS.facts_get hF 35 (by simp)
     clear hF
     simp only [h35] at hK ⊢
     clear h35
     go_simp
     exact hK.out _ _ (Below.refl _ _) (rfl) trivial
    refine AS.sc rfl rfl rfl ?_ ?_
    ·intro k_ u w_ hk_ hJ hF K hK
     have h35 : u 35 = .tuple #[.int .i64 z, .bool q] := AS.facts_get hF 35 (by simp)
     clear hF
     simp only [h35] at hK ⊢
     clear h35
     go_simp
     exact hK.out _ _ (Below.refl _ _) (rfl) trivial
    refine AS.sc rfl rfl rfl ?_ ?_
    ·intro k_ u w_ hk_ hJ hF K hK
     have h44 : u 44 = .int .i64 z := AS.facts_get hF 44 (by simp)
     clear hF
     simp only [h44] at hK ⊢
     clear h44
     go_simp
     exact hK.out _ _ (Below.refl _ _) (rfl) trivial
    refine AS.sc rfl rfl rfl ?_ ?_
    ·intro k_ u w_ hk_ hJ hF K hK
     have h45 : u 45 = .bool q := AS.facts_get hF 45 (by simp)
     clear hF
     simp only [h45] at hK ⊢
     clear h45
     go_simp
     exact hK.out _ _ (Below.refl _ _) (rfl) trivial
    exact AS.StepsOk.nil
   ·intro u W9 hJ9 hF
    have h4 : u 4 = .int .i64 z := AS.facts_get hF 4 (by simp [rv10Fa, AS.temps])
    have h5 : u 5 = .bool q := AS.facts_get hF 5 (by simp [rv10Fa, AS.temps])
    have hB9 : Below wr.heap.size wr W9 := hJ9
    clear hF hJ9
    rename World => W8
    try simp only [h4, h5]
    clear h4 h5
    have HG8 := Lib.hid (HG.out.up hB9)
    have hB8 := hB.trans (hB9.mono hsz)
    have hsz8 : s0 ≤ W8.heap.size := Nat.le_of_lt HG8.out.lt
    have HC28 : Hid (∀ w', Below W8.heap.size W8 w' → w'.cell? ⟨s0, 20, none⟩ = some (.slice (some ⟨b, off, none⟩) g.m g.d)) := Lib.hid fun w' h => by rw [← HEE.out]; exact (HG8.out.up h).c20
    have HD58 := Lib.hid (HD5.out.up hB9 hbW)
    have hbW8 : b < W8.heap.size := Nat.lt_of_lt_of_le hbW hB9.size
    have HZ98 := Lib.hid (HZ9.out.up hB9)
    have HEK98 := Lib.hid (HEK9.out.up hB9)
    clear HG HC20 HD5 HZ9 HEK9 HEA HFI hB9 hbW c20 hB
    cases hds : dsN G k
    ·have HZK : Hid ((z != (k : Int)) = true) := Lib.hid (by simpa using HFx.out.2 hds)
     have HR := Lib.hid (HNoo.out (by rw [HRo.out, hds]; rfl))
     have hB := hB8
     clear hds HRo HFx HNoo HNx
     go_wp2_with fail
     refine AS.region_facts (rv10Fb k z) (HNo W8) [[], [], [46, 47], [48], [49], [49], [49], [49], [49], [49], [49], [49], [49, 57]] [] [[]] [0, 0, 0, 0, 0, 0, 0, 0, 0, 0, 0, 0, 0] [] (fun u => by simp only [rv10Fb, AS.temps, List.map_cons, List.map_nil, fillL, List.setIfInBounds_toArray, List.set_cons_zero, List.set_cons_succ]; rfl) (by kernel_rfl) (by kernel_rfl) (HNo.st W8) (dc_drew (Below.refl _ _)) ?_ ?_
     ·refine AS.sc rfl rfl rfl ?_ ?_
      ·intro k_ u w_ hk_ hJ hF K hK
       clear hF
       go_simp
       exact hK.out _ _ (Below.refl _ _) (rfl) trivial
      refine AS.sc rfl rfl rfl ?_ ?_
      ·intro k_ u w_ hk_ hJ hF K hK
       clear hF
       go_simp
       exact hK.out _ _ (Below.refl _ _) (rfl) trivial
      refine AS.sc rfl rfl rfl ?_ ?_
      ·intro k_ u w_ hk_ hJ hF K hK
       have h46 : u 46 = .int .i64 z := AS.facts_get hF 46 (by simp)
       have h47 : u 47 = .int .i64 (k : Int) := AS.facts_get hF 47 (by simp)
       clear hF
       simp only [h46, h47] at hK ⊢
       clear h46 h47
       have hz9 := HZK.out
       go_simp
       exact hK.out _ _ (Below.refl _ _) (rfl) trivial
      refine AS.sc rfl rfl rfl ?_ ?_
      ·intro k_ u w_ hk_ hJ hF K hK
       have h48 : u 48 = .bool true := AS.facts_get hF 48 (by simp)
       clear hF
       simp only [h48] at hK ⊢
       clear h48
       go_simp
       exact hK.out _ _ (Below.refl _ _) (rfl) trivial
      refine AS.sc rfl rfl rfl ?_ ?_
      ·intro k_ u w_ hk_ hJ hF K hK
       have h49 : u 49 = .bool true := AS.facts_get hF 49 (by simp)
       clear hF
       simp only [h49] at hK ⊢
       clear h49
       go_simp
       exact hK.out _ _ (Below.refl _ _) (rfl) trivial
      refine AS.sc rfl rfl rfl ?_ ?_
      ·intro k_ u w_ hk_ hJ hF K hK
       have h49 : u 49 = .bool true := AS.facts_get hF 49 (by simp)
       clear hF
       simp only [h49] at hK ⊢
       clear h49
       go_simp
       exact hK.out _ _ (Below.refl _ _) (rfl) trivial
      refine AS.sc rfl rfl rfl ?_ ?_
      ·intro k_ u w_ hk_ hJ hF K hK
       have h49 : u 49 = .bool true := AS.facts_get hF 49 (by simp)
       clear hF
       simp only [h49] at hK ⊢
       clear h49
       go_simp
       exact hK.out _ _ (Below.refl _ _) (rfl) trivial
      refine AS.sc rfl rfl rfl ?_ ?_
      ·intro k_ u w_ hk_ hJ hF K hK
       have h49 : u 49 = .bool true := AS.facts_get hF 49 (by simp)
       clear hF
       simp only [h49] at hK ⊢
       clear h49
       go_simp
       exact hK.out _ _ (Below.refl _ _) (rfl) trivial
      refine AS.sc rfl rfl rfl ?_ ?_
      ·intro k_ u w_ hk_ hJ hF K hK
       have h49 : u 49 = .bool true := AS.facts_get hF 49 (by simp)
       clear hF
       simp only [h49] at hK ⊢
       clear h49
       go_simp
       exact hK.out _ _ (Below.refl _ _) (rfl) trivial
      refine AS.sc rfl rfl rfl ?_ ?_
      ·intro k_ u w_ hk_ hJ hF K hK
       have h49 : u 49 = .bool true := AS.facts_get hF 49 (by simp)
       clear hF
       simp only [h49] at hK ⊢
       clear h49
       go_simp
       exact hK.out _ _ (Below.refl _ _) (rfl) trivial
      refine AS.sc rfl rfl rfl ?_ ?_
      ·intro k_ u w_ hk_ hJ hF K hK
       have h49 : u 49 = .bool true := AS.facts_get hF 49 (by simp)
       clear hF
       simp only [h49] at hK ⊢
       clear h49
       go_simp
       exact hK.out _ _ (Below.refl _ _) (rfl) trivial
      refine AS.sc rfl rfl rfl ?_ ?_
      ·intro k_ u w_ hk_ hJ hF K hK
       have h49 : u 49 = .bool true := AS.facts_get hF 49 (by simp)
       clear hF
       simp only [h49] at hK ⊢
       clear h49
       go_simp
       exact hK.out _ _ (Below.refl _ _) (rfl) trivial
      refine AS.sc rfl rfl rfl ?_ ?_
      ·intro k_ u w_ hk_ hJ hF K hK
       have h49 : u 49 = .bool true := AS.facts_get hF 49 (by simp)
       have h57 : u 57 = undef := AS.facts_get hF 57 (by simp)
       clear hF
       simp only [h49, h57] at hK ⊢
       clear h49 h57
       go_simp
       exact hK.out _ _ (Below.refl _ _) (rfl) trivial
      exact AS.StepsOk.nil
     ·intro u W9 hJ9 hF
      have h58 : u 58 = .bool true := AS.facts_get hF 58 (by simp [rv10Fb, AS.temps])
      have hB9 : Below W8.heap.size W8 W9 := hJ9
      clear hF hJ9
      simp only [h58]
      clear h58
      go_wp2_with fail
      go_ret
      exact ⟨by rw [HR.out]; rfl, hB8.trans (hB9.mono hsz8)⟩
    ·have hzk := HFx.out.1 hds
     have HZK : Hid ((z != (k : Int)) = false) := Lib.hid (by rw [hzk]; simp)
     have hrow := HRo.out
     rw [hds, Bool.true_and] at hrow
     clear hds hzk HRo HFx
     go_wp2_with fail
     refine AS.region_facts (rv10Fc X g b off k s0 x z q2) (HNo W8) [[], [], [46, 47], [48], [49], [49], [51, 49], [49], [52, 53, 49], [54, 49], [50, 55, 49], [56, 49], [49, 57]] [] [[]] [0, 0, 0, 0, 0, 0, 0, 0, 0, 0, 0, 0, 0] [] (fun u => by simp only [rv10Fc, AS.temps, List.map_cons, List.map_nil, fillL, List.setIfInBounds_toArray, List.set_cons_zero, List.set_cons_succ]; rfl) (by kernel_rfl) (by kernel_rfl) (HNo.st W8) (dc_drew (Below.refl _ _)) ?_ ?_
     ·refine AS.sc rfl rfl rfl ?_ ?_
      ·intro k_ u w_ hk_ hJ hF K hK
       clear hF
       go_simp
       exact hK.out _ _ (Below.refl _ _) (rfl) trivial
      refine AS.sc rfl rfl rfl ?_ ?_
      ·intro k_ u w_ hk_ hJ hF K hK
       clear hF
       go_simp
       exact hK.out _ _ (Below.refl _ _) (rfl) trivial
      refine AS.sc rfl rfl rfl ?_ ?_
      ·intro k_ u w_ hk_ hJ hF K hK
       have h46 : u 46 = .int .i64 z := AS.facts_get hF 46 (by simp)
       have h47 : u 47 = .int .i64 (k : Int) := AS.facts_get hF 47 (by simp)
       clear hF
       simp only [h46, h47] at hK ⊢
       clear h46 h47
       have hz9 := HZK.out
       go_simp
       exact hK.out _ _ (Below.refl _ _) (rfl) trivial
      refine AS.sc rfl rfl rfl ?_ ?_
      ·intro k_ u w_ hk_ hJ hF K hK
       have h48 : u 48 = .bool false := AS.facts_get hF 48 (by simp)
       clear hF
       simp only [h48] at hK ⊢
       clear h48
       go_simp
       exact hK.out _ _ (Below.refl _ _) (rfl) trivial
      refine AS.sc rfl rfl rfl ?_ ?_
      ·intro k_ u w_ hk_ hJ hF K hK
       have h49 : u 49 = .bool false := AS.facts_get hF 49 (by simp)
       clear hF
       simp only [h49] at hK ⊢
       clear h49
       refine wp_load_is 29 _ rfl (.pointer (some ⟨s0, 0, none⟩)) rfl X (gb_lV (HG8.out.up (hJ : Below W8.heap.size W8 w_)) HX.out) ?_
       exact hK.out _ _ (Below.refl _ _) (rfl) trivial
      refine AS.sc rfl rfl rfl ?_ ?_
      ·intro k_ u w_ hk_ hJ hF K hK
       have h49 : u 49 = .bool false := AS.facts_get hF 49 (by simp)
       clear hF
       simp only [h49] at hK ⊢
       clear h49
       go_simp
       exact hK.out _ _ (Below.refl _ _) (rfl) trivial
      refine AS.sc rfl rfl rfl ?_ ?_
      ·intro k_ u w_ hk_ hJ hF K hK
       have h51 : u 51 = .pointer (some ⟨s0, 20, none⟩) := AS.facts_get hF 51 (by simp)
       have h49 : u 49 = .bool false := AS.facts_get hF 49 (by simp)
       clear hF
       simp only [h51, h49] at hK ⊢
       clear h51 h49
       have c20 := HC28.out w_ (hJ : Below W8.heap.size W8 w_)
       go_simp
       exact hK.out _ _ (Below.refl _ _) (rfl) trivial
      refine AS.sc rfl rfl rfl ?_ ?_
      ·intro k_ u w_ hk_ hJ hF K hK
       have h49 : u 49 = .bool false := AS.facts_get hF 49 (by simp)
       clear hF
       simp only [h49] at hK ⊢
       clear h49
       go_simp
       exact hK.out _ _ (Below.refl _ _) (rfl) trivial
      refine AS.sc rfl rfl rfl ?_ ?_
      ·intro k_ u w_ hk_ hJ hF K hK
       have h52 : u 52 = .slice (some ⟨b, off, none⟩) g.m g.d := AS.facts_get hF 52 (by simp)
       have h53 : u 53 = .int .i64 (k : Int) := AS.facts_get hF 53 (by simp)
       have h49 : u 49 = .bool false := AS.facts_get hF 49 (by simp)
       clear hF
       simp only [h52, h53, h49] at hK ⊢
       clear h52 h53 h49
       go_simp
       exact hK.out _ _ (Below.refl _ _) (rfl) trivial
      refine AS.sc rfl rfl rfl ?_ ?_
      ·intro k_ u w_ hk_ hJ hF K hK
       have h54 : u 54 = .pointer (some ⟨b, off + k * 5, none⟩) := AS.facts_get hF 54 (by simp)
       have h49 : u 49 = .bool false := AS.facts_get hF 49 (by simp)
       clear hF
       simp only [h54, h49] at hK ⊢
       clear h54 h49
       obtain ⟨d0, d1, d2, d3, d4⟩ := HD58.out.up (hJ : Below W8.heap.size W8 w_) hbW8
       go_simp
       exact hK.out _ _ (Below.refl _ _) (rfl) trivial
      refine AS.sc rfl rfl rfl ?_ ?_
      ·intro k_ u w_ hk_ hJ hF K hK
       have h50 : u 50 = X := AS.facts_get hF 50 (by simp)
       have h55 : u 55 = eV x := AS.facts_get hF 55 (by simp)
       have h49 : u 49 = .bool false := AS.facts_get hF 49 (by simp)
       clear hF
       simp only [h50, h55, h49] at hK ⊢
       clear h50 h55 h49
       have he9 := HEK98.out.up (hJ : Below W8.heap.size W8 w_)
       have hz9 := HZ98.out.up (hJ : Below W8.heap.size W8 w_)
       go_simp
       refine (HEN.out _ hz9 he9).mono ?_
       rintro e w3 ⟨rfl, hb⟩
       exact hK.out _ _ hb (rfl) trivial
      refine AS.sc rfl rfl rfl ?_ ?_
      ·intro k_ u w_ hk_ hJ hF K hK
       have h56 : u 56 = .bool q2 := AS.facts_get hF 56 (by simp)
       have h49 : u 49 = .bool false := AS.facts_get hF 49 (by simp)
       clear hF
       simp only [h56, h49] at hK ⊢
       clear h56 h49
       go_simp
       exact hK.out _ _ (Below.refl _ _) (rfl) trivial
      refine AS.sc rfl rfl rfl ?_ ?_
      ·intro k_ u w_ hk_ hJ hF K hK
       have h49 : u 49 = .bool false := AS.facts_get hF 49 (by simp)
       have h57 : u 57 = .bool (!q2) := AS.facts_get hF 57 (by simp)
       clear hF
       simp only [h49, h57] at hK ⊢
       clear h49 h57
       go_simp
       exact hK.out _ _ (Below.refl _ _) (rfl) trivial
      exact AS.StepsOk.nil
     ·intro u W9 hJ9 hF
      have h58 : u 58 = .bool (!q2) := AS.facts_get hF 58 (by simp [rv10Fc, AS.temps])
      have hB9 : Below W8.heap.size W8 W9 := hJ9
      clear hF hJ9
      simp only [h58]
      clear h58
      cases q2
      ·have HR := Lib.hid (HNoo.out hrow)
       go_wp2_with fail
       go_ret
       exact ⟨by rw [HR.out]; rfl, hB8.trans (hB9.mono hsz8)⟩
      ·have HA2 := HNx.out hrow
       have HG10 := Lib.hid (HG8.out.up hB9)
       go_wp2_with fail
       go_roundg (g.m - (k + 1))
       case measure => omega
       case rel => exact ⟨k + 1, by go_num, by omega, by omega, HA2, HG10, hB8.trans (hB9.mono hsz8)⟩
  ·have hke : k = g.m := by omega
   have hltz : ¬ (k : Int) < (g.m : Int) := by omega
   have HR : Hid (r = true) := Lib.hid (by rw [HV2.out, ← hke]; exact HA.out)
   clear hke
   go_wp2_with fail
   go_ret
   exact ⟨by rw [HR.out]; rfl, hB⟩
theorem allTo_and {p q : Nat → Bool} : ∀ {n : Nat}, allTo (fun i => p i && q i) n = (allTo p n && allTo q n)
 | 0 => rfl
 | n + 1 => by
  show (allTo (fun i => p i && q i) n && (p n && q n)) = ((allTo p n && p n) && (allTo q n && q n))
  rw [allTo_and]
  cases allTo p n <;> cases allTo q n <;> cases p n <;> cases q n <;> rfl
theorem allTo_all {p : Acc → Bool} {L : List Acc} : L.all p = allTo (fun i => p (L.getD i acc0)) L.length := by
 rw [Bool.eq_iff_iff, all_getD (d := acc0), allTo_is]
theorem grp_eq (g : Grp) (L : List Acc) (G : List Ent) : grpP g L G = grpR g L G := by
 have h1 : rlsB L g.R = allTo (rowR L g.R) 15 := by
  unfold rlsB
  exact allTo_and.symm
 have h2 : chaB L = (vB L true && allTo (fun i => basB (L.getD i acc0)) L.length) := by
  unfold chaB
  rw [allTo_all]
 have h3 : rlsB L g.R = true → ensP L g.R G = ensR L g.R G := fun h => by
  have hd : allTo (dsR g.R) 15 = true := by
   unfold rlsB at h
   rw [Bool.and_eq_true] at h
   exact h.2
  have he : ∀ e, enpB L g.R e = enrB L g.R e := fun e => by
   unfold enpB enrB
   congr 4
   funext i
   exact opn_eq (R_len g) hd _
  unfold ensP ensR
  congr 4
  funext i
  unfold rowP rowX
  rw [he]
 unfold grpP grpR bokR
 rw [h2, ← h1]
 cases hr : rlsB L g.R
 ·simp
 ·rw [h3 hr]
  cases curB g.cur <;> cases clV g.cy g.cm g.cp <;> cases vB L true <;> simp
def resB (L : List Acc) (c : Int) : Bool := decide ((fndA L c).kind = 4) || decide ((fndA L c).kind = 5)
theorem fndA_no {L : List Acc} {c : Int} (h : (fnd L c).isSome = false) : fndA L c = acc0 := by
 unfold fndA
 cases hf : fnd L c with
 | none => rfl
 | some a => rw [hf] at h; cases h
set_option maxRecDepth 20000 in
set_option maxHeartbeats 1600000 in
theorem gres_any (g : Grp) (L : List Acc) (c : Int) (w : World) (hz : AccAt w g.A L) (ln : L.length = g.n) (hl : g.n ≤ 1000) :
  Calls Tryz.prog 56 #[grpV g, .int .i64 c] w fun e w' => e = .returned (.bool (resB L c)) ∧ Below w.heap.size w w' := by
 have hB := below_alloc_new (w := w) (.cells #[.string g.cur, .int .i64 g.cy, .int .i64 g.cm, .int .i64 g.cp, .slice g.A g.n g.c, .int .i64 g.r0, .int .i64 g.r1, .int .i64 g.r2, .int .i64 g.r3, .int .i64 g.r4, .int .i64 g.r5, .int .i64 g.r6, .int .i64 g.r7, .int .i64 g.r8, .int .i64 g.r9, .int .i64 g.r10, .int .i64 g.r11, .int .i64 g.r12, .int .i64 g.r13, .int .i64 g.r14, .slice g.E g.m g.d] 29)
 have hG := gb_new w 29 g
 obtain ⟨V, hV⟩ : ∃ V, V = grpV g := ⟨_, rfl⟩
 have hz2 := hz.up hB
 have h1 := fun w h => gacct_any g L c w h ln hl
 rw [← hV] at h1
 have HV := Lib.hid hV
 clear hV
 have hno := fndA_no (L := L) (c := c)
 have hv : resB L c = (decide ((fndA L c).kind = 4) || decide ((fndA L c).kind = 5)) := rfl
 rw [hv]
 clear hv
 generalize fndA L c = x at *
 obtain ⟨q, hq⟩ : ∃ q, (fnd L c).isSome = q := ⟨_, rfl⟩
 rw [hq] at h1 hno
 clear hq
 obtain ⟨s0, hs0⟩ : ∃ s0, w.heap.size = s0 := ⟨_, rfl⟩
 have hs1 : s0 ≤ (w.alloc (.cells #[.string g.cur, .int .i64 g.cy, .int .i64 g.cm, .int .i64 g.cp, .slice g.A g.n g.c, .int .i64 g.r0, .int .i64 g.r1, .int .i64 g.r2, .int .i64 g.r3, .int .i64 g.r4, .int .i64 g.r5, .int .i64 g.r6, .int .i64 g.r7, .int .i64 g.r8, .int .i64 g.r9, .int .i64 g.r10, .int .i64 g.r11, .int .i64 g.r12, .int .i64 g.r13, .int .i64 g.r14, .slice g.E g.m g.d] 29)).heap.size := by simp; omega
 rw [hs0] at hB hG ⊢
 have HG := Lib.hid hG
 clear hG
 have HZ := Lib.hid hz2
 have H1 := Lib.hid h1
 have HS1 := Lib.hid hs1
 clear hz hz2 ln hl h1 hs1
 cases q
 ·have HX := Lib.hid (hno rfl)
  clear hno
  go_enter Tryz.func56, Tryz.ntmps56
  go_wp2_with (first | (refine wpList_load_is rfl 29 _ rfl (.pointer (some ⟨s0, 0, none⟩)) rfl V (gb_lV HG.out HV.out) ?_) | (go_at_call 76; refine (H1.out _ HZ.out).mono ?_; rintro e w1 ⟨rfl, hb⟩; have hB2 := (hB.trans (hb.mono HS1.out)).alloc (Nat.le_trans HS1.out hb.size) (.cells #[.int .i64 x.code, .int .i64 x.kind, .int .i64 x.basis, .int .i64 x.par] 69); clear hb; obtain ⟨⟨z0, z1, z2, z3⟩, zlt, -⟩ := ab_new w1 69 x; simp only [Nat.zero_add] at z1 z2 z3))
  go_ret
  exact ⟨by rw [HX.out]; rfl, hB2⟩
 ·clear hno
  have e5 : (x.kind == 5) = decide (x.kind = 5) := rfl
  by_cases k4 : x.kind = 4
  ·have e4 : (x.kind == 4) = true := by simp [k4]
   rw [decide_eq_true k4]
   clear k4
   go_enter Tryz.func56, Tryz.ntmps56
   go_wp2_with (first | (refine wpList_load_is rfl 29 _ rfl (.pointer (some ⟨s0, 0, none⟩)) rfl V (gb_lV HG.out HV.out) ?_) | (go_at_call 76; refine (H1.out _ HZ.out).mono ?_; rintro e w1 ⟨rfl, hb⟩; have hB2 := (hB.trans (hb.mono HS1.out)).alloc (Nat.le_trans HS1.out hb.size) (.cells #[.int .i64 x.code, .int .i64 x.kind, .int .i64 x.basis, .int .i64 x.par] 69); clear hb; obtain ⟨⟨z0, z1, z2, z3⟩, zlt, -⟩ := ab_new w1 69 x; simp only [Nat.zero_add] at z1 z2 z3))
   go_ret
   exact ⟨rfl, hB2⟩
 
  ·have e4 : (x.kind == 4) = false := by simp [k4]
   rw [decide_eq_false k4]
   clear k4
   go_enter Tryz.func56, Tryz.ntmps56
   go_wp2_with (first | (refine wpList_load_is rfl 29 _ rfl (.pointer (some ⟨s0, 0, none⟩)) rfl V (gb_lV HG.out HV.out) ?_) | (go_at_call 76; refine (H1.out _ HZ.out).mono ?_; rintro e w1 ⟨rfl, hb⟩; have hB2 := (hB.trans (hb.mono HS1.out)).alloc (Nat.le_trans HS1.out hb.size) (.cells #[.int .i64 x.code, .int .i64 x.kind, .int .i64 x.basis, .int .i64 x.par] 69); clear hb; obtain ⟨⟨z0, z1, z2, z3⟩, zlt, -⟩ := ab_new w1 69 x; simp only [Nat.zero_add] at z1 z2 z3))
   go_ret
   exact ⟨rfl, hB2⟩
set_option maxRecDepth 20000 in
set_option maxHeartbeats 1600000 in
theorem rres_any (g : Grp) (L : List Acc) (c : Int) (w : World) (hz : AccAt w g.A L) (ln : L.length = g.n) (hl : g.n ≤ 1000) :
  Calls Tryz.prog 44 #[grpV g, .int .i64 c] w fun e w' => e = .returned (.bool (resB L c)) ∧ Below w.heap.size w w' := by
 have hB := below_alloc_new (w := w) (.cells #[.string g.cur, .int .i64 g.cy, .int .i64 g.cm, .int .i64 g.cp, .slice g.A g.n g.c, .int .i64 g.r0, .int .i64 g.r1, .int .i64 g.r2, .int .i64 g.r3, .int .i64 g.r4, .int .i64 g.r5, .int .i64 g.r6, .int .i64 g.r7, .int .i64 g.r8, .int .i64 g.r9, .int .i64 g.r10, .int .i64 g.r11, .int .i64 g.r12, .int .i64 g.r13, .int .i64 g.r14, .slice g.E g.m g.d] 29)
 have hG := gb_new w 29 g
 obtain ⟨V, hV⟩ : ∃ V, V = grpV g := ⟨_, rfl⟩
 have hz2 := hz.up hB
 have h1 := fun w h => racct_any g L c w h ln hl
 rw [← hV] at h1
 have HV := Lib.hid hV
 clear hV
 have hno := fndA_no (L := L) (c := c)
 have hv : resB L c = (decide ((fndA L c).kind = 4) || decide ((fndA L c).kind = 5)) := rfl
 rw [hv]
 clear hv
 generalize fndA L c = x at *
 obtain ⟨q, hq⟩ : ∃ q, (fnd L c).isSome = q := ⟨_, rfl⟩
 rw [hq] at h1 hno
 clear hq
 obtain ⟨s0, hs0⟩ : ∃ s0, w.heap.size = s0 := ⟨_, rfl⟩
 have hs1 : s0 ≤ (w.alloc (.cells #[.string g.cur, .int .i64 g.cy, .int .i64 g.cm, .int .i64 g.cp, .slice g.A g.n g.c, .int .i64 g.r0, .int .i64 g.r1, .int .i64 g.r2, .int .i64 g.r3, .int .i64 g.r4, .int .i64 g.r5, .int .i64 g.r6, .int .i64 g.r7, .int .i64 g.r8, .int .i64 g.r9, .int .i64 g.r10, .int .i64 g.r11, .int .i64 g.r12, .int .i64 g.r13, .int .i64 g.r14, .slice g.E g.m g.d] 29)).heap.size := by simp; omega
 rw [hs0] at hB hG ⊢
 have HG := Lib.hid hG
 clear hG
 have HZ := Lib.hid hz2
 have H1 := Lib.hid h1
 have HS1 := Lib.hid hs1
 clear hz hz2 ln hl h1 hs1
 clear hno
 have e5 : (x.kind == 5) = decide (x.kind = 5) := rfl
 by_cases k4 : x.kind = 4
 ·have e4 : (x.kind == 4) = true := by simp [k4]
  rw [decide_eq_true k4]
  clear k4
  go_enter Tryz.func44, Tryz.ntmps44
  go_wp2_with (first | (refine wpList_load_is rfl 29 _ rfl (.pointer (some ⟨s0, 0, none⟩)) rfl V (gb_lV HG.out HV.out) ?_) | (go_at_call 42; refine (H1.out _ HZ.out).mono ?_; rintro e w1 ⟨rfl, hb⟩; have hB2 := (hB.trans (hb.mono HS1.out)).alloc (Nat.le_trans HS1.out hb.size) (.cells #[.int .i64 x.code, .int .i64 x.kind, .int .i64 x.basis, .int .i64 x.par] 69); clear hb; obtain ⟨⟨z0, z1, z2, z3⟩, zlt, -⟩ := ab_new w1 69 x; simp only [Nat.zero_add] at z1 z2 z3))
  go_ret
  exact ⟨rfl, hB2⟩

 ·have e4 : (x.kind == 4) = false := by simp [k4]
  rw [decide_eq_false k4]
  clear k4
  go_enter Tryz.func44, Tryz.ntmps44
  go_wp2_with (first | (refine wpList_load_is rfl 29 _ rfl (.pointer (some ⟨s0, 0, none⟩)) rfl V (gb_lV HG.out HV.out) ?_) | (go_at_call 42; refine (H1.out _ HZ.out).mono ?_; rintro e w1 ⟨rfl, hb⟩; have hB2 := (hB.trans (hb.mono HS1.out)).alloc (Nat.le_trans HS1.out hb.size) (.cells #[.int .i64 x.code, .int .i64 x.kind, .int .i64 x.basis, .int .i64 x.par] 69); clear hb; obtain ⟨⟨z0, z1, z2, z3⟩, zlt, -⟩ := ab_new w1 69 x; simp only [Nat.zero_add] at z1 z2 z3))
  go_ret
  exact ⟨rfl, hB2⟩
def plI (L : List Acc) (r b c d : Int) : Int := if (resB L c && decide (d < b)) = true then r else c
def plL (L : List Acc) (r b : Int) (X : List Lnk) : List Bal := X.map fun d => ⟨plI L r b d.frm d.tgt, d.since⟩
def cyE (g : Grp) (L : List Acc) (G : List Ent) (p : Int) : Int := if grpP g L G = true then clE g.cy g.cm g.cp p else 1
def cyB (g : Grp) (p : Int) : Int := pdB g.cy g.cm g.cp p
def knoB (L : List Acc) (X : List Lnk) : Bool := X.all fun d => (fnd L d.frm).isSome
def amsB (X : List Lnk) : Bool := X.all fun d => amtB d.since
def cvN (L : List Acc) (X : List Lnk) : Int := if knoB L X = true then (if amsB X = true then 0 else 1) else 8
def cvE (g : Grp) (L : List Acc) (G : List Ent) (X : List Lnk) (p : Int) : Int := if cyE g L G p = 0 then cvN L X else cyE g L G p
def plE (g : Grp) (L : List Acc) (G : List Ent) (c p : Int) : Int := if cyE g L G p = 0 then (if (fnd L c).isSome = true then 0 else 8) else cyE g L G p
def plN (g : Grp) (L : List Acc) (G : List Ent) (c d p : Int) : Int := if plE g L G c p = 0 then plI L g.r6 (cyB g p) c d else 0
def caE (g : Grp) (L : List Acc) (G : List Ent) (X : List Lnk) (p : Int) : Int := if cvE g L G X p = 0 then lisE (plL L g.r6 (cyB g p) X) else cvE g L G X p
def caL (g : Grp) (L : List Acc) (G : List Ent) (X : List Lnk) (p : Int) : List Bal := if cvE g L G X p = 0 then lisL (plL L g.r6 (cyB g p) X) else []
def rfE (L : List Acc) (P : List Bal) : Int := if (L.all fun a => amtB (ofS P a.code)) = true then 0 else 2
def rfL (L : List Acc) (P : List Bal) : List Bal := if rfE L P = 0 then rowsB L (ofS P) else []
def totS (q : Lnk → Bool) (X : List Lnk) : Int := sumI X (fun d => if q d = true then d.since else 0)
def toE (v S : Int) : Int := if v = 0 then (if amtB S = true then 0 else 2) else v
def toN (v S : Int) : Int := if toE v S = 0 then S else 0
def qRes (L : List Acc) (r b : Int) (d : Lnk) : Bool := resB L (plI L r b d.frm d.tgt)
def qRet (L : List Acc) (r b : Int) (d : Lnk) : Bool := !decide (plI L r b d.frm d.tgt = d.frm)
theorem cyE_ok {g : Grp} {L : List Acc} {G : List Ent} {p : Int} (h : cyE g L G p = 0) : grpP g L G = true ∧ clE g.cy g.cm g.cp p = 0 := by
 unfold cyE at h
 split at h
 ·rename_i h1; exact ⟨h1, h⟩
 ·cases h
theorem grp_parts {g : Grp} {L : List Acc} {G : List Ent} (h : grpP g L G = true) : clV g.cy g.cm g.cp = true ∧ vB L true = true ∧ rlsB L g.R = true := by
 unfold grpP chaB at h
 simp only [Bool.and_eq_true] at h
 exact ⟨h.2.1, h.2.2.1.1, h.2.2.2.1⟩
theorem cyE_in {g : Grp} {L : List Acc} {G : List Ent} {p : Int} (h : grpP g L G = true) (hp : 0 ≤ p ∧ p < g.cp) : cyE g L G p = 0 := by
 unfold cyE
 rw [if_pos h]
 exact clE_in (grp_parts h).1 hp
theorem cyE_out {g : Grp} {L : List Acc} {G : List Ent} {p : Int} (h : grpP g L G = true) (hp : ¬ (0 ≤ p ∧ p < g.cp)) : cyE g L G p = 2 := by
 unfold cyE
 rw [if_pos h]
 exact clE_out (grp_parts h).1 hp
theorem cyE_bad {g : Grp} {L : List Acc} {G : List Ent} {p : Int} (h : grpP g L G = false) : cyE g L G p = 1 := by
 unfold cyE
 rw [h]; rfl
theorem grp_srt {g : Grp} {L : List Acc} {G : List Ent} (h : grpP g L G = true) : Srt L := by
 have h1 := (grp_parts h).2.1
 unfold vB at h1
 simp only [Bool.and_eq_true] at h1
 exact codesB_srt h1.1.1.1.2
theorem grp_r6 {g : Grp} {L : List Acc} {G : List Ent} (h : grpP g L G = true) : (fnd L g.r6).isSome = true ∧ resB L g.r6 = false := by
 have h1 := (grp_parts h).2.2
 unfold rlsB at h1
 rw [Bool.and_eq_true] at h1
 have h2 := allTo_is.1 h1.1 6 (by omega)
 unfold chkR at h2
 have e : g.R.getD 6 0 = g.r6 := rfl
 rw [e] at h2
 simp only [Bool.and_eq_true, decide_eq_true_eq] at h2
 refine ⟨h2.1, ?_⟩
 unfold resB
 rw [h2.2.1]
 rfl
theorem resB_fnd {L : List Acc} {c : Int} (h : resB L c = true) : (fnd L c).isSome = true := by
 cases h1 : (fnd L c).isSome
 ·unfold resB at h
  rw [fndA_no h1] at h
  simp at h
 ·rfl
theorem plI_fnd {L : List Acc} {r b c d : Int} (hr : (fnd L r).isSome = true) (hc : (fnd L c).isSome = true) : (fnd L (plI L r b c d)).isSome = true := by
 unfold plI
 split
 ·exact hr
 ·exact hc
theorem plL_acct {L : List Acc} {r b : Int} {X : List Lnk} (hr : (fnd L r).isSome = true) (hk : knoB L X = true) : ∀ x ∈ plL L r b X, (fnd L x.acct).isSome = true := by
 intro x hx
 unfold plL at hx
 obtain ⟨d, hd, rfl⟩ := List.mem_map.1 hx
 exact plI_fnd hr (List.all_eq_true.1 hk d hd)
theorem plL_len {L : List Acc} {r b : Int} {X : List Lnk} : (plL L r b X).length = X.length := by unfold plL; rw [List.length_map]
theorem plL_take {L : List Acc} {r b : Int} {X : List Lnk} {k : Nat} (hk : k < X.length) : plL L r b (X.take (k + 1)) = plL L r b (X.take k) ++ [⟨plI L r b (X.getD k lnk0).frm (X.getD k lnk0).tgt, (X.getD k lnk0).since⟩] := by
 unfold plL
 rw [take_succ_getD (d := lnk0) hk, List.map_append]; rfl
theorem totS_take {q : Lnk → Bool} {X : List Lnk} {k : Nat} (hk : k < X.length) : totS q (X.take (k + 1)) = totS q (X.take k) + if q (X.getD k lnk0) = true then (X.getD k lnk0).since else 0 := by
 unfold totS
 rw [take_succ_getD (d := lnk0) hk, sumI_app, sumI_cons, sumI_nil]; omega
theorem totS_bound {q : Lnk → Bool} : ∀ {X : List Lnk}, amsB X = true → -(X.length * 1000000000000 : Int) ≤ totS q X ∧ totS q X ≤ X.length * 1000000000000
 | [], _ => by simp [totS, sumI]
 | x :: X, h => by
  unfold amsB at h
  rw [List.all_cons, Bool.and_eq_true] at h
  have ih := totS_bound (q := q) (X := X) h.2
  have hx := amtB_is.1 h.1
  unfold totS at ih ⊢
  rw [sumI_cons, List.length_cons]
  split <;> omega
theorem ofS_plL {L : List Acc} {r b c : Int} {X : List Lnk} : ofS (plL L r b X) c = totS (fun d => decide (plI L r b d.frm d.tgt = c)) X := by
 unfold ofS plL totS
 rw [sumI_map]
 refine sumI_congr fun d _ => ?_
 by_cases h : plI L r b d.frm d.tgt = c <;> simp [h]
theorem keys_filter {L : List Acc} {P : List Bal} (hs : Srt L) (hp : ∀ x ∈ P, (fnd L x.acct).isSome = true) : keysL (P.map (·.acct)) = (L.map (·.code)).filter fun c => decide (c ∈ P.map (·.acct)) := by
 refine (keysL_ext ?_ fun x => ?_).symm
 ·unfold Asc
  refine List.Pairwise.filter _ ?_
  rw [List.pairwise_map, List.pairwise_iff_getElem]
  intro i j hi hj hij
  have := hs.mono i j hij hj
  rw [List.getD_eq_getElem?_getD, List.getElem?_eq_getElem hi, List.getD_eq_getElem?_getD, List.getElem?_eq_getElem hj] at this
  exact this
 ·rw [List.mem_filter, decide_eq_true_eq]
  refine ⟨fun h => h.2, fun h => ⟨?_, h⟩⟩
  obtain ⟨y, hy, rfl⟩ := List.mem_map.1 h
  obtain ⟨a, ha⟩ := Option.isSome_iff_exists.1 (hp y hy)
  obtain ⟨h1, h2⟩ := fnd_some ha
  exact List.mem_map.2 ⟨a, h1, h2⟩
theorem ofS_out {P : List Bal} {c : Int} (h : c ∉ P.map (·.acct)) : ofS P c = 0 := ofS_none fun x hx e => h (List.mem_map.2 ⟨x, hx, e⟩)
theorem amts_rf {L : List Acc} {P : List Bal} (hs : Srt L) (hp : ∀ x ∈ P, (fnd L x.acct).isSome = true) : amtsB (sumsL P) = L.all fun a => amtB (ofS P a.code) := by
 unfold amtsB sumsL
 rw [keys_filter hs hp, List.all_map, List.all_filter, List.all_map]
 congr 1
 funext a
 simp only [Function.comp]
 by_cases h : a.code ∈ P.map (·.acct)
 ·rw [decide_eq_true h]; rfl
 ·rw [decide_eq_false h, ofS_out h]; rfl
theorem lis_rf {L : List Acc} {P : List Bal} (hs : Srt L) (hp : ∀ x ∈ P, (fnd L x.acct).isSome = true) : lisE P = rfE L P ∧ lisL P = rfL L P := by
 have h1 := amts_rf hs hp
 have h2 : pick0 (sumsL P) = rowsB L (ofS P) := by
  unfold rowsB pick0 sumsL
  rw [keys_filter hs hp, List.filter_map, List.filter_map, List.filter_map, List.filter_filter, List.filter_map, List.map_map]
  have e : (fun a : Acc => (⟨a.code, ofS P a.code⟩ : Bal)) = (fun t : Int => (⟨t, ofS P t⟩ : Bal)) ∘ fun a : Acc => a.code := rfl
  rw [← e]
  congr 1
  refine List.filter_congr fun a _ => ?_
  simp only [Function.comp]
  by_cases h : a.code ∈ P.map (·.acct)
  ·rw [decide_eq_true h, Bool.and_true]
  ·have h0 := ofS_out h
   simp [h, h0]
 have he : lisE P = rfE L P := by unfold lisE rfE; rw [h1]
 refine ⟨he, ?_⟩
 unfold lisL rfL rfE
 rw [h1, h2]
 by_cases h : (L.all fun a => amtB (ofS P a.code)) = true
 ·rw [if_pos h, if_pos h, if_pos rfl]
 ·rw [if_neg h, if_neg h, if_neg (by decide)]
theorem ca_rf {g : Grp} {L : List Acc} {G : List Ent} {X : List Lnk} {p : Int} : caE g L G X p = (if cvE g L G X p = 0 then rfE L (plL L g.r6 (cyB g p) X) else cvE g L G X p) ∧ caL g L G X p = (if cvE g L G X p = 0 then rfL L (plL L g.r6 (cyB g p) X) else []) := by
 unfold caE caL
 by_cases h : cvE g L G X p = 0
 ·rw [if_pos h, if_pos h, if_pos h, if_pos h]
  have h1 := h
  unfold cvE at h1
  by_cases h2 : cyE g L G p = 0
  ·rw [if_pos h2] at h1
   have hg := (cyE_ok h2).1
   have hk : knoB L X = true := by
    unfold cvN at h1
    split at h1
    ·rename_i h3; exact h3
    ·cases h1
   exact lis_rf (grp_srt hg) (plL_acct (grp_r6 hg).1 hk)
  ·rw [if_neg h2] at h1; exact absurd h1 h2
 ·rw [if_neg h, if_neg h, if_neg h, if_neg h]
  exact ⟨rfl, rfl⟩
theorem cvE_ok {g : Grp} {L : List Acc} {G : List Ent} {X : List Lnk} {p : Int} (h : cvE g L G X p = 0) : cyE g L G p = 0 ∧ knoB L X = true ∧ amsB X = true := by
 unfold cvE at h
 by_cases h2 : cyE g L G p = 0
 ·rw [if_pos h2] at h
  unfold cvN at h
  split at h
  ·rename_i h3
   split at h
   ·rename_i h4; exact ⟨h2, h3, h4⟩
   ·cases h
  ·cases h
 ·rw [if_neg h2] at h; exact absurd h h2
theorem pdB_year {y m k i j : Int} (hi : clE y m k i = 0) (hj : clE y m k j = 0) (h : i - i % 12 = j - j % 12) : pdB y m k i = pdB y m k j := by
 unfold pdB
 rw [if_pos hi, if_pos hj]
 congr 1
 omega
theorem pdF_year {y m k i : Int} (hi : clE y m k i = 0) (h : i % 12 = 0) : pdF y m k i = pdB y m k i := by
 unfold pdB pdF
 rw [if_pos hi, if_pos hi]
 congr 1
 omega
theorem tot_next {L : List Acc} {r b b2 : Int} {X : List Lnk} (hr : resB L r = false) (h : ∀ d ∈ X, d.tgt < b2) : totS (qRet L r b2) X = totS (qRet L r b) X + totS (qRes L r b) X ∧ totS (qRes L r b2) X = 0 := by
 have hne : ∀ c, resB L c = true → r ≠ c := fun c hc e => by rw [← e, hr] at hc; cases hc
 constructor
 ·unfold totS
  rw [← sumI_add]
  refine sumI_congr fun d hd => ?_
  have hd2 := h d hd
  unfold qRet qRes plI
  cases hc : resB L d.frm
  ·simp [hc]
  ·have := hne _ hc
   rw [decide_eq_true hd2]
   by_cases h3 : d.tgt < b
   ·rw [decide_eq_true h3]; simp [this, hr]
   ·rw [decide_eq_false h3]; simp [this, hc]
 ·unfold totS
  refine sumI_zero fun d hd => ?_
  have hd2 := h d hd
  unfold qRes plI
  cases hc : resB L d.frm
  ·simp [hc]
  ·rw [decide_eq_true hd2]; simp [hr]
abbrev wr (x : Int) : Int := wrap64 x
def ltK (a b : Int × Int) : Prop := a.1 < b.1 ∨ a.1 = b.1 ∧ a.2 < b.2
instance (a b : Int × Int) : Decidable (ltK a b) := by unfold ltK; infer_instance
def grpC (g : Grp) : List Value := [.string g.cur, .int .i64 g.cy, .int .i64 g.cm, .int .i64 g.cp, .slice g.A g.n g.c, .int .i64 g.r0, .int .i64 g.r1, .int .i64 g.r2, .int .i64 g.r3, .int .i64 g.r4, .int .i64 g.r5, .int .i64 g.r6, .int .i64 g.r7, .int .i64 g.r8, .int .i64 g.r9, .int .i64 g.r10, .int .i64 g.r11, .int .i64 g.r12, .int .i64 g.r13, .int .i64 g.r14, .slice g.E g.m g.d]
theorem grpV_is (g : Grp) : grpV g = .agg (grpC g).toArray := rfl
structure Rg (w : World) (b : Nat) (cs : List Value) : Prop where
 cell : ∀ j v, cs[j]? = some v → w.cell? ⟨b, j, none⟩ = some v
 lt : b < w.heap.size
theorem Rg.load {P : Program} {w : World} {b : Nat} {cs : List Value} (h : Rg w b cs) (off : Nat) (ty : TypeId) (sub : List Value) (hs : sub = (cs.drop off).take sub.length) (d : TypeDesc) (hu : P.underlying ty = some d) (hd : d.isRow = true) (hi : (P.info? ty).map (·.size) = some sub.length) :
  (Instr.loadAt ty (.pointer (some ⟨b, off, none⟩))).run P w = .ok (.agg sub.toArray) w :=
 run_loadAt_mid w b off ty sub d (fun j v hj => h.cell _ _ (by
  rw [hs, List.getElem?_take] at hj
  split at hj
  ·rwa [List.getElem?_drop] at hj
  ·cases hj)) hu hd hi
theorem wpList_build_is {P : Program} {w : World} {ops : Array Oper} {rest : List Oper} {o : Oper} {a : Act} {Q : Exit → Act → World → Prop} (hg : o.guard = none) (ty : TypeId) (ps : Array (Nat × Operand)) (hop : o.op = .build ty ps) (L : List (Nat × Value)) (hL : (ps.toList.map fun p => (p.1, a.eval p.2)) = L) (V : Value)
  (hl : (Instr.build ty L.toArray).run P w = .ok V w) (h : wpList P ops Q rest (a.put o.dst V) w) : wpList P ops Q (o :: rest) a w := by
 refine wpList_plain hg fun K hK => ?_
 have he : (ps.map fun p => (p.1, a.eval p.2)) = L.toArray := by rw [← hL]; exact Array.ext' (by rw [Array.toList_map])
 have hl2 : (Instr.build ty (ps.map fun x => match x with | (i, x) => (i, a.eval x))).run P w = .ok V w := by
  rw [← he] at hl; exact hl
 unfold Oper.wp execOp
 simp only [hop, Sem.run_bind, hl2, Sem.run_pure, Result.andThen_ok]
 exact hK _ _ h
end Go.Proofs.YtompehjecamdiaaGreat
namespace Go.Proofs.YtompehjecamdiaaGreat.AK
open Go Go.RowKit
open Go.Proofs.YtompehjecamdiaaGreat.AS (edgesOk needsOk onceOk waits2 limOk allWritten allocsOk aOk Apart Written Written.more getD_flag)
variable {Rp Kp : World → World → Prop}
def storesOk (ops : Array Oper) (pt : List (List Nat)) (st : List Nat) (js : List (List Nat)) : Bool :=
 (List.range st.length).all fun m => decide (st.getD m 0 < ops.size) &&
  (Nat.beq m 0 || Region.waitsFor .any ops (st.getD m 0) (st.getD (m - 1) 0)) && (js.getD (m + 1) []).all fun d => (pt.getD (st.getD m 0) []).contains d || (js.getD m []).contains d || (match ops[st.getD m 0]? with | some o => o.dst == some d | none => false)
def lowOk (ops : Array Oper) (st ln : List Nat) : Bool :=
 (List.range ops.size).all fun i => Nat.beq (ln.getD i 0) 0 || (decide (ln.getD i 0 ≤ st.length) && waits2 ops i (st.getD (ln.getD i 0 - 1) 0))
def chk (al : List Nat) (ops : Array Oper) (pt : List (List Nat)) (ds st : List Nat) (js : List (List Nat)) (lm ln : List Nat) : Bool :=
 lowOk ops st ln && (allocsOk ops al st && al.all ds.contains && edgesOk ops && needsOk ops pt ds && onceOk ops && storesOk ops pt st js && limOk ops st lm && allWritten ops ds && (js.getD 0 []).isEmpty)
structure Chk (al : List Nat) (ops : Array Oper) (pt : List (List Nat)) (ds st : List Nat) (js : List (List Nat)) (lm ln : List Nat) : Prop where
 low : ∀ i, i < ops.size → ln.getD i 0 = 0 ∨ (ln.getD i 0 ≤ st.length ∧ waits2 ops i (st.getD (ln.getD i 0 - 1) 0) = true)
 edge : ∀ (i : Nat) (o : Oper), ops[i]? = some o → ∀ e ∈ o.after, Region.binds .any e = true → e.on < i
 dst : ∀ (i : Nat) (o : Oper), ops[i]? = some o → ∀ d, o.dst = some d → d ∈ ds
 need : ∀ (i : Nat) (o : Oper), ops[i]? = some o → ∀ d ∈ pt.getD i [], ∃ e ∈ o.after, Region.binds .any e = true ∧ ((∃ o' : Oper, ops[e.on]? = some o' ∧ o'.dst = some d) ∨ d ∈ pt.getD e.on [])
 once : ∀ (i j : Nat) (o o' : Oper) (d : Nat), ops[i]? = some o → ops[j]? = some o' → o.dst = some d → o'.dst = some d → i = j
 slt : ∀ m, m < st.length → st.getD m 0 < ops.size
 schain : ∀ m, 0 < m → m < st.length → Region.waitsFor .any ops (st.getD m 0) (st.getD (m - 1) 0) = true
 sjs : ∀ m, m < st.length → ∀ d ∈ js.getD (m + 1) [], d ∈ pt.getD (st.getD m 0) [] ∨ d ∈ js.getD m [] ∨ ∃ o : Oper, ops[st.getD m 0]? = some o ∧ o.dst = some d
 lim : ∀ i, i < ops.size → lm.getD i st.length = st.length ∨ waits2 ops (st.getD (lm.getD i st.length) ops.size) i = true
 wr : ∀ d ∈ ds, ∃ (i : Nat) (o : Oper), ops[i]? = some o ∧ o.dst = some d
 js0 : js.getD 0 [] = []
 alw : ∀ d ∈ al, ∀ m, m < st.length → ∃ (i : Nat) (o : Oper), ops[i]? = some o ∧ o.dst = some d ∧ waits2 ops (st.getD m 0) i = true
 ald : ∀ d ∈ al, d ∈ ds
section
variable {ops : Array Oper} {ds st lm ln al : List Nat} {js pt : List (List Nat)}
theorem chk_spec (h : chk al ops pt ds st js lm ln = true) : Chk al ops pt ds st js lm ln := by
 unfold chk at h
 simp only [Bool.and_eq_true] at h
 obtain ⟨h10, ⟨⟨⟨⟨⟨⟨⟨h8, h9⟩, h1⟩, h2⟩, h3⟩, h4⟩, h5⟩, h6⟩, h7⟩ := h
 have lt : ∀ (i : Nat) (o : Oper), ops[i]? = some o → i ∈ List.range ops.size := fun i o ho => List.mem_range.2 (Array.getElem?_eq_some_iff.1 ho).1
 constructor
 ·intro i hi
  have h := List.all_eq_true.1 h10 i (List.mem_range.2 hi)
  simp only [Bool.or_eq_true, Nat.beq_eq, Bool.and_eq_true, decide_eq_true_eq] at h
  exact h
 ·intro i o ho e he hb
  have h := List.all_eq_true.1 h1 i (lt i o ho)
  rw [ho] at h
  dsimp only at h
  rw [Array.all_eq_true_iff_forall_mem] at h
  have h := h e he
  rw [hb] at h
  simpa using h
 ·intro i o ho d hd
  have h := List.all_eq_true.1 h2 i (lt i o ho)
  rw [ho] at h
  dsimp only at h
  rw [hd] at h
  simp only [Bool.and_eq_true] at h
  simpa using h.1
 ·intro i o ho d hd
  have h := List.all_eq_true.1 h2 i (lt i o ho)
  rw [ho] at h
  simp only [Bool.and_eq_true] at h
  have h := List.all_eq_true.1 h.2 d hd
  rw [Array.any_eq_true] at h
  obtain ⟨k, hk, h⟩ := h
  rw [Bool.and_eq_true, Bool.or_eq_true] at h
  refine ⟨o.after[k], Array.getElem_mem _, h.1, ?_⟩
  rcases h.2 with h4 | h4
  ·left
   cases h5 : ops[(o.after[k]).on]? with
   | none => rw [h5] at h4; cases h4
   | some o' => rw [h5] at h4; exact ⟨o', rfl, by simpa using h4⟩
  ·right; simpa using h4
 ·intro i j o o' d ho ho' hd hd'
  have h := List.all_eq_true.1 (List.all_eq_true.1 h3 i (lt i o ho)) j (lt j o' ho')
  rw [ho, ho'] at h
  dsimp only at h
  rw [hd, hd'] at h
  simpa using h
 ·intro m hm
  have h := List.all_eq_true.1 h4 m (List.mem_range.2 hm)
  simp only [Bool.and_eq_true, decide_eq_true_eq] at h
  exact h.1.1
 ·intro m h0 hm
  have h := List.all_eq_true.1 h4 m (List.mem_range.2 hm)
  simp only [Bool.and_eq_true, decide_eq_true_eq, Bool.or_eq_true, Nat.beq_eq] at h
  rcases h.1.2 with h | h
  ·omega
  ·exact h
 ·intro m hm d hd
  have h := List.all_eq_true.1 h4 m (List.mem_range.2 hm)
  simp only [Bool.and_eq_true] at h
  have h := List.all_eq_true.1 h.2 d hd
  simp only [Bool.or_eq_true] at h
  rcases h with (h | h) | h
  ·exact .inl (by simpa using h)
  ·exact .inr (.inl (by simpa using h))
  ·cases ho : ops[st.getD m 0]? with
   | none => rw [ho] at h; cases h
   | some o => rw [ho] at h; exact .inr (.inr ⟨o, rfl, by simpa using h⟩)
 ·intro i hi
  have h := List.all_eq_true.1 h5 i (List.mem_range.2 hi)
  simp only [Bool.or_eq_true, Nat.beq_eq] at h
  exact h
 ·intro d hd
  have h := List.all_eq_true.1 h6 d hd
  rw [Array.any_eq_true] at h
  obtain ⟨k, hk, h⟩ := h
  exact ⟨k, ops[k], by simp [hk], by simpa using h⟩
 ·simpa using h7
 ·intro d hd m hm
  have h := List.all_eq_true.1 (List.all_eq_true.1 h8 d hd) (st.getD m 0) (by simp [hm])
  obtain ⟨i, hi, h⟩ := List.any_eq_true.1 h
  rw [Bool.and_eq_true] at h
  cases ho : ops[i]? with
  | none => rw [ho] at h; cases h.1
  | some o => rw [ho] at h; exact ⟨i, o, ho, by simpa using h.1, h.2⟩
 ·intro d hd
  have h := List.all_eq_true.1 h9 d hd
  simpa using h
end
open Go.Proofs.YtompehjecamdiaaGreat (fillL upd fillL_size fillL_get fillL_upd fillL_self filter_less none_listed put_fill)
structure Fact (Kp : World → World → Prop) where
 p : Value → World → Prop
 st : ∀ v w w', Kp w w' → p v w → p v w'
def Fact.triv : Fact Kp := ⟨fun _ _ => True, fun _ _ _ _ _ => trivial⟩
def Fact.is (x : Value) : Fact Kp := ⟨fun v _ => v = x, fun _ _ _ _ h => h⟩
def look : List (Nat × Fact Kp) → Nat → Fact Kp
 | [], _ => Fact.triv
 | (k, f) :: rest, d => bif Nat.beq k d then f else look rest d
def temps (FL : List (Nat × Fact Kp)) : List Nat := FL.map (·.1)
def factOf (FL : List (Nat × Fact Kp)) (dst : Option Nat) (v : Value) (w : World) : Prop := match dst with
 | none => True
 | some d => (look FL d).p v w
def Facts (FL : List (Nat × Fact Kp)) (u : Nat → Value) (w : World) : List Nat → Prop
 | [] => True
 | d :: ds => (look FL d).p (u d) w ∧ Facts FL u w ds
theorem facts_mk {FL : List (Nat × Fact Kp)} {u : Nat → Value} {w : World} {ds : List Nat} (h : ∀ d ∈ ds, (look FL d).p (u d) w) : Facts FL u w ds := by
 induction ds with
 | nil => trivial
 | cons d ds ih => exact ⟨h d (List.mem_cons_self ..), ih fun e he => h e (List.mem_cons_of_mem _ he)⟩
theorem facts_get {FL : List (Nat × Fact Kp)} {u : Nat → Value} {w : World} {ds : List Nat} (h : Facts FL u w ds) (d : Nat) (hd : d ∈ ds) : (look FL d).p (u d) w := by
 induction ds with
 | nil => cases hd
 | cons e ds ih =>
  rcases List.mem_cons.1 hd with rfl | hd
  ·exact h.1
  ·exact ih h.2 hd
section
variable {P : Program} {ops : Array Oper} {Q : Exit → Act → World → Prop} {FL : List (Nat × Fact Kp)} {J : Nat → List Value → World → Prop} {t0 : Array Value} {df : List Deferred} {ds : List Nat}
 {st lm ln al : List Nat} {js : List (List Nat)} {pt : List (List Nat)}
def StepOk (Rp : World → World → Prop) (al : List Nat) (P : Program) (ops : Array Oper) (Q : Exit → Act → World → Prop) (FL : List (Nat × Fact Kp)) (J : Nat → List Value → World → Prop) (js : List (List Nat)) (fr : (Nat → Value) → Array Value) (df : List Deferred) (o : Oper) (need : List Nat) (lim lo : Nat) : Prop :=
 ∀ (k : Nat) (u : Nat → Value) (w : World), k ≤ lim → lo ≤ k → J k ((js.getD k []).map u) w → Facts FL u w need → ∀ K : Act → World → Prop, Shut (∀ v w', Rp w w' → factOf FL o.dst v w' → aOk al o.dst v w w' → K ((⟨fr u, df⟩ : Act).put o.dst v) w') →
  if Region.wanted o (yielded ops (fr u)) = true then Oper.wp P o ⟨fr u, df⟩ w K Q else K ((⟨fr u, df⟩ : Act).put o.dst undef) w
def StoreOk (al : List Nat) (P : Program) (ops : Array Oper) (Q : Exit → Act → World → Prop) (FL : List (Nat × Fact Kp)) (J : Nat → List Value → World → Prop) (js : List (List Nat)) (fr : (Nat → Value) → Array Value) (df : List Deferred) (o : Oper) (need : List Nat) (k : Nat) : Prop :=
 ∀ (u : Nat → Value) (w : World), J k ((js.getD k []).map u) w → Apart al u → Facts FL u w need → ∀ K : Act → World → Prop, Shut (∀ v w', J (k + 1) ((js.getD (k + 1) []).map (upd u o.dst v)) w' → Kp w w' → factOf FL o.dst v w' → K ((⟨fr u, df⟩ : Act).put o.dst v) w') →
  if Region.wanted o (yielded ops (fr u)) = true then Oper.wp P o ⟨fr u, df⟩ w K Q else K ((⟨fr u, df⟩ : Act).put o.dst undef) w
def StepsOk (Rp : World → World → Prop) (al : List Nat) (P : Program) (ops : Array Oper) (Q : Exit → Act → World → Prop) (FL : List (Nat × Fact Kp)) (J : Nat → List Value → World → Prop) (js : List (List Nat)) (fr : (Nat → Value) → Array Value) (df : List Deferred) (pt : List (List Nat)) (st lm ln : List Nat) : List Oper → Nat → Prop
 | [], _ => True
 | o :: rest, i => (match st.idxOf? i with
   | some k => StoreOk al P ops Q FL J js fr df o (pt.getD i []) k
   | none => StepOk Rp al P ops Q FL J js fr df o (pt.getD i []) (lm.getD i st.length) (ln.getD i 0)) ∧ StepsOk Rp al P ops Q FL J js fr df pt st lm ln rest (i + 1)
theorem StepsOk.nil {fr : (Nat → Value) → Array Value} {i : Nat} : StepsOk Rp al P ops Q FL J js fr df pt st lm ln [] i := trivial
theorem sc {fr : (Nat → Value) → Array Value} {o : Oper} {rest : List Oper} {i : Nat} {need : List Nat} {lim lo : Nat} (h0 : st.idxOf? i = none) (h1 : pt.getD i [] = need) (h2 : lm.getD i st.length = lim) (h3 : ln.getD i 0 = lo)
  (h : StepOk Rp al P ops Q FL J js fr df o need lim lo) (hs : StepsOk Rp al P ops Q FL J js fr df pt st lm ln rest (i + 1)) : StepsOk Rp al P ops Q FL J js fr df pt st lm ln (o :: rest) i := ⟨by rw [h0, h1, h2, h3]; exact h, hs⟩
theorem ss {fr : (Nat → Value) → Array Value} {o : Oper} {rest : List Oper} {i k : Nat} {need : List Nat} (h0 : st.idxOf? i = some k) (h1 : pt.getD i [] = need)
  (h : StoreOk al P ops Q FL J js fr df o need k) (hs : StepsOk Rp al P ops Q FL J js fr df pt st lm ln rest (i + 1)) : StepsOk Rp al P ops Q FL J js fr df pt st lm ln (o :: rest) i := ⟨by rw [h0, h1]; exact h, hs⟩
theorem steps_at {fr : (Nat → Value) → Array Value} : ∀ (l : List Oper) (i0 : Nat), StepsOk Rp al P ops Q FL J js fr df pt st lm ln l i0 → ∀ i o, l[i]? = some o → (match st.idxOf? (i0 + i) with
      | some k => StoreOk al P ops Q FL J js fr df o (pt.getD (i0 + i) []) k
      | none => StepOk Rp al P ops Q FL J js fr df o (pt.getD (i0 + i) []) (lm.getD (i0 + i) st.length) (ln.getD (i0 + i) 0)) := by
  intro l
  induction l with
  | nil => intro i0 _ i o h; simp at h
  | cons x l ih =>
    intro i0 hs i o h
    cases i with
    | zero => simp at h; subst h; exact hs.1
    | succ i =>
      have := ih (i0 + 1) hs.2 i o (by simpa using h)
      rwa [show i0 + 1 + i = i0 + (i + 1) by omega] at this
structure Inv (al : List Nat) (ops : Array Oper) (FL : List (Nat × Fact Kp)) (J : Nat → List Value → World → Prop) (js : List (List Nat)) (t0 : Array Value) (df : List Deferred) (ds : List Nat) (pt : List (List Nat)) (st : List Nat) (listed : Array Bool) (a : Act) (w : World) : Prop where
 fr : ∃ k u, a = ⟨fillL u ds t0, df⟩ ∧ (∀ d, Written ops listed d → (look FL d).p (u d) w) ∧ J k ((js.getD k []).map u) w ∧ k ≤ st.length ∧ (∀ m, m < k → listed.getD (st.getD m 0) false = true) ∧
  (∀ m, k ≤ m → m < st.length → listed.getD (st.getD m 0) false = false) ∧ (∀ d ∈ js.getD k [], Written ops listed d) ∧ (∀ d ∈ al, Written ops listed d → ∃ g, u d = .pointer (some ⟨g, 0, none⟩) ∧ g < w.heap.size) ∧
  (∀ d ∈ al, ∀ d' ∈ al, d ≠ d' → Written ops listed d → Written ops listed d' → u d ≠ u d')
 cl : ∀ i, listed.getD i false = true → ∀ d ∈ pt.getD i [], Written ops listed d
 cs : ∀ j oj, ops[j]? = some oj → listed.getD j false = true → ∀ e ∈ oj.after, Region.binds .any e = true → listed.getD e.on false = true
 sz : listed.size = ops.size
theorem inv_step (hc : Chk al ops pt ds st js lm ln) (hsz : ∀ w w' : World, Kp w w' → w.heap.size ≤ w'.heap.size) (hrk : ∀ w w' : World, Rp w w' → Kp w w') (hst : ∀ k l w w', Rp w w' → J k l w → J k l w') (hs : StepsOk Rp al P ops Q FL J js (fun u => fillL u ds t0) df pt st lm ln ops.toList 0) {listed : Array Bool} {a : Act} {w : World}
    (hI : Inv al ops FL J js t0 df ds pt st listed a w) {i : Nat} (hi : i ∈ Region.ready .any ops listed) :
    wpOp P ops Q i (Inv al ops FL J js t0 df ds pt st (listed.setIfInBounds i true)) a w := by
  obtain ⟨h0, o, ho, hall⟩ := mem_ready.1 hi
  have hlt : i < ops.size := (Array.getElem?_eq_some_iff.1 ho).1
  have hil : i < listed.size := by rw [hI.sz]; exact hlt
  have hun : listed.getD i false = false := by rw [← getD_flag hil]; exact h0
  obtain ⟨k, u, rfl, hfac, hJ, hk, hk1, hk2, hk3, hk4, hk5⟩ := hI.fr
  have hneed : ∀ d ∈ pt.getD i [], Written ops listed d := by
    intro d hd
    obtain ⟨e, he, hb, h1⟩ := hc.need i o ho d hd
    have h2 := hall e he hb
    rcases h1 with ⟨o', h3, h4⟩ | h3
    · exact ⟨e.on, o', h2, h3, h4⟩
    · exact hI.cl e.on h2 d h3
  have hstep := steps_at _ _ hs i o (by simpa using ho)
  rw [Nat.zero_add] at hstep
  have hcs : ∀ j oj, ops[j]? = some oj → (listed.setIfInBounds i true).getD j false = true → ∀ e ∈ oj.after, Region.binds .any e = true → (listed.setIfInBounds i true).getD e.on false = true := by
    intro j oj hj hl e he hb
    by_cases hij : i = j
    · subst hij
      have : oj = o := Option.some.inj (hj.symm.trans ho)
      subst this
      exact getD_set_true (hall e he hb)
    · rw [getD_set_ne false hij] at hl
      exact getD_set_true (hI.cs j oj hj hl e he hb)
  have hcl : ∀ j, (listed.setIfInBounds i true).getD j false = true → ∀ d ∈ pt.getD j [], Written ops (listed.setIfInBounds i true) d := by
    intro j hj d hd
    by_cases hij : i = j
    · subst hij; exact (hneed d hd).more
    · rw [getD_set_ne false hij] at hj
      exact (hI.cl j hj d hd).more
  have hwait : ∀ m, m < k → ∀ j, Region.waitsFor .any ops (st.getD m 0) j = true → listed.getD j false = true := by
    intro m hm j hw
    obtain ⟨oj, hoj, e, he, hb, hon⟩ := Region.waitsFor_spec hw
    rw [← hon]
    exact hI.cs _ oj hoj (hk1 m hm) e he hb
  have hwait2 : ∀ m, m < k → ∀ j, waits2 ops (st.getD m 0) j = true → listed.getD j false = true := by
    intro m hm j hw
    unfold waits2 at hw
    rw [Bool.or_eq_true] at hw
    rcases hw with hw | hw
    · exact hwait m hm j hw
    · obtain ⟨x, -, hx⟩ := List.any_eq_true.1 hw
      rw [Bool.and_eq_true] at hx
      obtain ⟨oj, hoj, e, he, hb, hon⟩ := Region.waitsFor_spec hx.2
      rw [← hon]
      exact hI.cs _ oj hoj (hwait m hm x hx.1) e he hb
  cases hsi : st.idxOf? i with
  | none =>
    rw [hsi] at hstep
    have hns : ∀ m, m < st.length → st.getD m 0 ≠ i := by
      intro m hm e
      have h1 : i ∈ st := by rw [← e]; simp [hm]
      have h2 := List.idxOf?_eq_none_iff.1 hsi
      exact h2 h1
    have hlim : k ≤ lm.getD i st.length := by
      rcases hc.lim i hlt with h1 | h1
      · omega
      · rcases Nat.lt_or_ge (lm.getD i st.length) k with h2 | h2
        · exfalso
          have h3 := hwait2 _ h2 i (by
            have e : st.getD (lm.getD i st.length) ops.size = st.getD (lm.getD i st.length) 0 := by
              have : lm.getD i st.length < st.length := by omega
              generalize lm.getD i st.length = z at *
              simp [this]
            rw [← e]; exact h1)
          rw [hun] at h3; cases h3
        · exact h2
    have hlow : ln.getD i 0 ≤ k := by
      rcases hc.low i hlt with h1 | ⟨h0, h1⟩
      · omega
      · rcases Nat.lt_or_ge k (ln.getD i 0) with h2 | h2
        · exfalso
          have h3 : listed.getD (st.getD (ln.getD i 0 - 1) 0) false = true := by
            unfold waits2 at h1
            rw [Bool.or_eq_true] at h1
            rcases h1 with h1 | h1
            · obtain ⟨oj, hoj, e, he, hb, hon⟩ := Region.waitsFor_spec h1
              have : oj = o := Option.some.inj (hoj.symm.trans ho)
              subst this
              rw [← hon]; exact hall e he hb
            · obtain ⟨x, -, hx⟩ := List.any_eq_true.1 h1
              rw [Bool.and_eq_true] at hx
              obtain ⟨oj, hoj, e, he, hb, hon⟩ := Region.waitsFor_spec hx.1
              have : oj = o := Option.some.inj (hoj.symm.trans ho)
              subst this
              have h4 := hall e he hb
              rw [hon] at h4
              obtain ⟨oj2, hoj2, e2, he2, hb2, hon2⟩ := Region.waitsFor_spec hx.2
              rw [← hon2]
              exact hI.cs _ oj2 hoj2 h4 e2 he2 hb2
          rw [hk2 (ln.getD i 0 - 1) (by omega) (by omega)] at h3
          cases h3
        · exact h2
    refine wpOp_step ho (fun K' hK => hstep k u w hlim hlow hJ (facts_mk fun d hd => hfac d (hneed d hd)) K' ?_)
    intro v w' hb hf hao
    have hwi : ∀ d, Written ops (listed.setIfInBounds i true) d → o.dst = some d ∨ Written ops listed d := by
      rintro d ⟨j, o', h1, h2, h3⟩
      by_cases hij : i = j
      · subst hij
        rw [ho] at h2
        injection h2 with h2
        subst h2
        exact .inl h3
      · rw [getD_set_ne false hij] at h1
        exact .inr ⟨j, o', h1, h2, h3⟩
    have hnw : ∀ d, o.dst = some d → ¬ Written ops listed d := by
      rintro d hd ⟨j, o', h1, h2, h3⟩
      have := hc.once i j o o' d ho h2 hd h3
      subst this
      rw [hun] at h1; cases h1
    have hne : ∀ d, o.dst ≠ some d → upd u o.dst v d = u d := by
      intro d hd
      cases h : o.dst with
      | none => rfl
      | some d' => rw [h] at hd; simp only [upd]; rw [if_neg (fun h => hd (by rw [h]))]
    have hal : ∀ d ∈ al, o.dst = some d → v = .pointer (some ⟨w.heap.size, 0, none⟩) ∧ w.heap.size < w'.heap.size := by
      intro d hd h
      unfold aOk at hao
      rw [h] at hao
      dsimp only at hao
      rw [show al.contains d = true by simpa using hd] at hao
      exact hao
    refine hK _ _ ⟨⟨k, upd u o.dst v, put_fill u o v (hc.dst i o ho), ?_, ?_, hk, fun m hm => getD_set_true (hk1 m hm), fun m hm hm' => ?_, fun d hd => (hk3 d hd).more, fun d hd hw => ?_, fun d hd d' hd' hdd hw hw' => ?_⟩, hcl, hcs, by simpa using hI.sz⟩
    · rintro d ⟨j, o', h1, h2, h3⟩
      by_cases hd : o.dst = some d
      · rw [hd] at hf ⊢
        have e : upd u (some d) v d = v := by simp [upd]
        rw [e]; exact hf
      · have hw : Written ops listed d := by
          by_cases hij : i = j
          · subst hij
            rw [ho] at h2
            injection h2 with h2
            subst h2
            exact absurd h3 hd
          · rw [getD_set_ne false hij] at h1
            exact ⟨j, o', h1, h2, h3⟩
        have e : upd u o.dst v d = u d := by
          cases h : o.dst with
          | none => rfl
          | some d' => rw [h] at hd; simp only [upd]; rw [if_neg (fun h => hd (by rw [h]))]
        rw [e]
        exact (look FL d).st _ _ _ (hrk _ _ hb) (hfac d hw)
    · have e : (js.getD k []).map (upd u o.dst v) = (js.getD k []).map u := by
        apply List.map_congr_left
        intro d hd
        cases h : o.dst with
        | none => rfl
        | some d' =>
          simp only [upd]
          rw [if_neg]
          rintro rfl
          obtain ⟨j, o', h1, h2, h3⟩ := hk3 d hd
          have := hc.once i j o o' d ho h2 h h3
          subst this
          rw [hun] at h1; cases h1
      rw [e]
      exact hst _ _ _ _ hb hJ
    · rw [getD_set_ne false (Ne.symm (hns m hm'))]; exact hk2 m hm hm'
    · by_cases h : o.dst = some d
      · obtain ⟨h1, h2⟩ := hal d hd h
        exact ⟨w.heap.size, by rw [h]; simp [upd, h1], h2⟩
      · rcases hwi d hw with h1 | h1
        · exact absurd h1 h
        · obtain ⟨g, h2, h3⟩ := hk4 d hd h1
          exact ⟨g, by rw [hne d h]; exact h2, Nat.lt_of_lt_of_le h3 (hsz _ _ (hrk _ _ hb))⟩
    · by_cases h : o.dst = some d
      · have h' : o.dst ≠ some d' := fun h2 => hdd (by rw [h] at h2; injection h2)
        rcases hwi d' hw' with h1 | h1
        · exact absurd h1 h'
        · obtain ⟨g, h2, h3⟩ := hk4 d' hd' h1
          rw [hne d' h', h2, h]
          simp only [upd, if_pos]
          rw [(hal d hd h).1]
          intro he
          simp at he <;> omega
      · rcases hwi d hw with h1 | h1
        · exact absurd h1 h
        · by_cases h' : o.dst = some d'
          · obtain ⟨g, h2, h3⟩ := hk4 d hd h1
            rw [hne d h, h2, h']
            simp only [upd, if_pos]
            rw [(hal d' hd' h').1]
            intro he
            simp at he <;> omega
          · rcases hwi d' hw' with h2 | h2
            · exact absurd h2 h'
            · rw [hne d h, hne d' h']; exact hk5 d hd d' hd' hdd h1 h2
  | some m =>
    rw [hsi] at hstep
    obtain ⟨hm, hmi, -⟩ := List.idxOf?_eq_some_iff.1 hsi
    have hmi' : st.getD m 0 = i := by simp [hm]; exact hmi
    have hmk : m = k := by
      rcases Nat.lt_trichotomy m k with h1 | h1 | h1
      · have := hk1 m h1; rw [hmi', hun] at this; cases this
      · exact h1
      · exfalso
        have h2 := hc.schain m (by omega) hm
        rw [hmi'] at h2
        obtain ⟨oj, hoj, e, he, hb, hon⟩ := Region.waitsFor_spec h2
        have : oj = o := Option.some.inj (hoj.symm.trans ho)
        subst this
        have h3 := hall e he hb
        rw [hon, hk2 (m - 1) (by omega) (by omega)] at h3
        cases h3
    subst hmk
    have hwal : ∀ d ∈ al, Written ops listed d := by
      intro d hd
      obtain ⟨j, o', h1, h2, h3⟩ := hc.alw d hd m hm
      rw [hmi'] at h3
      refine ⟨j, o', ?_, h1, h2⟩
      unfold waits2 at h3
      rw [Bool.or_eq_true] at h3
      rcases h3 with h3 | h3
      · obtain ⟨oj, hoj, e, he, hb, hon⟩ := Region.waitsFor_spec h3
        have : oj = o := Option.some.inj (hoj.symm.trans ho)
        subst this
        rw [← hon]; exact hall e he hb
      · obtain ⟨x, -, hx⟩ := List.any_eq_true.1 h3
        rw [Bool.and_eq_true] at hx
        obtain ⟨oj, hoj, e, he, hb, hon⟩ := Region.waitsFor_spec hx.1
        have : oj = o := Option.some.inj (hoj.symm.trans ho)
        subst this
        have h4 := hall e he hb
        rw [hon] at h4
        obtain ⟨oj2, hoj2, e2, he2, hb2, hon2⟩ := Region.waitsFor_spec hx.2
        rw [← hon2]
        exact hI.cs _ oj2 hoj2 h4 e2 he2 hb2
    refine wpOp_step ho (fun K' hK => hstep u w hJ (fun d hd d' hd' hdd => hk5 d hd d' hd' hdd (hwal d hd) (hwal d' hd')) (facts_mk fun d hd => hfac d (hneed d hd)) K' ?_)
    intro v w' hJ' hb hf
    have hnw : ∀ d, o.dst = some d → ¬ Written ops listed d := by
      rintro d hd ⟨j, o', h1, h2, h3⟩
      have := hc.once i j o o' d ho h2 hd h3
      subst this
      rw [hun] at h1; cases h1
    have hne : ∀ d, o.dst ≠ some d → upd u o.dst v d = u d := by
      intro d hd
      cases h : o.dst with
      | none => rfl
      | some d' => rw [h] at hd; simp only [upd]; rw [if_neg (fun h => hd (by rw [h]))]
    have hnl : ∀ d ∈ al, o.dst ≠ some d := fun d hd h => hnw d h (hwal d hd)
    refine hK _ _ ⟨⟨m + 1, upd u o.dst v, put_fill u o v (hc.dst i o ho), ?_, hJ', hm, fun j hj => ?_, fun j hj hj' => ?_, fun d hd => ?_, fun d hd hw => ?_, fun d hd d' hd' hdd hw hw' => by rw [hne d (hnl d hd), hne d' (hnl d' hd')]; exact hk5 d hd d' hd' hdd (hwal d hd) (hwal d' hd')⟩, hcl, hcs, by simpa using hI.sz⟩
    · rintro d ⟨j, o', h1, h2, h3⟩
      by_cases hd : o.dst = some d
      · rw [hd] at hf ⊢
        have e : upd u (some d) v d = v := by simp [upd]
        rw [e]; exact hf
      · have hw : Written ops listed d := by
          by_cases hij : i = j
          · subst hij
            rw [ho] at h2
            injection h2 with h2
            subst h2
            exact absurd h3 hd
          · rw [getD_set_ne false hij] at h1
            exact ⟨j, o', h1, h2, h3⟩
        rw [hne d hd]
        exact (look FL d).st _ _ _ hb (hfac d hw)
    · by_cases h1 : j = m
      · subst h1; rw [hmi']; simp [hil]
      · exact getD_set_true (hk1 j (by omega))
    · have h1 := hk2 j (by omega) hj'
      by_cases h2 : st.getD j 0 = i
      · exfalso
        have h3 : ∀ n, m ≤ n → n < st.length → i ≤ st.getD n 0 ∧ (m < n → i < st.getD n 0) := by
          intro n
          induction n with
          | zero => intro h4 h5; exact ⟨by have : m = 0 := by omega
                                           subst this; rw [hmi']; exact Nat.le_refl _, fun h => by omega⟩
          | succ n ih =>
            intro h4 h5
            by_cases h6 : m = n + 1
            · subst h6; exact ⟨by rw [hmi']; exact Nat.le_refl _, fun h => by omega⟩
            · have h7 := ih (by omega) (by omega)
              have h8 := hc.schain (n + 1) (by omega) h5
              obtain ⟨oj, hoj, e, he, hb', hon⟩ := Region.waitsFor_spec h8
              have h9 := hc.edge _ oj hoj e he hb'
              rw [hon, Nat.add_sub_cancel] at h9
              exact ⟨by omega, fun _ => by omega⟩
        have := (h3 j (by omega) hj').2 (by omega)
        omega
      · rw [getD_set_ne false (Ne.symm h2)]; exact h1
    · rcases hc.sjs m hm d hd with h1 | h1
      · rw [hmi'] at h1; exact (hneed d h1).more
      · rcases h1 with h1 | ⟨o2, h1, h2⟩
        · exact (hk3 d h1).more
        · rw [hmi'] at h1
          exact ⟨i, o2, by simp [hil], h1, h2⟩
    · obtain ⟨g, h1, h2⟩ := hk4 d hd (hwal d hd)
      exact ⟨g, by rw [hne d (hnl d hd)]; exact h1, Nat.lt_of_lt_of_le h2 (hsz _ _ hb)⟩
theorem ready_nil_all (hc : Chk al ops pt ds st js lm ln) {listed : Array Bool} (hsz : listed.size = ops.size) (hr : Region.ready .any ops listed = []) : ∀ n i, i < n → i < ops.size → listed.getD i false = true := by
 intro n
 induction n with
 | zero => intro i h; omega
 | succ n ih =>
  intro i hin hi
  have hil : i < listed.size := by omega
  cases hv : listed.getD i false with
  | true => rfl
  | false =>
   exfalso
   have ho : ops[i]? = some ops[i] := by simp [hi]
   have : i ∈ Region.ready .any ops listed := by
    rw [mem_ready]
    refine ⟨by simp [hil] at hv ⊢; exact hv, _, ho, fun e he hb => ?_⟩
    have h1 := hc.edge i _ ho e he hb
    exact ih e.on (by omega) (by omega)
   rw [hr] at this
   cases this
theorem wpAny_inv (hc : Chk al ops pt ds st js lm ln) (hsz : ∀ w w' : World, Kp w w' → w.heap.size ≤ w'.heap.size) (hrk : ∀ w w' : World, Rp w w' → Kp w w') (hst : ∀ k l w w', Rp w w' → J k l w → J k l w') (hs : StepsOk Rp al P ops Q FL J js (fun u => fillL u ds t0) df pt st lm ln ops.toList 0)
  (hend : ∀ u w, J st.length ((js.getD st.length []).map u) w → Facts FL u w ds → Q .normal ⟨fillL u ds t0, df⟩ w) :
  ∀ (fuel : Nat) (listed : Array Bool) (a : Act) (w : World), ((List.range ops.size).filter fun j => !listed.getD j true).length ≤ fuel → Inv al ops FL J js t0 df ds pt st listed a w → wpAny P .any ops Q fuel listed a w := by
 have hfin : ∀ (listed : Array Bool) (a : Act) (w : World), Inv al ops FL J js t0 df ds pt st listed a w → Region.ready .any ops listed = [] → Q .normal a w := by
  intro listed a w hI hr
  obtain ⟨k, u, rfl, hfac, hJ, hk, hk1, hk2, hk3, hk4, hk5⟩ := hI.fr
  have hall := Go.Proofs.YtompehjecamdiaaGreat.AK.ready_nil_all hc hI.sz hr
  have hkl : k = st.length := by
   rcases Nat.lt_or_ge k st.length with h | h
   ·have h1 := hk2 k (Nat.le_refl _) h
    rw [hall (st.getD k 0 + 1) _ (by omega) (hc.slt k h)] at h1
    cases h1
   ·omega
  subst hkl
  refine hend u w hJ (facts_mk fun d hd => hfac d ?_)
  obtain ⟨i, o, h1, h2⟩ := hc.wr d hd
  exact ⟨i, o, hall (i + 1) i (by omega) (Array.getElem?_eq_some_iff.1 h1).1, h1, h2⟩
 intro fuel
 induction fuel with
 | zero =>
  intro listed a w hcnt hI
  have hr : Region.ready .any ops listed = [] := by
   rw [List.eq_nil_iff_forall_not_mem]
   intro j hj
   obtain ⟨h0, o, ho, -⟩ := mem_ready.1 hj
   have hlt : j < ops.size := (Array.getElem?_eq_some_iff.1 ho).1
   have hm : j ∈ (List.range ops.size).filter fun j => !listed.getD j true := by
    rw [List.mem_filter]
    exact ⟨List.mem_range.2 hlt, by rw [h0]; rfl⟩
   have := List.length_pos_of_mem hm
   omega
  exact ⟨hr, hfin _ _ _ hI hr⟩
 | succ fuel ih =>
  intro listed a w hcnt hI
  refine ⟨fun hr => hfin _ _ _ hI hr, fun i hi => ?_⟩
  obtain ⟨h0, o, ho, -⟩ := mem_ready.1 hi
  have hlt : i < ops.size := (Array.getElem?_eq_some_iff.1 ho).1
  refine wpOp_mono (fun a' w' hI' => ih _ a' w' ?_ hI') (inv_step hc hsz hrk hst hs hI hi)
  have := filter_less (p := fun j => !listed.getD j true) (q := fun j => !(listed.setIfInBounds i true).getD j true) (i := i) (by simp only [h0]; rfl) (by
   have hil : i < listed.size := by rw [hI.sz]; exact hlt
   simp [hil]) (fun j hj => by
   by_cases hij : i = j
   ·subst hij
    exfalso
    have hil : i < listed.size := by rw [hI.sz]; exact hlt
    simp [hil] at hj
   ·rw [getD_set_ne true hij] at hj; exact hj) (List.range ops.size) (List.mem_range.2 hlt)
  omega
theorem region_facts {id : Nat} {w : World} {opl : List Oper} (FL : List (Nat × Fact Kp)) (J : Nat → List Value → World → Prop) (pt : List (List Nat)) (st : List Nat) (js : List (List Nat)) (lm ln : List Nat) (al : List Nat) {fr : (Nat → Value) → Array Value} (hfr : ∀ u, fillL u (temps FL) t0 = fr u)
  (hm : P.follows .mixedOrders = true) (hchk : chk al opl.toArray pt (temps FL) st js lm ln = true) (hsz : ∀ w w' : World, Kp w w' → w.heap.size ≤ w'.heap.size) (hrk : ∀ w w' : World, Rp w w' → Kp w w') (hst : ∀ k l w w', Rp w w' → J k l w → J k l w') (hJ : J 0 [] w.drew)
  (hs : StepsOk Rp al P opl.toArray Q FL J js fr df pt st lm ln opl 0)
  (hend : ∀ u w, J st.length ((js.getD st.length []).map u) w → Facts FL u w (temps FL) → Q .normal ⟨fr u, df⟩ w) : (Code.region id opl.toArray true).wp P Q ⟨t0, df⟩ w := by
 obtain rfl : (fun u => fillL u (temps FL) t0) = fr := funext hfr
 have hc := chk_spec hchk
 refine wp_region_any hm (wpAny_inv (t0 := t0) hc hsz hrk hst hs hend opl.toArray.size _ _ _ ?_ ⟨⟨0, fun d => t0.getD d undef, by rw [fillL_self], ?_, by rw [hc.js0]; exact hJ, Nat.zero_le _, fun m h => by omega, fun m _ _ => none_listed _ _, fun d hd => (by rw [hc.js0] at hd; cases hd), fun d _ hw => (by obtain ⟨j, o', h1, _, _⟩ := hw; rw [none_listed] at h1; cases h1), fun d _ d' _ _ hw => by obtain ⟨j, o', h1, _, _⟩ := hw; rw [none_listed] at h1; cases h1⟩, ?_, ?_, by simp⟩)
 ·exact Nat.le_trans (List.length_filter_le _ _) (by simp)
 ·rintro d ⟨j, o', h1, -, -⟩
  rw [none_listed] at h1; cases h1
 ·intro i hi
  rw [none_listed] at hi; cases hi
 ·intro j oj _ hl
  rw [none_listed] at hl; cases hl
end
end Go.Proofs.YtompehjecamdiaaGreat.AK
namespace Go.Proofs.YtompehjecamdiaaGreat
open Go.RowKit
abbrev Below0 (w w' : World) : Prop := Below w.heap.size w w'
abbrev SizeUp (w w' : World) : Prop := w.heap.size ≤ w'.heap.size
structure Only (S : Nat → Prop) (w w' : World) : Prop where
 os : w'.os = w.os
 tape : w'.tape = w.tape
 output : w'.output = w.output
 size : w.heap.size ≤ w'.heap.size
 blk : ∀ k, k < w.heap.size → ¬ S k → w'.heap[k]? = w.heap[k]?
section
variable {S T : Nat → Prop} {w w' w2 : World} {B b : Nat}
theorem Only.refl (w : World) : Only S w w := ⟨rfl, rfl, rfl, Nat.le_refl _, fun _ _ _ => rfl⟩
theorem Only.trans (h : Only S w w') (k : Only S w' w2) : Only S w w2 :=
 ⟨k.os.trans h.os, k.tape.trans h.tape, k.output.trans h.output, Nat.le_trans h.size k.size, fun i hi hs => (k.blk i (Nat.lt_of_lt_of_le hi h.size) hs).trans (h.blk i hi hs)⟩
theorem Only.of (h : Below w.heap.size w w') : Only S w w' := ⟨h.os, h.tape, h.output, h.size, fun k hk _ => h.block k hk⟩
theorem Only.drew (h : Only S w w') : Only S w w'.drew := ⟨h.os, h.tape, h.output, h.size, h.blk⟩
theorem Only.setCell (w : World) {a : Addr} (ha : S a.block) (v : Value) : Only S w (w.setCell a v) :=
 ⟨rfl, rfl, rfl, by simp [World.setCell], fun k _ hs => Below.heap_setCell _ _ _ _ (fun e => hs (e ▸ ha))⟩
theorem Only.setCells {b : Nat} (hb : S b) : ∀ (vs : List Value) (o : Nat) (w : World), Only S w (w.setCells b o vs)
 | [], _, w => Only.refl w
 | v :: r, o, w => by
  rw [World.setCells]
  exact (Only.setCell w (a := ⟨b, o, none⟩) hb v).trans (Only.setCells hb r (o + 1) _)
theorem Only.grown {row : Option Nat} (h : w.grownBy w' row) (hr : ∀ k, row = some k → S k) : Only S w w' :=
 ⟨h.os, h.tape, h.output, h.size, fun k hk hs => h.block k hk (fun e => hs (hr k e.symm))⟩
theorem Only.below (h : Only S w w') (hS : ∀ k, S k → B ≤ k) (hB : B ≤ w.heap.size) : Below B w w' :=
 ⟨h.os, h.tape, h.output, h.size, fun k hk => h.blk k (by omega) (fun hs => by have := hS k hs; omega)⟩
end
structure Wh (t : TypeId) (w : World) (b : Nat) (cs : List Value) : Prop where
 blk : w.heap[b]? = some (.cells cs.toArray t (0, 0))
section
variable {t : TypeId} {w w' : World} {b : Nat} {cs : List Value}
theorem Wh.lt (h : Wh t w b cs) : b < w.heap.size := by
 rcases Nat.lt_or_ge b w.heap.size with hlt | hge
 ·exact hlt
 ·have := h.blk; rw [Array.getElem?_eq_none hge] at this; cases this
theorem Wh.cell (h : Wh t w b cs) (i : Nat) : w.cell? ⟨b, i, none⟩ = cs[i]? := by simp [World.cell?, h.blk]
theorem Wh.at (h : Wh t w b cs) (i : Nat) (v : Value) (hv : cs[i]? = some v) : w.cell? ⟨b, i, none⟩ = some v := (h.cell i).trans hv
theorem Wh.frozen (h : Wh t w b cs) (i : Nat) : w.frozen? ⟨b, i, none⟩ = false := by simp [World.frozen?, h.blk]
theorem Wh.rg (h : Wh t w b cs) : Rg w b cs := ⟨fun j v hj => h.at j v hj, h.lt⟩
theorem Wh.range (h : Wh t w b cs) : w.rangeAt b 0 cs := fun j v hv => by rw [Nat.zero_add]; exact h.at j v hv
theorem Wh.there (h : Wh t w b cs) {o n : Nat} (hn : o + n ≤ cs.length) : w.there b o n := fun j hj => by
 constructor
 ·rw [h.cell, List.getElem?_eq_getElem (by omega)]; rfl
 ·exact h.frozen _
theorem Wh.same (h : Wh t w b cs) (hk : w'.heap[b]? = w.heap[b]?) : Wh t w' b cs := ⟨hk.trans h.blk⟩
theorem Wh.up (h : Wh t w b cs) (hb : Below w.heap.size w w') : Wh t w' b cs := h.same (hb.block b h.lt)
theorem Wh.only {S : Nat → Prop} (h : Wh t w b cs) (hb : Only S w w') (hs : ¬ S b) : Wh t w' b cs := h.same (hb.blk b h.lt hs)
theorem Wh.new (w : World) (t : TypeId) (cs : List Value) : Wh t (w.alloc (.cells cs.toArray t)) w.heap.size cs := ⟨heap_alloc_new w _⟩
theorem Wh.set (h : Wh t w b cs) (i : Nat) (v : Value) : Wh t (w.setCell ⟨b, i, none⟩ v) b (cs.set i v) := by
 refine ⟨?_⟩
 simp [World.setCell, Array.getElem?_modify, h.blk]
theorem Wh.sets : ∀ (vs : List Value) {w : World} {xs ys zs : List Value}, Wh t w b (xs ++ ys ++ zs) → vs.length = ys.length → Wh t (w.setCells b xs.length vs) b (xs ++ vs ++ zs)
 | [], w, xs, ys, zs, h, hl => by
  obtain rfl : ys = [] := List.eq_nil_of_length_eq_zero hl.symm
  exact h
 | v :: vs, w, xs, [], zs, h, hl => by simp at hl
 | v :: vs, w, xs, y :: ys, zs, h, hl => by
  rw [World.setCells]
  have h1 := h.set xs.length v
  have e1 : (xs ++ (y :: ys) ++ zs).set xs.length v = (xs ++ [v]) ++ ys ++ zs := by simp
  rw [e1] at h1
  have h2 := Wh.sets vs h1 (by simpa using hl)
  have e2 : (xs ++ [v]).length = xs.length + 1 := by simp
  rw [e2] at h2
  simpa using h2
theorem Wh.put (h : Wh t w b cs) (vs : List Value) (hl : vs.length = cs.length) : Wh t (w.setCells b 0 vs) b vs := by
 have h1 := Wh.sets (xs := []) (ys := cs) (zs := []) vs (by simpa using h) hl
 simpa using h1
end
theorem wpList_store_wh {P : Program} {ops : Array Oper} {rest : List Oper} {o : Oper} {a : Act} {w : World} {Q : Exit → Act → World → Prop} (hg : o.guard = none) (ty : TypeId) (x y : Operand) (hop : o.op = .store ty x y)
  (b : Nat) (hx : a.eval x = .pointer (some ⟨b, 0, none⟩)) (t : TypeId) (cs vs : List Value) (hy : a.eval y = .agg vs.toArray) (hw : Wh t w b cs) (hl : vs.length = cs.length)
  (hi : (P.info? ty).map (·.size) = some vs.toArray.size) (h1 : vs.toArray.all (·.oneCell') = true)
  (h : ∀ W, Hid (Wh t W b vs) → Hid (Only (fun k => k = b) w W) → W.heap.size = w.heap.size → wpList P ops Q rest (a.put o.dst undef) W) : wpList P ops Q (o :: rest) a w :=
 wpList_store_mid hg ty x y hop b 0 vs.toArray hx hy (hw.there (by simp [hl])) hi h1 (h _ (Lib.hid (hw.put vs hl)) (Lib.hid (Only.setCells (S := fun k => k = b) rfl vs 0 w)) (by
  have : ∀ (vs : List Value) (o : Nat) (w : World), (w.setCells b o vs).heap.size = w.heap.size := by
   intro vs
   induction vs with
   | nil => intro o w; rfl
   | cons v r ih => intro o w; rw [World.setCells, ih]; exact World.size_setCell _ _ _
  exact this _ _ _))
theorem only_new {w W : World} {o : Obj} (h : Only (fun k => k = w.heap.size) (w.alloc o) W) : Below w.heap.size w W :=
 (below_alloc_new o).trans (h.below (B := w.heap.size) (fun k hk => Nat.le_of_eq hk.symm) (by simp))
end Go.Proofs.YtompehjecamdiaaGreat
