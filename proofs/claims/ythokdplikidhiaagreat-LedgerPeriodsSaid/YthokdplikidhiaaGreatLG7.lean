/- Contracts of the functions that the statements reach, part 7: what was proved of each, callees first. -/
import Derived.BigQuiet
import Derived.Laws.Rows
import Derived.Deep.RegionHeldLaw
import Derived.WalkSpells
import Derived.Lib.SliceRun
import Derived.Test.YthokdplikidhiaaGreatLG6
namespace Go.Proofs.YthokdplikidhiaaGreat
open Go.RowKit
theorem allTo_and {p q : Nat → Bool} : ∀ {n : Nat}, allTo (fun i => p i && q i) n = (allTo p n && allTo q n)
 | 0 => rfl
 | n + 1 => by
  show (allTo (fun i => p i && q i) n && (p n && q n)) = ((allTo p n && p n) && (allTo q n && q n))
  rw [allTo_and]
  cases allTo p n <;> cases allTo q n <;> cases p n <;> cases q n <;> rfl
theorem allTo_all {p : Acc → Bool} {L : List Acc} : L.all p = allTo (fun i => p (L.getD i acc0)) L.length := by
 rw [Bool.eq_iff_iff, all_getD (d := acc0), allTo_is]
theorem grp_eq (g : Grp) (L : List Acc) (G : List Ent) : grpP g L G = grpR g L G := by
 have h1 : rlsB L g.R = allTo (rowR L g.R) 15 := by
  unfold rlsB
  exact allTo_and.symm
 have h2 : chaB L = (vB L true && allTo (fun i => basB (L.getD i acc0)) L.length) := by
  unfold chaB
  rw [allTo_all]
 have h3 : rlsB L g.R = true → ensP L g.R G = ensR L g.R G := fun h => by
  have hd : allTo (dsR g.R) 15 = true := by
   unfold rlsB at h
   rw [Bool.and_eq_true] at h
   exact h.2
  have he : ∀ e, enpB L g.R e = enrB L g.R e := fun e => by
   unfold enpB enrB
   congr 4
   funext i
   exact opn_eq (R_len g) hd _
  unfold ensP ensR
  congr 4
  funext i
  unfold rowP rowX
  rw [he]
 unfold grpP grpR bokR
 rw [h2, ← h1]
 cases hr : rlsB L g.R
 ·simp
 ·rw [h3 hr]
  cases curB g.cur <;> cases clV g.cy g.cm g.cp <;> cases vB L true <;> simp
theorem in_is {y m k n : Int} (h : clV y m k = true) : inB y m k n = inP y m k n := by
 have h1 := clV_iff.1 h
 have e : mno y m = 12 * y + m - 1 := rfl
 have f : pdF y m k 0 = mfst (mno y m) := by
  unfold pdF
  rw [clE_in h (by omega), if_pos rfl, Int.add_zero]
 have l : pdL y m k (k - 1) = mfst (mno y m + k) - 1 := by
  unfold pdL
  rw [clE_in h (by omega), if_pos rfl, show mno y m + (k - 1) + 1 = mno y m + k by omega]
 have b0 := mfst_bd (T := mno y m) (by omega) (by omega)
 have b1 := mfst_bd (T := mno y m + k) (by omega) (by omega)
 rw [Bool.eq_iff_iff]
 constructor
 ·intro q
  unfold inB at q
  rw [Bool.and_eq_true, decide_eq_true_eq, decide_eq_true_eq, f, l] at q
  have hv : vdB n = true := vdB_iff.2 ⟨by omega, by omega⟩
  obtain ⟨t0, t1, t2, t3⟩ := mth_is hv
  refine inP_iff.2 ⟨hv, ?_, ?_⟩
  ·rcases Int.lt_or_le (mth n) (mno y m) with c | c
   ·have := mfst_mono (S := mth n + 1) (T := mno y m) (by omega) (by omega)
    omega
   ·omega
  ·rcases Int.lt_or_le (mth n - mno y m) k with c | c
   ·exact c
   ·have := mfst_mono (S := mno y m + k) (T := mth n) (by omega) (by omega)
    omega
 ·intro q
  obtain ⟨hp, p1, p2⟩ := per_at q
  have m1 := mfst_mono (S := mno y m) (T := mno y m + (mth n - mno y m)) (by omega) (by omega)
  have m2 := mfst_mono (S := mno y m + (mth n - mno y m) + 1) (T := mno y m + k) (by omega) (by omega)
  unfold inB
  rw [Bool.and_eq_true, decide_eq_true_eq, decide_eq_true_eq, f, l]
  omega
theorem org_is (kind of_ : Int) : orgB kind of_ = (decide (1 ≤ kind) && (decide (kind ≤ 3) && orgR kind of_)) := by
 unfold orgB orgR
 by_cases h3 : kind = 3
 ·subst h3
  rfl
 ·by_cases h1 : kind = 1 ∨ kind = 2
  ·rw [if_pos h1, if_neg h3, decide_eq_true (show 1 ≤ kind by omega), decide_eq_true (show kind ≤ 3 by omega), Bool.true_and, Bool.true_and]
  ·rw [if_neg h1, if_neg h3, if_neg h3]
   rcases Int.lt_or_le kind 1 with c | c
   ·rw [decide_eq_false (show ¬ 1 ≤ kind by omega), Bool.false_and]
   ·rw [decide_eq_false (show ¬ kind ≤ 3 by omega), Bool.false_and, Bool.and_false]
theorem shp_is (g : Grp) (x : Ety) (X : List Lnk) (gp : Bool) (hl : X.length = x.n) : shpB gp g x X = ((gp && (decide (1 ≤ x.id) && (entIn g x.ent && orgB x.kind x.of_))) && (txtB x.txt && lsB g x.ent X)) := by
 unfold shpB lsB entIn
 rw [org_is, hl]
 cases gp <;> cases decide (1 ≤ x.id) <;> cases decide (0 ≤ x.ent) <;> cases decide (x.ent < (g.m : Int)) <;> cases decide (1 ≤ x.kind) <;> cases decide (x.kind ≤ 3) <;> cases orgR x.kind x.of_ <;> cases txtB x.txt <;> rfl
theorem chk_eq (g : Grp) (x : Ety) (X : List Lnk) (L : List Acc) (G : List Ent) (hl : X.length = x.n) : chkN g x X L G = rchkN (shpB (grpR g L G) g x X) (acB (G.getD x.ent.toNat ent0).L X) (rtlN g x X) := by
 have hp : prE g.cy g.cm g.cp x.day = erD (inB g.cy g.cm g.cp x.day) 0 ∨ grpR g L G = false := by
  cases h : grpR g L G
  ·exact .inr rfl
  ·refine .inl ?_
   have hc := grpR_cl h
   unfold prE erD
   rw [hc, if_pos rfl, in_is hc]
 unfold chkN hdN
 rw [shp_is g x X _ hl, grp_eq]
 have hb : (if wr (sumT X) = 0 then 0 else 11 : Int) = blN X := rfl
 unfold rtlN
 rw [hb]
 rcases hp with hp | hp
 ·rw [hp]
  generalize (grpR g L G && (decide (1 ≤ x.id) && (entIn g x.ent && orgB x.kind x.of_))) = a
  generalize txtB x.txt = b
  generalize lsB g x.ent X = c
  generalize acB (G.getD x.ent.toNat ent0).L X = d
  generalize inB g.cy g.cm g.cp x.day = e
  unfold erD rchkN fst6 erB er17
  cases a <;> cases b <;> cases c <;> cases d <;> cases e <;> simp
 ·rw [hp]
  simp [rchkN, fst6]
instance (a b : Lnk) : Decidable (a = b) :=
 if h : a.frm = b.frm ∧ a.tgt = b.tgt ∧ a.since = b.since then .isTrue (by cases a; cases b; simp at h; obtain ⟨rfl, rfl, rfl⟩ := h; rfl) else .isFalse (fun e => h (by subst e; exact ⟨rfl, rfl, rfl⟩))
set_option maxRecDepth 20000 in
set_option maxHeartbeats 1600000 in
theorem rsamel_any (A B : Option Addr) (c d : Nat) (zs ys : List Lnk) (w : World) (hz : LnkAt w A zs) (hy : LnkAt w B ys) (hl : zs.length ≤ 100000) (hl2 : ys.length ≤ 100000) :
  Calls Tryz.prog 86 #[.slice A zs.length c, .slice B ys.length d] w fun e w' => e = .returned (.bool (decide (zs = ys))) ∧ Below w.heap.size w w' := by
 have hB := Below.refl w.heap.size w
 obtain ⟨n, hn⟩ : ∃ n, zs.length = n := ⟨_, rfl⟩
 obtain ⟨m, hm⟩ : ∃ m, ys.length = m := ⟨_, rfl⟩
 rw [hn] at hl ⊢
 rw [hm] at hl2 ⊢
 by_cases hnm : n = m
 ·subst hnm
  have HN := Lib.hid hn
  have HM := Lib.hid hm
  have HZ := Lib.hid hz
  have HY := Lib.hid hy
  clear hn hm hz hy
  have hnn : ((n : Int) != (n : Int)) = false := by simp
  go_enter Tryz.func86, Tryz.ntmps86
  go_wp2_with fail
  go_loopg [5] n (fun kx s5 wr => ∃ k : Nat, s5 = .int .i64 k ∧ k ≤ n ∧ n - k ≤ kx ∧ Hid (zs.take k = ys.take k) ∧ Below w.heap.size w wr)
  case atStart => exact ⟨0, rfl, by omega, by omega, Lib.hid (by simp), hB⟩
  case round =>
   clear hB
   obtain ⟨k, rfl, hk, hkx, HT, hB⟩ := hrel
   by_cases hlt : k < n
   ·have hltz : (k : Int) < (n : Int) := by omega
    obtain ⟨b, off, rfl, hbw, hcs⟩ := HZ.out (by rw [HN.out]; omega)
    obtain ⟨b2, off2, rfl, hbw2, hcs2⟩ := HY.out (by rw [HM.out]; omega)
    obtain ⟨c0, c1, c2⟩ := (hcs k (by rw [HN.out]; exact hlt)).up hB hbw
    obtain ⟨d0, d1, d2⟩ := (hcs2 k (by rw [HM.out]; exact hlt)).up hB hbw2
    have ht1 := take_succ_getD (d := lnk0) (L := zs) (i := k) (by rw [HN.out]; exact hlt)
    have ht2 := take_succ_getD (d := lnk0) (L := ys) (i := k) (by rw [HM.out]; exact hlt)
    generalize zs.getD k lnk0 = x at *
    generalize ys.getD k lnk0 = y at *
    by_cases hxy : x = y
    ·subst hxy
     have HT2 : Hid (zs.take (k + 1) = ys.take (k + 1)) := Lib.hid (by rw [ht1, ht2, HT.out])
     clear ht1 ht2 hcs hcs2
     go_wp2_with fail
     go_quiet (fail)
     replace hB := below_drewN hB nq
     generalize World.drewN _ nq = W1 at *
     go_wp2_with fail
     go_roundg (n - (k + 1))
     case measure => omega
     case rel => exact ⟨k + 1, by go_num, by omega, by omega, HT2, hB⟩
    ·have hno : Hid (decide (zs = ys) = false) := Lib.hid (decide_eq_false fun e => by
      rw [e, ht2] at ht1
      have := List.append_cancel_left ht1
      simp at this; exact hxy this.symm)
     have hne : x.frm ≠ y.frm ∨ (x.frm = y.frm ∧ x.tgt ≠ y.tgt) ∨ (x.frm = y.frm ∧ x.tgt = y.tgt ∧ x.since ≠ y.since) := by
      by_cases h1 : x.frm = y.frm
      ·by_cases h2 : x.tgt = y.tgt
       ·exact .inr (.inr ⟨h1, h2, fun h3 => hxy (by cases x; cases y; simp at h1 h2 h3; rw [h1, h2, h3])⟩)
       ·exact .inr (.inl ⟨h1, h2⟩)
      ·exact .inl h1
     clear ht1 ht2 hcs hcs2 hxy
     rcases hne with h1 | ⟨h1, h2⟩ | ⟨h1, h2, h3⟩
     ·have q1 : (x.frm == y.frm) = false := by simp [h1]
      clear h1
      go_wp2_with fail
      go_quiet (fail)
      replace hB := below_drewN hB nq
      generalize World.drewN _ nq = W1 at *
      go_wp2_with fail
      go_ret
      exact ⟨by rw [hno.out]; rfl, hB⟩
     ·have q1 : (x.frm == y.frm) = true := by simp [h1]
      have q2 : (x.tgt == y.tgt) = false := by simp [h2]
      clear h1 h2
      go_wp2_with fail
      go_quiet (fail)
      replace hB := below_drewN hB nq
      generalize World.drewN _ nq = W1 at *
      go_wp2_with fail
      go_ret
      exact ⟨by rw [hno.out]; rfl, hB⟩
     ·have q1 : (x.frm == y.frm) = true := by simp [h1]
      have q2 : (x.tgt == y.tgt) = true := by simp [h2]
      have q3 : (x.since == y.since) = false := by simp [h3]
      clear h1 h2 h3
      go_wp2_with fail
      go_quiet (fail)
      replace hB := below_drewN hB nq
      generalize World.drewN _ nq = W1 at *
      go_wp2_with fail
      go_ret
      exact ⟨by rw [hno.out]; rfl, hB⟩
   ·obtain rfl : k = n := by omega
    have hltz : ¬ (k : Int) < (k : Int) := by omega
    have hyes : Hid (decide (zs = ys) = true) := Lib.hid (decide_eq_true (by have h := HT.out; rwa [List.take_of_length_le (by rw [HN.out]; omega), List.take_of_length_le (by rw [HM.out]; omega)] at h))
    go_wp2_with fail
    go_ret
    exact ⟨by rw [hyes.out]; rfl, hB⟩
 ·have hno : Hid (decide (zs = ys) = false) := Lib.hid (decide_eq_false fun e => hnm (by rw [← hn, ← hm, e]))
  have hnn : ((n : Int) != (m : Int)) = true := by simp; omega
  clear hn hm hz hy
  go_enter Tryz.func86, Tryz.ntmps86
  go_wp2_with fail
  go_ret
  exact ⟨by rw [hno.out]; rfl, hB⟩
def negL (l : Lnk) : Lnk := ⟨l.frm, wr (-l.tgt), l.since⟩
theorem lines_up6 {w w5 : World} {g b i1 i2 i3 j1 j2 j3 : Nat} {u1 u2 u3 v1 v2 v3 : Value} (h : w.cell? ⟨g, i1, none⟩ = some u1 ∧ w.cell? ⟨g, i2, none⟩ = some u2 ∧ w.cell? ⟨g, i3, none⟩ = some u3 ∧ w.cell? ⟨b, j1, none⟩ = some v1 ∧ w.cell? ⟨b, j2, none⟩ = some v2 ∧ w.cell? ⟨b, j3, none⟩ = some v3)
  (hb : Below w.heap.size w w5) (hg : g < w.heap.size) (hbb : b < w.heap.size) : w5.cell? ⟨g, i1, none⟩ = some u1 ∧ w5.cell? ⟨g, i2, none⟩ = some u2 ∧ w5.cell? ⟨g, i3, none⟩ = some u3 ∧ w5.cell? ⟨b, j1, none⟩ = some v1 ∧ w5.cell? ⟨b, j2, none⟩ = some v2 ∧ w5.cell? ⟨b, j3, none⟩ = some v3 := by
 obtain ⟨h1, h2, h3, h4, h5, h6⟩ := h
 exact ⟨(hb.cell (p := ⟨g, i1, none⟩) hg).trans h1, (hb.cell (p := ⟨g, i2, none⟩) hg).trans h2, (hb.cell (p := ⟨g, i3, none⟩) hg).trans h3, (hb.cell (p := ⟨b, j1, none⟩) hbb).trans h4, (hb.cell (p := ⟨b, j2, none⟩) hbb).trans h5, (hb.cell (p := ⟨b, j3, none⟩) hbb).trans h6⟩
set_option maxRecDepth 20000 in
set_option maxHeartbeats 1600000 in
theorem eneg_any (x : Lnk) (w : World) : Calls Tryz.prog 143 #[lnkV x] w fun e w' => e = .returned (lnkV (negL x)) ∧ Below w.heap.size w w' := by
 obtain ⟨x1, x2, x3⟩ := x
 have HB := below_new (below_alloc_new (w := w) (.cells #[.int .i64 x1, .int .i64 (wrap64 (-x2)), .int .i64 x3] 59)) (.cells #[.int .i64 x1, .int .i64 (wrap64 (-x2)), .int .i64 x3] 59)
 have hnew : ((w.alloc (.cells #[.int .i64 x1, .int .i64 (wrap64 (-x2)), .int .i64 x3] 59)).alloc (.cells #[.int .i64 x1, .int .i64 (wrap64 (-x2)), .int .i64 x3] 59)).heap[w.heap.size + 1]? = some (.cells #[.int .i64 x1, .int .i64 (wrap64 (-x2)), .int .i64 x3] 59 (0, 0)) := by
  have := heap_alloc_new (w.alloc (.cells #[.int .i64 x1, .int .i64 (wrap64 (-x2)), .int .i64 x3] 59)) (.cells #[.int .i64 x1, .int .i64 (wrap64 (-x2)), .int .i64 x3] 59)
  rwa [World.size_alloc] at this
 have HN : negL ⟨x1, x2, x3⟩ = ⟨x1, wrap64 (-x2), x3⟩ := rfl
 rw [HN]
 clear HN
 go_enter Tryz.func143, Tryz.ntmps143
 go_wp2_with fail
 exact bodyPost_ret (v := lnkV ⟨x1, wrap64 (-x2), x3⟩) (results_cell_row Tryz.results143 _ _ (w.heap.size + 1) _ _ _ _ rfl hnew Tryz.underlying59 rfl (by kernel_rfl)) rfl ⟨rfl, HB⟩
set_option maxRecDepth 20000 in
set_option maxHeartbeats 1600000 in
theorem eopp1_any (x y : Lnk) (w : World) : Calls Tryz.prog 142 #[lnkV x, lnkV y] w fun e w' => e = .returned (.bool (decide (x = negL y))) ∧ Below w.heap.size w w' := by
 have HB := Lib.hid (below_new (below_alloc_new (w := w) (.cells #[.int .i64 x.frm, .int .i64 x.tgt, .int .i64 x.since] 59)) (.cells #[.int .i64 y.frm, .int .i64 y.tgt, .int .i64 y.since] 59))
 have hx := (lb_new w 59 x).up (below_alloc_new (.cells #[.int .i64 y.frm, .int .i64 y.tgt, .int .i64 y.since] 59))
 have hy := lb_new (w.alloc (.cells #[.int .i64 x.frm, .int .i64 x.tgt, .int .i64 x.since] 59)) 59 y
 rw [World.size_alloc] at hy
 have HN := Lib.hid (fun w => eneg_any y w)
 have hneg : (negL y).frm = y.frm ∧ (negL y).since = y.since := ⟨rfl, rfl⟩
 generalize hw2 : (w.alloc (.cells #[.int .i64 x.frm, .int .i64 x.tgt, .int .i64 x.since] 59)).alloc (.cells #[.int .i64 y.frm, .int .i64 y.tgt, .int .i64 y.since] 59) = w2 at *
 obtain ⟨⟨c0, c1, c2⟩, hgl⟩ := hx
 obtain ⟨⟨d0, d1, d2⟩, hbl⟩ := hy
 simp only [Nat.zero_add] at c0 c1 c2 d0 d1 d2
 have hS0 : w2.drew.cell? ⟨w.heap.size, 0, none⟩ = some (.int .i64 x.frm) ∧ w2.drew.cell? ⟨w.heap.size, 1, none⟩ = some (.int .i64 x.tgt) ∧ w2.drew.cell? ⟨w.heap.size, 2, none⟩ = some (.int .i64 x.since) ∧ w2.drew.cell? ⟨w.heap.size + 1, 0, none⟩ = some (.int .i64 y.frm) ∧ w2.drew.cell? ⟨w.heap.size + 1, 1, none⟩ = some (.int .i64 y.tgt) ∧ w2.drew.cell? ⟨w.heap.size + 1, 2, none⟩ = some (.int .i64 y.since) := ⟨c0, c1, c2, d0, d1, d2⟩
 clear hneg
 generalize negL y = z at *
 have HW := Lib.hid hw2
 by_cases hxz : x = z
 ·subst hxz
  have E : decide (x = x) = true := by simp
  go_enter Tryz.func142, Tryz.ntmps142
  go_wp2_with fail
  go_region_held_law (fun w' => w'.cell? ⟨w.heap.size, 0, none⟩ = some (.int .i64 x.frm) ∧ w'.cell? ⟨w.heap.size, 1, none⟩ = some (.int .i64 x.tgt) ∧ w'.cell? ⟨w.heap.size, 2, none⟩ = some (.int .i64 x.since) ∧ w'.cell? ⟨w.heap.size + 1, 0, none⟩ = some (.int .i64 y.frm) ∧ w'.cell? ⟨w.heap.size + 1, 1, none⟩ = some (.int .i64 y.tgt) ∧ w'.cell? ⟨w.heap.size + 1, 2, none⟩ = some (.int .i64 y.since)) (first | exact hS5 | exact hS0 | go_keep)
   ((go_at_call 143; refine (HN.out _).mono ?_; rintro e w5 ⟨rfl, hb5⟩; have hS5 := lines_up6 hS0 hb5 hgl hbl))
  have HB5 := Lib.hid ((dc_drew HB.out).trans (hb5.mono (by have := HB.out.size; exact this)))
  go_wp2_with fail
  go_ret
  exact ⟨by first | (simp; done) | (rw [E]; rfl), HB5.out⟩
 ·have hno : Hid (decide (x = z) = false) := Lib.hid (decide_eq_false hxz)
  have hne : x.frm ≠ z.frm ∨ (x.frm = z.frm ∧ x.tgt ≠ z.tgt) ∨ (x.frm = z.frm ∧ x.tgt = z.tgt ∧ x.since ≠ z.since) := by
   by_cases h1 : x.frm = z.frm
   ·by_cases h2 : x.tgt = z.tgt
    ·exact .inr (.inr ⟨h1, h2, fun h3 => hxz (by cases x; cases z; simp at h1 h2 h3; rw [h1, h2, h3])⟩)
    ·exact .inr (.inl ⟨h1, h2⟩)
   ·exact .inl h1
  clear hxz
  rcases hne with h1 | ⟨h1, h2⟩ | ⟨h1, h2, h3⟩
  ·have q1 : (x.frm == z.frm) = false := by simp [h1]
   clear h1
   go_enter Tryz.func142, Tryz.ntmps142
   go_wp2_with fail
   go_region_held_law (fun w' => w'.cell? ⟨w.heap.size, 0, none⟩ = some (.int .i64 x.frm) ∧ w'.cell? ⟨w.heap.size, 1, none⟩ = some (.int .i64 x.tgt) ∧ w'.cell? ⟨w.heap.size, 2, none⟩ = some (.int .i64 x.since) ∧ w'.cell? ⟨w.heap.size + 1, 0, none⟩ = some (.int .i64 y.frm) ∧ w'.cell? ⟨w.heap.size + 1, 1, none⟩ = some (.int .i64 y.tgt) ∧ w'.cell? ⟨w.heap.size + 1, 2, none⟩ = some (.int .i64 y.since)) (first | exact hS5 | exact hS0 | go_keep)
    ((go_at_call 143; refine (HN.out _).mono ?_; rintro e w5 ⟨rfl, hb5⟩; have hS5 := lines_up6 hS0 hb5 hgl hbl))
   have HB5 := Lib.hid ((dc_drew HB.out).trans (hb5.mono (by have := HB.out.size; exact this)))
   go_wp2_with fail
   go_ret
   exact ⟨by first | (simp; done) | (rw [hno.out]; rfl), HB5.out⟩
  ·have q1 : (x.frm == z.frm) = true := by simp [h1]
   have q2 : (x.tgt == z.tgt) = false := by simp [h2]
   clear h1 h2
   go_enter Tryz.func142, Tryz.ntmps142
   go_wp2_with fail
   go_region_held_law (fun w' => w'.cell? ⟨w.heap.size, 0, none⟩ = some (.int .i64 x.frm) ∧ w'.cell? ⟨w.heap.size, 1, none⟩ = some (.int .i64 x.tgt) ∧ w'.cell? ⟨w.heap.size, 2, none⟩ = some (.int .i64 x.since) ∧ w'.cell? ⟨w.heap.size + 1, 0, none⟩ = some (.int .i64 y.frm) ∧ w'.cell? ⟨w.heap.size + 1, 1, none⟩ = some (.int .i64 y.tgt) ∧ w'.cell? ⟨w.heap.size + 1, 2, none⟩ = some (.int .i64 y.since)) (first | exact hS5 | exact hS0 | go_keep)
    ((go_at_call 143; refine (HN.out _).mono ?_; rintro e w5 ⟨rfl, hb5⟩; have hS5 := lines_up6 hS0 hb5 hgl hbl))
   have HB5 := Lib.hid ((dc_drew HB.out).trans (hb5.mono (by have := HB.out.size; exact this)))
   go_wp2_with fail
   go_ret
   exact ⟨by first | (simp; done) | (rw [hno.out]; rfl), HB5.out⟩
  ·have q1 : (x.frm == z.frm) = true := by simp [h1]
   have q2 : (x.tgt == z.tgt) = true := by simp [h2]
   have q3 : (x.since == z.since) = false := by simp [h3]
   clear h1 h2 h3
   go_enter Tryz.func142, Tryz.ntmps142
   go_wp2_with fail
   go_region_held_law (fun w' => w'.cell? ⟨w.heap.size, 0, none⟩ = some (.int .i64 x.frm) ∧ w'.cell? ⟨w.heap.size, 1, none⟩ = some (.int .i64 x.tgt) ∧ w'.cell? ⟨w.heap.size, 2, none⟩ = some (.int .i64 x.since) ∧ w'.cell? ⟨w.heap.size + 1, 0, none⟩ = some (.int .i64 y.frm) ∧ w'.cell? ⟨w.heap.size + 1, 1, none⟩ = some (.int .i64 y.tgt) ∧ w'.cell? ⟨w.heap.size + 1, 2, none⟩ = some (.int .i64 y.since)) (first | exact hS5 | exact hS0 | go_keep)
    ((go_at_call 143; refine (HN.out _).mono ?_; rintro e w5 ⟨rfl, hb5⟩; have hS5 := lines_up6 hS0 hb5 hgl hbl))
   have HB5 := Lib.hid ((dc_drew HB.out).trans (hb5.mono (by have := HB.out.size; exact this)))
   go_wp2_with fail
   go_ret
   exact ⟨by first | (simp; done) | (rw [hno.out]; rfl), HB5.out⟩
def oppB (X Y : List Lnk) : Bool := decide (X = Y.map negL)
set_option maxRecDepth 20000 in
set_option maxHeartbeats 1600000 in
theorem eeqf_any (A B : Option Addr) (c d : Nat) (X Y : List Lnk) (w : World) (hz : LnkAt w A X) (hy : LnkAt w B Y) (hl : X.length ≤ 100000) (hl2 : Y.length ≤ 100000) :
  Calls Tryz.prog 141 #[.slice A X.length c, .slice B Y.length d, .func (.func 142) #[] #[]] w fun e w' => e = .returned (.bool (oppB X Y)) ∧ Below w.heap.size w w' := by
 have hB := Below.refl w.heap.size w
 obtain ⟨n, hn⟩ : ∃ n, X.length = n := ⟨_, rfl⟩
 obtain ⟨m, hm⟩ : ∃ m, Y.length = m := ⟨_, rfl⟩
 rw [hn] at hl ⊢
 rw [hm] at hl2 ⊢
 by_cases hnm : n = m
 ·subst hnm
  have HN := Lib.hid hn
  have HM := Lib.hid hm
  have HZ := Lib.hid hz
  have HY := Lib.hid hy
  clear hn hm hz hy
  have hnn : ((n : Int) != (n : Int)) = false := by simp
  go_enter Tryz.func141, Tryz.ntmps141
  go_wp2_with fail
  go_loopg [17] n (fun kx s17 wr => ∃ k : Nat, s17 = .int .i64 k ∧ k ≤ n ∧ n - k ≤ kx ∧ Hid (X.take k = (Y.take k).map negL) ∧ Below w.heap.size w wr)
  case atStart => exact ⟨0, rfl, by omega, by omega, Lib.hid rfl, hB⟩
  case round =>
   clear hB
   obtain ⟨k, rfl, hk, hkx, HT, hB⟩ := hrel
   by_cases hlt : k < n
   ·have hltz : (k : Int) < (n : Int) := by omega
    obtain ⟨b, off, rfl, hbw, hcs⟩ := HZ.out (by rw [HN.out]; omega)
    obtain ⟨b2, off2, rfl, hbw2, hcs2⟩ := HY.out (by rw [HM.out]; omega)
    have ht1 := take_succ_getD (d := lnk0) (L := X) (i := k) (by rw [HN.out]; exact hlt)
    have ht2 := take_succ_getD (d := lnk0) (L := Y) (i := k) (by rw [HM.out]; exact hlt)
    obtain ⟨c0, c1, c2⟩ := (hcs k (by rw [HN.out]; exact hlt)).up hB hbw
    have hd2 := (hcs2 k (by rw [HM.out]; exact hlt)).up hB hbw2
    generalize X.getD k lnk0 = x at *
    generalize Y.getD k lnk0 = y at *
    obtain ⟨w1, hw1⟩ : ∃ w1, wr.alloc (.cells #[.int .i64 x.frm, .int .i64 x.tgt, .int .i64 x.since] 59) = w1 := ⟨_, rfl⟩
    have hbr2 : b2 < wr.heap.size := Nat.lt_of_lt_of_le hbw2 hB.size
    obtain ⟨d0, d1, d2⟩ : L3 w1 b2 (off2 + k * 3) y := by rw [← hw1]; exact hd2.up (below_alloc_new _) hbr2
    have hs1 : w1.heap.size = wr.heap.size + 1 := by rw [← hw1]; simp
    have hlx : LB w1 wr.heap.size x := by rw [← hw1]; exact lb_new wr _ x
    obtain ⟨w2, hw2⟩ : ∃ w2, w1.alloc (.cells #[.int .i64 y.frm, .int .i64 y.tgt, .int .i64 y.since] 59) = w2 := ⟨_, rfl⟩
    obtain ⟨⟨e0, e1, e2⟩, -⟩ : LB w2 wr.heap.size x := by rw [← hw2]; exact hlx.up (below_alloc_new _)
    obtain ⟨⟨g0, g1, g2⟩, -⟩ : LB w2 w1.heap.size y := by rw [← hw2]; exact lb_new w1 _ y
    simp only [Nat.zero_add] at e0 e1 e2 g0 g1 g2
    have HB2 : Hid (Below w.heap.size w w2) := Lib.hid (by rw [← hw2, ← hw1]; exact below_new (below_new hB _) _)
    have HC := Lib.hid (eopp1_any x y w2)
    by_cases hxy : x = negL y
    ·have HT2 : Hid (X.take (k + 1) = (Y.take (k + 1)).map negL) := Lib.hid (by rw [ht1, ht2, List.map_append, List.map_cons, List.map_nil, ← hxy, HT.out])
     have hde : decide (x = negL y) = true := decide_eq_true hxy
     rw [hde] at HC
     clear ht1 ht2 hcs hcs2 hxy hd2 hlx hs1 hde
     go_wp2_with (go_at_call 142; refine HC.out.mono ?_; rintro e w5 ⟨rfl, hb5⟩; have HB5 := Lib.hid (below_more HB2.out hb5); clear hb5)
     go_roundg (n - (k + 1))
     case measure => omega
     case rel => exact ⟨k + 1, by go_num, by omega, by omega, HT2, HB5.out⟩
    ·have hno : Hid (oppB X Y = false) := Lib.hid (decide_eq_false fun e => by
      have h9 := congrArg (List.take (k + 1)) e
      rw [← List.map_take, ht1, ht2, List.map_append, HT.out] at h9
      have := List.append_cancel_left h9
      simp at this; exact hxy this)
     have hde : decide (x = negL y) = false := decide_eq_false hxy
     rw [hde] at HC
     clear ht1 ht2 hcs hcs2 hxy hd2 hlx hs1 hde
     go_wp2_with (go_at_call 142; refine HC.out.mono ?_; rintro e w5 ⟨rfl, hb5⟩; have HB5 := Lib.hid (below_more HB2.out hb5); clear hb5)
     go_ret
     exact ⟨by rw [hno.out]; rfl, HB5.out⟩
   ·obtain rfl : k = n := by omega
    have hltz : ¬ (k : Int) < (k : Int) := by omega
    have hyes : Hid (oppB X Y = true) := Lib.hid (decide_eq_true (by have h := HT.out; rwa [List.take_of_length_le (by rw [HN.out]; omega), List.take_of_length_le (by rw [HM.out]; omega)] at h))
    go_wp2_with fail
    go_ret
    exact ⟨by rw [hyes.out]; rfl, hB⟩
 ·have hno : Hid (oppB X Y = false) := Lib.hid (decide_eq_false fun e => hnm (by rw [← hn, ← hm, e, List.length_map]))
  have hnn : ((n : Int) != (m : Int)) = true := by simp; omega
  clear hn hm hz hy
  go_enter Tryz.func141, Tryz.ntmps141
  go_wp2_with fail
  go_ret
  exact ⟨by rw [hno.out]; rfl, hB⟩
theorem eopp_any (A B : Option Addr) (c d : Nat) (X Y : List Lnk) (w : World) (hz : LnkAt w A X) (hy : LnkAt w B Y) (hl : X.length ≤ 100000) (hl2 : Y.length ≤ 100000) :
  Calls Tryz.prog 121 #[.slice A X.length c, .slice B Y.length d] w fun e w' => e = .returned (.bool (oppB X Y)) ∧ Below w.heap.size w w' := by
 have HC := Lib.hid (eeqf_any A B c d X Y w hz hy hl hl2)
 generalize oppB X Y = r at *
 generalize X.length = n at *
 generalize Y.length = m at *
 go_enter Tryz.func121, Tryz.ntmps121
 go_wp2_with (go_at_call 141; refine HC.out.mono ?_; rintro e w5 ⟨rfl, hb5⟩)
 go_ret
 exact ⟨rfl, hb5⟩
set_option maxRecDepth 20000 in
set_option maxHeartbeats 1600000 in
theorem ropp_any (A B : Option Addr) (c d : Nat) (X Y : List Lnk) (w : World) (hz : LnkAt w A X) (hy : LnkAt w B Y) (hl : X.length ≤ 100000) (hl2 : Y.length ≤ 100000) :
  Calls Tryz.prog 60 #[.slice A X.length c, .slice B Y.length d] w fun e w' => e = .returned (.bool (oppB X Y)) ∧ Below w.heap.size w w' := by
 have hB := Below.refl w.heap.size w
 have HC := Lib.hid (fun W (E : Option Addr) (cE : Nat) (h : LnkAt W A X) (h2 : LnkAt W E (Y.map negL)) => rsamel_any A E c cE X (Y.map negL) W h h2 hl (by rw [List.length_map]; exact hl2))
 obtain ⟨i0, hi, hz1, hz2, hz3⟩ := info_parts infoLn
 obtain ⟨n, hn⟩ : ∃ n, X.length = n := ⟨_, rfl⟩
 obtain ⟨m, hm⟩ : ∃ m, Y.length = m := ⟨_, rfl⟩
 rw [List.length_map, hm] at HC
 rw [hn] at hl HC ⊢
 rw [hm] at hl2 ⊢
 have HM := Lib.hid hm
 have HZ := Lib.hid hz
 have HY := Lib.hid hy
 have hopp : decide (X = Y.map negL) = oppB X Y := rfl
 rw [hopp] at HC
 clear hn hm hz hy hopp
 go_enter Tryz.func60, Tryz.ntmps60
 go_wp2_with fail
 go_loopg [5, 6] m (fun kx s5 s6 wr => ∃ k : Nat, s6 = .int .i64 k ∧ k ≤ m ∧ m - k ≤ kx ∧ Hid (OwnL 59 wr w.heap.size s5 ((Y.take k).map negL)) ∧ Below w.heap.size w wr)
 case atStart => exact ⟨0, rfl, by omega, by omega, Lib.hid OwnL.nil, hB⟩
 case round =>
  clear hB
  obtain ⟨k, rfl, hk, hkx, HO, hB⟩ := hrel
  by_cases hlt : k < m
  ·have hltz : (k : Int) < (m : Int) := by omega
   obtain ⟨b2, off2, rfl, hbw2, hcs2⟩ := HY.out (by rw [HM.out]; omega)
   have ht2 := take_succ_getD (d := lnk0) (L := Y) (i := k) (by rw [HM.out]; exact hlt)
   obtain ⟨c0, c1, c2⟩ := (hcs2 k (by rw [HM.out]; exact hlt)).up hB hbw2
   have hst : (Y.take (k + 1)).map negL = (Y.take k).map negL ++ [negL (Y.getD k lnk0)] := by rw [ht2, List.map_append]; rfl
   have hln : ((Y.take k).map negL).length ≤ 100000000 := by rw [List.length_map, List.length_take]; omega
   generalize Y.getD k lnk0 = y at *
   obtain ⟨y1, y2, y3⟩ := y
   have hng : negL ⟨y1, y2, y3⟩ = ⟨y1, wrap64 (-y2), y3⟩ := rfl
   rw [hng] at hst
   dsimp only at c0 c1 c2
   have HST := Lib.hid hst
   have HLN := Lib.hid hln
   have hsz : w.heap.size ≤ wr.heap.size := hB.size
   have HSZ := Lib.hid hsz
   have HB1 : Hid (Below w.heap.size w (wr.alloc (.cells #[.int .i64 y1, .int .i64 (wrap64 (-y2)), .int .i64 y3] 59))) := Lib.hid (hB.alloc hsz _)
   have HO1 : Hid (OwnL 59 (wr.alloc (.cells #[.int .i64 y1, .int .i64 (wrap64 (-y2)), .int .i64 y3] 59)) w.heap.size u5 ((Y.take k).map negL)) := Lib.hid (HO.out.alloc _)
   clear hst hln hng hcs2 ht2 hB HO
   go_wp2_with (at_builtin; refine wpList_append_lk _ rfl (.tmp 22) (.tmp 24) 44 rfl w.heap.size 59 i0 24 Tryz.underlying44 hi hz1 hz2 hz3 (by omega) u5 _ (by rfl) HO1.out ⟨y1, wrap64 (-y2), y3⟩ _ 1 (by simp) rfl HLN.out (by have := HSZ.out; simp; omega) ?_; intro v5 w5 ho5 hg5 hl5 hb5)
   have HO5 : Hid (OwnL 59 w5 w.heap.size v5 ((Y.take (k + 1)).map negL)) := Lib.hid (by rw [HST.out]; exact ho5.out)
   have HB5 := Lib.hid (HB1.out.trans hb5)
   clear ho5 hg5 hl5 hb5 HO1 HST
   go_roundg (m - (k + 1))
   case measure => omega
   case rel => exact ⟨k + 1, by go_num, by omega, by omega, HO5, HB5.out⟩
  ·obtain rfl : k = m := by omega
   have hltz : ¬ (k : Int) < (k : Int) := by omega
   have hO9 := HO.out
   rw [show Y.take k = Y by rw [← HM.out, List.take_length]] at hO9
   obtain ⟨E, cE, rfl, hat⟩ := hO9.reads
   have HAT := Lib.hid hat
   have HL : Hid ((Y.map negL).length = k) := Lib.hid (by rw [List.length_map, HM.out])
   rw [HL.out]
   have HB := Lib.hid hB
   clear hat hO9 HO hB
   go_wp2_with (go_at_call 86; refine (HC.out _ E cE (HZ.out.up HB.out) HAT.out).mono ?_; rintro e w5 ⟨rfl, hb5⟩)
   go_ret
   exact ⟨rfl, below_more HB.out hb5⟩
open Go.RowKit Go.Maps
structure PE where
 id : Int
 ent : Int
 day : Int
 kind : Int
 of_ : Int
 txt : ByteArray
 ls : List Lnk
abbrev Etl := Ety × List Lnk
def pe (p : Etl) : PE := ⟨p.1.id, p.1.ent, p.1.day, p.1.kind, p.1.of_, p.1.txt, p.2⟩
def idxP (Es : List PE) (id : Int) : Nat := Es.findIdx fun e => decide (e.id = id)
def getP (Es : List PE) (id : Int) : Int := if idxP Es id < Es.length then (idxP Es id : Int) else -1
def isRv (id : Int) (e : PE) : Bool := decide (e.kind = 3) && decide (e.of_ = id)
def revO (Es : List PE) (id : Int) : Option PE := Es.find? (isRv id)
def revP (Es : List PE) (id : Int) : Int := match revO Es id with | some e => e.id | none => 0
def rvE (Es : List PE) (x : PE) : Int := if x.kind = 3 then (match Es[idxP Es x.of_]? with
 | none => 8
 | some e => if (decide (e.kind = 3) || decide (revP Es x.of_ ≠ 0)) = true then 7 else if (decide (e.ent ≠ x.ent) || (decide (x.day < e.day) || !oppB x.ls e.ls)) = true then 18 else 0) else 0
def fst4 (a b c d : Int) : Int := if a = 0 then (if b = 0 then (if c = 0 then d else c) else b) else a
def postE (c : Int) (Es : List PE) (x : PE) : Int := fst4 c (if idxP Es x.id < Es.length then 9 else 0) (rvE Es x) (if 2000 ≤ Es.length then 6 else 0)
theorem idxP_some {Es : List PE} {id : Int} (h : idxP Es id < Es.length) : ∃ e, Es[idxP Es id]? = some e ∧ e.id = id := by
 refine ⟨Es[idxP Es id], List.getElem?_eq_getElem h, ?_⟩
 have h2 : Es.findIdx (fun e : PE => decide (e.id = id)) < Es.length := h
 have := List.findIdx_getElem (p := fun e : PE => decide (e.id = id)) (xs := Es) (w := h2)
 exact of_decide_eq_true this
theorem idxP_snoc (Es : List PE) (x : PE) (id : Int) : idxP (Es ++ [x]) id = if idxP Es id < Es.length then idxP Es id else if x.id = id then Es.length else Es.length + 1 := by
 unfold idxP
 rw [List.findIdx_append]
 split
 ·rfl
 ·rename_i h
  have h1 : Es.findIdx (fun e => decide (e.id = id)) = Es.length := Nat.le_antisymm List.findIdx_le_length (Nat.le_of_not_lt h)
  by_cases h2 : x.id = id
  ·simp [h2, List.findIdx_cons]
  ·simp [h2, List.findIdx_cons]; omega
theorem revO_snoc (Es : List PE) (x : PE) (id : Int) : revO (Es ++ [x]) id = (revO Es id).or (if isRv id x = true then some x else none) := by
 unfold revO
 rw [List.find?_append]
 congr 1
 by_cases h : isRv id x = true <;> simp [h]
structure GoodP (Es : List PE) : Prop where
 pos : ∀ e ∈ Es, 1 ≤ e.id
 wf : ∀ e ∈ Es, (Lit.int .i64 e.id).wf = true
 ln : ∀ e ∈ Es, e.ls.length ≤ 1000
theorem revP_ne {Es : List PE} (h : GoodP Es) (id : Int) : (revP Es id ≠ 0) ↔ (revO Es id).isSome = true := by
 unfold revP
 cases hr : revO Es id with
 | none => simp
 | some e =>
  have := h.pos e (List.mem_of_find?_eq_some hr)
  simp
  omega
def idxF (Es : List PE) (id : Int) : Option Value := if idxP Es id < Es.length then some (.int .i64 (idxP Es id : Nat)) else none
def revF (Es : List PE) (id : Int) : Option Value := (revO Es id).map fun e => .int .i64 e.id
theorem idxF_snoc {Es : List PE} {x : PE} (h : ¬ idxP Es x.id < Es.length) (c : Int) : idxF (Es ++ [x]) c = if c = x.id then some (.int .i64 (Es.length : Nat)) else idxF Es c := by
 unfold idxF
 rw [idxP_snoc, List.length_append, List.length_singleton]
 by_cases hc : c = x.id
 ·subst hc
  rw [if_neg h, if_pos rfl, if_pos rfl, if_pos (by omega)]
 ·rw [if_neg hc]
  by_cases h1 : idxP Es c < Es.length
  ·rw [if_pos h1, if_pos h1, if_pos (by omega)]
  ·have e1 : (if idxP Es c < Es.length then idxP Es c else if x.id = c then Es.length else Es.length + 1) = Es.length + 1 := by rw [if_neg h1, if_neg (fun e => hc e.symm)]
   rw [e1, if_neg (by omega), if_neg h1]
theorem revF_snoc {Es : List PE} {x : PE} (hk : x.kind = 3) (h : revO Es x.of_ = none) (c : Int) : revF (Es ++ [x]) c = if c = x.of_ then some (.int .i64 x.id) else revF Es c := by
 unfold revF
 rw [revO_snoc]
 by_cases hc : c = x.of_
 ·subst hc
  rw [h, if_pos rfl]
  simp [isRv, hk]
 ·rw [if_neg hc]
  have : isRv c x = false := by simp [isRv, hk]; exact fun e => hc e.symm
  rw [this]
  simp
theorem revF_same {Es : List PE} {x : PE} (hk : x.kind ≠ 3) (c : Int) : revF (Es ++ [x]) c = revF Es c := by
 unfold revF
 rw [revO_snoc]
 have : isRv c x = false := by simp [isRv, hk]
 rw [this]
 simp
theorem fst4_zero {a b c d : Int} (h : fst4 a b c d = 0) : a = 0 ∧ b = 0 ∧ c = 0 ∧ d = 0 := by
 unfold fst4 at h
 by_cases h0 : a = 0
 ·by_cases h1 : b = 0
  ·by_cases h2 : c = 0
   ·rw [if_pos h0, if_pos h1, if_pos h2] at h; exact ⟨h0, h1, h2, h⟩
   ·rw [if_pos h0, if_pos h1, if_neg h2] at h; exact absurd h h2
  ·rw [if_pos h0, if_neg h1] at h; exact absurd h h1
 ·rw [if_neg h0] at h; exact absurd h h0
theorem postE_zero {c : Int} {Es : List PE} {x : PE} (hg : GoodP Es) (h : postE c Es x = 0) : c = 0 ∧ ¬ idxP Es x.id < Es.length ∧ (x.kind = 3 → revO Es x.of_ = none) := by
 obtain ⟨h0, h1, h2, -⟩ := fst4_zero h
 refine ⟨h0, (fun h3 => by rw [if_pos h3] at h1; cases h1), fun hk => ?_⟩
 unfold rvE at h2
 rw [if_pos hk] at h2
 split at h2
 ·cases h2
 ·split at h2
  ·cases h2
  ·rename_i h4
   cases hr : revO Es x.of_ with
   | none => rfl
   | some e =>
    exfalso
    have := (revP_ne hg x.of_).2 (by rw [hr]; rfl)
    simp [this] at h4
def EtysK (w : World) (Xs : List Etl) : Prop := ∀ p ∈ Xs, EtyK w p.1 p.2
theorem EtysK.up {w w' : World} {Xs : List Etl} (h : EtysK w Xs) (hb : Below w.heap.size w w') : EtysK w' Xs := fun p hp => (h p hp).up hb
structure JD where
 b : Nat
 g : Grp
 L : List Acc
 G : List Ent
 A : Option Addr
 n : Nat
 c : Nat
 Xs : List Etl
 bi : Nat
 br : Nat
def JD.Es (j : JD) : List PE := j.Xs.map pe
def JC (j : JD) : List Value := grpC j.g ++ [.slice j.A j.n j.c, .map (some j.bi), .map (some j.br)]
structure JK (M : Nat → Prop) (B : Nat) (w : World) (j : JD) : Prop where
 box : Wh 91 w j.b (JC j)
 row : OwnR lyX 46 w B (.slice j.A j.n j.c) (j.Xs.map (·.1))
 ln : j.Xs.length = j.n
 idx : MapV w j.bi j.n (idxF j.Es)
 rev : MapV w j.br j.n (revF j.Es)
 grp : Im M (fun w => GrK w j.g j.L j.G) w
 ets : Im M (fun w => EtysK w j.Xs) w
 mb : M j.b
 mi : M j.bi
 mr : M j.br
 mx : ∀ k, (Value.slice j.A j.n j.c).ownBlock = some k → M k
 ne : j.bi ≠ j.br
 hs : Sm j.g j.G
 hw : GrW j.g j.L j.G
 good : GoodP j.Es
section
variable {M : Nat → Prop} {B : Nat} {w w' : World} {j : JD}
theorem MapV.isMap {b n : Nat} {f : Int → Option Value} (h : MapV w b n f) : ∃ es k, w.heap[b]? = some (.map es k) := by
 obtain ⟨D, ⟨es, clock, hb, _⟩, _⟩ := h
 exact ⟨es, clock, hb⟩
theorem JK.up (h : JK M B w j) (hb : Below w.heap.size w w') : JK M B w' j :=
 ⟨h.box.up hb, h.row.up hb, h.ln, h.idx.up hb, h.rev.up hb, h.grp.on (Only.of hb), h.ets.on (Only.of hb), h.mb, h.mi, h.mr, h.mx, h.ne, h.hs, h.hw, h.good⟩
theorem JK.len (h : JK M B w j) : j.Es.length = j.n := by rw [← h.ln]; simp [JD.Es]
theorem JK.b_row (h : JK M B w j) : ∀ k, (Value.slice j.A j.n j.c).ownBlock = some k → k ≠ j.b := by
 intro k hk e
 subst e
 rcases h.row.2 with ⟨h1, _⟩ | ⟨g, cap, cur, h1, _, hg, _⟩
 ·rw [h1] at hk; cases hk
 ·rw [h1] at hk
  have hk2 : g = j.b := by injection hk
  rw [hk2, h.box.blk] at hg
  injection hg with hg
  injection hg with _ h2
  exact absurd h2 (by decide)
theorem JK.i_row (h : JK M B w j) : ∀ k, (Value.slice j.A j.n j.c).ownBlock = some k → k ≠ j.bi ∧ k ≠ j.br := by
 intro k hk
 rcases h.row.2 with ⟨h1, _⟩ | ⟨g, cap, cur, h1, _, hg, _⟩
 ·rw [h1] at hk; cases hk
 ·rw [h1] at hk
  have hk2 : g = k := by injection hk
  rw [hk2] at hg
  obtain ⟨e1, k1, h3⟩ := h.idx.isMap
  obtain ⟨e2, k2, h4⟩ := h.rev.isMap
  exact ⟨(fun e => by rw [e, h3] at hg; cases hg), (fun e => by rw [e, h4] at hg; cases hg)⟩
theorem JK.b_map (h : JK M B w j) : j.b ≠ j.bi ∧ j.b ≠ j.br := by
 obtain ⟨e1, k1, h3⟩ := h.idx.isMap
 obtain ⟨e2, k2, h4⟩ := h.rev.isMap
 exact ⟨(fun e => by have := h.box.blk; rw [e, h3] at this; cases this), (fun e => by have := h.box.blk; rw [e, h4] at this; cases this)⟩
end
theorem wpList_mapv_ok {w : World} {ops : Array Oper} {rest : List Oper} {o : Oper} {a : Act} {Q : Exit → Act → World → Prop} (hg : o.guard = none) (m x : Operand) (hop : o.op = Op.lookup 89 m x true)
  (b n : Nat) (f : Int → Option Value) (hm : a.eval m = .map (some b)) (hs : MapV w b n f) (c : Int) (hx : a.eval x = .int .i64 c) (hw : (Lit.int .i64 c).wf = true)
  (hK : wpList Tryz.prog ops Q rest (a.put o.dst (.tuple #[(f c).getD (.int .i64 0), .bool (f c).isSome])) w) : wpList Tryz.prog ops Q (o :: rest) a w := by
 obtain ⟨D, h1, h3⟩ := hs
 refine wpList_plain hg fun K' hK' => ?_
 obtain ⟨v, ps, hrun, hv⟩ := h1.look_ok ti_keyed Tryz.underlying89 (ti_zero w) (zd := .held (.int .i64 0)) (zp := []) rfl (keyOf_int_mk Tryz.underlying3 hw)
 have he : v = (f c).getD (.int .i64 0) := by
  rw [(h3 c).2] at hv
  simp only [heldE, Option.some.injEq, Prod.mk.injEq] at hv
  have h4 := hv.1
  cases hf : f c with
  | none => rw [hf] at h4; injection h4
  | some u => rw [hf] at h4; injection h4
 rw [(h3 c).1] at hrun
 unfold Oper.wp
 simp [execOp, hop, hm, hx, hrun, Result.andThen]
 exact hK' _ _ (he ▸ hK)
theorem wp_mapv_put {w : World} {o : Oper} {a : Act} {K : Act → World → Prop} {Q : Exit → Act → World → Prop} (m x y : Operand) (hop : o.op = Op.mapUpdate 89 m x y)
  (b n : Nat) (f : Int → Option Value) (hm : a.eval m = .map (some b)) (hs : MapV w b n f) (c : Int) (hx : a.eval x = .int .i64 c) (v : Value) (hy : a.eval y = v) (hw : (Lit.int .i64 c).wf = true) (hn : n ≤ 1000000)
  (hK : ∀ w', MapV w' b (n + 1) (fun x => if x = c then some v else f x) → w.grownBy w' (some b) → K (a.put o.dst undef) w') : Oper.wp Tryz.prog o a w K Q := by
 obtain ⟨D, h1, h3⟩ := hs
 have h2 := h1.isMap
 obtain ⟨w', hrun, h4, h5⟩ := h1.update ti_keyed Tryz.underlying89 (by unfold maxLen; omega) (val := v) (d := .held v) (ps := []) (keyOf_int_mk Tryz.underlying3 hw) rfl
 unfold Oper.wp
 simp [execOp, hop, hm, hx, hy, hrun, Result.andThen]
 refine hK w' ⟨_, h4, fun x => ?_⟩ h5
 have hkl : ∀ z : Int, WideAt.IsKeyLit (Lit.int .i64 z) := fun z => by simp [WideAt.IsKeyLit]
 by_cases hxc : x = c
 ·subst hxc
  simp only [if_true]
  exact ⟨by rw [has_put_same h2 (hkl _)]; rfl, fun z => atKey_put_same h2 (hkl _) _ _⟩
 ·simp only [if_neg hxc]
  have hne : Lit.int .i64 x ≠ Lit.int .i64 c := fun e => hxc (by injection e)
  refine ⟨by rw [has_put_other hne]; exact (h3 x).1, fun z => ?_⟩
  rw [atKey_put_other hne]
  exact (h3 x).2 z
theorem infoEx : (Tryz.prog.info? 46).map (fun i => (i.zero, i.size, i.bytes)) = some (some (.agg #[.int .i64 0, .int .i64 0, .int .i64 0, .int .i64 0, .int .i64 0, .string ⟨#[]⟩, .slice none 0 0]), 7, 80) := by kernel_rfl
def ety0 : Ety := ⟨0, 0, 0, 0, 0, ⟨#[]⟩, none, 0, 0⟩
open Go.RowKit
abbrev LnD := Lnk × Int
def lns1 (e hi : Int) (p : Etl) : List LnD := if p.1.ent = e ∧ p.1.day ≤ hi then p.2.map fun l => (l, p.1.day) else []
def lnsU (Xs : List Etl) (e hi : Int) : List LnD := Xs.flatMap (lns1 e hi)
theorem lnsU_app (X Y : List Etl) (e hi : Int) : lnsU (X ++ Y) e hi = lnsU X e hi ++ lnsU Y e hi := by unfold lnsU; rw [List.flatMap_append]
theorem lnsU_one (p : Etl) (e hi : Int) : lnsU [p] e hi = lns1 e hi p := by unfold lnsU; rw [List.flatMap_cons, List.flatMap_nil, List.append_nil]
theorem take_succ_at {α : Type} {L : List α} {i : Nat} {p : α} (h : L[i]? = some p) : L.take (i + 1) = L.take i ++ [p] := by
 obtain ⟨hi, rfl⟩ := List.getElem?_eq_some_iff.1 h
 exact List.take_succ_eq_append_getElem hi
theorem lnsU_succ {Xs : List Etl} {i : Nat} {p : Etl} (h : Xs[i]? = some p) (e hi : Int) : lnsU (Xs.take (i + 1)) e hi = lnsU (Xs.take i) e hi ++ lns1 e hi p := by
 rw [take_succ_at h, lnsU_app, lnsU_one]
theorem lns1_yes {e hi : Int} {p : Etl} (h : p.1.ent = e) (h2 : ¬ hi < p.1.day) : lns1 e hi p = p.2.map fun l => (l, p.1.day) := by unfold lns1; rw [if_pos ⟨h, by omega⟩]
theorem lns1_ent {e hi : Int} {p : Etl} (h : ¬ p.1.ent = e) : lns1 e hi p = [] := by unfold lns1; rw [if_neg fun q => h q.1]
theorem lns1_day {e hi : Int} {p : Etl} (h : hi < p.1.day) : lns1 e hi p = [] := by unfold lns1; rw [if_neg fun q => by omega]
theorem lns1_len (e hi : Int) (p : Etl) : (lns1 e hi p).length ≤ p.2.length := by unfold lns1; split <;> simp
theorem lnsU_len {m : Nat} : ∀ {Xs : List Etl} {e hi : Int}, (∀ p ∈ Xs, p.2.length ≤ m) → (lnsU Xs e hi).length ≤ Xs.length * m
 | [], _, _, _ => by simp [lnsU]
 | p :: Xs, e, hi, h => by
  rw [← List.singleton_append, lnsU_app, lnsU_one, List.length_append, List.length_append, List.length_singleton, Nat.add_mul]
  have h1 := lnsU_len (Xs := Xs) (e := e) (hi := hi) fun q hq => h q (List.mem_cons_of_mem _ hq)
  have h2 := lns1_len e hi p
  have h3 := h p (List.mem_cons_self ..)
  omega
def sumL (h : LnD → Bool) (L : List LnD) : Int := sumI L fun q => if h q = true then q.1.tgt else 0
theorem sumL_nil (h : LnD → Bool) : sumL h [] = 0 := rfl
theorem sumL_app (h : LnD → Bool) (L M : List LnD) : sumL h (L ++ M) = sumL h L + sumL h M := sumI_app
theorem sumL_snoc (h : LnD → Bool) (L : List LnD) (q : LnD) : sumL h (L ++ [q]) = sumL h L + (if h q = true then q.1.tgt else 0) := by
 rw [sumL_app]; congr 1; unfold sumL; rw [sumI_cons, sumI_nil, Int.add_zero]
theorem sumL_yes {h : LnD → Bool} {L : List LnD} {q : LnD} (hq : h q = true) : wr (sumL h (L ++ [q])) = wr (wr (sumL h L) + q.1.tgt) := by rw [sumL_snoc, if_pos hq, wr_add]
theorem sumL_no {h : LnD → Bool} {L : List LnD} {q : LnD} (hq : h q = false) : wr (sumL h (L ++ [q])) = wr (sumL h L) := by rw [sumL_snoc, hq]; simp
def lcB (a : Int) (q : LnD) : Bool := decide (q.1.frm = a)
def lcD (a lo : Int) (q : LnD) : Bool := decide (q.1.frm = a) && (decide (lo ≤ q.2) && decide (0 < q.1.tgt))
def lcC (a lo : Int) (q : LnD) : Bool := decide (q.1.frm = a) && (decide (lo ≤ q.2) && decide (q.1.tgt < 0))
def balS (Xs : List Etl) (e a hi : Int) : Int := sumL (lcB a) (lnsU Xs e hi)
def dbtS (Xs : List Etl) (e a lo hi : Int) : Int := sumL (lcD a lo) (lnsU Xs e hi)
def cdtS (Xs : List Etl) (e a lo hi : Int) : Int := sumL (lcC a lo) (lnsU Xs e hi)
def lfD (a lo : Int) (q : LnD) : Int := if q.1.frm = a ∧ lo ≤ q.2 then max 0 q.1.tgt else 0
def lfC (a lo : Int) (q : LnD) : Int := if q.1.frm = a ∧ lo ≤ q.2 then min 0 q.1.tgt else 0
theorem dbt_ref (L : List LnD) (a lo : Int) : sumI L (lfD a lo) = sumL (lcD a lo) L := by
 refine sumI_congr fun q _ => ?_
 unfold lfD lcD
 by_cases h1 : q.1.frm = a <;> by_cases h2 : lo ≤ q.2 <;> by_cases h3 : 0 < q.1.tgt <;> simp [h1, h2, h3] <;> omega
theorem cdt_ref (L : List LnD) (a lo : Int) : sumI L (lfC a lo) = sumL (lcC a lo) L := by
 refine sumI_congr fun q _ => ?_
 unfold lfC lcC
 by_cases h1 : q.1.frm = a <;> by_cases h2 : lo ≤ q.2 <;> by_cases h3 : q.1.tgt < 0 <;> simp [h1, h2, h3] <;> omega
theorem bal_split {Xs : List Etl} {e a lo hi : Int} (h : ∀ p ∈ Xs, lo ≤ p.1.day) : dbtS Xs e a lo hi + cdtS Xs e a lo hi = balS Xs e a hi := by
 unfold dbtS cdtS balS sumL
 rw [← sumI_add]
 refine sumI_congr fun q hq => ?_
 have hl : lo ≤ q.2 := by
  unfold lnsU at hq
  obtain ⟨p, hp, hq⟩ := List.mem_flatMap.1 hq
  unfold lns1 at hq
  split at hq
  ·obtain ⟨l, -, rfl⟩ := List.mem_map.1 hq
   exact h p hp
  ·cases hq
 unfold lcD lcC lcB
 by_cases h1 : q.1.frm = a <;> by_cases h3 : q.1.tgt < 0 <;> by_cases h4 : 0 < q.1.tgt <;> simp [h1, hl, h3, h4] <;> omega
theorem lgI_bound {α : Type} {B : Int} {f : α → Int} (lcB : 0 ≤ B) : ∀ {L : List α}, (∀ x ∈ L, 0 ≤ f x ∧ f x ≤ B) → 0 ≤ sumI L f ∧ sumI L f ≤ L.length * B
 | [], _ => by simp [sumI]
 | a :: L, h => by
  have h1 := lgI_bound lcB (L := L) fun x hx => h x (List.mem_cons_of_mem _ hx)
  have h2 := h a (List.mem_cons_self ..)
  have h3 : ((L.length + 1 : Nat) : Int) * B = (L.length : Int) * B + B := by rw [Int.natCast_add, Int.add_mul]; simp
  rw [sumI_cons, List.length_cons, h3]
  omega
def trW (Xs : List Etl) (e hi : Int) (c : Int) : Int := wr (balS Xs e c hi)
def trL (L : List Acc) (Xs : List Etl) (e hi : Int) : List Bal := rowsB L (trW Xs e hi)
theorem sumI_pick0 : ∀ {l : List Bal}, sumI (pick0 l) (fun y => y.amt) = sumI l (fun y => y.amt)
 | [] => rfl
 | y :: l => by
  unfold pick0
  rw [List.filter_cons]
  have ih := sumI_pick0 (l := l)
  unfold pick0 at ih
  split
  ·rw [sumI_cons, sumI_cons, ih]
  ·rename_i h
   have : y.amt = 0 := by simpa using h
   rw [sumI_cons, ih, this]; omega
theorem sumI_mod {α : Type} : ∀ {l : List α} {f g : α → Int}, (∀ x ∈ l, f x % 18446744073709551616 = g x % 18446744073709551616) → sumI l f % 18446744073709551616 = sumI l g % 18446744073709551616
 | [], _, _, _ => rfl
 | a :: l, f, g, h => by
  rw [sumI_cons, sumI_cons]
  have h1 := h a (List.mem_cons_self ..)
  have h2 := sumI_mod (l := l) fun x hx => h x (List.mem_cons_of_mem _ hx)
  omega
theorem bal_all {L : List Acc} (hS : Srt L) {M : List LnD} (h : ∀ q ∈ M, (fnd L q.1.frm).isSome = true) : sumI L (fun x => sumL (lcB x.code) M) = sumI M fun q => q.1.tgt := by
 unfold sumL
 rw [sumI_swap]
 refine sumI_congr fun q hq => ?_
 obtain ⟨b, hb⟩ := Option.isSome_iff_exists.1 (h q hq)
 obtain ⟨h1, h2⟩ := fnd_some hb
 rw [show (fun x : Acc => if lcB x.code q = true then q.1.tgt else 0) = fun x : Acc => if x.code = b.code then q.1.tgt else 0 from funext fun x => by unfold lcB; rw [h2]; by_cases e : q.1.frm = x.code <;> simp [e]; exact fun e2 => absurd e2.symm e]
 exact hS.uniq (g := fun _ => q.1.tgt) h1
theorem lns_sum {e hi : Int} : ∀ {Xs : List Etl}, (∀ p ∈ Xs, wr (sumT p.2) = 0) → sumI (lnsU Xs e hi) (fun q => q.1.tgt) % 18446744073709551616 = 0
 | [], _ => rfl
 | p :: Xs, h => by
  rw [← List.singleton_append, lnsU_app, lnsU_one, sumI_app]
  have h1 := lns_sum (e := e) (hi := hi) (Xs := Xs) fun q hq => h q (List.mem_cons_of_mem _ hq)
  have h2 : sumI (lns1 e hi p) (fun q => q.1.tgt) % 18446744073709551616 = 0 := by
   unfold lns1
   split
   ·rw [sumI_map]
    have h3 := h p (List.mem_cons_self ..)
    have h4 := wr_emod (sumT p.2)
    rw [h3] at h4
    exact h4.symm
   ·rfl
  omega
theorem tr_zero {L : List Acc} (hS : Srt L) {Xs : List Etl} {e hi : Int} (h0 : ∀ p ∈ Xs, wr (sumT p.2) = 0) (ha : ∀ p ∈ Xs, p.1.ent = e → ∀ l ∈ p.2, (fnd L l.frm).isSome = true) : sumI (trL L Xs e hi) (fun y => y.amt) % 18446744073709551616 = 0 := by
 unfold trL rowsB
 rw [sumI_pick0, sumI_map]
 have hm : sumI L (fun x => ({ acct := x.code, amt := trW Xs e hi x.code } : Bal).amt) % 18446744073709551616 = sumI L (fun x => sumL (lcB x.code) (lnsU Xs e hi)) % 18446744073709551616 := sumI_mod fun x _ => wr_emod _
 rw [hm, bal_all hS, lns_sum h0]
 intro q hq
 unfold lnsU at hq
 obtain ⟨p, hp, hq⟩ := List.mem_flatMap.1 hq
 unfold lns1 at hq
 split at hq
 ·rename_i h1
  obtain ⟨l, hl, rfl⟩ := List.mem_map.1 hq
  exact ha p hp h1.1 l hl
 ·cases hq
theorem infoAcJ : (Tryz.prog.info? 118).map (fun i => (i.zero, i.size, i.bytes)) = some (some (.agg #[.int .i64 0, .int .i64 0, .int .i64 0, .int .i64 0]), 4, 32) := by kernel_rfl
set_option maxRecDepth 100000 in
set_option maxHeartbeats 3200000 in
theorem cloneL_any (A : Option Addr) (c : Nat) (X : List Lnk) (w : World) (hz : RowAt lyL w A X) (hl : X.length ≤ 100000) : Calls Tryz.prog 91 #[.slice A X.length c] w fun e w' => (∃ A' c', e = .returned (.slice A' X.length c') ∧ OwnR lyL 59 w' w.heap.size (.slice A' X.length c') X) ∧ Below w.heap.size w w' := by
 obtain ⟨n, hn⟩ : ∃ n, X.length = n := ⟨_, rfl⟩
 rw [hn] at hl ⊢
 have HN := Lib.hid hn
 have HZ := Lib.hid hz
 clear hz hn
 obtain ⟨i0, hi, hz1, hz2, hz3⟩ := info_parts infoLn
 rcases A with _ | ad
 ·have hx : X = [] := by
   rcases X with _ | ⟨x, X⟩
   ·rfl
   ·obtain ⟨b, off, e, _⟩ := HZ.out (by simp)
    cases e
  have hn0 : n = 0 := by rw [← HN.out, hx]; rfl
  subst hn0
  have HX := Lib.hid hx
  clear hx
  have kn := fun w : World => Lib.run_eql_slice_nil (P := Tryz.prog) w 44 59 none 0 c 0 0 Tryz.underlying44
  go_enter Tryz.func91, Tryz.ntmps91
  go_wp2_with fail
  go_ret
  exact ⟨⟨none, 0, rfl, by rw [HX.out]; exact OwnR.nil⟩, Below.refl _ _⟩
 ·have HB := Lib.hid (below_alloc_new (w := w) (.cells #[] 59))
  have HE : Hid (OwnR lyL 59 (w.alloc (.cells #[] 59)) w.heap.size (.slice (some ⟨w.heap.size, 0, none⟩) 0 0) []) := Lib.hid (OwnR.empty (Nat.le_refl _))
  have HZ2 := Lib.hid (HZ.out.up HB.out)
  have kn := fun w : World => Lib.run_eql_slice_nil (P := Tryz.prog) w 44 59 (some ad) n c 0 0 Tryz.underlying44
  go_enter Tryz.func91, Tryz.ntmps91
  go_wp2_with (at_builtin; refine wpList_app_row (R := lyL) (v := .slice (some ⟨w.heap.size, 0, none⟩) 0 0) rfl (.tmp 5) (.tmp 6) 44 rfl i0 _ 24 Tryz.underlying44 hi hz1 hz2 hz3 (by omega) rfl rfl HE.out (some ad) n c X HN.out rfl HZ2.out (by simp; omega) (Nat.le_of_lt (by simp)) ?_; intro v5 w5 ho5 hg5 hn5; obtain ⟨A5, c5, e5, -, -⟩ := ho5.out.reads; rw [List.nil_append, HN.out] at e5; obtain rfl := e5; have HO5 : Hid (OwnR lyL 59 w5 w.heap.size (.slice A5 n c5) X) := Lib.hid ho5.out; have HB5 : Hid (Below w.heap.size w w5) := Lib.hid (HB.out.grown hg5.out (by simp) (fun k hk => Nat.le_of_eq (Option.some.inj hk))); clear ho5 hg5 hn5)
  go_ret
  exact ⟨⟨A5, c5, rfl, HO5.out⟩, HB5.out⟩
set_option maxRecDepth 100000 in
set_option maxHeartbeats 3200000 in
theorem cloneA_any (A : Option Addr) (c : Nat) (X : List Acc) (w : World) (hz : RowAt lyA w A X) (hl : X.length ≤ 100000) : Calls Tryz.prog 136 #[.slice A X.length c] w fun e w' => (∃ A' c', e = .returned (.slice A' X.length c') ∧ OwnR lyA 118 w' w.heap.size (.slice A' X.length c') X) ∧ Below w.heap.size w w' := by
 obtain ⟨n, hn⟩ : ∃ n, X.length = n := ⟨_, rfl⟩
 rw [hn] at hl ⊢
 have HN := Lib.hid hn
 have HZ := Lib.hid hz
 clear hz hn
 obtain ⟨i0, hi, hz1, hz2, hz3⟩ := info_parts infoAcJ
 rcases A with _ | ad
 ·have hx : X = [] := by
   rcases X with _ | ⟨x, X⟩
   ·rfl
   ·obtain ⟨b, off, e, _⟩ := HZ.out (by simp)
    cases e
  have hn0 : n = 0 := by rw [← HN.out, hx]; rfl
  subst hn0
  have HX := Lib.hid hx
  clear hx
  have kn := fun w : World => Lib.run_eql_slice_nil (P := Tryz.prog) w 24 118 none 0 c 0 0 Tryz.underlying24
  go_enter Tryz.func136, Tryz.ntmps136
  go_wp2_with fail
  go_ret
  exact ⟨⟨none, 0, rfl, by rw [HX.out]; exact OwnR.nil⟩, Below.refl _ _⟩
 ·have HB := Lib.hid (below_alloc_new (w := w) (.cells #[] 118))
  have HE : Hid (OwnR lyA 118 (w.alloc (.cells #[] 118)) w.heap.size (.slice (some ⟨w.heap.size, 0, none⟩) 0 0) []) := Lib.hid (OwnR.empty (Nat.le_refl _))
  have HZ2 := Lib.hid (HZ.out.up HB.out)
  have kn := fun w : World => Lib.run_eql_slice_nil (P := Tryz.prog) w 24 118 (some ad) n c 0 0 Tryz.underlying24
  go_enter Tryz.func136, Tryz.ntmps136
  go_wp2_with (at_builtin; refine wpList_app_row (R := lyA) (v := .slice (some ⟨w.heap.size, 0, none⟩) 0 0) rfl (.tmp 5) (.tmp 6) 24 rfl i0 _ 32 Tryz.underlying24 hi hz1 hz2 hz3 (by omega) rfl rfl HE.out (some ad) n c X HN.out rfl HZ2.out (by simp; omega) (Nat.le_of_lt (by simp)) ?_; intro v5 w5 ho5 hg5 hn5; obtain ⟨A5, c5, e5, -, -⟩ := ho5.out.reads; rw [List.nil_append, HN.out] at e5; obtain rfl := e5; have HO5 : Hid (OwnR lyA 118 w5 w.heap.size (.slice A5 n c5) X) := Lib.hid ho5.out; have HB5 : Hid (Below w.heap.size w w5) := Lib.hid (HB.out.grown hg5.out (by simp) (fun k hk => Nat.le_of_eq (Option.some.inj hk))); clear ho5 hg5 hn5)
  go_ret
  exact ⟨⟨A5, c5, rfl, HO5.out⟩, HB5.out⟩
set_option maxRecDepth 100000 in
set_option maxHeartbeats 3200000 in
theorem cloneE_any (A : Option Addr) (c : Nat) (X : List Ent) (w : World) (hz : RowAt lyE w A X) (hl : X.length ≤ 100000) : Calls Tryz.prog 112 #[.slice A X.length c] w fun e w' => (∃ A' c', e = .returned (.slice A' X.length c') ∧ OwnR lyE 116 w' w.heap.size (.slice A' X.length c') X) ∧ Below w.heap.size w w' := by
 obtain ⟨n, hn⟩ : ∃ n, X.length = n := ⟨_, rfl⟩
 rw [hn] at hl ⊢
 have HN := Lib.hid hn
 have HZ := Lib.hid hz
 clear hz hn
 obtain ⟨i0, hi, hz1, hz2, hz3⟩ := info_parts infoEn
 rcases A with _ | ad
 ·have hx : X = [] := by
   rcases X with _ | ⟨x, X⟩
   ·rfl
   ·obtain ⟨b, off, e, _⟩ := HZ.out (by simp)
    cases e
  have hn0 : n = 0 := by rw [← HN.out, hx]; rfl
  subst hn0
  have HX := Lib.hid hx
  clear hx
  have kn := fun w : World => Lib.run_eql_slice_nil (P := Tryz.prog) w 27 116 none 0 c 0 0 Tryz.underlying27
  go_enter Tryz.func112, Tryz.ntmps112
  go_wp2_with fail
  go_ret
  exact ⟨⟨none, 0, rfl, by rw [HX.out]; exact OwnR.nil⟩, Below.refl _ _⟩
 ·have HB := Lib.hid (below_alloc_new (w := w) (.cells #[] 116))
  have HE : Hid (OwnR lyE 116 (w.alloc (.cells #[] 116)) w.heap.size (.slice (some ⟨w.heap.size, 0, none⟩) 0 0) []) := Lib.hid (OwnR.empty (Nat.le_refl _))
  have HZ2 := Lib.hid (HZ.out.up HB.out)
  have kn := fun w : World => Lib.run_eql_slice_nil (P := Tryz.prog) w 27 116 (some ad) n c 0 0 Tryz.underlying27
  go_enter Tryz.func112, Tryz.ntmps112
  go_wp2_with (at_builtin; refine wpList_app_row (R := lyE) (v := .slice (some ⟨w.heap.size, 0, none⟩) 0 0) rfl (.tmp 5) (.tmp 6) 27 rfl i0 _ 88 Tryz.underlying27 hi hz1 hz2 hz3 (by omega) rfl rfl HE.out (some ad) n c X HN.out rfl HZ2.out (by simp; omega) (Nat.le_of_lt (by simp)) ?_; intro v5 w5 ho5 hg5 hn5; obtain ⟨A5, c5, e5, -, -⟩ := ho5.out.reads; rw [List.nil_append, HN.out] at e5; obtain rfl := e5; have HO5 : Hid (OwnR lyE 116 w5 w.heap.size (.slice A5 n c5) X) := Lib.hid ho5.out; have HB5 : Hid (Below w.heap.size w w5) := Lib.hid (HB.out.grown hg5.out (by simp) (fun k hk => Nat.le_of_eq (Option.some.inj hk))); clear ho5 hg5 hn5)
  go_ret
  exact ⟨⟨A5, c5, rfl, HO5.out⟩, HB5.out⟩
def Ety.at (x : Ety) (A : Option Addr) (c : Nat) : Ety := { x with A := A, c := c }
set_option maxRecDepth 100000 in
set_option maxHeartbeats 3200000 in
theorem copyof_any (x : Ety) (X : List Lnk) (w : World) (hx : EtyK w x X) (hn : x.n ≤ 1000) : Calls Tryz.prog 55 #[etyV x] w fun e w' => (∃ A c, e = .returned (etyV (x.at A c)) ∧ OwnR lyL 59 w' w.heap.size (.slice A x.n c) X) ∧ Below w.heap.size w w' := by
 have HC := Lib.hid (fun W (h : LnkAt W x.A X) => cloneL_any x.A x.c X W (lnk_row.2 h) (by rw [hx.ln]; omega))
 rw [hx.ln] at HC
 obtain ⟨s0, hs0⟩ : ∃ s0, w.heap.size = s0 := ⟨_, rfl⟩
 obtain ⟨w2, hw2⟩ : ∃ w2, (w.alloc (.cells (etyC x).toArray 46)).alloc (.cells #[.int .i64 0, .int .i64 0, .int .i64 0, .int .i64 0, .int .i64 0, .string ⟨#[]⟩, .slice none 0 0] 46) = w2 := ⟨_, rfl⟩
 have hXB : Wh 46 w2 s0 (etyC x) := by rw [← hw2, ← hs0]; exact (Wh.new w _ _).up (below_alloc_new _)
 have HRB : Hid (Wh 46 w2 (s0 + 1) [.int .i64 0, .int .i64 0, .int .i64 0, .int .i64 0, .int .i64 0, .string ⟨#[]⟩, .slice none 0 0]) := Lib.hid (by
  rw [← hw2, ← hs0]
  have h9 := Wh.new (w.alloc (.cells (etyC x).toArray 46)) 46 [.int .i64 0, .int .i64 0, .int .i64 0, .int .i64 0, .int .i64 0, .string ⟨#[]⟩, .slice none 0 0]
  rw [World.size_alloc] at h9
  exact h9)
 have HB2 : Hid (Below s0 w w2) := Lib.hid (by rw [← hw2, ← hs0]; exact below_new (below_alloc_new _) _)
 have HS2 : Hid (w2.heap.size = s0 + 2) := Lib.hid (by rw [← hw2, ← hs0]; simp)
 have HX2 := Lib.hid (hx.hz.up (HB2.out.mono (Nat.le_of_eq hs0)))
 have c6 := hXB.at 6 _ rfl
 have HXB := Lib.hid hXB
 have HS0 := Lib.hid hs0
 have hw3 : (etyC x).toArray = #[.int .i64 x.id, .int .i64 x.ent, .int .i64 x.day, .int .i64 x.kind, .int .i64 x.of_, .string x.txt, .slice x.A x.n x.c] := rfl
 rw [hw3] at hw2
 clear hx hw3 hXB
 go_enter Tryz.func55, Tryz.ntmps55
 go_upto_region 2 with (go_at_call 91; refine (HC.out _ HX2.out).mono ?_; rintro e w3 ⟨⟨A, c, rfl, ho⟩, hb⟩; have hx3 := HXB.out.up hb; have z6 := hx3.at 6 _ rfl; have y6 := hx3.frozen 6; have HX3 := Lib.hid hx3; have HR3 := Lib.hid (HRB.out.up hb); have HO3 := Lib.hid ho; have HB3 := Lib.hid hb; clear hx3 ho hb)
 have hX4 : Wh 46 (w3.setCell ⟨s0, 6, none⟩ (.slice A x.n c)) s0 (etyC (x.at A c)) := HX3.out.set 6 _
 have hR4 := HR3.out.same (Below.heap_setCell w3 ⟨s0, 6, none⟩ (.slice A x.n c) (s0 + 1) (by show s0 + 1 ≠ s0; omega))
 have hO4 : OwnR lyL 59 (w3.setCell ⟨s0, 6, none⟩ (.slice A x.n c)) w2.heap.size (.slice A x.n c) X := HO3.out.blk fun g hg => Below.heap_setCell w3 ⟨s0, 6, none⟩ _ g (by have := (HO3.out.lt hg).1; have := HS2.out; show g ≠ s0; omega)
 have hB4 : Below s0 w (w3.setCell ⟨s0, 6, none⟩ (.slice A x.n c)) := Below.setCell (p := ⟨s0, 6, none⟩) (HB2.out.trans (HB3.out.mono (by have := HS2.out; omega))) (Nat.le_refl _) _
 clear z6 y6 c6 HX3 HR3 HO3 HB3 HXB HRB HX2 hw2
 generalize w3.setCell ⟨s0, 6, none⟩ (.slice A x.n c) = w4 at *
 have HL : Hid ((Instr.loadAt 46 (.pointer (some ⟨s0, 0, none⟩))).run Tryz.prog w4 = .ok (etyV (x.at A c)) w4) := Lib.hid (hX4.rg.load 0 46 (etyC (x.at A c)) rfl _ Tryz.underlying46 rfl (by kernel_rfl))
 have HR4 := Lib.hid hR4
 have HO4 := Lib.hid hO4
 have HB4 := Lib.hid hB4
 have HM1 : True := trivial
 clear hX4 hR4 hO4 hB4
 go_wp2_with (first
  | (clear HM1; refine wpList_load_is rfl 46 _ rfl (.pointer (some ⟨s0, 0, none⟩)) rfl (etyV (x.at A c)) HL.out ?_)
  | (refine wpList_store_wh rfl 46 _ _ rfl (s0 + 1) rfl 46 [.int .i64 0, .int .i64 0, .int .i64 0, .int .i64 0, .int .i64 0, .string ⟨#[]⟩, .slice none 0 0] (etyC (x.at A c)) rfl HR4.out rfl (by kernel_rfl) (by kernel_rfl) ?_; intro w5 hr5 ho5 hz5))
 refine bodyPost_ret (v := etyV (x.at A c)) (results_cell_mid Tryz.results55 _ _ (s0 + 1) (etyC (x.at A c)) _ rfl hr5.out.range Tryz.underlying46 rfl (by kernel_rfl)) rfl ⟨⟨A, c, rfl, ?_⟩, ?_⟩
 ·exact (HO4.out.blk fun g hg => ho5.out.blk g (HO4.out.lt hg).2 (by have := (HO4.out.lt hg).1; have := HS2.out; show ¬ g = s0 + 1; omega)).low (by have := HS2.out; have := HS0.out; omega)
 ·have h9 := HB4.out.trans (ho5.out.below (B := s0) (fun k hk => by have h8 : k = s0 + 1 := hk; omega) (by have := HB4.out.size; have := HS0.out; omega))
  first | exact h9 | (rw [HS0.out]; exact h9)
theorem OwnR.frozen {α : Type} {R : Lay α} {e : TypeId} {w : World} {base g n c : Nat} {L : List α} (h : OwnR R e w base (.slice (some ⟨g, 0, none⟩) n c) L) (i : Nat) : w.frozen? ⟨g, i, none⟩ = false := by
 rcases h.2 with ⟨h1, _⟩ | ⟨g', cap, cur, h1, _, hg, _⟩
 ·cases h1
 ·injection h1 with h1 _ _
  injection h1 with h1
  injection h1 with h1 _ _
  subst h1
  simp [World.frozen?, hg]
def noPar (a : Acc) : Acc := { a with par := 0 }
theorem nopar_step {L : List Acc} {k : Nat} {a : Acc} (h : L[k]? = some a) : (((L.take k).map noPar) ++ L.drop k)[k]? = some a ∧ (((L.take k).map noPar) ++ L.drop k).set k (noPar a) = (L.take (k + 1)).map noPar ++ L.drop (k + 1) := by
 have hk : k < L.length := (List.getElem?_eq_some_iff.1 h).1
 have h1 : ((L.take k).map noPar).length = k := by rw [List.length_map, List.length_take]; omega
 have h2 : L.drop k = a :: L.drop (k + 1) := by
  rw [List.drop_eq_getElem_cons hk]
  rw [List.getElem?_eq_getElem hk] at h
  injection h with h
  rw [h]
 have h3 : L.take (k + 1) = L.take k ++ [a] := by rw [List.take_add_one, h]; rfl
 constructor
 ·rw [List.getElem?_append_right (by omega), h1, Nat.sub_self, h2]; rfl
 ·rw [List.set_append_right _ _ (by omega), h1, Nat.sub_self, h2, List.set_cons_zero, h3, List.map_append, List.append_assoc]; rfl
set_option maxRecDepth 100000 in
set_option maxHeartbeats 3200000 in
theorem wop_any (A : Option Addr) (c : Nat) (L : List Acc) (w : World) (hz : RowAt lyA w A L) (hl : L.length ≤ 1000) : Calls Tryz.prog 111 #[.slice A L.length c] w fun e w' => (∃ A' c', e = .returned (.slice A' L.length c') ∧ OwnR lyA 118 w' w.heap.size (.slice A' L.length c') (L.map noPar)) ∧ Below w.heap.size w w' := by
 have HC := Lib.hid (cloneA_any A c L w hz (by omega))
 obtain ⟨n, hn⟩ : ∃ n, L.length = n := ⟨_, rfl⟩
 rw [hn] at HC hl ⊢
 have HN := Lib.hid hn
 clear hz hn
 go_enter Tryz.func111, Tryz.ntmps111
 go_wp2_with (go_at_call 136; refine HC.out.mono ?_; rintro e w2 ⟨⟨A2, c2, rfl, ho⟩, hb⟩; have HO := Lib.hid ho; have HB := Lib.hid hb; clear ho hb)
 go_loopg [9] n (fun kx s9 wr => ∃ k : Nat, s9 = .int .i64 k ∧ k ≤ n ∧ n - k ≤ kx ∧ Hid (OwnR lyA 118 wr w.heap.size (.slice A2 n c2) ((L.take k).map noPar ++ L.drop k)) ∧ Hid (Below w.heap.size w wr))
 case atStart => exact ⟨0, rfl, by omega, by omega, HO, HB⟩
 case round =>
  clear HO HB
  obtain ⟨k, rfl, hk, hkx, HO, HB⟩ := hrel
  by_cases hlt : k < n
  ·have hltz : (k : Int) < (n : Int) := by omega
   obtain ⟨a, ha⟩ : ∃ a, L[k]? = some a := ⟨_, List.getElem?_eq_getElem (by rw [HN.out]; exact hlt)⟩
   obtain ⟨h1, h2⟩ := nopar_step ha
   obtain ⟨A9, c9, e9, hr, hg⟩ := HO.out.reads
   injection e9 with e9 q1 q2
   subst e9
   clear q1 q2
   obtain ⟨g, off, rfl, hgl, hrg⟩ := hr.at h1
   obtain ⟨-, rfl⟩ := hg g off rfl
   have z3 : wr.cell? ⟨g, k * 4 + 3, none⟩ = some (.int .i64 a.par) := by have := hrg 3 _ rfl; rwa [Nat.zero_add] at this
   have y3 := HO.out.frozen (k * 4 + 3)
   have HO2 : Hid (OwnR lyA 118 (wr.setCell ⟨g, k * 4 + 3, none⟩ (.int .i64 0)) w.heap.size (.slice (some ⟨g, 0, none⟩) n c2) ((L.take (k + 1)).map noPar ++ L.drop (k + 1))) := Lib.hid (by rw [← h2]; exact HO.out.setf (j := 3) h1 (by decide) _ rfl)
   have HB2 : Hid (Below w.heap.size w (wr.setCell ⟨g, k * 4 + 3, none⟩ (.int .i64 0))) := Lib.hid (Below.setCell (p := ⟨g, k * 4 + 3, none⟩) HB.out (HO.out.lt rfl).1 _)
   clear hr hrg hg ha h1 h2 HO HB
   go_wp2_with fail
   go_roundg (n - (k + 1))
   case measure => omega
   case rel => exact ⟨k + 1, by go_num, by omega, by omega, HO2, HB2⟩
  ·obtain rfl : k = n := by omega
   have hltz : ¬ (k : Int) < (k : Int) := by omega
   have hO9 := HO.out
   rw [← HN.out, List.take_length, List.drop_length, List.append_nil, HN.out] at hO9
   have HO9 := Lib.hid hO9
   clear hO9
   go_wp2_with fail
   go_ret
   exact ⟨⟨A2, c2, rfl, HO9.out⟩, HB.out⟩
end Go.Proofs.YthokdplikidhiaaGreat
