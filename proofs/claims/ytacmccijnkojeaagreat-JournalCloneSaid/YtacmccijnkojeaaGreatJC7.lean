/- Contracts of the functions that the statements reach, part 7: what was proved of each, callees first. -/
import Derived.BigQuiet
import Derived.Laws.Rows
import Derived.Deep.RegionHeldLaw
import Derived.WalkSpells
import Derived.Lib.SliceRun
import Derived.Test.YtacmccijnkojeaaGreatJC6
namespace Go.Proofs.YtacmccijnkojeaaGreat
open Go.RowKit
theorem allTo_and {p q : Nat → Bool} : ∀ {n : Nat}, allTo (fun i => p i && q i) n = (allTo p n && allTo q n)
 | 0 => rfl
 | n + 1 => by
  show (allTo (fun i => p i && q i) n && (p n && q n)) = ((allTo p n && p n) && (allTo q n && q n))
  rw [allTo_and]
  cases allTo p n <;> cases allTo q n <;> cases p n <;> cases q n <;> rfl
theorem allTo_all {p : Acc → Bool} {L : List Acc} : L.all p = allTo (fun i => p (L.getD i acc0)) L.length := by
 rw [Bool.eq_iff_iff, all_getD (d := acc0), allTo_is]
theorem grp_eq (g : Grp) (L : List Acc) (G : List Ent) : grpP g L G = grpR g L G := by
 have h1 : rlsB L g.R = allTo (rowR L g.R) 15 := by
  unfold rlsB
  exact allTo_and.symm
 have h2 : chaB L = (vB L true && allTo (fun i => basB (L.getD i acc0)) L.length) := by
  unfold chaB
  rw [allTo_all]
 have h3 : rlsB L g.R = true → ensP L g.R G = ensR L g.R G := fun h => by
  have hd : allTo (dsR g.R) 15 = true := by
   unfold rlsB at h
   rw [Bool.and_eq_true] at h
   exact h.2
  have he : ∀ e, enpB L g.R e = enrB L g.R e := fun e => by
   unfold enpB enrB
   congr 4
   funext i
   exact opn_eq (R_len g) hd _
  unfold ensP ensR
  congr 4
  funext i
  unfold rowP rowX
  rw [he]
 unfold grpP grpR bokR
 rw [h2, ← h1]
 cases hr : rlsB L g.R
 ·simp
 ·rw [h3 hr]
  cases curB g.cur <;> cases clV g.cy g.cm g.cp <;> cases vB L true <;> simp
theorem in_is {y m k n : Int} (h : clV y m k = true) : inB y m k n = inP y m k n := by
 have h1 := clV_iff.1 h
 have e : mno y m = 12 * y + m - 1 := rfl
 have f : pdF y m k 0 = mfst (mno y m) := by
  unfold pdF
  rw [clE_in h (by omega), if_pos rfl, Int.add_zero]
 have l : pdL y m k (k - 1) = mfst (mno y m + k) - 1 := by
  unfold pdL
  rw [clE_in h (by omega), if_pos rfl, show mno y m + (k - 1) + 1 = mno y m + k by omega]
 have b0 := mfst_bd (T := mno y m) (by omega) (by omega)
 have b1 := mfst_bd (T := mno y m + k) (by omega) (by omega)
 rw [Bool.eq_iff_iff]
 constructor
 ·intro q
  unfold inB at q
  rw [Bool.and_eq_true, decide_eq_true_eq, decide_eq_true_eq, f, l] at q
  have hv : vdB n = true := vdB_iff.2 ⟨by omega, by omega⟩
  obtain ⟨t0, t1, t2, t3⟩ := mth_is hv
  refine inP_iff.2 ⟨hv, ?_, ?_⟩
  ·rcases Int.lt_or_le (mth n) (mno y m) with c | c
   ·have := mfst_mono (S := mth n + 1) (T := mno y m) (by omega) (by omega)
    omega
   ·omega
  ·rcases Int.lt_or_le (mth n - mno y m) k with c | c
   ·exact c
   ·have := mfst_mono (S := mno y m + k) (T := mth n) (by omega) (by omega)
    omega
 ·intro q
  obtain ⟨hp, p1, p2⟩ := per_at q
  have m1 := mfst_mono (S := mno y m) (T := mno y m + (mth n - mno y m)) (by omega) (by omega)
  have m2 := mfst_mono (S := mno y m + (mth n - mno y m) + 1) (T := mno y m + k) (by omega) (by omega)
  unfold inB
  rw [Bool.and_eq_true, decide_eq_true_eq, decide_eq_true_eq, f, l]
  omega
theorem org_is (kind of_ : Int) : orgB kind of_ = (decide (1 ≤ kind) && (decide (kind ≤ 3) && orgR kind of_)) := by
 unfold orgB orgR
 by_cases h3 : kind = 3
 ·subst h3
  rfl
 ·by_cases h1 : kind = 1 ∨ kind = 2
  ·rw [if_pos h1, if_neg h3, decide_eq_true (show 1 ≤ kind by omega), decide_eq_true (show kind ≤ 3 by omega), Bool.true_and, Bool.true_and]
  ·rw [if_neg h1, if_neg h3, if_neg h3]
   rcases Int.lt_or_le kind 1 with c | c
   ·rw [decide_eq_false (show ¬ 1 ≤ kind by omega), Bool.false_and]
   ·rw [decide_eq_false (show ¬ kind ≤ 3 by omega), Bool.false_and, Bool.and_false]
theorem shp_is (g : Grp) (x : Ety) (X : List Lnk) (gp : Bool) (hl : X.length = x.n) : shpB gp g x X = ((gp && (decide (1 ≤ x.id) && (entIn g x.ent && orgB x.kind x.of_))) && (txtB x.txt && lsB g x.ent X)) := by
 unfold shpB lsB entIn
 rw [org_is, hl]
 cases gp <;> cases decide (1 ≤ x.id) <;> cases decide (0 ≤ x.ent) <;> cases decide (x.ent < (g.m : Int)) <;> cases decide (1 ≤ x.kind) <;> cases decide (x.kind ≤ 3) <;> cases orgR x.kind x.of_ <;> cases txtB x.txt <;> rfl
theorem chk_eq (g : Grp) (x : Ety) (X : List Lnk) (L : List Acc) (G : List Ent) (hl : X.length = x.n) : chkN g x X L G = rchkN (shpB (grpR g L G) g x X) (acB (G.getD x.ent.toNat ent0).L X) (rtlN g x X) := by
 have hp : prE g.cy g.cm g.cp x.day = erD (inB g.cy g.cm g.cp x.day) 0 ∨ grpR g L G = false := by
  cases h : grpR g L G
  ·exact .inr rfl
  ·refine .inl ?_
   have hc := grpR_cl h
   unfold prE erD
   rw [hc, if_pos rfl, in_is hc]
 unfold chkN hdN
 rw [shp_is g x X _ hl, grp_eq]
 have hb : (if wr (sumT X) = 0 then 0 else 11 : Int) = blN X := rfl
 unfold rtlN
 rw [hb]
 rcases hp with hp | hp
 ·rw [hp]
  generalize (grpR g L G && (decide (1 ≤ x.id) && (entIn g x.ent && orgB x.kind x.of_))) = a
  generalize txtB x.txt = b
  generalize lsB g x.ent X = c
  generalize acB (G.getD x.ent.toNat ent0).L X = d
  generalize inB g.cy g.cm g.cp x.day = e
  unfold erD rchkN fst6 erB er17
  cases a <;> cases b <;> cases c <;> cases d <;> cases e <;> simp
 ·rw [hp]
  simp [rchkN, fst6]
instance (a b : Lnk) : Decidable (a = b) :=
 if h : a.frm = b.frm ∧ a.tgt = b.tgt ∧ a.since = b.since then .isTrue (by cases a; cases b; simp at h; obtain ⟨rfl, rfl, rfl⟩ := h; rfl) else .isFalse (fun e => h (by subst e; exact ⟨rfl, rfl, rfl⟩))
set_option maxRecDepth 20000 in
set_option maxHeartbeats 1600000 in
theorem rsamel_any (A B : Option Addr) (c d : Nat) (zs ys : List Lnk) (w : World) (hz : LnkAt w A zs) (hy : LnkAt w B ys) (hl : zs.length ≤ 100000) (hl2 : ys.length ≤ 100000) :
  Calls Tryz.prog 45 #[.slice A zs.length c, .slice B ys.length d] w fun e w' => e = .returned (.bool (decide (zs = ys))) ∧ Below w.heap.size w w' := by
 have hB := Below.refl w.heap.size w
 obtain ⟨n, hn⟩ : ∃ n, zs.length = n := ⟨_, rfl⟩
 obtain ⟨m, hm⟩ : ∃ m, ys.length = m := ⟨_, rfl⟩
 rw [hn] at hl ⊢
 rw [hm] at hl2 ⊢
 by_cases hnm : n = m
 ·subst hnm
  have HN := Lib.hid hn
  have HM := Lib.hid hm
  have HZ := Lib.hid hz
  have HY := Lib.hid hy
  clear hn hm hz hy
  have hnn : ((n : Int) != (n : Int)) = false := by simp
  go_enter Tryz.func45, Tryz.ntmps45
  go_wp2_with fail
  go_loopg [5] n (fun kx s5 wr => ∃ k : Nat, s5 = .int .i64 k ∧ k ≤ n ∧ n - k ≤ kx ∧ Hid (zs.take k = ys.take k) ∧ Below w.heap.size w wr)
  case atStart => exact ⟨0, rfl, by omega, by omega, Lib.hid (by simp), hB⟩
  case round =>
   clear hB
   obtain ⟨k, rfl, hk, hkx, HT, hB⟩ := hrel
   by_cases hlt : k < n
   ·have hltz : (k : Int) < (n : Int) := by omega
    obtain ⟨b, off, rfl, hbw, hcs⟩ := HZ.out (by rw [HN.out]; omega)
    obtain ⟨b2, off2, rfl, hbw2, hcs2⟩ := HY.out (by rw [HM.out]; omega)
    obtain ⟨c0, c1, c2⟩ := (hcs k (by rw [HN.out]; exact hlt)).up hB hbw
    obtain ⟨d0, d1, d2⟩ := (hcs2 k (by rw [HM.out]; exact hlt)).up hB hbw2
    have ht1 := take_succ_getD (d := lnk0) (L := zs) (i := k) (by rw [HN.out]; exact hlt)
    have ht2 := take_succ_getD (d := lnk0) (L := ys) (i := k) (by rw [HM.out]; exact hlt)
    generalize zs.getD k lnk0 = x at *
    generalize ys.getD k lnk0 = y at *
    by_cases hxy : x = y
    ·subst hxy
     have HT2 : Hid (zs.take (k + 1) = ys.take (k + 1)) := Lib.hid (by rw [ht1, ht2, HT.out])
     clear ht1 ht2 hcs hcs2
     go_wp2_with fail
     go_quiet (fail)
     replace hB := below_drewN hB nq
     generalize World.drewN _ nq = W1 at *
     go_wp2_with fail
     go_roundg (n - (k + 1))
     case measure => omega
     case rel => exact ⟨k + 1, by go_num, by omega, by omega, HT2, hB⟩
    ·have hno : Hid (decide (zs = ys) = false) := Lib.hid (decide_eq_false fun e => by
      rw [e, ht2] at ht1
      have := List.append_cancel_left ht1
      simp at this; exact hxy this.symm)
     have hne : x.frm ≠ y.frm ∨ (x.frm = y.frm ∧ x.tgt ≠ y.tgt) ∨ (x.frm = y.frm ∧ x.tgt = y.tgt ∧ x.since ≠ y.since) := by
      by_cases h1 : x.frm = y.frm
      ·by_cases h2 : x.tgt = y.tgt
       ·exact .inr (.inr ⟨h1, h2, fun h3 => hxy (by cases x; cases y; simp at h1 h2 h3; rw [h1, h2, h3])⟩)
       ·exact .inr (.inl ⟨h1, h2⟩)
      ·exact .inl h1
     clear ht1 ht2 hcs hcs2 hxy
     rcases hne with h1 | ⟨h1, h2⟩ | ⟨h1, h2, h3⟩
     ·have q1 : (x.frm == y.frm) = false := by simp [h1]
      clear h1
      go_wp2_with fail
      go_quiet (fail)
      replace hB := below_drewN hB nq
      generalize World.drewN _ nq = W1 at *
      go_wp2_with fail
      go_ret
      exact ⟨by rw [hno.out]; rfl, hB⟩
     ·have q1 : (x.frm == y.frm) = true := by simp [h1]
      have q2 : (x.tgt == y.tgt) = false := by simp [h2]
      clear h1 h2
      go_wp2_with fail
      go_quiet (fail)
      replace hB := below_drewN hB nq
      generalize World.drewN _ nq = W1 at *
      go_wp2_with fail
      go_ret
      exact ⟨by rw [hno.out]; rfl, hB⟩
     ·have q1 : (x.frm == y.frm) = true := by simp [h1]
      have q2 : (x.tgt == y.tgt) = true := by simp [h2]
      have q3 : (x.since == y.since) = false := by simp [h3]
      clear h1 h2 h3
      go_wp2_with fail
      go_quiet (fail)
      replace hB := below_drewN hB nq
      generalize World.drewN _ nq = W1 at *
      go_wp2_with fail
      go_ret
      exact ⟨by rw [hno.out]; rfl, hB⟩
   ·obtain rfl : k = n := by omega
    have hltz : ¬ (k : Int) < (k : Int) := by omega
    have hyes : Hid (decide (zs = ys) = true) := Lib.hid (decide_eq_true (by have h := HT.out; rwa [List.take_of_length_le (by rw [HN.out]; omega), List.take_of_length_le (by rw [HM.out]; omega)] at h))
    go_wp2_with fail
    go_ret
    exact ⟨by rw [hyes.out]; rfl, hB⟩
 ·have hno : Hid (decide (zs = ys) = false) := Lib.hid (decide_eq_false fun e => hnm (by rw [← hn, ← hm, e]))
  have hnn : ((n : Int) != (m : Int)) = true := by simp; omega
  clear hn hm hz hy
  go_enter Tryz.func45, Tryz.ntmps45
  go_wp2_with fail
  go_ret
  exact ⟨by rw [hno.out]; rfl, hB⟩
def negL (l : Lnk) : Lnk := ⟨l.frm, wr (-l.tgt), l.since⟩
theorem lines_up6 {w w5 : World} {g b i1 i2 i3 j1 j2 j3 : Nat} {u1 u2 u3 v1 v2 v3 : Value} (h : w.cell? ⟨g, i1, none⟩ = some u1 ∧ w.cell? ⟨g, i2, none⟩ = some u2 ∧ w.cell? ⟨g, i3, none⟩ = some u3 ∧ w.cell? ⟨b, j1, none⟩ = some v1 ∧ w.cell? ⟨b, j2, none⟩ = some v2 ∧ w.cell? ⟨b, j3, none⟩ = some v3)
  (hb : Below w.heap.size w w5) (hg : g < w.heap.size) (hbb : b < w.heap.size) : w5.cell? ⟨g, i1, none⟩ = some u1 ∧ w5.cell? ⟨g, i2, none⟩ = some u2 ∧ w5.cell? ⟨g, i3, none⟩ = some u3 ∧ w5.cell? ⟨b, j1, none⟩ = some v1 ∧ w5.cell? ⟨b, j2, none⟩ = some v2 ∧ w5.cell? ⟨b, j3, none⟩ = some v3 := by
 obtain ⟨h1, h2, h3, h4, h5, h6⟩ := h
 exact ⟨(hb.cell (p := ⟨g, i1, none⟩) hg).trans h1, (hb.cell (p := ⟨g, i2, none⟩) hg).trans h2, (hb.cell (p := ⟨g, i3, none⟩) hg).trans h3, (hb.cell (p := ⟨b, j1, none⟩) hbb).trans h4, (hb.cell (p := ⟨b, j2, none⟩) hbb).trans h5, (hb.cell (p := ⟨b, j3, none⟩) hbb).trans h6⟩
set_option maxRecDepth 20000 in
set_option maxHeartbeats 1600000 in
theorem eneg_any (x : Lnk) (w : World) : Calls Tryz.prog 94 #[lnkV x] w fun e w' => e = .returned (lnkV (negL x)) ∧ Below w.heap.size w w' := by
 obtain ⟨x1, x2, x3⟩ := x
 have HB := below_new (below_alloc_new (w := w) (.cells #[.int .i64 x1, .int .i64 (wrap64 (-x2)), .int .i64 x3] 46)) (.cells #[.int .i64 x1, .int .i64 (wrap64 (-x2)), .int .i64 x3] 46)
 have hnew : ((w.alloc (.cells #[.int .i64 x1, .int .i64 (wrap64 (-x2)), .int .i64 x3] 46)).alloc (.cells #[.int .i64 x1, .int .i64 (wrap64 (-x2)), .int .i64 x3] 46)).heap[w.heap.size + 1]? = some (.cells #[.int .i64 x1, .int .i64 (wrap64 (-x2)), .int .i64 x3] 46 (0, 0)) := by
  have := heap_alloc_new (w.alloc (.cells #[.int .i64 x1, .int .i64 (wrap64 (-x2)), .int .i64 x3] 46)) (.cells #[.int .i64 x1, .int .i64 (wrap64 (-x2)), .int .i64 x3] 46)
  rwa [World.size_alloc] at this
 have HN : negL ⟨x1, x2, x3⟩ = ⟨x1, wrap64 (-x2), x3⟩ := rfl
 rw [HN]
 clear HN
 go_enter Tryz.func94, Tryz.ntmps94
 go_wp2_with fail
 exact bodyPost_ret (v := lnkV ⟨x1, wrap64 (-x2), x3⟩) (results_cell_row Tryz.results94 _ _ (w.heap.size + 1) _ _ _ _ rfl hnew Tryz.underlying46 rfl (by kernel_rfl)) rfl ⟨rfl, HB⟩
set_option maxRecDepth 20000 in
set_option maxHeartbeats 1600000 in
theorem eopp1_any (x y : Lnk) (w : World) : Calls Tryz.prog 93 #[lnkV x, lnkV y] w fun e w' => e = .returned (.bool (decide (x = negL y))) ∧ Below w.heap.size w w' := by
 have HB := Lib.hid (below_new (below_alloc_new (w := w) (.cells #[.int .i64 x.frm, .int .i64 x.tgt, .int .i64 x.since] 46)) (.cells #[.int .i64 y.frm, .int .i64 y.tgt, .int .i64 y.since] 46))
 have hx := (lb_new w 46 x).up (below_alloc_new (.cells #[.int .i64 y.frm, .int .i64 y.tgt, .int .i64 y.since] 46))
 have hy := lb_new (w.alloc (.cells #[.int .i64 x.frm, .int .i64 x.tgt, .int .i64 x.since] 46)) 46 y
 rw [World.size_alloc] at hy
 have HN := Lib.hid (fun w => eneg_any y w)
 have hneg : (negL y).frm = y.frm ∧ (negL y).since = y.since := ⟨rfl, rfl⟩
 generalize hw2 : (w.alloc (.cells #[.int .i64 x.frm, .int .i64 x.tgt, .int .i64 x.since] 46)).alloc (.cells #[.int .i64 y.frm, .int .i64 y.tgt, .int .i64 y.since] 46) = w2 at *
 obtain ⟨⟨c0, c1, c2⟩, hgl⟩ := hx
 obtain ⟨⟨d0, d1, d2⟩, hbl⟩ := hy
 simp only [Nat.zero_add] at c0 c1 c2 d0 d1 d2
 have hS0 : w2.drew.cell? ⟨w.heap.size, 0, none⟩ = some (.int .i64 x.frm) ∧ w2.drew.cell? ⟨w.heap.size, 1, none⟩ = some (.int .i64 x.tgt) ∧ w2.drew.cell? ⟨w.heap.size, 2, none⟩ = some (.int .i64 x.since) ∧ w2.drew.cell? ⟨w.heap.size + 1, 0, none⟩ = some (.int .i64 y.frm) ∧ w2.drew.cell? ⟨w.heap.size + 1, 1, none⟩ = some (.int .i64 y.tgt) ∧ w2.drew.cell? ⟨w.heap.size + 1, 2, none⟩ = some (.int .i64 y.since) := ⟨c0, c1, c2, d0, d1, d2⟩
 clear hneg
 generalize negL y = z at *
 have HW := Lib.hid hw2
 by_cases hxz : x = z
 ·subst hxz
  have E : decide (x = x) = true := by simp
  go_enter Tryz.func93, Tryz.ntmps93
  go_wp2_with fail
  go_region_held_law (fun w' => w'.cell? ⟨w.heap.size, 0, none⟩ = some (.int .i64 x.frm) ∧ w'.cell? ⟨w.heap.size, 1, none⟩ = some (.int .i64 x.tgt) ∧ w'.cell? ⟨w.heap.size, 2, none⟩ = some (.int .i64 x.since) ∧ w'.cell? ⟨w.heap.size + 1, 0, none⟩ = some (.int .i64 y.frm) ∧ w'.cell? ⟨w.heap.size + 1, 1, none⟩ = some (.int .i64 y.tgt) ∧ w'.cell? ⟨w.heap.size + 1, 2, none⟩ = some (.int .i64 y.since)) (first | exact hS5 | exact hS0 | go_keep)
   ((go_at_call 94; refine (HN.out _).mono ?_; rintro e w5 ⟨rfl, hb5⟩; have hS5 := lines_up6 hS0 hb5 hgl hbl))
  have HB5 := Lib.hid ((dc_drew HB.out).trans (hb5.mono (by have := HB.out.size; exact this)))
  go_wp2_with fail
  go_ret
  exact ⟨by first | (simp; done) | (rw [E]; rfl), HB5.out⟩
 ·have hno : Hid (decide (x = z) = false) := Lib.hid (decide_eq_false hxz)
  have hne : x.frm ≠ z.frm ∨ (x.frm = z.frm ∧ x.tgt ≠ z.tgt) ∨ (x.frm = z.frm ∧ x.tgt = z.tgt ∧ x.since ≠ z.since) := by
   by_cases h1 : x.frm = z.frm
   ·by_cases h2 : x.tgt = z.tgt
    ·exact .inr (.inr ⟨h1, h2, fun h3 => hxz (by cases x; cases z; simp at h1 h2 h3; rw [h1, h2, h3])⟩)
    ·exact .inr (.inl ⟨h1, h2⟩)
   ·exact .inl h1
  clear hxz
  rcases hne with h1 | ⟨h1, h2⟩ | ⟨h1, h2, h3⟩
  ·have q1 : (x.frm == z.frm) = false := by simp [h1]
   clear h1
   go_enter Tryz.func93, Tryz.ntmps93
   go_wp2_with fail
   go_region_held_law (fun w' => w'.cell? ⟨w.heap.size, 0, none⟩ = some (.int .i64 x.frm) ∧ w'.cell? ⟨w.heap.size, 1, none⟩ = some (.int .i64 x.tgt) ∧ w'.cell? ⟨w.heap.size, 2, none⟩ = some (.int .i64 x.since) ∧ w'.cell? ⟨w.heap.size + 1, 0, none⟩ = some (.int .i64 y.frm) ∧ w'.cell? ⟨w.heap.size + 1, 1, none⟩ = some (.int .i64 y.tgt) ∧ w'.cell? ⟨w.heap.size + 1, 2, none⟩ = some (.int .i64 y.since)) (first | exact hS5 | exact hS0 | go_keep)
    ((go_at_call 94; refine (HN.out _).mono ?_; rintro e w5 ⟨rfl, hb5⟩; have hS5 := lines_up6 hS0 hb5 hgl hbl))
   have HB5 := Lib.hid ((dc_drew HB.out).trans (hb5.mono (by have := HB.out.size; exact this)))
   go_wp2_with fail
   go_ret
   exact ⟨by first | (simp; done) | (rw [hno.out]; rfl), HB5.out⟩
  ·have q1 : (x.frm == z.frm) = true := by simp [h1]
   have q2 : (x.tgt == z.tgt) = false := by simp [h2]
   clear h1 h2
   go_enter Tryz.func93, Tryz.ntmps93
   go_wp2_with fail
   go_region_held_law (fun w' => w'.cell? ⟨w.heap.size, 0, none⟩ = some (.int .i64 x.frm) ∧ w'.cell? ⟨w.heap.size, 1, none⟩ = some (.int .i64 x.tgt) ∧ w'.cell? ⟨w.heap.size, 2, none⟩ = some (.int .i64 x.since) ∧ w'.cell? ⟨w.heap.size + 1, 0, none⟩ = some (.int .i64 y.frm) ∧ w'.cell? ⟨w.heap.size + 1, 1, none⟩ = some (.int .i64 y.tgt) ∧ w'.cell? ⟨w.heap.size + 1, 2, none⟩ = some (.int .i64 y.since)) (first | exact hS5 | exact hS0 | go_keep)
    ((go_at_call 94; refine (HN.out _).mono ?_; rintro e w5 ⟨rfl, hb5⟩; have hS5 := lines_up6 hS0 hb5 hgl hbl))
   have HB5 := Lib.hid ((dc_drew HB.out).trans (hb5.mono (by have := HB.out.size; exact this)))
   go_wp2_with fail
   go_ret
   exact ⟨by first | (simp; done) | (rw [hno.out]; rfl), HB5.out⟩
  ·have q1 : (x.frm == z.frm) = true := by simp [h1]
   have q2 : (x.tgt == z.tgt) = true := by simp [h2]
   have q3 : (x.since == z.since) = false := by simp [h3]
   clear h1 h2 h3
   go_enter Tryz.func93, Tryz.ntmps93
   go_wp2_with fail
   go_region_held_law (fun w' => w'.cell? ⟨w.heap.size, 0, none⟩ = some (.int .i64 x.frm) ∧ w'.cell? ⟨w.heap.size, 1, none⟩ = some (.int .i64 x.tgt) ∧ w'.cell? ⟨w.heap.size, 2, none⟩ = some (.int .i64 x.since) ∧ w'.cell? ⟨w.heap.size + 1, 0, none⟩ = some (.int .i64 y.frm) ∧ w'.cell? ⟨w.heap.size + 1, 1, none⟩ = some (.int .i64 y.tgt) ∧ w'.cell? ⟨w.heap.size + 1, 2, none⟩ = some (.int .i64 y.since)) (first | exact hS5 | exact hS0 | go_keep)
    ((go_at_call 94; refine (HN.out _).mono ?_; rintro e w5 ⟨rfl, hb5⟩; have hS5 := lines_up6 hS0 hb5 hgl hbl))
   have HB5 := Lib.hid ((dc_drew HB.out).trans (hb5.mono (by have := HB.out.size; exact this)))
   go_wp2_with fail
   go_ret
   exact ⟨by first | (simp; done) | (rw [hno.out]; rfl), HB5.out⟩
def oppB (X Y : List Lnk) : Bool := decide (X = Y.map negL)
set_option maxRecDepth 20000 in
set_option maxHeartbeats 1600000 in
theorem eeqf_any (A B : Option Addr) (c d : Nat) (X Y : List Lnk) (w : World) (hz : LnkAt w A X) (hy : LnkAt w B Y) (hl : X.length ≤ 100000) (hl2 : Y.length ≤ 100000) :
  Calls Tryz.prog 92 #[.slice A X.length c, .slice B Y.length d, .func (.func 93) #[] #[]] w fun e w' => e = .returned (.bool (oppB X Y)) ∧ Below w.heap.size w w' := by
 have hB := Below.refl w.heap.size w
 obtain ⟨n, hn⟩ : ∃ n, X.length = n := ⟨_, rfl⟩
 obtain ⟨m, hm⟩ : ∃ m, Y.length = m := ⟨_, rfl⟩
 rw [hn] at hl ⊢
 rw [hm] at hl2 ⊢
 by_cases hnm : n = m
 ·subst hnm
  have HN := Lib.hid hn
  have HM := Lib.hid hm
  have HZ := Lib.hid hz
  have HY := Lib.hid hy
  clear hn hm hz hy
  have hnn : ((n : Int) != (n : Int)) = false := by simp
  go_enter Tryz.func92, Tryz.ntmps92
  go_wp2_with fail
  go_loopg [17] n (fun kx s17 wr => ∃ k : Nat, s17 = .int .i64 k ∧ k ≤ n ∧ n - k ≤ kx ∧ Hid (X.take k = (Y.take k).map negL) ∧ Below w.heap.size w wr)
  case atStart => exact ⟨0, rfl, by omega, by omega, Lib.hid rfl, hB⟩
  case round =>
   clear hB
   obtain ⟨k, rfl, hk, hkx, HT, hB⟩ := hrel
   by_cases hlt : k < n
   ·have hltz : (k : Int) < (n : Int) := by omega
    obtain ⟨b, off, rfl, hbw, hcs⟩ := HZ.out (by rw [HN.out]; omega)
    obtain ⟨b2, off2, rfl, hbw2, hcs2⟩ := HY.out (by rw [HM.out]; omega)
    have ht1 := take_succ_getD (d := lnk0) (L := X) (i := k) (by rw [HN.out]; exact hlt)
    have ht2 := take_succ_getD (d := lnk0) (L := Y) (i := k) (by rw [HM.out]; exact hlt)
    obtain ⟨c0, c1, c2⟩ := (hcs k (by rw [HN.out]; exact hlt)).up hB hbw
    have hd2 := (hcs2 k (by rw [HM.out]; exact hlt)).up hB hbw2
    generalize X.getD k lnk0 = x at *
    generalize Y.getD k lnk0 = y at *
    obtain ⟨w1, hw1⟩ : ∃ w1, wr.alloc (.cells #[.int .i64 x.frm, .int .i64 x.tgt, .int .i64 x.since] 46) = w1 := ⟨_, rfl⟩
    have hbr2 : b2 < wr.heap.size := Nat.lt_of_lt_of_le hbw2 hB.size
    obtain ⟨d0, d1, d2⟩ : L3 w1 b2 (off2 + k * 3) y := by rw [← hw1]; exact hd2.up (below_alloc_new _) hbr2
    have hs1 : w1.heap.size = wr.heap.size + 1 := by rw [← hw1]; simp
    have hlx : LB w1 wr.heap.size x := by rw [← hw1]; exact lb_new wr _ x
    obtain ⟨w2, hw2⟩ : ∃ w2, w1.alloc (.cells #[.int .i64 y.frm, .int .i64 y.tgt, .int .i64 y.since] 46) = w2 := ⟨_, rfl⟩
    obtain ⟨⟨e0, e1, e2⟩, -⟩ : LB w2 wr.heap.size x := by rw [← hw2]; exact hlx.up (below_alloc_new _)
    obtain ⟨⟨g0, g1, g2⟩, -⟩ : LB w2 w1.heap.size y := by rw [← hw2]; exact lb_new w1 _ y
    simp only [Nat.zero_add] at e0 e1 e2 g0 g1 g2
    have HB2 : Hid (Below w.heap.size w w2) := Lib.hid (by rw [← hw2, ← hw1]; exact below_new (below_new hB _) _)
    have HC := Lib.hid (eopp1_any x y w2)
    by_cases hxy : x = negL y
    ·have HT2 : Hid (X.take (k + 1) = (Y.take (k + 1)).map negL) := Lib.hid (by rw [ht1, ht2, List.map_append, List.map_cons, List.map_nil, ← hxy, HT.out])
     have hde : decide (x = negL y) = true := decide_eq_true hxy
     rw [hde] at HC
     clear ht1 ht2 hcs hcs2 hxy hd2 hlx hs1 hde
     go_wp2_with (go_at_call 93; refine HC.out.mono ?_; rintro e w5 ⟨rfl, hb5⟩; have HB5 := Lib.hid (below_more HB2.out hb5); clear hb5)
     go_roundg (n - (k + 1))
     case measure => omega
     case rel => exact ⟨k + 1, by go_num, by omega, by omega, HT2, HB5.out⟩
    ·have hno : Hid (oppB X Y = false) := Lib.hid (decide_eq_false fun e => by
      have h9 := congrArg (List.take (k + 1)) e
      rw [← List.map_take, ht1, ht2, List.map_append, HT.out] at h9
      have := List.append_cancel_left h9
      simp at this; exact hxy this)
     have hde : decide (x = negL y) = false := decide_eq_false hxy
     rw [hde] at HC
     clear ht1 ht2 hcs hcs2 hxy hd2 hlx hs1 hde
     go_wp2_with (go_at_call 93; refine HC.out.mono ?_; rintro e w5 ⟨rfl, hb5⟩; have HB5 := Lib.hid (below_more HB2.out hb5); clear hb5)
     go_ret
     exact ⟨by rw [hno.out]; rfl, HB5.out⟩
   ·obtain rfl : k = n := by omega
    have hltz : ¬ (k : Int) < (k : Int) := by omega
    have hyes : Hid (oppB X Y = true) := Lib.hid (decide_eq_true (by have h := HT.out; rwa [List.take_of_length_le (by rw [HN.out]; omega), List.take_of_length_le (by rw [HM.out]; omega)] at h))
    go_wp2_with fail
    go_ret
    exact ⟨by rw [hyes.out]; rfl, hB⟩
 ·have hno : Hid (oppB X Y = false) := Lib.hid (decide_eq_false fun e => hnm (by rw [← hn, ← hm, e, List.length_map]))
  have hnn : ((n : Int) != (m : Int)) = true := by simp; omega
  clear hn hm hz hy
  go_enter Tryz.func92, Tryz.ntmps92
  go_wp2_with fail
  go_ret
  exact ⟨by rw [hno.out]; rfl, hB⟩
theorem eopp_any (A B : Option Addr) (c d : Nat) (X Y : List Lnk) (w : World) (hz : LnkAt w A X) (hy : LnkAt w B Y) (hl : X.length ≤ 100000) (hl2 : Y.length ≤ 100000) :
  Calls Tryz.prog 71 #[.slice A X.length c, .slice B Y.length d] w fun e w' => e = .returned (.bool (oppB X Y)) ∧ Below w.heap.size w w' := by
 have HC := Lib.hid (eeqf_any A B c d X Y w hz hy hl hl2)
 generalize oppB X Y = r at *
 generalize X.length = n at *
 generalize Y.length = m at *
 go_enter Tryz.func71, Tryz.ntmps71
 go_wp2_with (go_at_call 92; refine HC.out.mono ?_; rintro e w5 ⟨rfl, hb5⟩)
 go_ret
 exact ⟨rfl, hb5⟩
set_option maxRecDepth 20000 in
set_option maxHeartbeats 1600000 in
theorem ropp_any (A B : Option Addr) (c d : Nat) (X Y : List Lnk) (w : World) (hz : LnkAt w A X) (hy : LnkAt w B Y) (hl : X.length ≤ 100000) (hl2 : Y.length ≤ 100000) :
  Calls Tryz.prog 34 #[.slice A X.length c, .slice B Y.length d] w fun e w' => e = .returned (.bool (oppB X Y)) ∧ Below w.heap.size w w' := by
 have hB := Below.refl w.heap.size w
 have HC := Lib.hid (fun W (E : Option Addr) (cE : Nat) (h : LnkAt W A X) (h2 : LnkAt W E (Y.map negL)) => rsamel_any A E c cE X (Y.map negL) W h h2 hl (by rw [List.length_map]; exact hl2))
 obtain ⟨i0, hi, hz1, hz2, hz3⟩ := info_parts infoLn
 obtain ⟨n, hn⟩ : ∃ n, X.length = n := ⟨_, rfl⟩
 obtain ⟨m, hm⟩ : ∃ m, Y.length = m := ⟨_, rfl⟩
 rw [List.length_map, hm] at HC
 rw [hn] at hl HC ⊢
 rw [hm] at hl2 ⊢
 have HM := Lib.hid hm
 have HZ := Lib.hid hz
 have HY := Lib.hid hy
 have hopp : decide (X = Y.map negL) = oppB X Y := rfl
 rw [hopp] at HC
 clear hn hm hz hy hopp
 go_enter Tryz.func34, Tryz.ntmps34
 go_wp2_with fail
 go_loopg [5, 6] m (fun kx s5 s6 wr => ∃ k : Nat, s6 = .int .i64 k ∧ k ≤ m ∧ m - k ≤ kx ∧ Hid (OwnL 46 wr w.heap.size s5 ((Y.take k).map negL)) ∧ Below w.heap.size w wr)
 case atStart => exact ⟨0, rfl, by omega, by omega, Lib.hid OwnL.nil, hB⟩
 case round =>
  clear hB
  obtain ⟨k, rfl, hk, hkx, HO, hB⟩ := hrel
  by_cases hlt : k < m
  ·have hltz : (k : Int) < (m : Int) := by omega
   obtain ⟨b2, off2, rfl, hbw2, hcs2⟩ := HY.out (by rw [HM.out]; omega)
   have ht2 := take_succ_getD (d := lnk0) (L := Y) (i := k) (by rw [HM.out]; exact hlt)
   obtain ⟨c0, c1, c2⟩ := (hcs2 k (by rw [HM.out]; exact hlt)).up hB hbw2
   have hst : (Y.take (k + 1)).map negL = (Y.take k).map negL ++ [negL (Y.getD k lnk0)] := by rw [ht2, List.map_append]; rfl
   have hln : ((Y.take k).map negL).length ≤ 100000000 := by rw [List.length_map, List.length_take]; omega
   generalize Y.getD k lnk0 = y at *
   obtain ⟨y1, y2, y3⟩ := y
   have hng : negL ⟨y1, y2, y3⟩ = ⟨y1, wrap64 (-y2), y3⟩ := rfl
   rw [hng] at hst
   dsimp only at c0 c1 c2
   have HST := Lib.hid hst
   have HLN := Lib.hid hln
   have hsz : w.heap.size ≤ wr.heap.size := hB.size
   have HSZ := Lib.hid hsz
   have HB1 : Hid (Below w.heap.size w (wr.alloc (.cells #[.int .i64 y1, .int .i64 (wrap64 (-y2)), .int .i64 y3] 46))) := Lib.hid (hB.alloc hsz _)
   have HO1 : Hid (OwnL 46 (wr.alloc (.cells #[.int .i64 y1, .int .i64 (wrap64 (-y2)), .int .i64 y3] 46)) w.heap.size u5 ((Y.take k).map negL)) := Lib.hid (HO.out.alloc _)
   clear hst hln hng hcs2 ht2 hB HO
   go_wp2_with (at_builtin; refine wpList_append_lk _ rfl (.tmp 22) (.tmp 24) 40 rfl w.heap.size 46 i0 24 Tryz.underlying40 hi hz1 hz2 hz3 (by omega) u5 _ (by rfl) HO1.out ⟨y1, wrap64 (-y2), y3⟩ _ 1 (by simp) rfl HLN.out (by have := HSZ.out; simp; omega) ?_; intro v5 w5 ho5 hg5 hl5 hb5)
   have HO5 : Hid (OwnL 46 w5 w.heap.size v5 ((Y.take (k + 1)).map negL)) := Lib.hid (by rw [HST.out]; exact ho5.out)
   have HB5 := Lib.hid (HB1.out.trans hb5)
   clear ho5 hg5 hl5 hb5 HO1 HST
   go_roundg (m - (k + 1))
   case measure => omega
   case rel => exact ⟨k + 1, by go_num, by omega, by omega, HO5, HB5.out⟩
  ·obtain rfl : k = m := by omega
   have hltz : ¬ (k : Int) < (k : Int) := by omega
   have hO9 := HO.out
   rw [show Y.take k = Y by rw [← HM.out, List.take_length]] at hO9
   obtain ⟨E, cE, rfl, hat⟩ := hO9.reads
   have HAT := Lib.hid hat
   have HL : Hid ((Y.map negL).length = k) := Lib.hid (by rw [List.length_map, HM.out])
   rw [HL.out]
   have HB := Lib.hid hB
   clear hat hO9 HO hB
   go_wp2_with (go_at_call 45; refine (HC.out _ E cE (HZ.out.up HB.out) HAT.out).mono ?_; rintro e w5 ⟨rfl, hb5⟩)
   go_ret
   exact ⟨rfl, below_more HB.out hb5⟩
open Go.RowKit Go.Maps
structure PE where
 id : Int
 ent : Int
 day : Int
 kind : Int
 of_ : Int
 txt : ByteArray
 ls : List Lnk
abbrev Etl := Ety × List Lnk
def pe (p : Etl) : PE := ⟨p.1.id, p.1.ent, p.1.day, p.1.kind, p.1.of_, p.1.txt, p.2⟩
def idxP (Es : List PE) (id : Int) : Nat := Es.findIdx fun e => decide (e.id = id)
def getP (Es : List PE) (id : Int) : Int := if idxP Es id < Es.length then (idxP Es id : Int) else -1
def isRv (id : Int) (e : PE) : Bool := decide (e.kind = 3) && decide (e.of_ = id)
def revO (Es : List PE) (id : Int) : Option PE := Es.find? (isRv id)
def revP (Es : List PE) (id : Int) : Int := match revO Es id with | some e => e.id | none => 0
def rvE (Es : List PE) (x : PE) : Int := if x.kind = 3 then (match Es[idxP Es x.of_]? with
 | none => 8
 | some e => if (decide (e.kind = 3) || decide (revP Es x.of_ ≠ 0)) = true then 7 else if (decide (e.ent ≠ x.ent) || (decide (x.day < e.day) || !oppB x.ls e.ls)) = true then 18 else 0) else 0
def fst4 (a b c d : Int) : Int := if a = 0 then (if b = 0 then (if c = 0 then d else c) else b) else a
def postE (c : Int) (Es : List PE) (x : PE) : Int := fst4 c (if idxP Es x.id < Es.length then 9 else 0) (rvE Es x) (if 2000 ≤ Es.length then 6 else 0)
theorem idxP_some {Es : List PE} {id : Int} (h : idxP Es id < Es.length) : ∃ e, Es[idxP Es id]? = some e ∧ e.id = id := by
 refine ⟨Es[idxP Es id], List.getElem?_eq_getElem h, ?_⟩
 have h2 : Es.findIdx (fun e : PE => decide (e.id = id)) < Es.length := h
 have := List.findIdx_getElem (p := fun e : PE => decide (e.id = id)) (xs := Es) (w := h2)
 exact of_decide_eq_true this
theorem idxP_snoc (Es : List PE) (x : PE) (id : Int) : idxP (Es ++ [x]) id = if idxP Es id < Es.length then idxP Es id else if x.id = id then Es.length else Es.length + 1 := by
 unfold idxP
 rw [List.findIdx_append]
 split
 ·rfl
 ·rename_i h
  have h1 : Es.findIdx (fun e => decide (e.id = id)) = Es.length := Nat.le_antisymm List.findIdx_le_length (Nat.le_of_not_lt h)
  by_cases h2 : x.id = id
  ·simp [h2, List.findIdx_cons]
  ·simp [h2, List.findIdx_cons]; omega
theorem revO_snoc (Es : List PE) (x : PE) (id : Int) : revO (Es ++ [x]) id = (revO Es id).or (if isRv id x = true then some x else none) := by
 unfold revO
 rw [List.find?_append]
 congr 1
 by_cases h : isRv id x = true <;> simp [h]
structure GoodP (Es : List PE) : Prop where
 pos : ∀ e ∈ Es, 1 ≤ e.id
 wf : ∀ e ∈ Es, (Lit.int .i64 e.id).wf = true
 ln : ∀ e ∈ Es, e.ls.length ≤ 1000
theorem revP_ne {Es : List PE} (h : GoodP Es) (id : Int) : (revP Es id ≠ 0) ↔ (revO Es id).isSome = true := by
 unfold revP
 cases hr : revO Es id with
 | none => simp
 | some e =>
  have := h.pos e (List.mem_of_find?_eq_some hr)
  simp
  omega
def idxF (Es : List PE) (id : Int) : Option Value := if idxP Es id < Es.length then some (.int .i64 (idxP Es id : Nat)) else none
def revF (Es : List PE) (id : Int) : Option Value := (revO Es id).map fun e => .int .i64 e.id
theorem idxF_snoc {Es : List PE} {x : PE} (h : ¬ idxP Es x.id < Es.length) (c : Int) : idxF (Es ++ [x]) c = if c = x.id then some (.int .i64 (Es.length : Nat)) else idxF Es c := by
 unfold idxF
 rw [idxP_snoc, List.length_append, List.length_singleton]
 by_cases hc : c = x.id
 ·subst hc
  rw [if_neg h, if_pos rfl, if_pos rfl, if_pos (by omega)]
 ·rw [if_neg hc]
  by_cases h1 : idxP Es c < Es.length
  ·rw [if_pos h1, if_pos h1, if_pos (by omega)]
  ·have e1 : (if idxP Es c < Es.length then idxP Es c else if x.id = c then Es.length else Es.length + 1) = Es.length + 1 := by rw [if_neg h1, if_neg (fun e => hc e.symm)]
   rw [e1, if_neg (by omega), if_neg h1]
theorem revF_snoc {Es : List PE} {x : PE} (hk : x.kind = 3) (h : revO Es x.of_ = none) (c : Int) : revF (Es ++ [x]) c = if c = x.of_ then some (.int .i64 x.id) else revF Es c := by
 unfold revF
 rw [revO_snoc]
 by_cases hc : c = x.of_
 ·subst hc
  rw [h, if_pos rfl]
  simp [isRv, hk]
 ·rw [if_neg hc]
  have : isRv c x = false := by simp [isRv, hk]; exact fun e => hc e.symm
  rw [this]
  simp
theorem revF_same {Es : List PE} {x : PE} (hk : x.kind ≠ 3) (c : Int) : revF (Es ++ [x]) c = revF Es c := by
 unfold revF
 rw [revO_snoc]
 have : isRv c x = false := by simp [isRv, hk]
 rw [this]
 simp
theorem fst4_zero {a b c d : Int} (h : fst4 a b c d = 0) : a = 0 ∧ b = 0 ∧ c = 0 ∧ d = 0 := by
 unfold fst4 at h
 by_cases h0 : a = 0
 ·by_cases h1 : b = 0
  ·by_cases h2 : c = 0
   ·rw [if_pos h0, if_pos h1, if_pos h2] at h; exact ⟨h0, h1, h2, h⟩
   ·rw [if_pos h0, if_pos h1, if_neg h2] at h; exact absurd h h2
  ·rw [if_pos h0, if_neg h1] at h; exact absurd h h1
 ·rw [if_neg h0] at h; exact absurd h h0
theorem postE_zero {c : Int} {Es : List PE} {x : PE} (hg : GoodP Es) (h : postE c Es x = 0) : c = 0 ∧ ¬ idxP Es x.id < Es.length ∧ (x.kind = 3 → revO Es x.of_ = none) := by
 obtain ⟨h0, h1, h2, -⟩ := fst4_zero h
 refine ⟨h0, (fun h3 => by rw [if_pos h3] at h1; cases h1), fun hk => ?_⟩
 unfold rvE at h2
 rw [if_pos hk] at h2
 split at h2
 ·cases h2
 ·split at h2
  ·cases h2
  ·rename_i h4
   cases hr : revO Es x.of_ with
   | none => rfl
   | some e =>
    exfalso
    have := (revP_ne hg x.of_).2 (by rw [hr]; rfl)
    simp [this] at h4
def EtysK (w : World) (Xs : List Etl) : Prop := ∀ p ∈ Xs, EtyK w p.1 p.2
theorem EtysK.up {w w' : World} {Xs : List Etl} (h : EtysK w Xs) (hb : Below w.heap.size w w') : EtysK w' Xs := fun p hp => (h p hp).up hb
structure JD where
 b : Nat
 g : Grp
 L : List Acc
 G : List Ent
 A : Option Addr
 n : Nat
 c : Nat
 Xs : List Etl
 bi : Nat
 br : Nat
def JD.Es (j : JD) : List PE := j.Xs.map pe
def JC (j : JD) : List Value := grpC j.g ++ [.slice j.A j.n j.c, .map (some j.bi), .map (some j.br)]
structure JK (M : Nat → Prop) (B : Nat) (w : World) (j : JD) : Prop where
 box : Wh 57 w j.b (JC j)
 row : OwnR lyX 42 w B (.slice j.A j.n j.c) (j.Xs.map (·.1))
 ln : j.Xs.length = j.n
 idx : MapV w j.bi j.n (idxF j.Es)
 rev : MapV w j.br j.n (revF j.Es)
 grp : Im M (fun w => GrK w j.g j.L j.G) w
 ets : Im M (fun w => EtysK w j.Xs) w
 mb : M j.b
 mi : M j.bi
 mr : M j.br
 mx : ∀ k, (Value.slice j.A j.n j.c).ownBlock = some k → M k
 ne : j.bi ≠ j.br
 hs : Sm j.g j.G
 hw : GrW j.g j.L j.G
 good : GoodP j.Es
section
variable {M : Nat → Prop} {B : Nat} {w w' : World} {j : JD}
theorem MapV.isMap {b n : Nat} {f : Int → Option Value} (h : MapV w b n f) : ∃ es k, w.heap[b]? = some (.map es k) := by
 obtain ⟨D, ⟨es, clock, hb, _⟩, _⟩ := h
 exact ⟨es, clock, hb⟩
theorem JK.up (h : JK M B w j) (hb : Below w.heap.size w w') : JK M B w' j :=
 ⟨h.box.up hb, h.row.up hb, h.ln, h.idx.up hb, h.rev.up hb, h.grp.on (Only.of hb), h.ets.on (Only.of hb), h.mb, h.mi, h.mr, h.mx, h.ne, h.hs, h.hw, h.good⟩
theorem JK.len (h : JK M B w j) : j.Es.length = j.n := by rw [← h.ln]; simp [JD.Es]
theorem JK.b_row (h : JK M B w j) : ∀ k, (Value.slice j.A j.n j.c).ownBlock = some k → k ≠ j.b := by
 intro k hk e
 subst e
 rcases h.row.2 with ⟨h1, _⟩ | ⟨g, cap, cur, h1, _, hg, _⟩
 ·rw [h1] at hk; cases hk
 ·rw [h1] at hk
  have hk2 : g = j.b := by injection hk
  rw [hk2, h.box.blk] at hg
  injection hg with hg
  injection hg with _ h2
  exact absurd h2 (by decide)
theorem JK.i_row (h : JK M B w j) : ∀ k, (Value.slice j.A j.n j.c).ownBlock = some k → k ≠ j.bi ∧ k ≠ j.br := by
 intro k hk
 rcases h.row.2 with ⟨h1, _⟩ | ⟨g, cap, cur, h1, _, hg, _⟩
 ·rw [h1] at hk; cases hk
 ·rw [h1] at hk
  have hk2 : g = k := by injection hk
  rw [hk2] at hg
  obtain ⟨e1, k1, h3⟩ := h.idx.isMap
  obtain ⟨e2, k2, h4⟩ := h.rev.isMap
  exact ⟨(fun e => by rw [e, h3] at hg; cases hg), (fun e => by rw [e, h4] at hg; cases hg)⟩
theorem JK.b_map (h : JK M B w j) : j.b ≠ j.bi ∧ j.b ≠ j.br := by
 obtain ⟨e1, k1, h3⟩ := h.idx.isMap
 obtain ⟨e2, k2, h4⟩ := h.rev.isMap
 exact ⟨(fun e => by have := h.box.blk; rw [e, h3] at this; cases this), (fun e => by have := h.box.blk; rw [e, h4] at this; cases this)⟩
end
theorem wpList_mapv_ok {w : World} {ops : Array Oper} {rest : List Oper} {o : Oper} {a : Act} {Q : Exit → Act → World → Prop} (hg : o.guard = none) (m x : Operand) (hop : o.op = Op.lookup 55 m x true)
  (b n : Nat) (f : Int → Option Value) (hm : a.eval m = .map (some b)) (hs : MapV w b n f) (c : Int) (hx : a.eval x = .int .i64 c) (hw : (Lit.int .i64 c).wf = true)
  (hK : wpList Tryz.prog ops Q rest (a.put o.dst (.tuple #[(f c).getD (.int .i64 0), .bool (f c).isSome])) w) : wpList Tryz.prog ops Q (o :: rest) a w := by
 obtain ⟨D, h1, h3⟩ := hs
 refine wpList_plain hg fun K' hK' => ?_
 obtain ⟨v, ps, hrun, hv⟩ := h1.look_ok ti_keyed Tryz.underlying55 (ti_zero w) (zd := .held (.int .i64 0)) (zp := []) rfl (keyOf_int_mk Tryz.underlying3 hw)
 have he : v = (f c).getD (.int .i64 0) := by
  rw [(h3 c).2] at hv
  simp only [heldE, Option.some.injEq, Prod.mk.injEq] at hv
  have h4 := hv.1
  cases hf : f c with
  | none => rw [hf] at h4; injection h4
  | some u => rw [hf] at h4; injection h4
 rw [(h3 c).1] at hrun
 unfold Oper.wp
 simp [execOp, hop, hm, hx, hrun, Result.andThen]
 exact hK' _ _ (he ▸ hK)
theorem wp_mapv_put {w : World} {o : Oper} {a : Act} {K : Act → World → Prop} {Q : Exit → Act → World → Prop} (m x y : Operand) (hop : o.op = Op.mapUpdate 55 m x y)
  (b n : Nat) (f : Int → Option Value) (hm : a.eval m = .map (some b)) (hs : MapV w b n f) (c : Int) (hx : a.eval x = .int .i64 c) (v : Value) (hy : a.eval y = v) (hw : (Lit.int .i64 c).wf = true) (hn : n ≤ 1000000)
  (hK : ∀ w', MapV w' b (n + 1) (fun x => if x = c then some v else f x) → w.grownBy w' (some b) → K (a.put o.dst undef) w') : Oper.wp Tryz.prog o a w K Q := by
 obtain ⟨D, h1, h3⟩ := hs
 have h2 := h1.isMap
 obtain ⟨w', hrun, h4, h5⟩ := h1.update ti_keyed Tryz.underlying55 (by unfold maxLen; omega) (val := v) (d := .held v) (ps := []) (keyOf_int_mk Tryz.underlying3 hw) rfl
 unfold Oper.wp
 simp [execOp, hop, hm, hx, hy, hrun, Result.andThen]
 refine hK w' ⟨_, h4, fun x => ?_⟩ h5
 have hkl : ∀ z : Int, WideAt.IsKeyLit (Lit.int .i64 z) := fun z => by simp [WideAt.IsKeyLit]
 by_cases hxc : x = c
 ·subst hxc
  simp only [if_true]
  exact ⟨by rw [has_put_same h2 (hkl _)]; rfl, fun z => atKey_put_same h2 (hkl _) _ _⟩
 ·simp only [if_neg hxc]
  have hne : Lit.int .i64 x ≠ Lit.int .i64 c := fun e => hxc (by injection e)
  refine ⟨by rw [has_put_other hne]; exact (h3 x).1, fun z => ?_⟩
  rw [atKey_put_other hne]
  exact (h3 x).2 z
theorem infoEx : (Tryz.prog.info? 42).map (fun i => (i.zero, i.size, i.bytes)) = some (some (.agg #[.int .i64 0, .int .i64 0, .int .i64 0, .int .i64 0, .int .i64 0, .string ⟨#[]⟩, .slice none 0 0]), 7, 80) := by kernel_rfl
def ety0 : Ety := ⟨0, 0, 0, 0, 0, ⟨#[]⟩, none, 0, 0⟩
theorem ety0_k (w : World) : EtyK w ety0 [] := ⟨rfl, LnkAt.nil, fun l hl => by cases hl⟩
open Go.RowKit
theorem infoAcJ : (Tryz.prog.info? 91).map (fun i => (i.zero, i.size, i.bytes)) = some (some (.agg #[.int .i64 0, .int .i64 0, .int .i64 0, .int .i64 0]), 4, 32) := by kernel_rfl
set_option maxRecDepth 100000 in
set_option maxHeartbeats 3200000 in
theorem cloneL_any (A : Option Addr) (c : Nat) (X : List Lnk) (w : World) (hz : RowAt lyL w A X) (hl : X.length ≤ 100000) : Calls Tryz.prog 50 #[.slice A X.length c] w fun e w' => (∃ A' c', e = .returned (.slice A' X.length c') ∧ OwnR lyL 46 w' w.heap.size (.slice A' X.length c') X) ∧ Below w.heap.size w w' := by
 obtain ⟨n, hn⟩ : ∃ n, X.length = n := ⟨_, rfl⟩
 rw [hn] at hl ⊢
 have HN := Lib.hid hn
 have HZ := Lib.hid hz
 clear hz hn
 obtain ⟨i0, hi, hz1, hz2, hz3⟩ := info_parts infoLn
 rcases A with _ | ad
 ·have hx : X = [] := by
   rcases X with _ | ⟨x, X⟩
   ·rfl
   ·obtain ⟨b, off, e, _⟩ := HZ.out (by simp)
    cases e
  have hn0 : n = 0 := by rw [← HN.out, hx]; rfl
  subst hn0
  have HX := Lib.hid hx
  clear hx
  have kn := fun w : World => Lib.run_eql_slice_nil (P := Tryz.prog) w 40 46 none 0 c 0 0 Tryz.underlying40
  go_enter Tryz.func50, Tryz.ntmps50
  go_wp2_with fail
  go_ret
  exact ⟨⟨none, 0, rfl, by rw [HX.out]; exact OwnR.nil⟩, Below.refl _ _⟩
 ·have HB := Lib.hid (below_alloc_new (w := w) (.cells #[] 46))
  have HE : Hid (OwnR lyL 46 (w.alloc (.cells #[] 46)) w.heap.size (.slice (some ⟨w.heap.size, 0, none⟩) 0 0) []) := Lib.hid (OwnR.empty (Nat.le_refl _))
  have HZ2 := Lib.hid (HZ.out.up HB.out)
  have kn := fun w : World => Lib.run_eql_slice_nil (P := Tryz.prog) w 40 46 (some ad) n c 0 0 Tryz.underlying40
  go_enter Tryz.func50, Tryz.ntmps50
  go_wp2_with (at_builtin; refine wpList_app_row (R := lyL) (v := .slice (some ⟨w.heap.size, 0, none⟩) 0 0) rfl (.tmp 5) (.tmp 6) 40 rfl i0 _ 24 Tryz.underlying40 hi hz1 hz2 hz3 (by omega) rfl rfl HE.out (some ad) n c X HN.out rfl HZ2.out (by simp; omega) (Nat.le_of_lt (by simp)) ?_; intro v5 w5 ho5 hg5 hn5; obtain ⟨A5, c5, e5, -, -⟩ := ho5.out.reads; rw [List.nil_append, HN.out] at e5; obtain rfl := e5; have HO5 : Hid (OwnR lyL 46 w5 w.heap.size (.slice A5 n c5) X) := Lib.hid ho5.out; have HB5 : Hid (Below w.heap.size w w5) := Lib.hid (HB.out.grown hg5.out (by simp) (fun k hk => Nat.le_of_eq (Option.some.inj hk))); clear ho5 hg5 hn5)
  go_ret
  exact ⟨⟨A5, c5, rfl, HO5.out⟩, HB5.out⟩
set_option maxRecDepth 100000 in
set_option maxHeartbeats 3200000 in
theorem cloneA_any (A : Option Addr) (c : Nat) (X : List Acc) (w : World) (hz : RowAt lyA w A X) (hl : X.length ≤ 100000) : Calls Tryz.prog 85 #[.slice A X.length c] w fun e w' => (∃ A' c', e = .returned (.slice A' X.length c') ∧ OwnR lyA 91 w' w.heap.size (.slice A' X.length c') X) ∧ Below w.heap.size w w' := by
 obtain ⟨n, hn⟩ : ∃ n, X.length = n := ⟨_, rfl⟩
 rw [hn] at hl ⊢
 have HN := Lib.hid hn
 have HZ := Lib.hid hz
 clear hz hn
 obtain ⟨i0, hi, hz1, hz2, hz3⟩ := info_parts infoAcJ
 rcases A with _ | ad
 ·have hx : X = [] := by
   rcases X with _ | ⟨x, X⟩
   ·rfl
   ·obtain ⟨b, off, e, _⟩ := HZ.out (by simp)
    cases e
  have hn0 : n = 0 := by rw [← HN.out, hx]; rfl
  subst hn0
  have HX := Lib.hid hx
  clear hx
  have kn := fun w : World => Lib.run_eql_slice_nil (P := Tryz.prog) w 24 91 none 0 c 0 0 Tryz.underlying24
  go_enter Tryz.func85, Tryz.ntmps85
  go_wp2_with fail
  go_ret
  exact ⟨⟨none, 0, rfl, by rw [HX.out]; exact OwnR.nil⟩, Below.refl _ _⟩
 ·have HB := Lib.hid (below_alloc_new (w := w) (.cells #[] 91))
  have HE : Hid (OwnR lyA 91 (w.alloc (.cells #[] 91)) w.heap.size (.slice (some ⟨w.heap.size, 0, none⟩) 0 0) []) := Lib.hid (OwnR.empty (Nat.le_refl _))
  have HZ2 := Lib.hid (HZ.out.up HB.out)
  have kn := fun w : World => Lib.run_eql_slice_nil (P := Tryz.prog) w 24 91 (some ad) n c 0 0 Tryz.underlying24
  go_enter Tryz.func85, Tryz.ntmps85
  go_wp2_with (at_builtin; refine wpList_app_row (R := lyA) (v := .slice (some ⟨w.heap.size, 0, none⟩) 0 0) rfl (.tmp 5) (.tmp 6) 24 rfl i0 _ 32 Tryz.underlying24 hi hz1 hz2 hz3 (by omega) rfl rfl HE.out (some ad) n c X HN.out rfl HZ2.out (by simp; omega) (Nat.le_of_lt (by simp)) ?_; intro v5 w5 ho5 hg5 hn5; obtain ⟨A5, c5, e5, -, -⟩ := ho5.out.reads; rw [List.nil_append, HN.out] at e5; obtain rfl := e5; have HO5 : Hid (OwnR lyA 91 w5 w.heap.size (.slice A5 n c5) X) := Lib.hid ho5.out; have HB5 : Hid (Below w.heap.size w w5) := Lib.hid (HB.out.grown hg5.out (by simp) (fun k hk => Nat.le_of_eq (Option.some.inj hk))); clear ho5 hg5 hn5)
  go_ret
  exact ⟨⟨A5, c5, rfl, HO5.out⟩, HB5.out⟩
set_option maxRecDepth 100000 in
set_option maxHeartbeats 3200000 in
theorem cloneE_any (A : Option Addr) (c : Nat) (X : List Ent) (w : World) (hz : RowAt lyE w A X) (hl : X.length ≤ 100000) : Calls Tryz.prog 61 #[.slice A X.length c] w fun e w' => (∃ A' c', e = .returned (.slice A' X.length c') ∧ OwnR lyE 82 w' w.heap.size (.slice A' X.length c') X) ∧ Below w.heap.size w w' := by
 obtain ⟨n, hn⟩ : ∃ n, X.length = n := ⟨_, rfl⟩
 rw [hn] at hl ⊢
 have HN := Lib.hid hn
 have HZ := Lib.hid hz
 clear hz hn
 obtain ⟨i0, hi, hz1, hz2, hz3⟩ := info_parts infoEn
 rcases A with _ | ad
 ·have hx : X = [] := by
   rcases X with _ | ⟨x, X⟩
   ·rfl
   ·obtain ⟨b, off, e, _⟩ := HZ.out (by simp)
    cases e
  have hn0 : n = 0 := by rw [← HN.out, hx]; rfl
  subst hn0
  have HX := Lib.hid hx
  clear hx
  have kn := fun w : World => Lib.run_eql_slice_nil (P := Tryz.prog) w 27 82 none 0 c 0 0 Tryz.underlying27
  go_enter Tryz.func61, Tryz.ntmps61
  go_wp2_with fail
  go_ret
  exact ⟨⟨none, 0, rfl, by rw [HX.out]; exact OwnR.nil⟩, Below.refl _ _⟩
 ·have HB := Lib.hid (below_alloc_new (w := w) (.cells #[] 82))
  have HE : Hid (OwnR lyE 82 (w.alloc (.cells #[] 82)) w.heap.size (.slice (some ⟨w.heap.size, 0, none⟩) 0 0) []) := Lib.hid (OwnR.empty (Nat.le_refl _))
  have HZ2 := Lib.hid (HZ.out.up HB.out)
  have kn := fun w : World => Lib.run_eql_slice_nil (P := Tryz.prog) w 27 82 (some ad) n c 0 0 Tryz.underlying27
  go_enter Tryz.func61, Tryz.ntmps61
  go_wp2_with (at_builtin; refine wpList_app_row (R := lyE) (v := .slice (some ⟨w.heap.size, 0, none⟩) 0 0) rfl (.tmp 5) (.tmp 6) 27 rfl i0 _ 88 Tryz.underlying27 hi hz1 hz2 hz3 (by omega) rfl rfl HE.out (some ad) n c X HN.out rfl HZ2.out (by simp; omega) (Nat.le_of_lt (by simp)) ?_; intro v5 w5 ho5 hg5 hn5; obtain ⟨A5, c5, e5, -, -⟩ := ho5.out.reads; rw [List.nil_append, HN.out] at e5; obtain rfl := e5; have HO5 : Hid (OwnR lyE 82 w5 w.heap.size (.slice A5 n c5) X) := Lib.hid ho5.out; have HB5 : Hid (Below w.heap.size w w5) := Lib.hid (HB.out.grown hg5.out (by simp) (fun k hk => Nat.le_of_eq (Option.some.inj hk))); clear ho5 hg5 hn5)
  go_ret
  exact ⟨⟨A5, c5, rfl, HO5.out⟩, HB5.out⟩
set_option maxRecDepth 100000 in
set_option maxHeartbeats 3200000 in
theorem cloneX_any (A : Option Addr) (c : Nat) (X : List Ety) (w : World) (hz : RowAt lyX w A X) (hl : X.length ≤ 100000) : Calls Tryz.prog 17 #[.slice A X.length c] w fun e w' => (∃ A' c', e = .returned (.slice A' X.length c') ∧ OwnR lyX 42 w' w.heap.size (.slice A' X.length c') X) ∧ Below w.heap.size w w' := by
 obtain ⟨n, hn⟩ : ∃ n, X.length = n := ⟨_, rfl⟩
 rw [hn] at hl ⊢
 have HN := Lib.hid hn
 have HZ := Lib.hid hz
 clear hz hn
 obtain ⟨i0, hi, hz1, hz2, hz3⟩ := info_parts infoEx
 rcases A with _ | ad
 ·have hx : X = [] := by
   rcases X with _ | ⟨x, X⟩
   ·rfl
   ·obtain ⟨b, off, e, _⟩ := HZ.out (by simp)
    cases e
  have hn0 : n = 0 := by rw [← HN.out, hx]; rfl
  subst hn0
  have HX := Lib.hid hx
  clear hx
  have kn := fun w : World => Lib.run_eql_slice_nil (P := Tryz.prog) w 30 42 none 0 c 0 0 Tryz.underlying30
  go_enter Tryz.func17, Tryz.ntmps17
  go_wp2_with fail
  go_ret
  exact ⟨⟨none, 0, rfl, by rw [HX.out]; exact OwnR.nil⟩, Below.refl _ _⟩
 ·have HB := Lib.hid (below_alloc_new (w := w) (.cells #[] 42))
  have HE : Hid (OwnR lyX 42 (w.alloc (.cells #[] 42)) w.heap.size (.slice (some ⟨w.heap.size, 0, none⟩) 0 0) []) := Lib.hid (OwnR.empty (Nat.le_refl _))
  have HZ2 := Lib.hid (HZ.out.up HB.out)
  have kn := fun w : World => Lib.run_eql_slice_nil (P := Tryz.prog) w 30 42 (some ad) n c 0 0 Tryz.underlying30
  go_enter Tryz.func17, Tryz.ntmps17
  go_wp2_with (at_builtin; refine wpList_app_row (R := lyX) (v := .slice (some ⟨w.heap.size, 0, none⟩) 0 0) rfl (.tmp 5) (.tmp 6) 30 rfl i0 _ 80 Tryz.underlying30 hi hz1 hz2 hz3 (by omega) rfl rfl HE.out (some ad) n c X HN.out rfl HZ2.out (by simp; omega) (Nat.le_of_lt (by simp)) ?_; intro v5 w5 ho5 hg5 hn5; obtain ⟨A5, c5, e5, -, -⟩ := ho5.out.reads; rw [List.nil_append, HN.out] at e5; obtain rfl := e5; have HO5 : Hid (OwnR lyX 42 w5 w.heap.size (.slice A5 n c5) X) := Lib.hid ho5.out; have HB5 : Hid (Below w.heap.size w w5) := Lib.hid (HB.out.grown hg5.out (by simp) (fun k hk => Nat.le_of_eq (Option.some.inj hk))); clear ho5 hg5 hn5)
  go_ret
  exact ⟨⟨A5, c5, rfl, HO5.out⟩, HB5.out⟩
def Ety.at (x : Ety) (A : Option Addr) (c : Nat) : Ety := { x with A := A, c := c }
set_option maxRecDepth 100000 in
set_option maxHeartbeats 3200000 in
theorem copyof_any (x : Ety) (X : List Lnk) (w : World) (hx : EtyK w x X) (hn : x.n ≤ 1000) : Calls Tryz.prog 29 #[etyV x] w fun e w' => (∃ A c, e = .returned (etyV (x.at A c)) ∧ OwnR lyL 46 w' w.heap.size (.slice A x.n c) X) ∧ Below w.heap.size w w' := by
 have HC := Lib.hid (fun W (h : LnkAt W x.A X) => cloneL_any x.A x.c X W (lnk_row.2 h) (by rw [hx.ln]; omega))
 rw [hx.ln] at HC
 obtain ⟨s0, hs0⟩ : ∃ s0, w.heap.size = s0 := ⟨_, rfl⟩
 obtain ⟨w2, hw2⟩ : ∃ w2, (w.alloc (.cells (etyC x).toArray 42)).alloc (.cells #[.int .i64 0, .int .i64 0, .int .i64 0, .int .i64 0, .int .i64 0, .string ⟨#[]⟩, .slice none 0 0] 42) = w2 := ⟨_, rfl⟩
 have hXB : Wh 42 w2 s0 (etyC x) := by rw [← hw2, ← hs0]; exact (Wh.new w _ _).up (below_alloc_new _)
 have HRB : Hid (Wh 42 w2 (s0 + 1) [.int .i64 0, .int .i64 0, .int .i64 0, .int .i64 0, .int .i64 0, .string ⟨#[]⟩, .slice none 0 0]) := Lib.hid (by
  rw [← hw2, ← hs0]
  have h9 := Wh.new (w.alloc (.cells (etyC x).toArray 42)) 42 [.int .i64 0, .int .i64 0, .int .i64 0, .int .i64 0, .int .i64 0, .string ⟨#[]⟩, .slice none 0 0]
  rw [World.size_alloc] at h9
  exact h9)
 have HB2 : Hid (Below s0 w w2) := Lib.hid (by rw [← hw2, ← hs0]; exact below_new (below_alloc_new _) _)
 have HS2 : Hid (w2.heap.size = s0 + 2) := Lib.hid (by rw [← hw2, ← hs0]; simp)
 have HX2 := Lib.hid (hx.hz.up (HB2.out.mono (Nat.le_of_eq hs0)))
 have c6 := hXB.at 6 _ rfl
 have HXB := Lib.hid hXB
 have HS0 := Lib.hid hs0
 have hw3 : (etyC x).toArray = #[.int .i64 x.id, .int .i64 x.ent, .int .i64 x.day, .int .i64 x.kind, .int .i64 x.of_, .string x.txt, .slice x.A x.n x.c] := rfl
 rw [hw3] at hw2
 clear hx hw3 hXB
 go_enter Tryz.func29, Tryz.ntmps29
 go_upto_region 2 with (go_at_call 50; refine (HC.out _ HX2.out).mono ?_; rintro e w3 ⟨⟨A, c, rfl, ho⟩, hb⟩; have hx3 := HXB.out.up hb; have z6 := hx3.at 6 _ rfl; have y6 := hx3.frozen 6; have HX3 := Lib.hid hx3; have HR3 := Lib.hid (HRB.out.up hb); have HO3 := Lib.hid ho; have HB3 := Lib.hid hb; clear hx3 ho hb)
 have hX4 : Wh 42 (w3.setCell ⟨s0, 6, none⟩ (.slice A x.n c)) s0 (etyC (x.at A c)) := HX3.out.set 6 _
 have hR4 := HR3.out.same (Below.heap_setCell w3 ⟨s0, 6, none⟩ (.slice A x.n c) (s0 + 1) (by show s0 + 1 ≠ s0; omega))
 have hO4 : OwnR lyL 46 (w3.setCell ⟨s0, 6, none⟩ (.slice A x.n c)) w2.heap.size (.slice A x.n c) X := HO3.out.blk fun g hg => Below.heap_setCell w3 ⟨s0, 6, none⟩ _ g (by have := (HO3.out.lt hg).1; have := HS2.out; show g ≠ s0; omega)
 have hB4 : Below s0 w (w3.setCell ⟨s0, 6, none⟩ (.slice A x.n c)) := Below.setCell (p := ⟨s0, 6, none⟩) (HB2.out.trans (HB3.out.mono (by have := HS2.out; omega))) (Nat.le_refl _) _
 clear z6 y6 c6 HX3 HR3 HO3 HB3 HXB HRB HX2 hw2
 generalize w3.setCell ⟨s0, 6, none⟩ (.slice A x.n c) = w4 at *
 have HL : Hid ((Instr.loadAt 42 (.pointer (some ⟨s0, 0, none⟩))).run Tryz.prog w4 = .ok (etyV (x.at A c)) w4) := Lib.hid (hX4.rg.load 0 42 (etyC (x.at A c)) rfl _ Tryz.underlying42 rfl (by kernel_rfl))
 have HR4 := Lib.hid hR4
 have HO4 := Lib.hid hO4
 have HB4 := Lib.hid hB4
 have HM1 : True := trivial
 clear hX4 hR4 hO4 hB4
 go_wp2_with (first
  | (clear HM1; refine wpList_load_is rfl 42 _ rfl (.pointer (some ⟨s0, 0, none⟩)) rfl (etyV (x.at A c)) HL.out ?_)
  | (refine wpList_store_wh rfl 42 _ _ rfl (s0 + 1) rfl 42 [.int .i64 0, .int .i64 0, .int .i64 0, .int .i64 0, .int .i64 0, .string ⟨#[]⟩, .slice none 0 0] (etyC (x.at A c)) rfl HR4.out rfl (by kernel_rfl) (by kernel_rfl) ?_; intro w5 hr5 ho5 hz5))
 refine bodyPost_ret (v := etyV (x.at A c)) (results_cell_mid Tryz.results29 _ _ (s0 + 1) (etyC (x.at A c)) _ rfl hr5.out.range Tryz.underlying42 rfl (by kernel_rfl)) rfl ⟨⟨A, c, rfl, ?_⟩, ?_⟩
 ·exact (HO4.out.blk fun g hg => ho5.out.blk g (HO4.out.lt hg).2 (by have := (HO4.out.lt hg).1; have := HS2.out; show ¬ g = s0 + 1; omega)).low (by have := HS2.out; have := HS0.out; omega)
 ·have h9 := HB4.out.trans (ho5.out.below (B := s0) (fun k hk => by have h8 : k = s0 + 1 := hk; omega) (by have := HB4.out.size; have := HS0.out; omega))
  first | exact h9 | (rw [HS0.out]; exact h9)
theorem OwnR.frozen {α : Type} {R : Lay α} {e : TypeId} {w : World} {base g n c : Nat} {L : List α} (h : OwnR R e w base (.slice (some ⟨g, 0, none⟩) n c) L) (i : Nat) : w.frozen? ⟨g, i, none⟩ = false := by
 rcases h.2 with ⟨h1, _⟩ | ⟨g', cap, cur, h1, _, hg, _⟩
 ·cases h1
 ·injection h1 with h1 _ _
  injection h1 with h1
  injection h1 with h1 _ _
  subst h1
  simp [World.frozen?, hg]
def noPar (a : Acc) : Acc := { a with par := 0 }
theorem nopar_step {L : List Acc} {k : Nat} {a : Acc} (h : L[k]? = some a) : (((L.take k).map noPar) ++ L.drop k)[k]? = some a ∧ (((L.take k).map noPar) ++ L.drop k).set k (noPar a) = (L.take (k + 1)).map noPar ++ L.drop (k + 1) := by
 have hk : k < L.length := (List.getElem?_eq_some_iff.1 h).1
 have h1 : ((L.take k).map noPar).length = k := by rw [List.length_map, List.length_take]; omega
 have h2 : L.drop k = a :: L.drop (k + 1) := by
  rw [List.drop_eq_getElem_cons hk]
  rw [List.getElem?_eq_getElem hk] at h
  injection h with h
  rw [h]
 have h3 : L.take (k + 1) = L.take k ++ [a] := by rw [List.take_add_one, h]; rfl
 constructor
 ·rw [List.getElem?_append_right (by omega), h1, Nat.sub_self, h2]; rfl
 ·rw [List.set_append_right _ _ (by omega), h1, Nat.sub_self, h2, List.set_cons_zero, h3, List.map_append, List.append_assoc]; rfl
set_option maxRecDepth 100000 in
set_option maxHeartbeats 3200000 in
theorem wop_any (A : Option Addr) (c : Nat) (L : List Acc) (w : World) (hz : RowAt lyA w A L) (hl : L.length ≤ 1000) : Calls Tryz.prog 60 #[.slice A L.length c] w fun e w' => (∃ A' c', e = .returned (.slice A' L.length c') ∧ OwnR lyA 91 w' w.heap.size (.slice A' L.length c') (L.map noPar)) ∧ Below w.heap.size w w' := by
 have HC := Lib.hid (cloneA_any A c L w hz (by omega))
 obtain ⟨n, hn⟩ : ∃ n, L.length = n := ⟨_, rfl⟩
 rw [hn] at HC hl ⊢
 have HN := Lib.hid hn
 clear hz hn
 go_enter Tryz.func60, Tryz.ntmps60
 go_wp2_with (go_at_call 85; refine HC.out.mono ?_; rintro e w2 ⟨⟨A2, c2, rfl, ho⟩, hb⟩; have HO := Lib.hid ho; have HB := Lib.hid hb; clear ho hb)
 go_loopg [9] n (fun kx s9 wr => ∃ k : Nat, s9 = .int .i64 k ∧ k ≤ n ∧ n - k ≤ kx ∧ Hid (OwnR lyA 91 wr w.heap.size (.slice A2 n c2) ((L.take k).map noPar ++ L.drop k)) ∧ Hid (Below w.heap.size w wr))
 case atStart => exact ⟨0, rfl, by omega, by omega, HO, HB⟩
 case round =>
  clear HO HB
  obtain ⟨k, rfl, hk, hkx, HO, HB⟩ := hrel
  by_cases hlt : k < n
  ·have hltz : (k : Int) < (n : Int) := by omega
   obtain ⟨a, ha⟩ : ∃ a, L[k]? = some a := ⟨_, List.getElem?_eq_getElem (by rw [HN.out]; exact hlt)⟩
   obtain ⟨h1, h2⟩ := nopar_step ha
   obtain ⟨A9, c9, e9, hr, hg⟩ := HO.out.reads
   injection e9 with e9 q1 q2
   subst e9
   clear q1 q2
   obtain ⟨g, off, rfl, hgl, hrg⟩ := hr.at h1
   obtain ⟨-, rfl⟩ := hg g off rfl
   have z3 : wr.cell? ⟨g, k * 4 + 3, none⟩ = some (.int .i64 a.par) := by have := hrg 3 _ rfl; rwa [Nat.zero_add] at this
   have y3 := HO.out.frozen (k * 4 + 3)
   have HO2 : Hid (OwnR lyA 91 (wr.setCell ⟨g, k * 4 + 3, none⟩ (.int .i64 0)) w.heap.size (.slice (some ⟨g, 0, none⟩) n c2) ((L.take (k + 1)).map noPar ++ L.drop (k + 1))) := Lib.hid (by rw [← h2]; exact HO.out.setf (j := 3) h1 (by decide) _ rfl)
   have HB2 : Hid (Below w.heap.size w (wr.setCell ⟨g, k * 4 + 3, none⟩ (.int .i64 0))) := Lib.hid (Below.setCell (p := ⟨g, k * 4 + 3, none⟩) HB.out (HO.out.lt rfl).1 _)
   clear hr hrg hg ha h1 h2 HO HB
   go_wp2_with fail
   go_roundg (n - (k + 1))
   case measure => omega
   case rel => exact ⟨k + 1, by go_num, by omega, by omega, HO2, HB2⟩
  ·obtain rfl : k = n := by omega
   have hltz : ¬ (k : Int) < (k : Int) := by omega
   have hO9 := HO.out
   rw [← HN.out, List.take_length, List.drop_length, List.append_nil, HN.out] at hO9
   have HO9 := Lib.hid hO9
   clear hO9
   go_wp2_with fail
   go_ret
   exact ⟨⟨A2, c2, rfl, HO9.out⟩, HB.out⟩
theorem allocs_old : ∀ (os : List Obj) (w : World) (k : Nat), k < w.heap.size → (os.foldl World.alloc w).heap[k]? = w.heap[k]?
 | [], _, _, _ => rfl
 | o :: os, w, k, h => by
  rw [List.foldl_cons, allocs_old os _ k (by simp; omega), show (w.alloc o).heap[k]? = w.heap[k]? from Below.heap_alloc w o k h]
theorem allocs_at : ∀ (os : List Obj) (w : World) (i : Nat) (o : Obj), os[i]? = some o → (os.foldl World.alloc w).heap[w.heap.size + i]? = some o
 | [], _, _, _, h => by simp at h
 | x :: os, w, 0, o, h => by
  simp at h; subst h
  rw [List.foldl_cons, Nat.add_zero, allocs_old os _ _ (by simp)]
  exact heap_alloc_new w x
 | x :: os, w, i + 1, o, h => by
  have := allocs_at os (w.alloc x) i o (by simpa using h)
  rw [World.size_alloc, show w.heap.size + 1 + i = w.heap.size + (i + 1) by omega] at this
  exact this
theorem allocs_below : ∀ (os : List Obj) (w : World), Below w.heap.size w (os.foldl World.alloc w)
 | [], w => Below.refl _ _
 | o :: os, w => (below_alloc_new o).trans ((allocs_below os (w.alloc o)).mono (by simp))
def crow : Nat → List Int
 | 0 => [1000, 1010, 1100, 1200]
 | 1 => [1300, 1500, 1600, 1700]
 | 2 => [2000, 2100]
 | 3 => [3000, 3100, 3200, 3300, 3400, 3500]
 | 4 => [4000, 4100, 4500, 4600, 4700]
 | 5 => [5000, 5100, 5500, 5600, 5700]
 | _ => []
def krow (i : Nat) : Int := [1, 1, 2, 3, 4, 5].getD i 0
def brow (i : Nat) : Int := [1, 3, 1, 3, 2, 2].getD i 0
def parN (c : Int) : Int := if c = 1010 ∨ c = 1100 ∨ c = 1200 then 1000 else if c = 2100 ∨ c = 4100 then c - 100 else 0
def accN (i k : Nat) : Acc := ⟨(crow i).getD k 0, krow i, brow i, parN ((crow i).getD k 0)⟩
def scN (i k : Nat) : List Acc := ((List.range i).flatMap fun r => (List.range (crow r).length).map (accN r)) ++ (List.range k).map (accN i)
theorem scN_k (i k : Nat) : scN i (k + 1) = scN i k ++ [accN i k] := by simp [scN, List.range_succ]
theorem scN_i (i : Nat) : scN (i + 1) 0 = scN i (crow i).length := by simp [scN, List.range_succ]
def smpL : List Acc := scN 6 0
theorem crow_len (i : Nat) : (crow i).length ≤ 6 := by
 unfold crow
 split <;> simp
theorem scN_len : ∀ i k, i ≤ 6 → k ≤ 6 → (scN i k).length ≤ 100 := by
 intro i k hi hk
 have h : ∀ i, i ≤ 6 → (scN i 0).length ≤ 50 := by decide
 have := h i hi
 have e : (scN i k).length = (scN i 0).length + k := by simp [scN]
 omega
theorem infoAc : (Tryz.prog.info? 91).map (fun i => (i.zero, i.size, i.bytes)) = some (some (.agg #[.int .i64 0, .int .i64 0, .int .i64 0, .int .i64 0]), 4, 32) := by kernel_rfl
def spC (c k b : Int) : Nat → List Value
 | 2 => [.int .i64 c, .int .i64 k, .int .i64 b, .int .i64 0]
 | _ => [.int .i64 0, .int .i64 0, .int .i64 0, .int .i64 0]
def spJ (wi : World) (c k b : Int) (n : Nat) (l : List Value) (W : World) : Prop := Below wi.heap.size wi W ∧ ∀ v, l = [v] → ∃ g, v = .pointer (some ⟨g, 0, none⟩) ∧ wi.heap.size ≤ g ∧ Wh 91 W g (spC c k b n)
theorem spJ.st (wi : World) (c k b : Int) (n : Nat) (l : List Value) (W W' : World) (hb : Below W.heap.size W W') (h : spJ wi c k b n l W) : spJ wi c k b n l W' :=
 ⟨h.1.trans (hb.mono h.1.size), fun v hv => by obtain ⟨g, h1, h2, h3⟩ := h.2 v hv; exact ⟨g, h1, h2, h3.up hb⟩⟩
def spFa (s0 i k n : Nat) (c : Int) : List (Nat × AK.Fact (SizeUp)) := [(35, AK.Fact.is (.slice (some ⟨s0 + 6, 0, none⟩) 6 6)), (36, AK.Fact.is (.int .i64 (i : Int))), (37, AK.Fact.is (.pointer (some ⟨s0 + 6, i * 3, none⟩))), (38, AK.Fact.is (.pointer (some ⟨s0 + 6, i * 3 + 2, none⟩))), (39, AK.Fact.is (.slice (some ⟨s0 + i, 0, none⟩) n n)), (40, AK.Fact.is (.int .i64 (k : Int))), (41, AK.Fact.is (.pointer (some ⟨s0 + i, k, none⟩))), (42, AK.Fact.is (.int .i64 c)), (43, AK.Fact.is (.slice (some ⟨s0 + 6, 0, none⟩) 6 6)), (44, AK.Fact.is (.int .i64 (i : Int))), (45, AK.Fact.is (.pointer (some ⟨s0 + 6, i * 3, none⟩))), (46, AK.Fact.is (.pointer (some ⟨s0 + 6, i * 3, none⟩))), (47, AK.Fact.is (.int .i64 (krow i))), (48, AK.Fact.is (.slice (some ⟨s0 + 6, 0, none⟩) 6 6)), (49, AK.Fact.is (.int .i64 (i : Int))), (50, AK.Fact.is (.pointer (some ⟨s0 + 6, i * 3, none⟩))), (51, AK.Fact.is (.pointer (some ⟨s0 + 6, i * 3 + 1, none⟩))), (52, AK.Fact.is (.int .i64 (brow i))), (53, AK.Fact.is (.agg #[.int .i64 c, .int .i64 (krow i), .int .i64 (brow i), .int .i64 0])), (5, AK.Fact.triv)]
set_option maxRecDepth 100000 in
set_option maxHeartbeats 12800000 in
theorem spchart_any (w : World) : Calls Tryz.prog 35 #[] w fun e w' => (∃ A c, e = .returned (.slice A smpL.length c) ∧ ∃ B, w.heap.size ≤ B ∧ OwnR lyA 91 w' B (.slice A smpL.length c) smpL) ∧ Below w.heap.size w w' := by
 obtain ⟨s0, hs0⟩ : ∃ s0, w.heap.size = s0 := ⟨_, rfl⟩
 obtain ⟨w2, hw2⟩ : ∃ w2, (((((((w.alloc (.cells #[.int .i64 1000, .int .i64 1010, .int .i64 1100, .int .i64 1200] 3)).alloc (.cells #[.int .i64 1300, .int .i64 1500, .int .i64 1600, .int .i64 1700] 3)).alloc (.cells #[.int .i64 2000, .int .i64 2100] 3)).alloc (.cells #[.int .i64 3000, .int .i64 3100, .int .i64 3200, .int .i64 3300, .int .i64 3400, .int .i64 3500] 3)).alloc (.cells #[.int .i64 4000, .int .i64 4100, .int .i64 4500, .int .i64 4600, .int .i64 4700] 3)).alloc (.cells #[.int .i64 5000, .int .i64 5100, .int .i64 5500, .int .i64 5600, .int .i64 5700] 3)).alloc (.cells #[.int .i64 1, .int .i64 1, .slice (some ⟨s0, 0, none⟩) 4 4, .int .i64 1, .int .i64 3, .slice (some ⟨s0 + 1, 0, none⟩) 4 4, .int .i64 2, .int .i64 1, .slice (some ⟨s0 + 2, 0, none⟩) 2 2, .int .i64 3, .int .i64 3, .slice (some ⟨s0 + 3, 0, none⟩) 6 6, .int .i64 4, .int .i64 2, .slice (some ⟨s0 + 4, 0, none⟩) 5 5, .int .i64 5, .int .i64 2, .slice (some ⟨s0 + 5, 0, none⟩) 5 5] 98)) = w2 := ⟨_, rfl⟩
 have hw2' : [.cells #[.int .i64 1000, .int .i64 1010, .int .i64 1100, .int .i64 1200] 3, .cells #[.int .i64 1300, .int .i64 1500, .int .i64 1600, .int .i64 1700] 3, .cells #[.int .i64 2000, .int .i64 2100] 3, .cells #[.int .i64 3000, .int .i64 3100, .int .i64 3200, .int .i64 3300, .int .i64 3400, .int .i64 3500] 3, .cells #[.int .i64 4000, .int .i64 4100, .int .i64 4500, .int .i64 4600, .int .i64 4700] 3, .cells #[.int .i64 5000, .int .i64 5100, .int .i64 5500, .int .i64 5600, .int .i64 5700] 3, .cells #[.int .i64 1, .int .i64 1, .slice (some ⟨s0, 0, none⟩) 4 4, .int .i64 1, .int .i64 3, .slice (some ⟨s0 + 1, 0, none⟩) 4 4, .int .i64 2, .int .i64 1, .slice (some ⟨s0 + 2, 0, none⟩) 2 2, .int .i64 3, .int .i64 3, .slice (some ⟨s0 + 3, 0, none⟩) 6 6, .int .i64 4, .int .i64 2, .slice (some ⟨s0 + 4, 0, none⟩) 5 5, .int .i64 5, .int .i64 2, .slice (some ⟨s0 + 5, 0, none⟩) 5 5] 98].foldl World.alloc w = w2 := hw2
 obtain ⟨i0, hi, hz1, hz2, hz3⟩ := info_parts infoAc
 have HBK : ∀ i o, [.cells #[.int .i64 1000, .int .i64 1010, .int .i64 1100, .int .i64 1200] 3, .cells #[.int .i64 1300, .int .i64 1500, .int .i64 1600, .int .i64 1700] 3, .cells #[.int .i64 2000, .int .i64 2100] 3, .cells #[.int .i64 3000, .int .i64 3100, .int .i64 3200, .int .i64 3300, .int .i64 3400, .int .i64 3500] 3, .cells #[.int .i64 4000, .int .i64 4100, .int .i64 4500, .int .i64 4600, .int .i64 4700] 3, .cells #[.int .i64 5000, .int .i64 5100, .int .i64 5500, .int .i64 5600, .int .i64 5700] 3, .cells #[.int .i64 1, .int .i64 1, .slice (some ⟨s0, 0, none⟩) 4 4, .int .i64 1, .int .i64 3, .slice (some ⟨s0 + 1, 0, none⟩) 4 4, .int .i64 2, .int .i64 1, .slice (some ⟨s0 + 2, 0, none⟩) 2 2, .int .i64 3, .int .i64 3, .slice (some ⟨s0 + 3, 0, none⟩) 6 6, .int .i64 4, .int .i64 2, .slice (some ⟨s0 + 4, 0, none⟩) 5 5, .int .i64 5, .int .i64 2, .slice (some ⟨s0 + 5, 0, none⟩) 5 5] 98][i]? = some o → w2.heap[s0 + i]? = some o := fun i o h => by
  have := allocs_at [.cells #[.int .i64 1000, .int .i64 1010, .int .i64 1100, .int .i64 1200] 3, .cells #[.int .i64 1300, .int .i64 1500, .int .i64 1600, .int .i64 1700] 3, .cells #[.int .i64 2000, .int .i64 2100] 3, .cells #[.int .i64 3000, .int .i64 3100, .int .i64 3200, .int .i64 3300, .int .i64 3400, .int .i64 3500] 3, .cells #[.int .i64 4000, .int .i64 4100, .int .i64 4500, .int .i64 4600, .int .i64 4700] 3, .cells #[.int .i64 5000, .int .i64 5100, .int .i64 5500, .int .i64 5600, .int .i64 5700] 3, .cells #[.int .i64 1, .int .i64 1, .slice (some ⟨s0, 0, none⟩) 4 4, .int .i64 1, .int .i64 3, .slice (some ⟨s0 + 1, 0, none⟩) 4 4, .int .i64 2, .int .i64 1, .slice (some ⟨s0 + 2, 0, none⟩) 2 2, .int .i64 3, .int .i64 3, .slice (some ⟨s0 + 3, 0, none⟩) 6 6, .int .i64 4, .int .i64 2, .slice (some ⟨s0 + 4, 0, none⟩) 5 5, .int .i64 5, .int .i64 2, .slice (some ⟨s0 + 5, 0, none⟩) 5 5] 98] w i o h
  rw [hw2', hs0] at this
  exact this
 have HRW : Hid (Wh 98 w2 (s0 + 6) [.int .i64 1, .int .i64 1, .slice (some ⟨s0, 0, none⟩) 4 4, .int .i64 1, .int .i64 3, .slice (some ⟨s0 + 1, 0, none⟩) 4 4, .int .i64 2, .int .i64 1, .slice (some ⟨s0 + 2, 0, none⟩) 2 2, .int .i64 3, .int .i64 3, .slice (some ⟨s0 + 3, 0, none⟩) 6 6, .int .i64 4, .int .i64 2, .slice (some ⟨s0 + 4, 0, none⟩) 5 5, .int .i64 5, .int .i64 2, .slice (some ⟨s0 + 5, 0, none⟩) 5 5]) := Lib.hid ⟨HBK 6 _ rfl⟩
 have HCW : Hid (∀ i, i < 6 → Wh 3 w2 (s0 + i) ((crow i).map (.int .i64 ·))) := Lib.hid (fun i hi => by
  match i, hi with
  | 0, _ => exact ⟨HBK 0 _ rfl⟩
  | 1, _ => exact ⟨HBK 1 _ rfl⟩
  | 2, _ => exact ⟨HBK 2 _ rfl⟩
  | 3, _ => exact ⟨HBK 3 _ rfl⟩
  | 4, _ => exact ⟨HBK 4 _ rfl⟩
  | 5, _ => exact ⟨HBK 5 _ rfl⟩)
 have HR : Hid (∀ W, Below w2.heap.size w2 W → ∀ i, i < 6 → W.cell? ⟨s0 + 6, i * 3, none⟩ = some (.int .i64 (krow i)) ∧ W.cell? ⟨s0 + 6, i * 3 + 1, none⟩ = some (.int .i64 (brow i)) ∧ W.cell? ⟨s0 + 6, i * 3 + 2, none⟩ = some (.slice (some ⟨s0 + i, 0, none⟩) (crow i).length (crow i).length)) := Lib.hid (fun W hb i hi => by
  have h := HRW.out.up hb
  match i, hi with
  | 0, _ | 1, _ | 2, _ | 3, _ | 4, _ | 5, _ => exact ⟨h.at _ _ rfl, h.at _ _ rfl, h.at _ _ rfl⟩)
 have hB2 : Below s0 w w2 := by rw [← hw2', ← hs0]; exact allocs_below _ _
 have HB2 := Lib.hid hB2
 have hS1 : w2.heap.size = s0 + 7 := by rw [← hw2, ← hs0]; simp
 obtain ⟨s1, hs1⟩ : ∃ s1, w2.heap.size = s1 := ⟨_, rfl⟩
 have HS1 := Lib.hid hs1
 have HS07 : Hid (s1 = s0 + 7) := Lib.hid (by rw [← hs1]; exact hS1)
 have HS0 := Lib.hid hs0
 clear HBK hw2' hB2 hS1 HRW
 go_enter Tryz.func35, Tryz.ntmps35
 go_wp2_with fail
 clear hw2 hs1 hs0
 go_loopg [2, 3] 6 (fun kx s2 s3 wr => ∃ i : Nat, s3 = .int .i64 i ∧ i ≤ 6 ∧ 6 - i ≤ kx ∧ Hid (OwnR lyA 91 wr s1 s2 (scN i 0)) ∧ Below s1 w2 wr)
 case atStart => exact ⟨0, rfl, by omega, by omega, Lib.hid OwnR.nil, Below.refl _ _⟩
 case round =>
  obtain ⟨i, rfl, hil, hkx, HOo, hBo⟩ := hrel
  by_cases hlt : i < 6
  ·have hltz : (i : Int) < 6 := by omega
   obtain ⟨n, hn⟩ : ∃ n, (crow i).length = n := ⟨_, rfl⟩
   have HN := Lib.hid hn
   have hn6 : n ≤ 6 := by rw [← hn]; exact crow_len i
   have HBo := Lib.hid hBo
   clear hBo hn
   go_wp2_with fail
   go_loopg [4, 2] n (fun jx s4 s2 W => ∃ k : Nat, s4 = .int .i64 k ∧ k ≤ n ∧ n - k ≤ jx ∧ Hid (OwnR lyA 91 W s1 s2 (scN i k)) ∧ Below s1 w2 W)
   case atStart => exact ⟨0, rfl, by omega, by omega, HOo, HBo.out⟩
   case round =>
    clear HOo HBo
    rename World => wi
    obtain ⟨k, rfl, hk, hjx, HO, hBi⟩ := hrel
    have HBI : Hid (Below w2.heap.size w2 wi) := Lib.hid (by rw [HS1.out]; exact hBi)
    have hrow := HR.out wi HBI.out i hlt
    rw [HN.out] at hrow
    obtain ⟨r0, r1, r2⟩ := hrow
    clear hBi
    by_cases hkl : k < n
    ·have hklz : (k : Int) < (n : Int) := by omega
     obtain ⟨c, hc⟩ : ∃ c, (crow i).getD k 0 = c := ⟨_, rfl⟩
     have HAN : Hid (accN i k = ⟨c, krow i, brow i, parN c⟩) := Lib.hid (by unfold accN; rw [hc])
     have HQ : Hid (∀ W, Below w2.heap.size w2 W → W.cell? ⟨s0 + i, k, none⟩ = some (.int .i64 c)) := Lib.hid (fun W hb => ((HCW.out i hlt).up hb).at k _ (by
      rw [List.getElem?_map, List.getElem?_eq_getElem (by rw [HN.out]; exact hkl)]
      rw [List.getD_eq_getElem?_getD, List.getElem?_eq_getElem (by rw [HN.out]; exact hkl)] at hc
      rw [← hc]; rfl))
     have HLN := Lib.hid (scN_len i k (by omega) (by omega))
     clear hc
     by_cases hc1010 : c = 1010
     ·subst hc1010
      have hpar : parN 1010 = 1000 := rfl
      have HAN2 : Hid (accN i k = ⟨1010, krow i, brow i, 1000⟩) := Lib.hid (by rw [HAN.out, hpar])
      clear HAN hpar 
      go_wp2_with fail
      refine AK.region_facts (Rp := Below0) (Kp := SizeUp) (spFa s0 i k n 1010) (spJ wi 1010 (krow i) (brow i)) [[], [], [35, 36], [37], [38], [], [39, 40], [41], [], [], [43, 44], [45], [46], [], [], [48, 49], [50], [51], [42, 47, 52], [], [53]] [19, 20] [[], [5], [5]] [2, 2, 2, 2, 2, 2, 2, 2, 2, 2, 2, 2, 2, 2, 2, 2, 2, 2, 2, 2, 2] [0, 0, 0, 0, 0, 0, 0, 0, 0, 0, 0, 0, 0, 0, 0, 0, 0, 0, 0, 0, 0] [] (fun u => by simp only [spFa, AK.temps, List.map_cons, List.map_nil, fillL, List.setIfInBounds_toArray, List.set_cons_zero, List.set_cons_succ]; rfl) (by kernel_rfl) (by kernel_rfl) (fun _ _ h => h) (fun _ _ h => h.size) (spJ.st wi 1010 (krow i) (brow i)) (⟨dc_drew (Below.refl _ _), fun v h => by cases h⟩) ?_ ?_
      ·refine AK.sc (lim := 2) (lo := 0) rfl rfl rfl rfl ?_ ?_
       ·intro k_ u w_ hk_ hl_ hJ hF K hK
        clear hF
        go_simp
        exact hK.out _ _ bR (rfl) trivial
       refine AK.sc (lim := 2) (lo := 0) rfl rfl rfl rfl ?_ ?_
       ·intro k_ u w_ hk_ hl_ hJ hF K hK
        clear hF
        go_simp
        exact hK.out _ _ bR (rfl) trivial
       refine AK.sc (lim := 2) (lo := 0) rfl rfl rfl rfl ?_ ?_
       ·intro k_ u w_ hk_ hl_ hJ hF K hK
        have h35 : u 35 = .slice (some ⟨s0 + 6, 0, none⟩) 6 6 := AK.facts_get hF 35 (by simp)
        have h36 : u 36 = .int .i64 (i : Int) := AK.facts_get hF 36 (by simp)
        clear hF
        simp only [h35, h36] at hK ⊢
        clear h35 h36
        go_simp
        exact hK.out _ _ bR (rfl) trivial
       refine AK.sc (lim := 2) (lo := 0) rfl rfl rfl rfl ?_ ?_
       ·intro k_ u w_ hk_ hl_ hJ hF K hK
        have h37 : u 37 = .pointer (some ⟨s0 + 6, i * 3, none⟩) := AK.facts_get hF 37 (by simp)
        clear hF
        simp only [h37] at hK ⊢
        clear h37
        go_simp
        exact hK.out _ _ bR (rfl) trivial
       refine AK.sc (lim := 2) (lo := 0) rfl rfl rfl rfl ?_ ?_
       ·intro k_ u w_ hk_ hl_ hJ hF K hK
        have h38 : u 38 = .pointer (some ⟨s0 + 6, i * 3 + 2, none⟩) := AK.facts_get hF 38 (by simp)
        clear hF
        simp only [h38] at hK ⊢
        clear h38
        have hc9 := HR.out _ (HBI.out.trans (hJ.1.mono HBI.out.size)) i hlt
        obtain ⟨r0, r1, r2⟩ := hc9
        rw [HN.out] at r2
        go_simp
        exact hK.out _ _ bR (rfl) trivial
       refine AK.sc (lim := 2) (lo := 0) rfl rfl rfl rfl ?_ ?_
       ·intro k_ u w_ hk_ hl_ hJ hF K hK
        clear hF
        go_simp
        exact hK.out _ _ bR (rfl) trivial
       refine AK.sc (lim := 2) (lo := 0) rfl rfl rfl rfl ?_ ?_
       ·intro k_ u w_ hk_ hl_ hJ hF K hK
        have h39 : u 39 = .slice (some ⟨s0 + i, 0, none⟩) n n := AK.facts_get hF 39 (by simp)
        have h40 : u 40 = .int .i64 (k : Int) := AK.facts_get hF 40 (by simp)
        clear hF
        simp only [h39, h40] at hK ⊢
        clear h39 h40
        go_simp
        exact hK.out _ _ bR (rfl) trivial
       refine AK.sc (lim := 2) (lo := 0) rfl rfl rfl rfl ?_ ?_
       ·intro k_ u w_ hk_ hl_ hJ hF K hK
        have h41 : u 41 = .pointer (some ⟨s0 + i, k, none⟩) := AK.facts_get hF 41 (by simp)
        clear hF
        simp only [h41] at hK ⊢
        clear h41
        have q0 := HQ.out _ (HBI.out.trans (hJ.1.mono HBI.out.size))
        go_simp
        exact hK.out _ _ bR (rfl) trivial
       refine AK.sc (lim := 2) (lo := 0) rfl rfl rfl rfl ?_ ?_
       ·intro k_ u w_ hk_ hl_ hJ hF K hK
        clear hF
        go_simp
        exact hK.out _ _ bR (rfl) trivial
       refine AK.sc (lim := 2) (lo := 0) rfl rfl rfl rfl ?_ ?_
       ·intro k_ u w_ hk_ hl_ hJ hF K hK
        clear hF
        go_simp
        exact hK.out _ _ bR (rfl) trivial
       refine AK.sc (lim := 2) (lo := 0) rfl rfl rfl rfl ?_ ?_
       ·intro k_ u w_ hk_ hl_ hJ hF K hK
        have h43 : u 43 = .slice (some ⟨s0 + 6, 0, none⟩) 6 6 := AK.facts_get hF 43 (by simp)
        have h44 : u 44 = .int .i64 (i : Int) := AK.facts_get hF 44 (by simp)
        clear hF
        simp only [h43, h44] at hK ⊢
        clear h43 h44
        go_simp
        exact hK.out _ _ bR (rfl) trivial
       refine AK.sc (lim := 2) (lo := 0) rfl rfl rfl rfl ?_ ?_
       ·intro k_ u w_ hk_ hl_ hJ hF K hK
        have h45 : u 45 = .pointer (some ⟨s0 + 6, i * 3, none⟩) := AK.facts_get hF 45 (by simp)
        clear hF
        simp only [h45] at hK ⊢
        clear h45
        go_simp
        exact hK.out _ _ bR (rfl) trivial
       refine AK.sc (lim := 2) (lo := 0) rfl rfl rfl rfl ?_ ?_
       ·intro k_ u w_ hk_ hl_ hJ hF K hK
        have h46 : u 46 = .pointer (some ⟨s0 + 6, i * 3, none⟩) := AK.facts_get hF 46 (by simp)
        clear hF
        simp only [h46] at hK ⊢
        clear h46
        have hc9 := HR.out _ (HBI.out.trans (hJ.1.mono HBI.out.size)) i hlt
        obtain ⟨r0, r1, r2⟩ := hc9
        rw [HN.out] at r2
        go_simp
        exact hK.out _ _ bR (rfl) trivial
       refine AK.sc (lim := 2) (lo := 0) rfl rfl rfl rfl ?_ ?_
       ·intro k_ u w_ hk_ hl_ hJ hF K hK
        clear hF
        go_simp
        exact hK.out _ _ bR (rfl) trivial
       refine AK.sc (lim := 2) (lo := 0) rfl rfl rfl rfl ?_ ?_
       ·intro k_ u w_ hk_ hl_ hJ hF K hK
        clear hF
        go_simp
        exact hK.out _ _ bR (rfl) trivial
       refine AK.sc (lim := 2) (lo := 0) rfl rfl rfl rfl ?_ ?_
       ·intro k_ u w_ hk_ hl_ hJ hF K hK
        have h48 : u 48 = .slice (some ⟨s0 + 6, 0, none⟩) 6 6 := AK.facts_get hF 48 (by simp)
        have h49 : u 49 = .int .i64 (i : Int) := AK.facts_get hF 49 (by simp)
        clear hF
        simp only [h48, h49] at hK ⊢
        clear h48 h49
        go_simp
        exact hK.out _ _ bR (rfl) trivial
       refine AK.sc (lim := 2) (lo := 0) rfl rfl rfl rfl ?_ ?_
       ·intro k_ u w_ hk_ hl_ hJ hF K hK
        have h50 : u 50 = .pointer (some ⟨s0 + 6, i * 3, none⟩) := AK.facts_get hF 50 (by simp)
        clear hF
        simp only [h50] at hK ⊢
        clear h50
        go_simp
        exact hK.out _ _ bR (rfl) trivial
       refine AK.sc (lim := 2) (lo := 0) rfl rfl rfl rfl ?_ ?_
       ·intro k_ u w_ hk_ hl_ hJ hF K hK
        have h51 : u 51 = .pointer (some ⟨s0 + 6, i * 3 + 1, none⟩) := AK.facts_get hF 51 (by simp)
        clear hF
        simp only [h51] at hK ⊢
        clear h51
        have hc9 := HR.out _ (HBI.out.trans (hJ.1.mono HBI.out.size)) i hlt
        obtain ⟨r0, r1, r2⟩ := hc9
        rw [HN.out] at r2
        go_simp
        exact hK.out _ _ bR (rfl) trivial
       refine AK.sc (lim := 2) (lo := 0) rfl rfl rfl rfl ?_ ?_
       ·intro k_ u w_ hk_ hl_ hJ hF K hK
        have h42 : u 42 = .int .i64 1010 := AK.facts_get hF 42 (by simp)
        have h47 : u 47 = .int .i64 (krow i) := AK.facts_get hF 47 (by simp)
        have h52 : u 52 = .int .i64 (brow i) := AK.facts_get hF 52 (by simp)
        clear hF
        simp only [h42, h47, h52] at hK ⊢
        clear h42 h47 h52
        go_simp
        exact hK.out _ _ bR (rfl) trivial
       refine AK.ss rfl rfl ?_ ?_
       ·intro u w_ hJ hA_ hF K hK
        clear hF
        go_simp
        exact hK.out _ _ ⟨hJ.1.trans ((below_alloc_new _).mono hJ.1.size), fun v hv => ⟨w_.heap.size, by cases hv; rfl, hJ.1.size, Wh.new w_ _ [.int .i64 0, .int .i64 0, .int .i64 0, .int .i64 0]⟩⟩ (by simp) trivial
       refine AK.ss rfl rfl ?_ ?_
       ·intro u w_ hJ hA_ hF K hK
        have h53 : u 53 = .agg #[.int .i64 1010, .int .i64 (krow i), .int .i64 (brow i), .int .i64 0] := AK.facts_get hF 53 (by simp)
        clear hF
        simp only [h53] at hK ⊢
        clear h53
        obtain ⟨g5, h5v, hg5, hw5⟩ := hJ.2 _ rfl
        simp only [h5v] at hK ⊢
        refine wp_store_mid 91 _ _ rfl g5 0 #[.int .i64 1010, .int .i64 (krow i), .int .i64 (brow i), .int .i64 0] rfl rfl (hw5.there (show 0 + 4 ≤ 4 from Nat.le_refl _)) (by kernel_rfl) (by kernel_rfl) ?_
        exact hK.out _ _ ⟨hJ.1.trans (below_setCells hg5 _ _ (Below.refl _ _)), fun v hv => ⟨g5, by cases hv; exact h5v, hg5, hw5.put _ rfl⟩⟩ (Nat.le_of_eq (setCells_size _ _ _ _).symm) trivial
       exact AK.StepsOk.nil
      ·intro u W9 hJ9 hF
       clear hF
       have hB9 := hJ9.1
       obtain ⟨g9, h9, hg9, hw9⟩ := hJ9.2 _ rfl
       clear hJ9
       simp only [h9]
       clear h9
       have HB9 := Lib.hid (HBI.out.trans (hB9.mono HBI.out.size))
       have z0 := hw9.at 0 _ rfl
       have z1 := hw9.at 1 _ rfl
       have z2 := hw9.at 2 _ rfl
       have z3 := hw9.at 3 _ rfl
       have z4 := hw9.frozen 3
       have hwf := hw9.set 3 (.int .i64 1000)
       have HWF : Hid (Wh 91 (W9.setCell ⟨g9, 3, none⟩ (.int .i64 1000)) g9 (celA ⟨1010, krow i, brow i, 1000⟩)) := Lib.hid hwf
       have HO9 : Hid (OwnR lyA 91 (W9.setCell ⟨g9, 3, none⟩ (.int .i64 1000)) s1 u2 (scN i k)) := Lib.hid ((HO.out.up hB9).blk (fun g hg => Below.heap_setCell _ _ _ _ (by have := HO.out.lt hg; show g ≠ g9; omega)))
       have HBF : Hid (Below s1 w2 (W9.setCell ⟨g9, 3, none⟩ (.int .i64 1000))) := Lib.hid (Below.setCell (p := ⟨g9, 3, none⟩) (HB9.out.mono (Nat.le_of_eq HS1.out.symm)) (by show s1 ≤ g9; have := HBI.out.size; have := HS1.out; omega) _)
       have HSZ9 : Hid (s1 ≤ (W9.setCell ⟨g9, 3, none⟩ (.int .i64 1000)).heap.size) := Lib.hid (by have := HBF.out.size; have := HS1.out; omega)
       have HRO : Hid (RowAt lyA ((W9.setCell ⟨g9, 3, none⟩ (.int .i64 1000)).alloc (.cells #[.int .i64 1010, .int .i64 (krow i), .int .i64 (brow i), .int .i64 1000] 91)) (some ⟨W9.heap.size, 0, none⟩) [⟨1010, krow i, brow i, 1000⟩]) := Lib.hid (by have h := row_one (R := lyA) (x := ⟨1010, krow i, brow i, 1000⟩) (Wh.new (W9.setCell ⟨g9, 3, none⟩ (.int .i64 1000)) 91 [.int .i64 1010, .int .i64 (krow i), .int .i64 (brow i), .int .i64 1000]); first | exact h | (rw [World.size_setCell] at h; exact h))
       clear hw9 hwf hB9
       go_wp2_with (at_builtin; refine wpList_app_row (R := lyA) rfl (.tmp 68) (.tmp 70) 24 rfl i0 _ 32 Tryz.underlying24 hi hz1 hz2 hz3 (by omega) rfl rfl ((HO9.out).up (below_alloc_new _)) (some ⟨W9.heap.size, 0, none⟩) 1 1 [⟨1010, krow i, brow i, 1000⟩] rfl rfl HRO.out (by have := HLN.out; simp; omega) (Nat.le_trans HSZ9.out (by simp)) ?_; intro v5 w5 ho5 hg5 hn5)
       have HO5 : Hid (OwnR lyA 91 w5 s1 v5 (scN i (k + 1))) := Lib.hid (by rw [scN_k, HAN2.out]; exact ho5.out)
       have HB5 : Hid (Below s1 w2 w5) := Lib.hid ((HBF.out.trans ((below_alloc_new _).mono HSZ9.out)).grown hg5.out (Nat.le_trans HSZ9.out (by simp)) (fun g hg => (HO9.out.lt hg).1))
       clear ho5 hg5 hn5 HO9 HAN2 HWF z0 z1 z2 z3 z4
       go_wp2_with fail
       go_roundg (n - (k + 1))
       case measure => omega
       case rel => exact ⟨k + 1, by go_num, by omega, by omega, HO5, HB5.out⟩
     by_cases hc1100 : c = 1100
     ·subst hc1100
      have hpar : parN 1100 = 1000 := rfl
      have HAN2 : Hid (accN i k = ⟨1100, krow i, brow i, 1000⟩) := Lib.hid (by rw [HAN.out, hpar])
      clear HAN hpar hc1010
      go_wp2_with fail
      refine AK.region_facts (Rp := Below0) (Kp := SizeUp) (spFa s0 i k n 1100) (spJ wi 1100 (krow i) (brow i)) [[], [], [35, 36], [37], [38], [], [39, 40], [41], [], [], [43, 44], [45], [46], [], [], [48, 49], [50], [51], [42, 47, 52], [], [53]] [19, 20] [[], [5], [5]] [2, 2, 2, 2, 2, 2, 2, 2, 2, 2, 2, 2, 2, 2, 2, 2, 2, 2, 2, 2, 2] [0, 0, 0, 0, 0, 0, 0, 0, 0, 0, 0, 0, 0, 0, 0, 0, 0, 0, 0, 0, 0] [] (fun u => by simp only [spFa, AK.temps, List.map_cons, List.map_nil, fillL, List.setIfInBounds_toArray, List.set_cons_zero, List.set_cons_succ]; rfl) (by kernel_rfl) (by kernel_rfl) (fun _ _ h => h) (fun _ _ h => h.size) (spJ.st wi 1100 (krow i) (brow i)) (⟨dc_drew (Below.refl _ _), fun v h => by cases h⟩) ?_ ?_
      ·refine AK.sc (lim := 2) (lo := 0) rfl rfl rfl rfl ?_ ?_
       ·intro k_ u w_ hk_ hl_ hJ hF K hK
        clear hF
        go_simp
        exact hK.out _ _ bR (rfl) trivial
       refine AK.sc (lim := 2) (lo := 0) rfl rfl rfl rfl ?_ ?_
       ·intro k_ u w_ hk_ hl_ hJ hF K hK
        clear hF
        go_simp
        exact hK.out _ _ bR (rfl) trivial
       refine AK.sc (lim := 2) (lo := 0) rfl rfl rfl rfl ?_ ?_
       ·intro k_ u w_ hk_ hl_ hJ hF K hK
        have h35 : u 35 = .slice (some ⟨s0 + 6, 0, none⟩) 6 6 := AK.facts_get hF 35 (by simp)
        have h36 : u 36 = .int .i64 (i : Int) := AK.facts_get hF 36 (by simp)
        clear hF
        simp only [h35, h36] at hK ⊢
        clear h35 h36
        go_simp
        exact hK.out _ _ bR (rfl) trivial
       refine AK.sc (lim := 2) (lo := 0) rfl rfl rfl rfl ?_ ?_
       ·intro k_ u w_ hk_ hl_ hJ hF K hK
        have h37 : u 37 = .pointer (some ⟨s0 + 6, i * 3, none⟩) := AK.facts_get hF 37 (by simp)
        clear hF
        simp only [h37] at hK ⊢
        clear h37
        go_simp
        exact hK.out _ _ bR (rfl) trivial
       refine AK.sc (lim := 2) (lo := 0) rfl rfl rfl rfl ?_ ?_
       ·intro k_ u w_ hk_ hl_ hJ hF K hK
        have h38 : u 38 = .pointer (some ⟨s0 + 6, i * 3 + 2, none⟩) := AK.facts_get hF 38 (by simp)
        clear hF
        simp only [h38] at hK ⊢
        clear h38
        have hc9 := HR.out _ (HBI.out.trans (hJ.1.mono HBI.out.size)) i hlt
        obtain ⟨r0, r1, r2⟩ := hc9
        rw [HN.out] at r2
        go_simp
        exact hK.out _ _ bR (rfl) trivial
       refine AK.sc (lim := 2) (lo := 0) rfl rfl rfl rfl ?_ ?_
       ·intro k_ u w_ hk_ hl_ hJ hF K hK
        clear hF
        go_simp
        exact hK.out _ _ bR (rfl) trivial
       refine AK.sc (lim := 2) (lo := 0) rfl rfl rfl rfl ?_ ?_
       ·intro k_ u w_ hk_ hl_ hJ hF K hK
        have h39 : u 39 = .slice (some ⟨s0 + i, 0, none⟩) n n := AK.facts_get hF 39 (by simp)
        have h40 : u 40 = .int .i64 (k : Int) := AK.facts_get hF 40 (by simp)
        clear hF
        simp only [h39, h40] at hK ⊢
        clear h39 h40
        go_simp
        exact hK.out _ _ bR (rfl) trivial
       refine AK.sc (lim := 2) (lo := 0) rfl rfl rfl rfl ?_ ?_
       ·intro k_ u w_ hk_ hl_ hJ hF K hK
        have h41 : u 41 = .pointer (some ⟨s0 + i, k, none⟩) := AK.facts_get hF 41 (by simp)
        clear hF
        simp only [h41] at hK ⊢
        clear h41
        have q0 := HQ.out _ (HBI.out.trans (hJ.1.mono HBI.out.size))
        go_simp
        exact hK.out _ _ bR (rfl) trivial
       refine AK.sc (lim := 2) (lo := 0) rfl rfl rfl rfl ?_ ?_
       ·intro k_ u w_ hk_ hl_ hJ hF K hK
        clear hF
        go_simp
        exact hK.out _ _ bR (rfl) trivial
       refine AK.sc (lim := 2) (lo := 0) rfl rfl rfl rfl ?_ ?_
       ·intro k_ u w_ hk_ hl_ hJ hF K hK
        clear hF
        go_simp
        exact hK.out _ _ bR (rfl) trivial
       refine AK.sc (lim := 2) (lo := 0) rfl rfl rfl rfl ?_ ?_
       ·intro k_ u w_ hk_ hl_ hJ hF K hK
        have h43 : u 43 = .slice (some ⟨s0 + 6, 0, none⟩) 6 6 := AK.facts_get hF 43 (by simp)
        have h44 : u 44 = .int .i64 (i : Int) := AK.facts_get hF 44 (by simp)
        clear hF
        simp only [h43, h44] at hK ⊢
        clear h43 h44
        go_simp
        exact hK.out _ _ bR (rfl) trivial
       refine AK.sc (lim := 2) (lo := 0) rfl rfl rfl rfl ?_ ?_
       ·intro k_ u w_ hk_ hl_ hJ hF K hK
        have h45 : u 45 = .pointer (some ⟨s0 + 6, i * 3, none⟩) := AK.facts_get hF 45 (by simp)
        clear hF
        simp only [h45] at hK ⊢
        clear h45
        go_simp
        exact hK.out _ _ bR (rfl) trivial
       refine AK.sc (lim := 2) (lo := 0) rfl rfl rfl rfl ?_ ?_
       ·intro k_ u w_ hk_ hl_ hJ hF K hK
        have h46 : u 46 = .pointer (some ⟨s0 + 6, i * 3, none⟩) := AK.facts_get hF 46 (by simp)
        clear hF
        simp only [h46] at hK ⊢
        clear h46
        have hc9 := HR.out _ (HBI.out.trans (hJ.1.mono HBI.out.size)) i hlt
        obtain ⟨r0, r1, r2⟩ := hc9
        rw [HN.out] at r2
        go_simp
        exact hK.out _ _ bR (rfl) trivial
       refine AK.sc (lim := 2) (lo := 0) rfl rfl rfl rfl ?_ ?_
       ·intro k_ u w_ hk_ hl_ hJ hF K hK
        clear hF
        go_simp
        exact hK.out _ _ bR (rfl) trivial
       refine AK.sc (lim := 2) (lo := 0) rfl rfl rfl rfl ?_ ?_
       ·intro k_ u w_ hk_ hl_ hJ hF K hK
        clear hF
        go_simp
        exact hK.out _ _ bR (rfl) trivial
       refine AK.sc (lim := 2) (lo := 0) rfl rfl rfl rfl ?_ ?_
       ·intro k_ u w_ hk_ hl_ hJ hF K hK
        have h48 : u 48 = .slice (some ⟨s0 + 6, 0, none⟩) 6 6 := AK.facts_get hF 48 (by simp)
        have h49 : u 49 = .int .i64 (i : Int) := AK.facts_get hF 49 (by simp)
        clear hF
        simp only [h48, h49] at hK ⊢
        clear h48 h49
        go_simp
        exact hK.out _ _ bR (rfl) trivial
       refine AK.sc (lim := 2) (lo := 0) rfl rfl rfl rfl ?_ ?_
       ·intro k_ u w_ hk_ hl_ hJ hF K hK
        have h50 : u 50 = .pointer (some ⟨s0 + 6, i * 3, none⟩) := AK.facts_get hF 50 (by simp)
        clear hF
        simp only [h50] at hK ⊢
        clear h50
        go_simp
        exact hK.out _ _ bR (rfl) trivial
       refine AK.sc (lim := 2) (lo := 0) rfl rfl rfl rfl ?_ ?_
       ·intro k_ u w_ hk_ hl_ hJ hF K hK
        have h51 : u 51 = .pointer (some ⟨s0 + 6, i * 3 + 1, none⟩) := AK.facts_get hF 51 (by simp)
        clear hF
        simp only [h51] at hK ⊢
        clear h51
        have hc9 := HR.out _ (HBI.out.trans (hJ.1.mono HBI.out.size)) i hlt
        obtain ⟨r0, r1, r2⟩ := hc9
        rw [HN.out] at r2
        go_simp
        exact hK.out _ _ bR (rfl) trivial
       refine AK.sc (lim := 2) (lo := 0) rfl rfl rfl rfl ?_ ?_
       ·intro k_ u w_ hk_ hl_ hJ hF K hK
        have h42 : u 42 = .int .i64 1100 := AK.facts_get hF 42 (by simp)
        have h47 : u 47 = .int .i64 (krow i) := AK.facts_get hF 47 (by simp)
        have h52 : u 52 = .int .i64 (brow i) := AK.facts_get hF 52 (by simp)
        clear hF
        simp only [h42, h47, h52] at hK ⊢
        clear h42 h47 h52
        go_simp
        exact hK.out _ _ bR (rfl) trivial
       refine AK.ss rfl rfl ?_ ?_
       ·intro u w_ hJ hA_ hF K hK
        clear hF
        go_simp
        exact hK.out _ _ ⟨hJ.1.trans ((below_alloc_new _).mono hJ.1.size), fun v hv => ⟨w_.heap.size, by cases hv; rfl, hJ.1.size, Wh.new w_ _ [.int .i64 0, .int .i64 0, .int .i64 0, .int .i64 0]⟩⟩ (by simp) trivial
       refine AK.ss rfl rfl ?_ ?_
       ·intro u w_ hJ hA_ hF K hK
        have h53 : u 53 = .agg #[.int .i64 1100, .int .i64 (krow i), .int .i64 (brow i), .int .i64 0] := AK.facts_get hF 53 (by simp)
        clear hF
        simp only [h53] at hK ⊢
        clear h53
        obtain ⟨g5, h5v, hg5, hw5⟩ := hJ.2 _ rfl
        simp only [h5v] at hK ⊢
        refine wp_store_mid 91 _ _ rfl g5 0 #[.int .i64 1100, .int .i64 (krow i), .int .i64 (brow i), .int .i64 0] rfl rfl (hw5.there (show 0 + 4 ≤ 4 from Nat.le_refl _)) (by kernel_rfl) (by kernel_rfl) ?_
        exact hK.out _ _ ⟨hJ.1.trans (below_setCells hg5 _ _ (Below.refl _ _)), fun v hv => ⟨g5, by cases hv; exact h5v, hg5, hw5.put _ rfl⟩⟩ (Nat.le_of_eq (setCells_size _ _ _ _).symm) trivial
       exact AK.StepsOk.nil
      ·intro u W9 hJ9 hF
       clear hF
       have hB9 := hJ9.1
       obtain ⟨g9, h9, hg9, hw9⟩ := hJ9.2 _ rfl
       clear hJ9
       simp only [h9]
       clear h9
       have HB9 := Lib.hid (HBI.out.trans (hB9.mono HBI.out.size))
       have z0 := hw9.at 0 _ rfl
       have z1 := hw9.at 1 _ rfl
       have z2 := hw9.at 2 _ rfl
       have z3 := hw9.at 3 _ rfl
       have z4 := hw9.frozen 3
       have hwf := hw9.set 3 (.int .i64 1000)
       have HWF : Hid (Wh 91 (W9.setCell ⟨g9, 3, none⟩ (.int .i64 1000)) g9 (celA ⟨1100, krow i, brow i, 1000⟩)) := Lib.hid hwf
       have HO9 : Hid (OwnR lyA 91 (W9.setCell ⟨g9, 3, none⟩ (.int .i64 1000)) s1 u2 (scN i k)) := Lib.hid ((HO.out.up hB9).blk (fun g hg => Below.heap_setCell _ _ _ _ (by have := HO.out.lt hg; show g ≠ g9; omega)))
       have HBF : Hid (Below s1 w2 (W9.setCell ⟨g9, 3, none⟩ (.int .i64 1000))) := Lib.hid (Below.setCell (p := ⟨g9, 3, none⟩) (HB9.out.mono (Nat.le_of_eq HS1.out.symm)) (by show s1 ≤ g9; have := HBI.out.size; have := HS1.out; omega) _)
       have HSZ9 : Hid (s1 ≤ (W9.setCell ⟨g9, 3, none⟩ (.int .i64 1000)).heap.size) := Lib.hid (by have := HBF.out.size; have := HS1.out; omega)
       have HRO : Hid (RowAt lyA ((W9.setCell ⟨g9, 3, none⟩ (.int .i64 1000)).alloc (.cells #[.int .i64 1100, .int .i64 (krow i), .int .i64 (brow i), .int .i64 1000] 91)) (some ⟨W9.heap.size, 0, none⟩) [⟨1100, krow i, brow i, 1000⟩]) := Lib.hid (by have h := row_one (R := lyA) (x := ⟨1100, krow i, brow i, 1000⟩) (Wh.new (W9.setCell ⟨g9, 3, none⟩ (.int .i64 1000)) 91 [.int .i64 1100, .int .i64 (krow i), .int .i64 (brow i), .int .i64 1000]); first | exact h | (rw [World.size_setCell] at h; exact h))
       clear hw9 hwf hB9
       go_wp2_with (at_builtin; refine wpList_app_row (R := lyA) rfl (.tmp 68) (.tmp 70) 24 rfl i0 _ 32 Tryz.underlying24 hi hz1 hz2 hz3 (by omega) rfl rfl ((HO9.out).up (below_alloc_new _)) (some ⟨W9.heap.size, 0, none⟩) 1 1 [⟨1100, krow i, brow i, 1000⟩] rfl rfl HRO.out (by have := HLN.out; simp; omega) (Nat.le_trans HSZ9.out (by simp)) ?_; intro v5 w5 ho5 hg5 hn5)
       have HO5 : Hid (OwnR lyA 91 w5 s1 v5 (scN i (k + 1))) := Lib.hid (by rw [scN_k, HAN2.out]; exact ho5.out)
       have HB5 : Hid (Below s1 w2 w5) := Lib.hid ((HBF.out.trans ((below_alloc_new _).mono HSZ9.out)).grown hg5.out (Nat.le_trans HSZ9.out (by simp)) (fun g hg => (HO9.out.lt hg).1))
       clear ho5 hg5 hn5 HO9 HAN2 HWF z0 z1 z2 z3 z4
       go_wp2_with fail
       go_roundg (n - (k + 1))
       case measure => omega
       case rel => exact ⟨k + 1, by go_num, by omega, by omega, HO5, HB5.out⟩
     by_cases hc1200 : c = 1200
     ·subst hc1200
      have hpar : parN 1200 = 1000 := rfl
      have HAN2 : Hid (accN i k = ⟨1200, krow i, brow i, 1000⟩) := Lib.hid (by rw [HAN.out, hpar])
      clear HAN hpar hc1010 hc1100
      go_wp2_with fail
      refine AK.region_facts (Rp := Below0) (Kp := SizeUp) (spFa s0 i k n 1200) (spJ wi 1200 (krow i) (brow i)) [[], [], [35, 36], [37], [38], [], [39, 40], [41], [], [], [43, 44], [45], [46], [], [], [48, 49], [50], [51], [42, 47, 52], [], [53]] [19, 20] [[], [5], [5]] [2, 2, 2, 2, 2, 2, 2, 2, 2, 2, 2, 2, 2, 2, 2, 2, 2, 2, 2, 2, 2] [0, 0, 0, 0, 0, 0, 0, 0, 0, 0, 0, 0, 0, 0, 0, 0, 0, 0, 0, 0, 0] [] (fun u => by simp only [spFa, AK.temps, List.map_cons, List.map_nil, fillL, List.setIfInBounds_toArray, List.set_cons_zero, List.set_cons_succ]; rfl) (by kernel_rfl) (by kernel_rfl) (fun _ _ h => h) (fun _ _ h => h.size) (spJ.st wi 1200 (krow i) (brow i)) (⟨dc_drew (Below.refl _ _), fun v h => by cases h⟩) ?_ ?_
      ·refine AK.sc (lim := 2) (lo := 0) rfl rfl rfl rfl ?_ ?_
       ·intro k_ u w_ hk_ hl_ hJ hF K hK
        clear hF
        go_simp
        exact hK.out _ _ bR (rfl) trivial
       refine AK.sc (lim := 2) (lo := 0) rfl rfl rfl rfl ?_ ?_
       ·intro k_ u w_ hk_ hl_ hJ hF K hK
        clear hF
        go_simp
        exact hK.out _ _ bR (rfl) trivial
       refine AK.sc (lim := 2) (lo := 0) rfl rfl rfl rfl ?_ ?_
       ·intro k_ u w_ hk_ hl_ hJ hF K hK
        have h35 : u 35 = .slice (some ⟨s0 + 6, 0, none⟩) 6 6 := AK.facts_get hF 35 (by simp)
        have h36 : u 36 = .int .i64 (i : Int) := AK.facts_get hF 36 (by simp)
        clear hF
        simp only [h35, h36] at hK ⊢
        clear h35 h36
        go_simp
        exact hK.out _ _ bR (rfl) trivial
       refine AK.sc (lim := 2) (lo := 0) rfl rfl rfl rfl ?_ ?_
       ·intro k_ u w_ hk_ hl_ hJ hF K hK
        have h37 : u 37 = .pointer (some ⟨s0 + 6, i * 3, none⟩) := AK.facts_get hF 37 (by simp)
        clear hF
        simp only [h37] at hK ⊢
        clear h37
        go_simp
        exact hK.out _ _ bR (rfl) trivial
       refine AK.sc (lim := 2) (lo := 0) rfl rfl rfl rfl ?_ ?_
       ·intro k_ u w_ hk_ hl_ hJ hF K hK
        have h38 : u 38 = .pointer (some ⟨s0 + 6, i * 3 + 2, none⟩) := AK.facts_get hF 38 (by simp)
        clear hF
        simp only [h38] at hK ⊢
        clear h38
        have hc9 := HR.out _ (HBI.out.trans (hJ.1.mono HBI.out.size)) i hlt
        obtain ⟨r0, r1, r2⟩ := hc9
        rw [HN.out] at r2
        go_simp
        exact hK.out _ _ bR (rfl) trivial
       refine AK.sc (lim := 2) (lo := 0) rfl rfl rfl rfl ?_ ?_
       ·intro k_ u w_ hk_ hl_ hJ hF K hK
        clear hF
        go_simp
        exact hK.out _ _ bR (rfl) trivial
       refine AK.sc (lim := 2) (lo := 0) rfl rfl rfl rfl ?_ ?_
       ·intro k_ u w_ hk_ hl_ hJ hF K hK
        have h39 : u 39 = .slice (some ⟨s0 + i, 0, none⟩) n n := AK.facts_get hF 39 (by simp)
        have h40 : u 40 = .int .i64 (k : Int) := AK.facts_get hF 40 (by simp)
        clear hF
        simp only [h39, h40] at hK ⊢
        clear h39 h40
        go_simp
        exact hK.out _ _ bR (rfl) trivial
       refine AK.sc (lim := 2) (lo := 0) rfl rfl rfl rfl ?_ ?_
       ·intro k_ u w_ hk_ hl_ hJ hF K hK
        have h41 : u 41 = .pointer (some ⟨s0 + i, k, none⟩) := AK.facts_get hF 41 (by simp)
        clear hF
        simp only [h41] at hK ⊢
        clear h41
        have q0 := HQ.out _ (HBI.out.trans (hJ.1.mono HBI.out.size))
        go_simp
        exact hK.out _ _ bR (rfl) trivial
       refine AK.sc (lim := 2) (lo := 0) rfl rfl rfl rfl ?_ ?_
       ·intro k_ u w_ hk_ hl_ hJ hF K hK
        clear hF
        go_simp
        exact hK.out _ _ bR (rfl) trivial
       refine AK.sc (lim := 2) (lo := 0) rfl rfl rfl rfl ?_ ?_
       ·intro k_ u w_ hk_ hl_ hJ hF K hK
        clear hF
        go_simp
        exact hK.out _ _ bR (rfl) trivial
       refine AK.sc (lim := 2) (lo := 0) rfl rfl rfl rfl ?_ ?_
       ·intro k_ u w_ hk_ hl_ hJ hF K hK
        have h43 : u 43 = .slice (some ⟨s0 + 6, 0, none⟩) 6 6 := AK.facts_get hF 43 (by simp)
        have h44 : u 44 = .int .i64 (i : Int) := AK.facts_get hF 44 (by simp)
        clear hF
        simp only [h43, h44] at hK ⊢
        clear h43 h44
        go_simp
        exact hK.out _ _ bR (rfl) trivial
       refine AK.sc (lim := 2) (lo := 0) rfl rfl rfl rfl ?_ ?_
       ·intro k_ u w_ hk_ hl_ hJ hF K hK
        have h45 : u 45 = .pointer (some ⟨s0 + 6, i * 3, none⟩) := AK.facts_get hF 45 (by simp)
        clear hF
        simp only [h45] at hK ⊢
        clear h45
        go_simp
        exact hK.out _ _ bR (rfl) trivial
       refine AK.sc (lim := 2) (lo := 0) rfl rfl rfl rfl ?_ ?_
       ·intro k_ u w_ hk_ hl_ hJ hF K hK
        have h46 : u 46 = .pointer (some ⟨s0 + 6, i * 3, none⟩) := AK.facts_get hF 46 (by simp)
        clear hF
        simp only [h46] at hK ⊢
        clear h46
        have hc9 := HR.out _ (HBI.out.trans (hJ.1.mono HBI.out.size)) i hlt
        obtain ⟨r0, r1, r2⟩ := hc9
        rw [HN.out] at r2
        go_simp
        exact hK.out _ _ bR (rfl) trivial
       refine AK.sc (lim := 2) (lo := 0) rfl rfl rfl rfl ?_ ?_
       ·intro k_ u w_ hk_ hl_ hJ hF K hK
        clear hF
        go_simp
        exact hK.out _ _ bR (rfl) trivial
       refine AK.sc (lim := 2) (lo := 0) rfl rfl rfl rfl ?_ ?_
       ·intro k_ u w_ hk_ hl_ hJ hF K hK
        clear hF
        go_simp
        exact hK.out _ _ bR (rfl) trivial
       refine AK.sc (lim := 2) (lo := 0) rfl rfl rfl rfl ?_ ?_
       ·intro k_ u w_ hk_ hl_ hJ hF K hK
        have h48 : u 48 = .slice (some ⟨s0 + 6, 0, none⟩) 6 6 := AK.facts_get hF 48 (by simp)
        have h49 : u 49 = .int .i64 (i : Int) := AK.facts_get hF 49 (by simp)
        clear hF
        simp only [h48, h49] at hK ⊢
        clear h48 h49
        go_simp
        exact hK.out _ _ bR (rfl) trivial
       refine AK.sc (lim := 2) (lo := 0) rfl rfl rfl rfl ?_ ?_
       ·intro k_ u w_ hk_ hl_ hJ hF K hK
        have h50 : u 50 = .pointer (some ⟨s0 + 6, i * 3, none⟩) := AK.facts_get hF 50 (by simp)
        clear hF
        simp only [h50] at hK ⊢
        clear h50
        go_simp
        exact hK.out _ _ bR (rfl) trivial
       refine AK.sc (lim := 2) (lo := 0) rfl rfl rfl rfl ?_ ?_
       ·intro k_ u w_ hk_ hl_ hJ hF K hK
        have h51 : u 51 = .pointer (some ⟨s0 + 6, i * 3 + 1, none⟩) := AK.facts_get hF 51 (by simp)
        clear hF
        simp only [h51] at hK ⊢
        clear h51
        have hc9 := HR.out _ (HBI.out.trans (hJ.1.mono HBI.out.size)) i hlt
        obtain ⟨r0, r1, r2⟩ := hc9
        rw [HN.out] at r2
        go_simp
        exact hK.out _ _ bR (rfl) trivial
       refine AK.sc (lim := 2) (lo := 0) rfl rfl rfl rfl ?_ ?_
       ·intro k_ u w_ hk_ hl_ hJ hF K hK
        have h42 : u 42 = .int .i64 1200 := AK.facts_get hF 42 (by simp)
        have h47 : u 47 = .int .i64 (krow i) := AK.facts_get hF 47 (by simp)
        have h52 : u 52 = .int .i64 (brow i) := AK.facts_get hF 52 (by simp)
        clear hF
        simp only [h42, h47, h52] at hK ⊢
        clear h42 h47 h52
        go_simp
        exact hK.out _ _ bR (rfl) trivial
       refine AK.ss rfl rfl ?_ ?_
       ·intro u w_ hJ hA_ hF K hK
        clear hF
        go_simp
        exact hK.out _ _ ⟨hJ.1.trans ((below_alloc_new _).mono hJ.1.size), fun v hv => ⟨w_.heap.size, by cases hv; rfl, hJ.1.size, Wh.new w_ _ [.int .i64 0, .int .i64 0, .int .i64 0, .int .i64 0]⟩⟩ (by simp) trivial
       refine AK.ss rfl rfl ?_ ?_
       ·intro u w_ hJ hA_ hF K hK
        have h53 : u 53 = .agg #[.int .i64 1200, .int .i64 (krow i), .int .i64 (brow i), .int .i64 0] := AK.facts_get hF 53 (by simp)
        clear hF
        simp only [h53] at hK ⊢
        clear h53
        obtain ⟨g5, h5v, hg5, hw5⟩ := hJ.2 _ rfl
        simp only [h5v] at hK ⊢
        refine wp_store_mid 91 _ _ rfl g5 0 #[.int .i64 1200, .int .i64 (krow i), .int .i64 (brow i), .int .i64 0] rfl rfl (hw5.there (show 0 + 4 ≤ 4 from Nat.le_refl _)) (by kernel_rfl) (by kernel_rfl) ?_
        exact hK.out _ _ ⟨hJ.1.trans (below_setCells hg5 _ _ (Below.refl _ _)), fun v hv => ⟨g5, by cases hv; exact h5v, hg5, hw5.put _ rfl⟩⟩ (Nat.le_of_eq (setCells_size _ _ _ _).symm) trivial
       exact AK.StepsOk.nil
      ·intro u W9 hJ9 hF
       clear hF
       have hB9 := hJ9.1
       obtain ⟨g9, h9, hg9, hw9⟩ := hJ9.2 _ rfl
       clear hJ9
       simp only [h9]
       clear h9
       have HB9 := Lib.hid (HBI.out.trans (hB9.mono HBI.out.size))
       have z0 := hw9.at 0 _ rfl
       have z1 := hw9.at 1 _ rfl
       have z2 := hw9.at 2 _ rfl
       have z3 := hw9.at 3 _ rfl
       have z4 := hw9.frozen 3
       have hwf := hw9.set 3 (.int .i64 1000)
       have HWF : Hid (Wh 91 (W9.setCell ⟨g9, 3, none⟩ (.int .i64 1000)) g9 (celA ⟨1200, krow i, brow i, 1000⟩)) := Lib.hid hwf
       have HO9 : Hid (OwnR lyA 91 (W9.setCell ⟨g9, 3, none⟩ (.int .i64 1000)) s1 u2 (scN i k)) := Lib.hid ((HO.out.up hB9).blk (fun g hg => Below.heap_setCell _ _ _ _ (by have := HO.out.lt hg; show g ≠ g9; omega)))
       have HBF : Hid (Below s1 w2 (W9.setCell ⟨g9, 3, none⟩ (.int .i64 1000))) := Lib.hid (Below.setCell (p := ⟨g9, 3, none⟩) (HB9.out.mono (Nat.le_of_eq HS1.out.symm)) (by show s1 ≤ g9; have := HBI.out.size; have := HS1.out; omega) _)
       have HSZ9 : Hid (s1 ≤ (W9.setCell ⟨g9, 3, none⟩ (.int .i64 1000)).heap.size) := Lib.hid (by have := HBF.out.size; have := HS1.out; omega)
       have HRO : Hid (RowAt lyA ((W9.setCell ⟨g9, 3, none⟩ (.int .i64 1000)).alloc (.cells #[.int .i64 1200, .int .i64 (krow i), .int .i64 (brow i), .int .i64 1000] 91)) (some ⟨W9.heap.size, 0, none⟩) [⟨1200, krow i, brow i, 1000⟩]) := Lib.hid (by have h := row_one (R := lyA) (x := ⟨1200, krow i, brow i, 1000⟩) (Wh.new (W9.setCell ⟨g9, 3, none⟩ (.int .i64 1000)) 91 [.int .i64 1200, .int .i64 (krow i), .int .i64 (brow i), .int .i64 1000]); first | exact h | (rw [World.size_setCell] at h; exact h))
       clear hw9 hwf hB9
       go_wp2_with (at_builtin; refine wpList_app_row (R := lyA) rfl (.tmp 68) (.tmp 70) 24 rfl i0 _ 32 Tryz.underlying24 hi hz1 hz2 hz3 (by omega) rfl rfl ((HO9.out).up (below_alloc_new _)) (some ⟨W9.heap.size, 0, none⟩) 1 1 [⟨1200, krow i, brow i, 1000⟩] rfl rfl HRO.out (by have := HLN.out; simp; omega) (Nat.le_trans HSZ9.out (by simp)) ?_; intro v5 w5 ho5 hg5 hn5)
       have HO5 : Hid (OwnR lyA 91 w5 s1 v5 (scN i (k + 1))) := Lib.hid (by rw [scN_k, HAN2.out]; exact ho5.out)
       have HB5 : Hid (Below s1 w2 w5) := Lib.hid ((HBF.out.trans ((below_alloc_new _).mono HSZ9.out)).grown hg5.out (Nat.le_trans HSZ9.out (by simp)) (fun g hg => (HO9.out.lt hg).1))
       clear ho5 hg5 hn5 HO9 HAN2 HWF z0 z1 z2 z3 z4
       go_wp2_with fail
       go_roundg (n - (k + 1))
       case measure => omega
       case rel => exact ⟨k + 1, by go_num, by omega, by omega, HO5, HB5.out⟩
     by_cases hc2100 : c = 2100
     ·subst hc2100
      have hpar : parN 2100 = 2000 := rfl
      have HAN2 : Hid (accN i k = ⟨2100, krow i, brow i, 2000⟩) := Lib.hid (by rw [HAN.out, hpar])
      clear HAN hpar hc1010 hc1100 hc1200
      go_wp2_with fail
      refine AK.region_facts (Rp := Below0) (Kp := SizeUp) (spFa s0 i k n 2100) (spJ wi 2100 (krow i) (brow i)) [[], [], [35, 36], [37], [38], [], [39, 40], [41], [], [], [43, 44], [45], [46], [], [], [48, 49], [50], [51], [42, 47, 52], [], [53]] [19, 20] [[], [5], [5]] [2, 2, 2, 2, 2, 2, 2, 2, 2, 2, 2, 2, 2, 2, 2, 2, 2, 2, 2, 2, 2] [0, 0, 0, 0, 0, 0, 0, 0, 0, 0, 0, 0, 0, 0, 0, 0, 0, 0, 0, 0, 0] [] (fun u => by simp only [spFa, AK.temps, List.map_cons, List.map_nil, fillL, List.setIfInBounds_toArray, List.set_cons_zero, List.set_cons_succ]; rfl) (by kernel_rfl) (by kernel_rfl) (fun _ _ h => h) (fun _ _ h => h.size) (spJ.st wi 2100 (krow i) (brow i)) (⟨dc_drew (Below.refl _ _), fun v h => by cases h⟩) ?_ ?_
      ·refine AK.sc (lim := 2) (lo := 0) rfl rfl rfl rfl ?_ ?_
       ·intro k_ u w_ hk_ hl_ hJ hF K hK
        clear hF
        go_simp
        exact hK.out _ _ bR (rfl) trivial
       refine AK.sc (lim := 2) (lo := 0) rfl rfl rfl rfl ?_ ?_
       ·intro k_ u w_ hk_ hl_ hJ hF K hK
        clear hF
        go_simp
        exact hK.out _ _ bR (rfl) trivial
       refine AK.sc (lim := 2) (lo := 0) rfl rfl rfl rfl ?_ ?_
       ·intro k_ u w_ hk_ hl_ hJ hF K hK
        have h35 : u 35 = .slice (some ⟨s0 + 6, 0, none⟩) 6 6 := AK.facts_get hF 35 (by simp)
        have h36 : u 36 = .int .i64 (i : Int) := AK.facts_get hF 36 (by simp)
        clear hF
        simp only [h35, h36] at hK ⊢
        clear h35 h36
        go_simp
        exact hK.out _ _ bR (rfl) trivial
       refine AK.sc (lim := 2) (lo := 0) rfl rfl rfl rfl ?_ ?_
       ·intro k_ u w_ hk_ hl_ hJ hF K hK
        have h37 : u 37 = .pointer (some ⟨s0 + 6, i * 3, none⟩) := AK.facts_get hF 37 (by simp)
        clear hF
        simp only [h37] at hK ⊢
        clear h37
        go_simp
        exact hK.out _ _ bR (rfl) trivial
       refine AK.sc (lim := 2) (lo := 0) rfl rfl rfl rfl ?_ ?_
       ·intro k_ u w_ hk_ hl_ hJ hF K hK
        have h38 : u 38 = .pointer (some ⟨s0 + 6, i * 3 + 2, none⟩) := AK.facts_get hF 38 (by simp)
        clear hF
        simp only [h38] at hK ⊢
        clear h38
        have hc9 := HR.out _ (HBI.out.trans (hJ.1.mono HBI.out.size)) i hlt
        obtain ⟨r0, r1, r2⟩ := hc9
        rw [HN.out] at r2
        go_simp
        exact hK.out _ _ bR (rfl) trivial
       refine AK.sc (lim := 2) (lo := 0) rfl rfl rfl rfl ?_ ?_
       ·intro k_ u w_ hk_ hl_ hJ hF K hK
        clear hF
        go_simp
        exact hK.out _ _ bR (rfl) trivial
       refine AK.sc (lim := 2) (lo := 0) rfl rfl rfl rfl ?_ ?_
       ·intro k_ u w_ hk_ hl_ hJ hF K hK
        have h39 : u 39 = .slice (some ⟨s0 + i, 0, none⟩) n n := AK.facts_get hF 39 (by simp)
        have h40 : u 40 = .int .i64 (k : Int) := AK.facts_get hF 40 (by simp)
        clear hF
        simp only [h39, h40] at hK ⊢
        clear h39 h40
        go_simp
        exact hK.out _ _ bR (rfl) trivial
       refine AK.sc (lim := 2) (lo := 0) rfl rfl rfl rfl ?_ ?_
       ·intro k_ u w_ hk_ hl_ hJ hF K hK
        have h41 : u 41 = .pointer (some ⟨s0 + i, k, none⟩) := AK.facts_get hF 41 (by simp)
        clear hF
        simp only [h41] at hK ⊢
        clear h41
        have q0 := HQ.out _ (HBI.out.trans (hJ.1.mono HBI.out.size))
        go_simp
        exact hK.out _ _ bR (rfl) trivial
       refine AK.sc (lim := 2) (lo := 0) rfl rfl rfl rfl ?_ ?_
       ·intro k_ u w_ hk_ hl_ hJ hF K hK
        clear hF
        go_simp
        exact hK.out _ _ bR (rfl) trivial
       refine AK.sc (lim := 2) (lo := 0) rfl rfl rfl rfl ?_ ?_
       ·intro k_ u w_ hk_ hl_ hJ hF K hK
        clear hF
        go_simp
        exact hK.out _ _ bR (rfl) trivial
       refine AK.sc (lim := 2) (lo := 0) rfl rfl rfl rfl ?_ ?_
       ·intro k_ u w_ hk_ hl_ hJ hF K hK
        have h43 : u 43 = .slice (some ⟨s0 + 6, 0, none⟩) 6 6 := AK.facts_get hF 43 (by simp)
        have h44 : u 44 = .int .i64 (i : Int) := AK.facts_get hF 44 (by simp)
        clear hF
        simp only [h43, h44] at hK ⊢
        clear h43 h44
        go_simp
        exact hK.out _ _ bR (rfl) trivial
       refine AK.sc (lim := 2) (lo := 0) rfl rfl rfl rfl ?_ ?_
       ·intro k_ u w_ hk_ hl_ hJ hF K hK
        have h45 : u 45 = .pointer (some ⟨s0 + 6, i * 3, none⟩) := AK.facts_get hF 45 (by simp)
        clear hF
        simp only [h45] at hK ⊢
        clear h45
        go_simp
        exact hK.out _ _ bR (rfl) trivial
       refine AK.sc (lim := 2) (lo := 0) rfl rfl rfl rfl ?_ ?_
       ·intro k_ u w_ hk_ hl_ hJ hF K hK
        have h46 : u 46 = .pointer (some ⟨s0 + 6, i * 3, none⟩) := AK.facts_get hF 46 (by simp)
        clear hF
        simp only [h46] at hK ⊢
        clear h46
        have hc9 := HR.out _ (HBI.out.trans (hJ.1.mono HBI.out.size)) i hlt
        obtain ⟨r0, r1, r2⟩ := hc9
        rw [HN.out] at r2
        go_simp
        exact hK.out _ _ bR (rfl) trivial
       refine AK.sc (lim := 2) (lo := 0) rfl rfl rfl rfl ?_ ?_
       ·intro k_ u w_ hk_ hl_ hJ hF K hK
        clear hF
        go_simp
        exact hK.out _ _ bR (rfl) trivial
       refine AK.sc (lim := 2) (lo := 0) rfl rfl rfl rfl ?_ ?_
       ·intro k_ u w_ hk_ hl_ hJ hF K hK
        clear hF
        go_simp
        exact hK.out _ _ bR (rfl) trivial
       refine AK.sc (lim := 2) (lo := 0) rfl rfl rfl rfl ?_ ?_
       ·intro k_ u w_ hk_ hl_ hJ hF K hK
        have h48 : u 48 = .slice (some ⟨s0 + 6, 0, none⟩) 6 6 := AK.facts_get hF 48 (by simp)
        have h49 : u 49 = .int .i64 (i : Int) := AK.facts_get hF 49 (by simp)
        clear hF
        simp only [h48, h49] at hK ⊢
        clear h48 h49
        go_simp
        exact hK.out _ _ bR (rfl) trivial
       refine AK.sc (lim := 2) (lo := 0) rfl rfl rfl rfl ?_ ?_
       ·intro k_ u w_ hk_ hl_ hJ hF K hK
        have h50 : u 50 = .pointer (some ⟨s0 + 6, i * 3, none⟩) := AK.facts_get hF 50 (by simp)
        clear hF
        simp only [h50] at hK ⊢
        clear h50
        go_simp
        exact hK.out _ _ bR (rfl) trivial
       refine AK.sc (lim := 2) (lo := 0) rfl rfl rfl rfl ?_ ?_
       ·intro k_ u w_ hk_ hl_ hJ hF K hK
        have h51 : u 51 = .pointer (some ⟨s0 + 6, i * 3 + 1, none⟩) := AK.facts_get hF 51 (by simp)
        clear hF
        simp only [h51] at hK ⊢
        clear h51
        have hc9 := HR.out _ (HBI.out.trans (hJ.1.mono HBI.out.size)) i hlt
        obtain ⟨r0, r1, r2⟩ := hc9
        rw [HN.out] at r2
        go_simp
        exact hK.out _ _ bR (rfl) trivial
       refine AK.sc (lim := 2) (lo := 0) rfl rfl rfl rfl ?_ ?_
       ·intro k_ u w_ hk_ hl_ hJ hF K hK
        have h42 : u 42 = .int .i64 2100 := AK.facts_get hF 42 (by simp)
        have h47 : u 47 = .int .i64 (krow i) := AK.facts_get hF 47 (by simp)
        have h52 : u 52 = .int .i64 (brow i) := AK.facts_get hF 52 (by simp)
        clear hF
        simp only [h42, h47, h52] at hK ⊢
        clear h42 h47 h52
        go_simp
        exact hK.out _ _ bR (rfl) trivial
       refine AK.ss rfl rfl ?_ ?_
       ·intro u w_ hJ hA_ hF K hK
        clear hF
        go_simp
        exact hK.out _ _ ⟨hJ.1.trans ((below_alloc_new _).mono hJ.1.size), fun v hv => ⟨w_.heap.size, by cases hv; rfl, hJ.1.size, Wh.new w_ _ [.int .i64 0, .int .i64 0, .int .i64 0, .int .i64 0]⟩⟩ (by simp) trivial
       refine AK.ss rfl rfl ?_ ?_
       ·intro u w_ hJ hA_ hF K hK
        have h53 : u 53 = .agg #[.int .i64 2100, .int .i64 (krow i), .int .i64 (brow i), .int .i64 0] := AK.facts_get hF 53 (by simp)
        clear hF
        simp only [h53] at hK ⊢
        clear h53
        obtain ⟨g5, h5v, hg5, hw5⟩ := hJ.2 _ rfl
        simp only [h5v] at hK ⊢
        refine wp_store_mid 91 _ _ rfl g5 0 #[.int .i64 2100, .int .i64 (krow i), .int .i64 (brow i), .int .i64 0] rfl rfl (hw5.there (show 0 + 4 ≤ 4 from Nat.le_refl _)) (by kernel_rfl) (by kernel_rfl) ?_
        exact hK.out _ _ ⟨hJ.1.trans (below_setCells hg5 _ _ (Below.refl _ _)), fun v hv => ⟨g5, by cases hv; exact h5v, hg5, hw5.put _ rfl⟩⟩ (Nat.le_of_eq (setCells_size _ _ _ _).symm) trivial
       exact AK.StepsOk.nil
      ·intro u W9 hJ9 hF
       clear hF
       have hB9 := hJ9.1
       obtain ⟨g9, h9, hg9, hw9⟩ := hJ9.2 _ rfl
       clear hJ9
       simp only [h9]
       clear h9
       have HB9 := Lib.hid (HBI.out.trans (hB9.mono HBI.out.size))
       have z0 := hw9.at 0 _ rfl
       have z1 := hw9.at 1 _ rfl
       have z2 := hw9.at 2 _ rfl
       have z3 := hw9.at 3 _ rfl
       have z4 := hw9.frozen 3
       have hwf := hw9.set 3 (.int .i64 2000)
       have HWF : Hid (Wh 91 (W9.setCell ⟨g9, 3, none⟩ (.int .i64 2000)) g9 (celA ⟨2100, krow i, brow i, 2000⟩)) := Lib.hid hwf
       have HO9 : Hid (OwnR lyA 91 (W9.setCell ⟨g9, 3, none⟩ (.int .i64 2000)) s1 u2 (scN i k)) := Lib.hid ((HO.out.up hB9).blk (fun g hg => Below.heap_setCell _ _ _ _ (by have := HO.out.lt hg; show g ≠ g9; omega)))
       have HBF : Hid (Below s1 w2 (W9.setCell ⟨g9, 3, none⟩ (.int .i64 2000))) := Lib.hid (Below.setCell (p := ⟨g9, 3, none⟩) (HB9.out.mono (Nat.le_of_eq HS1.out.symm)) (by show s1 ≤ g9; have := HBI.out.size; have := HS1.out; omega) _)
       have HSZ9 : Hid (s1 ≤ (W9.setCell ⟨g9, 3, none⟩ (.int .i64 2000)).heap.size) := Lib.hid (by have := HBF.out.size; have := HS1.out; omega)
       have HRO : Hid (RowAt lyA ((W9.setCell ⟨g9, 3, none⟩ (.int .i64 2000)).alloc (.cells #[.int .i64 2100, .int .i64 (krow i), .int .i64 (brow i), .int .i64 2000] 91)) (some ⟨W9.heap.size, 0, none⟩) [⟨2100, krow i, brow i, 2000⟩]) := Lib.hid (by have h := row_one (R := lyA) (x := ⟨2100, krow i, brow i, 2000⟩) (Wh.new (W9.setCell ⟨g9, 3, none⟩ (.int .i64 2000)) 91 [.int .i64 2100, .int .i64 (krow i), .int .i64 (brow i), .int .i64 2000]); first | exact h | (rw [World.size_setCell] at h; exact h))
       clear hw9 hwf hB9
       go_wp2_with (at_builtin; refine wpList_app_row (R := lyA) rfl (.tmp 68) (.tmp 70) 24 rfl i0 _ 32 Tryz.underlying24 hi hz1 hz2 hz3 (by omega) rfl rfl ((HO9.out).up (below_alloc_new _)) (some ⟨W9.heap.size, 0, none⟩) 1 1 [⟨2100, krow i, brow i, 2000⟩] rfl rfl HRO.out (by have := HLN.out; simp; omega) (Nat.le_trans HSZ9.out (by simp)) ?_; intro v5 w5 ho5 hg5 hn5)
       have HO5 : Hid (OwnR lyA 91 w5 s1 v5 (scN i (k + 1))) := Lib.hid (by rw [scN_k, HAN2.out]; exact ho5.out)
       have HB5 : Hid (Below s1 w2 w5) := Lib.hid ((HBF.out.trans ((below_alloc_new _).mono HSZ9.out)).grown hg5.out (Nat.le_trans HSZ9.out (by simp)) (fun g hg => (HO9.out.lt hg).1))
       clear ho5 hg5 hn5 HO9 HAN2 HWF z0 z1 z2 z3 z4
       go_wp2_with fail
       go_roundg (n - (k + 1))
       case measure => omega
       case rel => exact ⟨k + 1, by go_num, by omega, by omega, HO5, HB5.out⟩
     by_cases hc4100 : c = 4100
     ·subst hc4100
      have hpar : parN 4100 = 4000 := rfl
      have HAN2 : Hid (accN i k = ⟨4100, krow i, brow i, 4000⟩) := Lib.hid (by rw [HAN.out, hpar])
      clear HAN hpar hc1010 hc1100 hc1200 hc2100
      go_wp2_with fail
      refine AK.region_facts (Rp := Below0) (Kp := SizeUp) (spFa s0 i k n 4100) (spJ wi 4100 (krow i) (brow i)) [[], [], [35, 36], [37], [38], [], [39, 40], [41], [], [], [43, 44], [45], [46], [], [], [48, 49], [50], [51], [42, 47, 52], [], [53]] [19, 20] [[], [5], [5]] [2, 2, 2, 2, 2, 2, 2, 2, 2, 2, 2, 2, 2, 2, 2, 2, 2, 2, 2, 2, 2] [0, 0, 0, 0, 0, 0, 0, 0, 0, 0, 0, 0, 0, 0, 0, 0, 0, 0, 0, 0, 0] [] (fun u => by simp only [spFa, AK.temps, List.map_cons, List.map_nil, fillL, List.setIfInBounds_toArray, List.set_cons_zero, List.set_cons_succ]; rfl) (by kernel_rfl) (by kernel_rfl) (fun _ _ h => h) (fun _ _ h => h.size) (spJ.st wi 4100 (krow i) (brow i)) (⟨dc_drew (Below.refl _ _), fun v h => by cases h⟩) ?_ ?_
      ·refine AK.sc (lim := 2) (lo := 0) rfl rfl rfl rfl ?_ ?_
       ·intro k_ u w_ hk_ hl_ hJ hF K hK
        clear hF
        go_simp
        exact hK.out _ _ bR (rfl) trivial
       refine AK.sc (lim := 2) (lo := 0) rfl rfl rfl rfl ?_ ?_
       ·intro k_ u w_ hk_ hl_ hJ hF K hK
        clear hF
        go_simp
        exact hK.out _ _ bR (rfl) trivial
       refine AK.sc (lim := 2) (lo := 0) rfl rfl rfl rfl ?_ ?_
       ·intro k_ u w_ hk_ hl_ hJ hF K hK
        have h35 : u 35 = .slice (some ⟨s0 + 6, 0, none⟩) 6 6 := AK.facts_get hF 35 (by simp)
        have h36 : u 36 = .int .i64 (i : Int) := AK.facts_get hF 36 (by simp)
        clear hF
        simp only [h35, h36] at hK ⊢
        clear h35 h36
        go_simp
        exact hK.out _ _ bR (rfl) trivial
       refine AK.sc (lim := 2) (lo := 0) rfl rfl rfl rfl ?_ ?_
       ·intro k_ u w_ hk_ hl_ hJ hF K hK
        have h37 : u 37 = .pointer (some ⟨s0 + 6, i * 3, none⟩) := AK.facts_get hF 37 (by simp)
        clear hF
        simp only [h37] at hK ⊢
        clear h37
        go_simp
        exact hK.out _ _ bR (rfl) trivial
       refine AK.sc (lim := 2) (lo := 0) rfl rfl rfl rfl ?_ ?_
       ·intro k_ u w_ hk_ hl_ hJ hF K hK
        have h38 : u 38 = .pointer (some ⟨s0 + 6, i * 3 + 2, none⟩) := AK.facts_get hF 38 (by simp)
        clear hF
        simp only [h38] at hK ⊢
        clear h38
        have hc9 := HR.out _ (HBI.out.trans (hJ.1.mono HBI.out.size)) i hlt
        obtain ⟨r0, r1, r2⟩ := hc9
        rw [HN.out] at r2
        go_simp
        exact hK.out _ _ bR (rfl) trivial
       refine AK.sc (lim := 2) (lo := 0) rfl rfl rfl rfl ?_ ?_
       ·intro k_ u w_ hk_ hl_ hJ hF K hK
        clear hF
        go_simp
        exact hK.out _ _ bR (rfl) trivial
       refine AK.sc (lim := 2) (lo := 0) rfl rfl rfl rfl ?_ ?_
       ·intro k_ u w_ hk_ hl_ hJ hF K hK
        have h39 : u 39 = .slice (some ⟨s0 + i, 0, none⟩) n n := AK.facts_get hF 39 (by simp)
        have h40 : u 40 = .int .i64 (k : Int) := AK.facts_get hF 40 (by simp)
        clear hF
        simp only [h39, h40] at hK ⊢
        clear h39 h40
        go_simp
        exact hK.out _ _ bR (rfl) trivial
       refine AK.sc (lim := 2) (lo := 0) rfl rfl rfl rfl ?_ ?_
       ·intro k_ u w_ hk_ hl_ hJ hF K hK
        have h41 : u 41 = .pointer (some ⟨s0 + i, k, none⟩) := AK.facts_get hF 41 (by simp)
        clear hF
        simp only [h41] at hK ⊢
        clear h41
        have q0 := HQ.out _ (HBI.out.trans (hJ.1.mono HBI.out.size))
        go_simp
        exact hK.out _ _ bR (rfl) trivial
       refine AK.sc (lim := 2) (lo := 0) rfl rfl rfl rfl ?_ ?_
       ·intro k_ u w_ hk_ hl_ hJ hF K hK
        clear hF
        go_simp
        exact hK.out _ _ bR (rfl) trivial
       refine AK.sc (lim := 2) (lo := 0) rfl rfl rfl rfl ?_ ?_
       ·intro k_ u w_ hk_ hl_ hJ hF K hK
        clear hF
        go_simp
        exact hK.out _ _ bR (rfl) trivial
       refine AK.sc (lim := 2) (lo := 0) rfl rfl rfl rfl ?_ ?_
       ·intro k_ u w_ hk_ hl_ hJ hF K hK
        have h43 : u 43 = .slice (some ⟨s0 + 6, 0, none⟩) 6 6 := AK.facts_get hF 43 (by simp)
        have h44 : u 44 = .int .i64 (i : Int) := AK.facts_get hF 44 (by simp)
        clear hF
        simp only [h43, h44] at hK ⊢
        clear h43 h44
        go_simp
        exact hK.out _ _ bR (rfl) trivial
       refine AK.sc (lim := 2) (lo := 0) rfl rfl rfl rfl ?_ ?_
       ·intro k_ u w_ hk_ hl_ hJ hF K hK
        have h45 : u 45 = .pointer (some ⟨s0 + 6, i * 3, none⟩) := AK.facts_get hF 45 (by simp)
        clear hF
        simp only [h45] at hK ⊢
        clear h45
        go_simp
        exact hK.out _ _ bR (rfl) trivial
       refine AK.sc (lim := 2) (lo := 0) rfl rfl rfl rfl ?_ ?_
       ·intro k_ u w_ hk_ hl_ hJ hF K hK
        have h46 : u 46 = .pointer (some ⟨s0 + 6, i * 3, none⟩) := AK.facts_get hF 46 (by simp)
        clear hF
        simp only [h46] at hK ⊢
        clear h46
        have hc9 := HR.out _ (HBI.out.trans (hJ.1.mono HBI.out.size)) i hlt
        obtain ⟨r0, r1, r2⟩ := hc9
        rw [HN.out] at r2
        go_simp
        exact hK.out _ _ bR (rfl) trivial
       refine AK.sc (lim := 2) (lo := 0) rfl rfl rfl rfl ?_ ?_
       ·intro k_ u w_ hk_ hl_ hJ hF K hK
        clear hF
        go_simp
        exact hK.out _ _ bR (rfl) trivial
       refine AK.sc (lim := 2) (lo := 0) rfl rfl rfl rfl ?_ ?_
       ·intro k_ u w_ hk_ hl_ hJ hF K hK
        clear hF
        go_simp
        exact hK.out _ _ bR (rfl) trivial
       refine AK.sc (lim := 2) (lo := 0) rfl rfl rfl rfl ?_ ?_
       ·intro k_ u w_ hk_ hl_ hJ hF K hK
        have h48 : u 48 = .slice (some ⟨s0 + 6, 0, none⟩) 6 6 := AK.facts_get hF 48 (by simp)
        have h49 : u 49 = .int .i64 (i : Int) := AK.facts_get hF 49 (by simp)
        clear hF
        simp only [h48, h49] at hK ⊢
        clear h48 h49
        go_simp
        exact hK.out _ _ bR (rfl) trivial
       refine AK.sc (lim := 2) (lo := 0) rfl rfl rfl rfl ?_ ?_
       ·intro k_ u w_ hk_ hl_ hJ hF K hK
        have h50 : u 50 = .pointer (some ⟨s0 + 6, i * 3, none⟩) := AK.facts_get hF 50 (by simp)
        clear hF
        simp only [h50] at hK ⊢
        clear h50
        go_simp
        exact hK.out _ _ bR (rfl) trivial
       refine AK.sc (lim := 2) (lo := 0) rfl rfl rfl rfl ?_ ?_
       ·intro k_ u w_ hk_ hl_ hJ hF K hK
        have h51 : u 51 = .pointer (some ⟨s0 + 6, i * 3 + 1, none⟩) := AK.facts_get hF 51 (by simp)
        clear hF
        simp only [h51] at hK ⊢
        clear h51
        have hc9 := HR.out _ (HBI.out.trans (hJ.1.mono HBI.out.size)) i hlt
        obtain ⟨r0, r1, r2⟩ := hc9
        rw [HN.out] at r2
        go_simp
        exact hK.out _ _ bR (rfl) trivial
       refine AK.sc (lim := 2) (lo := 0) rfl rfl rfl rfl ?_ ?_
       ·intro k_ u w_ hk_ hl_ hJ hF K hK
        have h42 : u 42 = .int .i64 4100 := AK.facts_get hF 42 (by simp)
        have h47 : u 47 = .int .i64 (krow i) := AK.facts_get hF 47 (by simp)
        have h52 : u 52 = .int .i64 (brow i) := AK.facts_get hF 52 (by simp)
        clear hF
        simp only [h42, h47, h52] at hK ⊢
        clear h42 h47 h52
        go_simp
        exact hK.out _ _ bR (rfl) trivial
       refine AK.ss rfl rfl ?_ ?_
       ·intro u w_ hJ hA_ hF K hK
        clear hF
        go_simp
        exact hK.out _ _ ⟨hJ.1.trans ((below_alloc_new _).mono hJ.1.size), fun v hv => ⟨w_.heap.size, by cases hv; rfl, hJ.1.size, Wh.new w_ _ [.int .i64 0, .int .i64 0, .int .i64 0, .int .i64 0]⟩⟩ (by simp) trivial
       refine AK.ss rfl rfl ?_ ?_
       ·intro u w_ hJ hA_ hF K hK
        have h53 : u 53 = .agg #[.int .i64 4100, .int .i64 (krow i), .int .i64 (brow i), .int .i64 0] := AK.facts_get hF 53 (by simp)
        clear hF
        simp only [h53] at hK ⊢
        clear h53
        obtain ⟨g5, h5v, hg5, hw5⟩ := hJ.2 _ rfl
        simp only [h5v] at hK ⊢
        refine wp_store_mid 91 _ _ rfl g5 0 #[.int .i64 4100, .int .i64 (krow i), .int .i64 (brow i), .int .i64 0] rfl rfl (hw5.there (show 0 + 4 ≤ 4 from Nat.le_refl _)) (by kernel_rfl) (by kernel_rfl) ?_
        exact hK.out _ _ ⟨hJ.1.trans (below_setCells hg5 _ _ (Below.refl _ _)), fun v hv => ⟨g5, by cases hv; exact h5v, hg5, hw5.put _ rfl⟩⟩ (Nat.le_of_eq (setCells_size _ _ _ _).symm) trivial
       exact AK.StepsOk.nil
      ·intro u W9 hJ9 hF
       clear hF
       have hB9 := hJ9.1
       obtain ⟨g9, h9, hg9, hw9⟩ := hJ9.2 _ rfl
       clear hJ9
       simp only [h9]
       clear h9
       have HB9 := Lib.hid (HBI.out.trans (hB9.mono HBI.out.size))
       have z0 := hw9.at 0 _ rfl
       have z1 := hw9.at 1 _ rfl
       have z2 := hw9.at 2 _ rfl
       have z3 := hw9.at 3 _ rfl
       have z4 := hw9.frozen 3
       have hwf := hw9.set 3 (.int .i64 4000)
       have HWF : Hid (Wh 91 (W9.setCell ⟨g9, 3, none⟩ (.int .i64 4000)) g9 (celA ⟨4100, krow i, brow i, 4000⟩)) := Lib.hid hwf
       have HO9 : Hid (OwnR lyA 91 (W9.setCell ⟨g9, 3, none⟩ (.int .i64 4000)) s1 u2 (scN i k)) := Lib.hid ((HO.out.up hB9).blk (fun g hg => Below.heap_setCell _ _ _ _ (by have := HO.out.lt hg; show g ≠ g9; omega)))
       have HBF : Hid (Below s1 w2 (W9.setCell ⟨g9, 3, none⟩ (.int .i64 4000))) := Lib.hid (Below.setCell (p := ⟨g9, 3, none⟩) (HB9.out.mono (Nat.le_of_eq HS1.out.symm)) (by show s1 ≤ g9; have := HBI.out.size; have := HS1.out; omega) _)
       have HSZ9 : Hid (s1 ≤ (W9.setCell ⟨g9, 3, none⟩ (.int .i64 4000)).heap.size) := Lib.hid (by have := HBF.out.size; have := HS1.out; omega)
       have HRO : Hid (RowAt lyA ((W9.setCell ⟨g9, 3, none⟩ (.int .i64 4000)).alloc (.cells #[.int .i64 4100, .int .i64 (krow i), .int .i64 (brow i), .int .i64 4000] 91)) (some ⟨W9.heap.size, 0, none⟩) [⟨4100, krow i, brow i, 4000⟩]) := Lib.hid (by have h := row_one (R := lyA) (x := ⟨4100, krow i, brow i, 4000⟩) (Wh.new (W9.setCell ⟨g9, 3, none⟩ (.int .i64 4000)) 91 [.int .i64 4100, .int .i64 (krow i), .int .i64 (brow i), .int .i64 4000]); first | exact h | (rw [World.size_setCell] at h; exact h))
       clear hw9 hwf hB9
       go_wp2_with (at_builtin; refine wpList_app_row (R := lyA) rfl (.tmp 68) (.tmp 70) 24 rfl i0 _ 32 Tryz.underlying24 hi hz1 hz2 hz3 (by omega) rfl rfl ((HO9.out).up (below_alloc_new _)) (some ⟨W9.heap.size, 0, none⟩) 1 1 [⟨4100, krow i, brow i, 4000⟩] rfl rfl HRO.out (by have := HLN.out; simp; omega) (Nat.le_trans HSZ9.out (by simp)) ?_; intro v5 w5 ho5 hg5 hn5)
       have HO5 : Hid (OwnR lyA 91 w5 s1 v5 (scN i (k + 1))) := Lib.hid (by rw [scN_k, HAN2.out]; exact ho5.out)
       have HB5 : Hid (Below s1 w2 w5) := Lib.hid ((HBF.out.trans ((below_alloc_new _).mono HSZ9.out)).grown hg5.out (Nat.le_trans HSZ9.out (by simp)) (fun g hg => (HO9.out.lt hg).1))
       clear ho5 hg5 hn5 HO9 HAN2 HWF z0 z1 z2 z3 z4
       go_wp2_with fail
       go_roundg (n - (k + 1))
       case measure => omega
       case rel => exact ⟨k + 1, by go_num, by omega, by omega, HO5, HB5.out⟩
     have e1010 : (c == 1010) = false := by simp [hc1010]
     have e1100 : (c == 1100) = false := by simp [hc1100]
     have e1200 : (c == 1200) = false := by simp [hc1200]
     have e2100 : (c == 2100) = false := by simp [hc2100]
     have e4100 : (c == 4100) = false := by simp [hc4100]
     have hpar : parN c = 0 := by unfold parN; rw [if_neg (by omega), if_neg (by omega)]
     have HAN2 : Hid (accN i k = ⟨c, krow i, brow i, 0⟩) := Lib.hid (by rw [HAN.out, hpar])
     clear HAN hpar hc1010 hc1100 hc1200 hc2100 hc4100
     go_wp2_with fail
     refine AK.region_facts (Rp := Below0) (Kp := SizeUp) (spFa s0 i k n c) (spJ wi c (krow i) (brow i)) [[], [], [35, 36], [37], [38], [], [39, 40], [41], [], [], [43, 44], [45], [46], [], [], [48, 49], [50], [51], [42, 47, 52], [], [53]] [19, 20] [[], [5], [5]] [2, 2, 2, 2, 2, 2, 2, 2, 2, 2, 2, 2, 2, 2, 2, 2, 2, 2, 2, 2, 2] [0, 0, 0, 0, 0, 0, 0, 0, 0, 0, 0, 0, 0, 0, 0, 0, 0, 0, 0, 0, 0] [] (fun u => by simp only [spFa, AK.temps, List.map_cons, List.map_nil, fillL, List.setIfInBounds_toArray, List.set_cons_zero, List.set_cons_succ]; rfl) (by kernel_rfl) (by kernel_rfl) (fun _ _ h => h) (fun _ _ h => h.size) (spJ.st wi c (krow i) (brow i)) (⟨dc_drew (Below.refl _ _), fun v h => by cases h⟩) ?_ ?_
     ·refine AK.sc (lim := 2) (lo := 0) rfl rfl rfl rfl ?_ ?_
      ·intro k_ u w_ hk_ hl_ hJ hF K hK
       clear hF
       go_simp
       exact hK.out _ _ bR (rfl) trivial
      refine AK.sc (lim := 2) (lo := 0) rfl rfl rfl rfl ?_ ?_
      ·intro k_ u w_ hk_ hl_ hJ hF K hK
       clear hF
       go_simp
       exact hK.out _ _ bR (rfl) trivial
      refine AK.sc (lim := 2) (lo := 0) rfl rfl rfl rfl ?_ ?_
      ·intro k_ u w_ hk_ hl_ hJ hF K hK
       have h35 : u 35 = .slice (some ⟨s0 + 6, 0, none⟩) 6 6 := AK.facts_get hF 35 (by simp)
       have h36 : u 36 = .int .i64 (i : Int) := AK.facts_get hF 36 (by simp)
       clear hF
       simp only [h35, h36] at hK ⊢
       clear h35 h36
       go_simp
       exact hK.out _ _ bR (rfl) trivial
      refine AK.sc (lim := 2) (lo := 0) rfl rfl rfl rfl ?_ ?_
      ·intro k_ u w_ hk_ hl_ hJ hF K hK
       have h37 : u 37 = .pointer (some ⟨s0 + 6, i * 3, none⟩) := AK.facts_get hF 37 (by simp)
       clear hF
       simp only [h37] at hK ⊢
       clear h37
       go_simp
       exact hK.out _ _ bR (rfl) trivial
      refine AK.sc (lim := 2) (lo := 0) rfl rfl rfl rfl ?_ ?_
      ·intro k_ u w_ hk_ hl_ hJ hF K hK
       have h38 : u 38 = .pointer (some ⟨s0 + 6, i * 3 + 2, none⟩) := AK.facts_get hF 38 (by simp)
       clear hF
       simp only [h38] at hK ⊢
       clear h38
       have hc9 := HR.out _ (HBI.out.trans (hJ.1.mono HBI.out.size)) i hlt
       obtain ⟨r0, r1, r2⟩ := hc9
       rw [HN.out] at r2
       go_simp
       exact hK.out _ _ bR (rfl) trivial
      refine AK.sc (lim := 2) (lo := 0) rfl rfl rfl rfl ?_ ?_
      ·intro k_ u w_ hk_ hl_ hJ hF K hK
       clear hF
       go_simp
       exact hK.out _ _ bR (rfl) trivial
      refine AK.sc (lim := 2) (lo := 0) rfl rfl rfl rfl ?_ ?_
      ·intro k_ u w_ hk_ hl_ hJ hF K hK
       have h39 : u 39 = .slice (some ⟨s0 + i, 0, none⟩) n n := AK.facts_get hF 39 (by simp)
       have h40 : u 40 = .int .i64 (k : Int) := AK.facts_get hF 40 (by simp)
       clear hF
       simp only [h39, h40] at hK ⊢
       clear h39 h40
       go_simp
       exact hK.out _ _ bR (rfl) trivial
      refine AK.sc (lim := 2) (lo := 0) rfl rfl rfl rfl ?_ ?_
      ·intro k_ u w_ hk_ hl_ hJ hF K hK
       have h41 : u 41 = .pointer (some ⟨s0 + i, k, none⟩) := AK.facts_get hF 41 (by simp)
       clear hF
       simp only [h41] at hK ⊢
       clear h41
       have q0 := HQ.out _ (HBI.out.trans (hJ.1.mono HBI.out.size))
       go_simp
       exact hK.out _ _ bR (rfl) trivial
      refine AK.sc (lim := 2) (lo := 0) rfl rfl rfl rfl ?_ ?_
      ·intro k_ u w_ hk_ hl_ hJ hF K hK
       clear hF
       go_simp
       exact hK.out _ _ bR (rfl) trivial
      refine AK.sc (lim := 2) (lo := 0) rfl rfl rfl rfl ?_ ?_
      ·intro k_ u w_ hk_ hl_ hJ hF K hK
       clear hF
       go_simp
       exact hK.out _ _ bR (rfl) trivial
      refine AK.sc (lim := 2) (lo := 0) rfl rfl rfl rfl ?_ ?_
      ·intro k_ u w_ hk_ hl_ hJ hF K hK
       have h43 : u 43 = .slice (some ⟨s0 + 6, 0, none⟩) 6 6 := AK.facts_get hF 43 (by simp)
       have h44 : u 44 = .int .i64 (i : Int) := AK.facts_get hF 44 (by simp)
       clear hF
       simp only [h43, h44] at hK ⊢
       clear h43 h44
       go_simp
       exact hK.out _ _ bR (rfl) trivial
      refine AK.sc (lim := 2) (lo := 0) rfl rfl rfl rfl ?_ ?_
      ·intro k_ u w_ hk_ hl_ hJ hF K hK
       have h45 : u 45 = .pointer (some ⟨s0 + 6, i * 3, none⟩) := AK.facts_get hF 45 (by simp)
       clear hF
       simp only [h45] at hK ⊢
       clear h45
       go_simp
       exact hK.out _ _ bR (rfl) trivial
      refine AK.sc (lim := 2) (lo := 0) rfl rfl rfl rfl ?_ ?_
      ·intro k_ u w_ hk_ hl_ hJ hF K hK
       have h46 : u 46 = .pointer (some ⟨s0 + 6, i * 3, none⟩) := AK.facts_get hF 46 (by simp)
       clear hF
       simp only [h46] at hK ⊢
       clear h46
       have hc9 := HR.out _ (HBI.out.trans (hJ.1.mono HBI.out.size)) i hlt
       obtain ⟨r0, r1, r2⟩ := hc9
       rw [HN.out] at r2
       go_simp
       exact hK.out _ _ bR (rfl) trivial
      refine AK.sc (lim := 2) (lo := 0) rfl rfl rfl rfl ?_ ?_
      ·intro k_ u w_ hk_ hl_ hJ hF K hK
       clear hF
       go_simp
       exact hK.out _ _ bR (rfl) trivial
      refine AK.sc (lim := 2) (lo := 0) rfl rfl rfl rfl ?_ ?_
      ·intro k_ u w_ hk_ hl_ hJ hF K hK
       clear hF
       go_simp
       exact hK.out _ _ bR (rfl) trivial
      refine AK.sc (lim := 2) (lo := 0) rfl rfl rfl rfl ?_ ?_
      ·intro k_ u w_ hk_ hl_ hJ hF K hK
       have h48 : u 48 = .slice (some ⟨s0 + 6, 0, none⟩) 6 6 := AK.facts_get hF 48 (by simp)
       have h49 : u 49 = .int .i64 (i : Int) := AK.facts_get hF 49 (by simp)
       clear hF
       simp only [h48, h49] at hK ⊢
       clear h48 h49
       go_simp
       exact hK.out _ _ bR (rfl) trivial
      refine AK.sc (lim := 2) (lo := 0) rfl rfl rfl rfl ?_ ?_
      ·intro k_ u w_ hk_ hl_ hJ hF K hK
       have h50 : u 50 = .pointer (some ⟨s0 + 6, i * 3, none⟩) := AK.facts_get hF 50 (by simp)
       clear hF
       simp only [h50] at hK ⊢
       clear h50
       go_simp
       exact hK.out _ _ bR (rfl) trivial
      refine AK.sc (lim := 2) (lo := 0) rfl rfl rfl rfl ?_ ?_
      ·intro k_ u w_ hk_ hl_ hJ hF K hK
       have h51 : u 51 = .pointer (some ⟨s0 + 6, i * 3 + 1, none⟩) := AK.facts_get hF 51 (by simp)
       clear hF
       simp only [h51] at hK ⊢
       clear h51
       have hc9 := HR.out _ (HBI.out.trans (hJ.1.mono HBI.out.size)) i hlt
       obtain ⟨r0, r1, r2⟩ := hc9
       rw [HN.out] at r2
       go_simp
       exact hK.out _ _ bR (rfl) trivial
      refine AK.sc (lim := 2) (lo := 0) rfl rfl rfl rfl ?_ ?_
      ·intro k_ u w_ hk_ hl_ hJ hF K hK
       have h42 : u 42 = .int .i64 c := AK.facts_get hF 42 (by simp)
       have h47 : u 47 = .int .i64 (krow i) := AK.facts_get hF 47 (by simp)
       have h52 : u 52 = .int .i64 (brow i) := AK.facts_get hF 52 (by simp)
       clear hF
       simp only [h42, h47, h52] at hK ⊢
       clear h42 h47 h52
       go_simp
       exact hK.out _ _ bR (rfl) trivial
      refine AK.ss rfl rfl ?_ ?_
      ·intro u w_ hJ hA_ hF K hK
       clear hF
       go_simp
       exact hK.out _ _ ⟨hJ.1.trans ((below_alloc_new _).mono hJ.1.size), fun v hv => ⟨w_.heap.size, by cases hv; rfl, hJ.1.size, Wh.new w_ _ [.int .i64 0, .int .i64 0, .int .i64 0, .int .i64 0]⟩⟩ (by simp) trivial
      refine AK.ss rfl rfl ?_ ?_
      ·intro u w_ hJ hA_ hF K hK
       have h53 : u 53 = .agg #[.int .i64 c, .int .i64 (krow i), .int .i64 (brow i), .int .i64 0] := AK.facts_get hF 53 (by simp)
       clear hF
       simp only [h53] at hK ⊢
       clear h53
       obtain ⟨g5, h5v, hg5, hw5⟩ := hJ.2 _ rfl
       simp only [h5v] at hK ⊢
       refine wp_store_mid 91 _ _ rfl g5 0 #[.int .i64 c, .int .i64 (krow i), .int .i64 (brow i), .int .i64 0] rfl rfl (hw5.there (show 0 + 4 ≤ 4 from Nat.le_refl _)) (by kernel_rfl) (by kernel_rfl) ?_
       exact hK.out _ _ ⟨hJ.1.trans (below_setCells hg5 _ _ (Below.refl _ _)), fun v hv => ⟨g5, by cases hv; exact h5v, hg5, hw5.put _ rfl⟩⟩ (Nat.le_of_eq (setCells_size _ _ _ _).symm) trivial
      exact AK.StepsOk.nil
     ·intro u W9 hJ9 hF
      clear hF
      have hB9 := hJ9.1
      obtain ⟨g9, h9, hg9, hw9⟩ := hJ9.2 _ rfl
      clear hJ9
      simp only [h9]
      clear h9
      have HB9 := Lib.hid (HBI.out.trans (hB9.mono HBI.out.size))
      have z0 := hw9.at 0 _ rfl
      have z1 := hw9.at 1 _ rfl
      have z2 := hw9.at 2 _ rfl
      have z3 := hw9.at 3 _ rfl
      have z4 := hw9.frozen 3
      have hwf := hw9
      have HWF : Hid (Wh 91 W9 g9 (celA ⟨c, krow i, brow i, 0⟩)) := Lib.hid hwf
      have HO9 : Hid (OwnR lyA 91 W9 s1 u2 (scN i k)) := Lib.hid ((HO.out.up hB9))
      have HBF : Hid (Below s1 w2 W9) := Lib.hid (HB9.out.mono (Nat.le_of_eq HS1.out.symm))
      have HSZ9 : Hid (s1 ≤ W9.heap.size) := Lib.hid (by have := HBF.out.size; have := HS1.out; omega)
      have HRO : Hid (RowAt lyA (W9.alloc (.cells #[.int .i64 c, .int .i64 (krow i), .int .i64 (brow i), .int .i64 0] 91)) (some ⟨W9.heap.size, 0, none⟩) [⟨c, krow i, brow i, 0⟩]) := Lib.hid (by have h := row_one (R := lyA) (x := ⟨c, krow i, brow i, 0⟩) (Wh.new W9 91 [.int .i64 c, .int .i64 (krow i), .int .i64 (brow i), .int .i64 0]); first | exact h | (rw [World.size_setCell] at h; exact h))
      clear hw9 hwf hB9
      go_wp2_with (at_builtin; refine wpList_app_row (R := lyA) rfl (.tmp 68) (.tmp 70) 24 rfl i0 _ 32 Tryz.underlying24 hi hz1 hz2 hz3 (by omega) rfl rfl ((HO9.out).up (below_alloc_new _)) (some ⟨W9.heap.size, 0, none⟩) 1 1 [⟨c, krow i, brow i, 0⟩] rfl rfl HRO.out (by have := HLN.out; simp; omega) (Nat.le_trans HSZ9.out (by simp)) ?_; intro v5 w5 ho5 hg5 hn5)
      have HO5 : Hid (OwnR lyA 91 w5 s1 v5 (scN i (k + 1))) := Lib.hid (by rw [scN_k, HAN2.out]; exact ho5.out)
      have HB5 : Hid (Below s1 w2 w5) := Lib.hid ((HBF.out.trans ((below_alloc_new _).mono HSZ9.out)).grown hg5.out (Nat.le_trans HSZ9.out (by simp)) (fun g hg => (HO9.out.lt hg).1))
      clear ho5 hg5 hn5 HO9 HAN2 HWF z0 z1 z2 z3 z4
      go_wp2_with fail
      go_roundg (n - (k + 1))
      case measure => omega
      case rel => exact ⟨k + 1, by go_num, by omega, by omega, HO5, HB5.out⟩
    ·obtain rfl : k = n := by omega
     have hklz : ¬ (k : Int) < (k : Int) := by omega
     go_wp2_with fail
     go_roundg (6 - (i + 1))
     case measure => omega
     case rel => exact ⟨i + 1, by go_num, by omega, by omega, Lib.hid (by rw [scN_i, HN.out]; exact HO.out), by rw [← HS1.out]; exact HBI.out⟩
  ·obtain rfl : i = 6 := by omega
   obtain ⟨A, c, hv, -, -⟩ := HOo.out.reads
   obtain rfl := hv
   have HBo := Lib.hid hBo
   clear hBo
   go_wp2_with fail
   go_ret
   exact ⟨⟨A, c, rfl, s1, by have := HS0.out; have := HS07.out; omega, HOo.out⟩, by have h9 := HB2.out.trans (HBo.out.mono (by have := HS07.out; omega)); rw [← HS0.out] at h9; exact h9⟩
end Go.Proofs.YtacmccijnkojeaaGreat
