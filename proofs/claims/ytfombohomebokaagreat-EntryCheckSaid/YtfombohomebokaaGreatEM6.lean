/- Contracts of the functions that the statements reach, part 6: what was proved of each, callees first. -/
import Derived.Deep.RegionHeldLaw
import Derived.BigRegion
import Derived.Laws.Tables
import Derived.BigQuiet
import Derived.Shelf.SlIter.Nil
import Derived.RangeFuncBound
import Derived.Sort.OwnSorted
import Derived.Lib.AppendIntMem
import Derived.Test.YtfombohomebokaaGreatEM5
namespace Go.Proofs.YtfombohomebokaaGreat
open Go.RowKit
def inB (y m k n : Int) : Bool := decide (pdF y m k 0 ≤ n) && decide (n ≤ pdL y m k (k - 1))
set_option maxRecDepth 20000 in
set_option maxHeartbeats 1600000 in
theorem rincal_any (y m k n : Int) (w : World) (hk : -9223372036854775807 ≤ k ∧ k ≤ 9223372036854775807) : Calls Tryz.prog 11 #[calV y m k, .int .i64 n] w fun e w' => e = .returned (.bool (inB y m k n)) ∧ Below w.heap.size w w' := by
 have hB := below_alloc_new (w := w) (.cells #[.int .i64 y, .int .i64 m, .int .i64 k] 23)
 have hR := rg_new w 23 [.int .i64 y, .int .i64 m, .int .i64 k]
 have H1 := Lib.hid (fun W => rfirst7_any y m k 0 W)
 have H2 := Lib.hid (fun W => rlast7_any y m k (k - 1) W)
 have hq : inB y m k n = (decide (pdF y m k 0 ≤ n) && decide (n ≤ pdL y m k (k - 1))) := rfl
 rw [hq]
 clear hq
 generalize pdF y m k 0 = a at *
 generalize pdL y m k (k - 1) = b at *
 generalize clE y m k 0 = c at *
 generalize clE y m k (k - 1) = d at *
 have c0 := hR.cell 0 _ rfl
 have c1 := hR.cell 1 _ rfl
 have c2 := hR.cell 2 _ rfl
 generalize hW : w.alloc (.cells #[.int .i64 y, .int .i64 m, .int .i64 k] 23) = W0 at *
 have HR := Lib.hid hR
 have HB := Lib.hid hB
 have hwk : wrap64 (k - 1) = k - 1 := by unfold wrap64; omega
 clear hR hB hk
 by_cases h1 : a ≤ n
 ·rw [decide_eq_true h1, Bool.true_and]
  go_enter Tryz.func11, Tryz.ntmps11
  go_wp2_with (first
   | (go_at_call 21; refine (H1.out _).mono ?_; rintro e w5 ⟨rfl, hb5⟩; have hR5 := HR.out.up hb5; have d0 := hR5.cell 0 _ rfl; have d1 := hR5.cell 1 _ rfl; have d2 := hR5.cell 2 _ rfl; have HB5 := Lib.hid (below_more HB.out hb5); clear hb5 hR5)
   | (go_at_call 22; refine (H2.out _).mono ?_; rintro e w6 ⟨rfl, hb6⟩; have HB6 := Lib.hid (below_more HB5.out hb6); clear hb6))
  go_ret
  exact ⟨by first | rfl | simp, HB6.out⟩
 ·have e1 : decide (a ≤ n) = false := decide_eq_false h1
  rw [e1, Bool.false_and]
  go_enter Tryz.func11, Tryz.ntmps11
  go_wp2_with (first
   | (go_at_call 21; refine (H1.out _).mono ?_; rintro e w5 ⟨rfl, hb5⟩; have hR5 := HR.out.up hb5; have d0 := hR5.cell 0 _ rfl; have d1 := hR5.cell 1 _ rfl; have d2 := hR5.cell 2 _ rfl; have HB5 := Lib.hid (below_more HB.out hb5); clear hb5 hR5)
   | (go_at_call 22; refine (H2.out _).mono ?_; rintro e w6 ⟨rfl, hb6⟩; have HB6 := Lib.hid (below_more HB5.out hb6); clear hb6))
  go_ret
  exact ⟨by first | rfl | simp, HB6.out⟩
set_option maxRecDepth 100000 in
set_option maxHeartbeats 3200000 in
theorem rline_any (g : Grp) (e : Int) (l : Lnk) (V : Value) (hV : V = grpV g) (w : World) : Calls Tryz.prog 38 #[V, .int .i64 e, lnkV l] w fun e' w' => e' = .returned (.bool (lnB g e l)) ∧ Below w.heap.size w w' := by
 rw [grpV_is] at hV
 obtain ⟨gs, hgs⟩ : ∃ gs, (grpC g).toArray = gs := ⟨_, rfl⟩
 rw [hgs] at hV
 subst hV
 have hR := (rg_new w 29 (grpC g)).up (below_alloc_new (.cells #[.int .i64 l.frm, .int .i64 l.tgt, .int .i64 l.since] 45))
 have hl := lb_new (w.alloc (.cells (grpC g).toArray 29)) 45 l
 have hB := below_new (below_alloc_new (w := w) (.cells (grpC g).toArray 29)) (.cells #[.int .i64 l.frm, .int .i64 l.tgt, .int .i64 l.since] 45)
 rw [hgs] at hR hl hB
 rw [World.size_alloc] at hl
 obtain ⟨⟨d0, d1, d2⟩, -⟩ := hl
 simp only [Nat.zero_add] at d0 d1 d2
 have c20 := hR.cell 20 _ rfl
 have HMV := Lib.hid (fun W => ermvalid_any l.tgt W)
 have hq : lnB g e l = (!decide (l.tgt = 0) && (amtB l.tgt && (decide (l.since = -1) || ((decide (0 ≤ l.since) && decide (l.since < g.m)) && !decide (l.since = e))))) := rfl
 rw [hq]
 have HB := Lib.hid hB
 clear hR hB hq hgs
 generalize amtB l.tgt = am at *
 have ARM : True := trivial
 by_cases h0 : l.tgt = 0
 ·have e3 : (l.tgt == 0) = true := by simp [h0]
  rw [decide_eq_true h0]
  clear h0
  go_enter Tryz.func38, Tryz.ntmps38
  go_wp2_with fail
  go_ret
  exact ⟨by first | rfl | simp, HB.out⟩
 have e3 : (l.tgt == 0) = false := by simp [h0]
 rw [decide_eq_false h0, Bool.not_false, Bool.true_and]
 clear h0
 cases am
 ·rw [Bool.false_and]
  go_enter Tryz.func38, Tryz.ntmps38
  go_wp2_with (go_at_call 58; refine (HMV.out _).mono ?_; rintro e w4 ⟨rfl, rfl⟩)
  go_ret
  exact ⟨by first | rfl | simp, HB.out⟩
 rw [Bool.true_and]
 by_cases h1 : l.since = -1
 ·have e4 : (l.since == -1) = true := by simp [h1]
  rw [decide_eq_true h1, Bool.true_or]
  clear h1
  go_enter Tryz.func38, Tryz.ntmps38
  go_wp2_with (go_at_call 58; refine (HMV.out _).mono ?_; rintro e w4 ⟨rfl, rfl⟩)
  go_ret
  exact ⟨by first | rfl | simp, HB.out⟩
 have e4 : (l.since == -1) = false := by simp [h1]
 rw [decide_eq_false h1, Bool.false_or]
 clear h1
 rcases Int.lt_or_le l.since 0 with h2 | h2
 ·have e5 : decide (0 ≤ l.since) = false := decide_eq_false (by omega)
  rw [e5, Bool.false_and, Bool.false_and]
  clear h2
  go_enter Tryz.func38, Tryz.ntmps38
  go_wp2_with (go_at_call 58; refine (HMV.out _).mono ?_; rintro e w4 ⟨rfl, rfl⟩)
  go_ret
  exact ⟨by first | rfl | simp, HB.out⟩
 have e5 : decide (0 ≤ l.since) = true := decide_eq_true h2
 rw [e5, Bool.true_and]
 rcases Int.lt_or_le l.since g.m with h3 | h3
 ·have e6 : decide (l.since < (g.m : Int)) = true := decide_eq_true h3
  rw [e6, Bool.true_and]
  have e7 : (l.since != e) = !decide (l.since = e) := rfl
  go_enter Tryz.func38, Tryz.ntmps38
  go_wp2_with (go_at_call 58; refine (HMV.out _).mono ?_; rintro e w4 ⟨rfl, rfl⟩)
  go_ret
  exact ⟨by first | rfl | (simp; done) | (rw [← e7]; rfl), HB.out⟩
 ·have e6 : decide (l.since < (g.m : Int)) = false := decide_eq_false (by omega)
  rw [e6, Bool.false_and]
  go_enter Tryz.func38, Tryz.ntmps38
  go_wp2_with (go_at_call 58; refine (HMV.out _).mono ?_; rintro e w4 ⟨rfl, rfl⟩)
  go_ret
  exact ⟨by first | rfl | simp, HB.out⟩
def shpFa (GV : Value) (x : Ety) (l : Lnk) (bb off k s0 : Nat) (q : Bool) : List (Nat × AS.Fact) := [(80, AS.Fact.is (GV)), (81, AS.Fact.is (.pointer (some ⟨s0 + 1, 1, none⟩))), (82, AS.Fact.is (.int .i64 x.ent)), (83, AS.Fact.is (.pointer (some ⟨s0 + 1, 6, none⟩))), (84, AS.Fact.is (.slice (some ⟨bb, off, none⟩) x.n x.c)), (85, AS.Fact.is (.int .i64 k)), (86, AS.Fact.is (.pointer (some ⟨bb, off + k * 3, none⟩))), (87, AS.Fact.is (.agg #[.int .i64 l.frm, .int .i64 l.tgt, .int .i64 l.since])), (88, AS.Fact.is (.bool q)), (89, AS.Fact.is (.bool (!q)))]
def orgR (kind of_ : Int) : Bool := if kind = 3 then decide (1 ≤ of_) else decide (of_ = 0)
def shpB (gp : Bool) (g : Grp) (x : Ety) (X : List Lnk) : Bool := gp && (decide (1 ≤ x.id) && (decide (0 ≤ x.ent) && (decide (x.ent < g.m) && (decide (1 ≤ x.kind) && (decide (x.kind ≤ 3) && (orgR x.kind x.of_ && (txtB x.txt && (decide (2 ≤ x.n) && (decide (x.n ≤ 40) && X.all (lnB g x.ent))))))))))
set_option maxRecDepth 100000 in
set_option maxHeartbeats 12800000 in
theorem rshape_any (g : Grp) (x : Ety) (X : List Lnk) (L : List Acc) (G : List Ent) (w : World) (hk : GrK w g L G) (hs : Sm g G) (hw : GrW g L G) (hx : EtyK w x X) (hn : x.n ≤ 1000) (ht : x.txt.size ≤ maxLen) : Calls Tryz.prog 17 #[grpV g, etyV x] w fun e w' => e = .returned (.bool (shpB (grpR g L G) g x X)) ∧ Below w.heap.size w w' := by
 obtain ⟨GV, hGV⟩ : ∃ GV, GV = grpV g := ⟨_, rfl⟩
 have HGV := Lib.hid (fun W (h : GrK W g L G) => rvalid10_any g L G W h hs hw)
 have HPR := Lib.hid (fun W => rprint_any x.txt W ht)
 rw [← hGV] at HGV
 have HGV0 := Lib.hid hGV
 have HN := Lib.hid hx.ln
 rw [grpV_is]
 obtain ⟨gs, hgs⟩ : ∃ gs, (grpC g).toArray = gs := ⟨_, rfl⟩
 obtain ⟨xs, hxs⟩ : ∃ xs, (etyC x).toArray = xs := ⟨_, rfl⟩
 have hxV : etyV x = .agg xs := by rw [etyV_is, hxs]
 rw [hgs, hxV]
 obtain ⟨s0, hs0⟩ : ∃ s0, w.heap.size = s0 := ⟨_, rfl⟩
 obtain ⟨w2, hw2⟩ : ∃ w2, (w.alloc (.cells gs 29)).alloc (.cells xs 32) = w2 := ⟨_, rfl⟩
 have HGB : Hid (Rg w2 s0 (grpC g)) := Lib.hid (by rw [← hw2, ← hgs, ← hs0]; exact (rg_new w _ _).up (below_alloc_new _))
 have HXB : Hid (Rg w2 (s0 + 1) (etyC x)) := Lib.hid (by
  rw [← hw2, ← hxs, ← hs0]
  have h9 := rg_new (w.alloc (.cells gs 29)) 32 (etyC x)
  rw [World.size_alloc] at h9
  exact h9)
 have HB2 : Hid (Below w.heap.size w w2) := Lib.hid (by rw [← hw2]; exact below_new (below_alloc_new _) _)
 have HLL : Hid (∀ w9, Rg w9 s0 (grpC g) → (Instr.loadAt 29 (.pointer (some ⟨s0, 0, none⟩))).run Tryz.prog w9 = .ok GV w9) := Lib.hid (fun w9 h9 => by rw [hGV, grpV_is]; exact h9.load 0 29 (grpC g) rfl _ Tryz.underlying29 rfl (by kernel_rfl))
 have HLG : Hid (∀ w9, Below w2.heap.size w2 w9 → (Instr.loadAt 29 (.pointer (some ⟨s0, 0, none⟩))).run Tryz.prog w9 = .ok GV w9) := Lib.hid (fun w9 h9 => HLL.out w9 (HGB.out.up h9))
 have HK2 := Lib.hid (hk.up HB2.out)
 have HZ2 := Lib.hid (hx.hz.up HB2.out)
 have hq : shpB (grpR g L G) g x X = (grpR g L G && (decide (1 ≤ x.id) && (decide (0 ≤ x.ent) && (decide (x.ent < g.m) && (decide (1 ≤ x.kind) && (decide (x.kind ≤ 3) && (orgR x.kind x.of_ && (txtB x.txt && (decide (2 ≤ x.n) && (decide (x.n ≤ 40) && X.all (lnB g x.ent))))))))))) := rfl
 rw [hq]
 clear hq hk hs hw hx ht hGV hgs hxs hxV
 have HS0 := Lib.hid hs0
 generalize grpR g L G = gp at *
 generalize txtB x.txt = tx at *
 cases gp
 ·rw [Bool.false_and]
  have HM9 : True := trivial
  go_enter Tryz.func17, Tryz.ntmps17
  go_wp2_with (first
   | (clear HM9; refine wpList_load_is rfl 29 _ rfl (.pointer (some ⟨s0, 0, none⟩)) rfl GV (HLG.out _ (Below.refl _ _)) ?_)
   | (go_at_call 36; refine (HGV.out _ HK2.out).mono ?_; rintro e w5 ⟨rfl, hb5⟩; have hS5 := HXB.out.up hb5; have hG5 := HGB.out.up hb5; have HB5 := Lib.hid (HB2.out.trans (hb5.mono HB2.out.size)); have d0 := hS5.cell 0 _ rfl; have d1 := hS5.cell 1 _ rfl; have d3 := hS5.cell 3 _ rfl; have d4 := hS5.cell 4 _ rfl; have d5 := hS5.cell 5 _ rfl; have d6 := hS5.cell 6 _ rfl; have c20 := hG5.cell 20 _ rfl; have HS5 := Lib.hid hS5; have HG5 := Lib.hid hG5; have HZ5 := Lib.hid (HZ2.out.up hb5); clear hb5 hS5 hG5)
   | (go_at_call 37; refine (HPR.out _).mono ?_; rintro e w6 ⟨rfl, hb6⟩; have hS6 := HS5.out.up hb6; have d6b := hS6.cell 6 _ rfl; have HB6 := Lib.hid (below_more HB5.out hb6); have HS6 := Lib.hid hS6; have HG6 := Lib.hid (HG5.out.up hb6); have HZ6 := Lib.hid (HZ5.out.up hb6); clear hb6 hS6))
  go_ret
  exact ⟨by first | rfl | simp, HB5.out⟩
 rw [Bool.true_and]
 rcases Int.lt_or_le x.id 1 with g1 | g1
 ·have e1 : decide (1 ≤ x.id) = false := decide_eq_false (by omega)
  have e2 : decide (x.id < 1) = true := decide_eq_true g1
  rw [e1, Bool.false_and]
  have HM9 : True := trivial
  go_enter Tryz.func17, Tryz.ntmps17
  go_wp2_with (first
   | (clear HM9; refine wpList_load_is rfl 29 _ rfl (.pointer (some ⟨s0, 0, none⟩)) rfl GV (HLG.out _ (Below.refl _ _)) ?_)
   | (go_at_call 36; refine (HGV.out _ HK2.out).mono ?_; rintro e w5 ⟨rfl, hb5⟩; have hS5 := HXB.out.up hb5; have hG5 := HGB.out.up hb5; have HB5 := Lib.hid (HB2.out.trans (hb5.mono HB2.out.size)); have d0 := hS5.cell 0 _ rfl; have d1 := hS5.cell 1 _ rfl; have d3 := hS5.cell 3 _ rfl; have d4 := hS5.cell 4 _ rfl; have d5 := hS5.cell 5 _ rfl; have d6 := hS5.cell 6 _ rfl; have c20 := hG5.cell 20 _ rfl; have HS5 := Lib.hid hS5; have HG5 := Lib.hid hG5; have HZ5 := Lib.hid (HZ2.out.up hb5); clear hb5 hS5 hG5)
   | (go_at_call 37; refine (HPR.out _).mono ?_; rintro e w6 ⟨rfl, hb6⟩; have hS6 := HS5.out.up hb6; have d6b := hS6.cell 6 _ rfl; have HB6 := Lib.hid (below_more HB5.out hb6); have HS6 := Lib.hid hS6; have HG6 := Lib.hid (HG5.out.up hb6); have HZ6 := Lib.hid (HZ5.out.up hb6); clear hb6 hS6))
  go_ret
  exact ⟨by first | rfl | simp, HB5.out⟩
 have e1 : decide (1 ≤ x.id) = true := decide_eq_true g1
 have e2 : decide (x.id < 1) = false := decide_eq_false (by omega)
 rw [e1, Bool.true_and]
 rcases Int.lt_or_le x.ent 0 with g1 | g1
 ·have e3 : decide (0 ≤ x.ent) = false := decide_eq_false (by omega)
  have e4 : decide (x.ent < 0) = true := decide_eq_true g1
  rw [e3, Bool.false_and]
  have HM9 : True := trivial
  go_enter Tryz.func17, Tryz.ntmps17
  go_wp2_with (first
   | (clear HM9; refine wpList_load_is rfl 29 _ rfl (.pointer (some ⟨s0, 0, none⟩)) rfl GV (HLG.out _ (Below.refl _ _)) ?_)
   | (go_at_call 36; refine (HGV.out _ HK2.out).mono ?_; rintro e w5 ⟨rfl, hb5⟩; have hS5 := HXB.out.up hb5; have hG5 := HGB.out.up hb5; have HB5 := Lib.hid (HB2.out.trans (hb5.mono HB2.out.size)); have d0 := hS5.cell 0 _ rfl; have d1 := hS5.cell 1 _ rfl; have d3 := hS5.cell 3 _ rfl; have d4 := hS5.cell 4 _ rfl; have d5 := hS5.cell 5 _ rfl; have d6 := hS5.cell 6 _ rfl; have c20 := hG5.cell 20 _ rfl; have HS5 := Lib.hid hS5; have HG5 := Lib.hid hG5; have HZ5 := Lib.hid (HZ2.out.up hb5); clear hb5 hS5 hG5)
   | (go_at_call 37; refine (HPR.out _).mono ?_; rintro e w6 ⟨rfl, hb6⟩; have hS6 := HS5.out.up hb6; have d6b := hS6.cell 6 _ rfl; have HB6 := Lib.hid (below_more HB5.out hb6); have HS6 := Lib.hid hS6; have HG6 := Lib.hid (HG5.out.up hb6); have HZ6 := Lib.hid (HZ5.out.up hb6); clear hb6 hS6))
  go_ret
  exact ⟨by first | rfl | simp, HB5.out⟩
 have e3 : decide (0 ≤ x.ent) = true := decide_eq_true g1
 have e4 : decide (x.ent < 0) = false := decide_eq_false (by omega)
 rw [e3, Bool.true_and]
 rcases Int.lt_or_le x.ent g.m |>.symm with g1 | g1
 ·have e5 : decide (x.ent < (g.m : Int)) = false := decide_eq_false (by omega)
  have e6 : decide ((g.m : Int) ≤ x.ent) = true := decide_eq_true g1
  rw [e5, Bool.false_and]
  have HM9 : True := trivial
  go_enter Tryz.func17, Tryz.ntmps17
  go_wp2_with (first
   | (clear HM9; refine wpList_load_is rfl 29 _ rfl (.pointer (some ⟨s0, 0, none⟩)) rfl GV (HLG.out _ (Below.refl _ _)) ?_)
   | (go_at_call 36; refine (HGV.out _ HK2.out).mono ?_; rintro e w5 ⟨rfl, hb5⟩; have hS5 := HXB.out.up hb5; have hG5 := HGB.out.up hb5; have HB5 := Lib.hid (HB2.out.trans (hb5.mono HB2.out.size)); have d0 := hS5.cell 0 _ rfl; have d1 := hS5.cell 1 _ rfl; have d3 := hS5.cell 3 _ rfl; have d4 := hS5.cell 4 _ rfl; have d5 := hS5.cell 5 _ rfl; have d6 := hS5.cell 6 _ rfl; have c20 := hG5.cell 20 _ rfl; have HS5 := Lib.hid hS5; have HG5 := Lib.hid hG5; have HZ5 := Lib.hid (HZ2.out.up hb5); clear hb5 hS5 hG5)
   | (go_at_call 37; refine (HPR.out _).mono ?_; rintro e w6 ⟨rfl, hb6⟩; have hS6 := HS5.out.up hb6; have d6b := hS6.cell 6 _ rfl; have HB6 := Lib.hid (below_more HB5.out hb6); have HS6 := Lib.hid hS6; have HG6 := Lib.hid (HG5.out.up hb6); have HZ6 := Lib.hid (HZ5.out.up hb6); clear hb6 hS6))
  go_ret
  exact ⟨by first | rfl | simp, HB5.out⟩
 have e5 : decide (x.ent < (g.m : Int)) = true := decide_eq_true (by omega)
 have e6 : decide ((g.m : Int) ≤ x.ent) = false := decide_eq_false (by omega)
 rw [e5, Bool.true_and]
 rcases Int.lt_or_le x.kind 1 with g1 | g1
 ·have e7 : decide (1 ≤ x.kind) = false := decide_eq_false (by omega)
  have e8 : decide (x.kind < 1) = true := decide_eq_true g1
  rw [e7, Bool.false_and]
  have HM9 : True := trivial
  go_enter Tryz.func17, Tryz.ntmps17
  go_wp2_with (first
   | (clear HM9; refine wpList_load_is rfl 29 _ rfl (.pointer (some ⟨s0, 0, none⟩)) rfl GV (HLG.out _ (Below.refl _ _)) ?_)
   | (go_at_call 36; refine (HGV.out _ HK2.out).mono ?_; rintro e w5 ⟨rfl, hb5⟩; have hS5 := HXB.out.up hb5; have hG5 := HGB.out.up hb5; have HB5 := Lib.hid (HB2.out.trans (hb5.mono HB2.out.size)); have d0 := hS5.cell 0 _ rfl; have d1 := hS5.cell 1 _ rfl; have d3 := hS5.cell 3 _ rfl; have d4 := hS5.cell 4 _ rfl; have d5 := hS5.cell 5 _ rfl; have d6 := hS5.cell 6 _ rfl; have c20 := hG5.cell 20 _ rfl; have HS5 := Lib.hid hS5; have HG5 := Lib.hid hG5; have HZ5 := Lib.hid (HZ2.out.up hb5); clear hb5 hS5 hG5)
   | (go_at_call 37; refine (HPR.out _).mono ?_; rintro e w6 ⟨rfl, hb6⟩; have hS6 := HS5.out.up hb6; have d6b := hS6.cell 6 _ rfl; have HB6 := Lib.hid (below_more HB5.out hb6); have HS6 := Lib.hid hS6; have HG6 := Lib.hid (HG5.out.up hb6); have HZ6 := Lib.hid (HZ5.out.up hb6); clear hb6 hS6))
  go_ret
  exact ⟨by first | rfl | simp, HB5.out⟩
 have e7 : decide (1 ≤ x.kind) = true := decide_eq_true g1
 have e8 : decide (x.kind < 1) = false := decide_eq_false (by omega)
 rw [e7, Bool.true_and]
 rcases Int.lt_or_le 3 x.kind with g1 | g1
 ·have e9 : decide (x.kind ≤ 3) = false := decide_eq_false (by omega)
  have e10 : decide ((3 : Int) < x.kind) = true := decide_eq_true g1
  rw [e9, Bool.false_and]
  have HM9 : True := trivial
  go_enter Tryz.func17, Tryz.ntmps17
  go_wp2_with (first
   | (clear HM9; refine wpList_load_is rfl 29 _ rfl (.pointer (some ⟨s0, 0, none⟩)) rfl GV (HLG.out _ (Below.refl _ _)) ?_)
   | (go_at_call 36; refine (HGV.out _ HK2.out).mono ?_; rintro e w5 ⟨rfl, hb5⟩; have hS5 := HXB.out.up hb5; have hG5 := HGB.out.up hb5; have HB5 := Lib.hid (HB2.out.trans (hb5.mono HB2.out.size)); have d0 := hS5.cell 0 _ rfl; have d1 := hS5.cell 1 _ rfl; have d3 := hS5.cell 3 _ rfl; have d4 := hS5.cell 4 _ rfl; have d5 := hS5.cell 5 _ rfl; have d6 := hS5.cell 6 _ rfl; have c20 := hG5.cell 20 _ rfl; have HS5 := Lib.hid hS5; have HG5 := Lib.hid hG5; have HZ5 := Lib.hid (HZ2.out.up hb5); clear hb5 hS5 hG5)
   | (go_at_call 37; refine (HPR.out _).mono ?_; rintro e w6 ⟨rfl, hb6⟩; have hS6 := HS5.out.up hb6; have d6b := hS6.cell 6 _ rfl; have HB6 := Lib.hid (below_more HB5.out hb6); have HS6 := Lib.hid hS6; have HG6 := Lib.hid (HG5.out.up hb6); have HZ6 := Lib.hid (HZ5.out.up hb6); clear hb6 hS6))
  go_ret
  exact ⟨by first | rfl | simp, HB5.out⟩
 have e9 : decide (x.kind ≤ 3) = true := decide_eq_true g1
 have e10 : decide ((3 : Int) < x.kind) = false := decide_eq_false (by omega)
 rw [e9, Bool.true_and]
 unfold orgR
 by_cases hk3 : x.kind = 3
 ·have e11 : (x.kind == 3) = true := by simp [hk3]
  have e12 : (x.kind != 3) = false := by simp [hk3]
  rw [if_pos hk3]
  clear hk3
  rcases Int.lt_or_le x.of_ 1 with g1 | g1
  ·have e13 : decide (1 ≤ x.of_) = false := decide_eq_false (by omega)
   have e14 : decide (x.of_ < 1) = true := decide_eq_true g1
   rw [e13, Bool.false_and]
   have HM9 : True := trivial
   go_enter Tryz.func17, Tryz.ntmps17
   go_wp2_with (first
    | (clear HM9; refine wpList_load_is rfl 29 _ rfl (.pointer (some ⟨s0, 0, none⟩)) rfl GV (HLG.out _ (Below.refl _ _)) ?_)
    | (go_at_call 36; refine (HGV.out _ HK2.out).mono ?_; rintro e w5 ⟨rfl, hb5⟩; have hS5 := HXB.out.up hb5; have hG5 := HGB.out.up hb5; have HB5 := Lib.hid (HB2.out.trans (hb5.mono HB2.out.size)); have d0 := hS5.cell 0 _ rfl; have d1 := hS5.cell 1 _ rfl; have d3 := hS5.cell 3 _ rfl; have d4 := hS5.cell 4 _ rfl; have d5 := hS5.cell 5 _ rfl; have d6 := hS5.cell 6 _ rfl; have c20 := hG5.cell 20 _ rfl; have HS5 := Lib.hid hS5; have HG5 := Lib.hid hG5; have HZ5 := Lib.hid (HZ2.out.up hb5); clear hb5 hS5 hG5)
    | (go_at_call 37; refine (HPR.out _).mono ?_; rintro e w6 ⟨rfl, hb6⟩; have hS6 := HS5.out.up hb6; have d6b := hS6.cell 6 _ rfl; have HB6 := Lib.hid (below_more HB5.out hb6); have HS6 := Lib.hid hS6; have HG6 := Lib.hid (HG5.out.up hb6); have HZ6 := Lib.hid (HZ5.out.up hb6); clear hb6 hS6))
   go_ret
   exact ⟨by first | rfl | simp, HB5.out⟩
  have e13 : decide (1 ≤ x.of_) = true := decide_eq_true g1
  have e14 : decide (x.of_ < 1) = false := decide_eq_false (by omega)
  rw [e13, Bool.true_and]
  cases tx
  ·rw [Bool.false_and]
   have HM9 : True := trivial
   go_enter Tryz.func17, Tryz.ntmps17
   go_wp2_with (first
    | (clear HM9; refine wpList_load_is rfl 29 _ rfl (.pointer (some ⟨s0, 0, none⟩)) rfl GV (HLG.out _ (Below.refl _ _)) ?_)
    | (go_at_call 36; refine (HGV.out _ HK2.out).mono ?_; rintro e w5 ⟨rfl, hb5⟩; have hS5 := HXB.out.up hb5; have hG5 := HGB.out.up hb5; have HB5 := Lib.hid (HB2.out.trans (hb5.mono HB2.out.size)); have d0 := hS5.cell 0 _ rfl; have d1 := hS5.cell 1 _ rfl; have d3 := hS5.cell 3 _ rfl; have d4 := hS5.cell 4 _ rfl; have d5 := hS5.cell 5 _ rfl; have d6 := hS5.cell 6 _ rfl; have c20 := hG5.cell 20 _ rfl; have HS5 := Lib.hid hS5; have HG5 := Lib.hid hG5; have HZ5 := Lib.hid (HZ2.out.up hb5); clear hb5 hS5 hG5)
    | (go_at_call 37; refine (HPR.out _).mono ?_; rintro e w6 ⟨rfl, hb6⟩; have hS6 := HS5.out.up hb6; have d6b := hS6.cell 6 _ rfl; have HB6 := Lib.hid (below_more HB5.out hb6); have HS6 := Lib.hid hS6; have HG6 := Lib.hid (HG5.out.up hb6); have HZ6 := Lib.hid (HZ5.out.up hb6); clear hb6 hS6))
   go_ret
   exact ⟨by first | rfl | simp, HB6.out⟩
  rw [Bool.true_and]
  rcases Nat.lt_or_ge x.n 2 with g2 | g2
  ·have f2 : decide (2 ≤ x.n) = false := decide_eq_false (by omega)
   have f3 : decide ((x.n : Int) < 2) = true := decide_eq_true (by omega)
   rw [f2, Bool.false_and]
   have HM9 : True := trivial
   go_enter Tryz.func17, Tryz.ntmps17
   go_wp2_with (first
    | (clear HM9; refine wpList_load_is rfl 29 _ rfl (.pointer (some ⟨s0, 0, none⟩)) rfl GV (HLG.out _ (Below.refl _ _)) ?_)
    | (go_at_call 36; refine (HGV.out _ HK2.out).mono ?_; rintro e w5 ⟨rfl, hb5⟩; have hS5 := HXB.out.up hb5; have hG5 := HGB.out.up hb5; have HB5 := Lib.hid (HB2.out.trans (hb5.mono HB2.out.size)); have d0 := hS5.cell 0 _ rfl; have d1 := hS5.cell 1 _ rfl; have d3 := hS5.cell 3 _ rfl; have d4 := hS5.cell 4 _ rfl; have d5 := hS5.cell 5 _ rfl; have d6 := hS5.cell 6 _ rfl; have c20 := hG5.cell 20 _ rfl; have HS5 := Lib.hid hS5; have HG5 := Lib.hid hG5; have HZ5 := Lib.hid (HZ2.out.up hb5); clear hb5 hS5 hG5)
    | (go_at_call 37; refine (HPR.out _).mono ?_; rintro e w6 ⟨rfl, hb6⟩; have hS6 := HS5.out.up hb6; have d6b := hS6.cell 6 _ rfl; have HB6 := Lib.hid (below_more HB5.out hb6); have HS6 := Lib.hid hS6; have HG6 := Lib.hid (HG5.out.up hb6); have HZ6 := Lib.hid (HZ5.out.up hb6); clear hb6 hS6))
   go_ret
   exact ⟨by first | rfl | simp, HB6.out⟩
  have f2 : decide (2 ≤ x.n) = true := decide_eq_true g2
  have f3 : decide ((x.n : Int) < 2) = false := decide_eq_false (by omega)
  rw [f2, Bool.true_and]
  rcases Nat.lt_or_ge 40 x.n with g4 | g4
  ·have f4 : decide (x.n ≤ 40) = false := decide_eq_false (by omega)
   have f5 : decide ((40 : Int) < (x.n : Int)) = true := decide_eq_true (by omega)
   rw [f4, Bool.false_and]
   have HM9 : True := trivial
   go_enter Tryz.func17, Tryz.ntmps17
   go_wp2_with (first
    | (clear HM9; refine wpList_load_is rfl 29 _ rfl (.pointer (some ⟨s0, 0, none⟩)) rfl GV (HLG.out _ (Below.refl _ _)) ?_)
    | (go_at_call 36; refine (HGV.out _ HK2.out).mono ?_; rintro e w5 ⟨rfl, hb5⟩; have hS5 := HXB.out.up hb5; have hG5 := HGB.out.up hb5; have HB5 := Lib.hid (HB2.out.trans (hb5.mono HB2.out.size)); have d0 := hS5.cell 0 _ rfl; have d1 := hS5.cell 1 _ rfl; have d3 := hS5.cell 3 _ rfl; have d4 := hS5.cell 4 _ rfl; have d5 := hS5.cell 5 _ rfl; have d6 := hS5.cell 6 _ rfl; have c20 := hG5.cell 20 _ rfl; have HS5 := Lib.hid hS5; have HG5 := Lib.hid hG5; have HZ5 := Lib.hid (HZ2.out.up hb5); clear hb5 hS5 hG5)
    | (go_at_call 37; refine (HPR.out _).mono ?_; rintro e w6 ⟨rfl, hb6⟩; have hS6 := HS5.out.up hb6; have d6b := hS6.cell 6 _ rfl; have HB6 := Lib.hid (below_more HB5.out hb6); have HS6 := Lib.hid hS6; have HG6 := Lib.hid (HG5.out.up hb6); have HZ6 := Lib.hid (HZ5.out.up hb6); clear hb6 hS6))
   go_ret
   exact ⟨by first | rfl | simp, HB6.out⟩
  have f4 : decide (x.n ≤ 40) = true := decide_eq_true g4
  have f5 : decide ((40 : Int) < (x.n : Int)) = false := decide_eq_false (by omega)
  rw [f4, Bool.true_and]
  skip
  obtain ⟨q9, hq9⟩ : ∃ q9, X.all (lnB g x.ent) = q9 := ⟨_, rfl⟩
  rw [hq9]
  have HQ9 := Lib.hid hq9
  clear hq9
  have HM9 : True := trivial
  go_enter Tryz.func17, Tryz.ntmps17
  go_wp2_with (first
   | (clear HM9; refine wpList_load_is rfl 29 _ rfl (.pointer (some ⟨s0, 0, none⟩)) rfl GV (HLG.out _ (Below.refl _ _)) ?_)
   | (go_at_call 36; refine (HGV.out _ HK2.out).mono ?_; rintro e w5 ⟨rfl, hb5⟩; have hS5 := HXB.out.up hb5; have hG5 := HGB.out.up hb5; have HB5 := Lib.hid (HB2.out.trans (hb5.mono HB2.out.size)); have d0 := hS5.cell 0 _ rfl; have d1 := hS5.cell 1 _ rfl; have d3 := hS5.cell 3 _ rfl; have d4 := hS5.cell 4 _ rfl; have d5 := hS5.cell 5 _ rfl; have d6 := hS5.cell 6 _ rfl; have c20 := hG5.cell 20 _ rfl; have HS5 := Lib.hid hS5; have HG5 := Lib.hid hG5; have HZ5 := Lib.hid (HZ2.out.up hb5); clear hb5 hS5 hG5)
   | (go_at_call 37; refine (HPR.out _).mono ?_; rintro e w6 ⟨rfl, hb6⟩; have hS6 := HS5.out.up hb6; have d6b := hS6.cell 6 _ rfl; have HB6 := Lib.hid (below_more HB5.out hb6); have HS6 := Lib.hid hS6; have HG6 := Lib.hid (HG5.out.up hb6); have HZ6 := Lib.hid (HZ5.out.up hb6); clear hb6 hS6))
  go_loopg [5] x.n (fun kx s5 wr => ∃ k : Nat, s5 = .int .i64 k ∧ k ≤ x.n ∧ x.n - k ≤ kx ∧ Hid ((X.take k).all (lnB g x.ent) = true) ∧ Below w6.heap.size w6 wr)
  case atStart => exact ⟨0, rfl, by omega, by omega, Lib.hid rfl, Below.refl _ _⟩
  case round =>
   clear d0 d1 d3 d4 d5 d6 d6b c20
   obtain ⟨k, rfl, hk, hkx, HT, hBi⟩ := hrel
   have hxb := HS6.out.up hBi
   have e6 := hxb.cell 6 _ rfl
   have HXB := Lib.hid hxb
   have HBI := Lib.hid hBi
   have HLG : Hid (∀ w9, Below wr.heap.size wr w9 → (Instr.loadAt 29 (.pointer (some ⟨s0, 0, none⟩))).run Tryz.prog w9 = .ok GV w9) := Lib.hid (fun w9 h9 => HLL.out w9 ((HG6.out.up hBi).up h9))
   have HZw := Lib.hid (HZ6.out.up hBi)
   clear hxb hBi
   by_cases hlt : k < x.n
   ·have hltz : (k : Int) < (x.n : Int) := by omega
    obtain ⟨bb, off, hA, hbw, hcs⟩ := HZw.out (by rw [HN.out]; omega)
    have hkl : k < X.length := by rw [HN.out]; exact hlt
    have hlc := hcs k hkl
    have hst : (X.take (k + 1)).all (lnB g x.ent) = lnB g x.ent (X.getD k lnk0) := by
     rw [take_succ_getD (d := lnk0) hkl, List.all_append, HT.out, List.all_cons, List.all_nil, Bool.true_and, Bool.and_true]
    have hno := fun h => all_no (p := lnB g x.ent) hkl h
    generalize X.getD k lnk0 = l at *
    have HLN := Lib.hid (fun W => rline_any g x.ent l GV HGV0.out W)
    have HX6 : Hid ((etyC x)[6]? = some (.slice (some ⟨bb, off, none⟩) x.n x.c)) := Lib.hid (by rw [← hA]; rfl)
    clear hA
    have HLC := Lib.hid hlc
    have HBL := Lib.hid hbw
    have HZK := Lib.hid hltz
    have HST := Lib.hid hst
    have HNO := Lib.hid hno
    generalize lnB g x.ent l = q at *
    clear hst hno hcs hlc hbw
    go_wp2_with fail
    refine AS.region_facts (shpFa GV x l bb off k s0 q) (HNo wr) [[], [], [81], [], [83], [], [84, 85], [86], [80, 82, 87], [88]] [] [[]] [0, 0, 0, 0, 0, 0, 0, 0, 0, 0] [] (fun u => by simp only [shpFa, AS.temps, List.map_cons, List.map_nil, fillL, List.setIfInBounds_toArray, List.set_cons_zero, List.set_cons_succ]; rfl) (by kernel_rfl) (by kernel_rfl) (HNo.st wr) (dc_drew (Below.refl _ _)) ?_ ?_
    ·refine AS.sc rfl rfl rfl ?_ ?_
     ·intro k_ u w_ hk_ hJ hF K hK
      have hJ0 : Below wr.heap.size wr w_ := hJ
      clear hF
      refine wp_load_is 29 _ rfl (.pointer (some ⟨s0, 0, none⟩)) rfl GV (HLG.out _ hJ0) ?_
      exact hK.out _ _ (Below.refl _ _) (rfl) trivial
     refine AS.sc rfl rfl rfl ?_ ?_
     ·intro k_ u w_ hk_ hJ hF K hK
      clear hF
      go_simp
      exact hK.out _ _ (Below.refl _ _) (rfl) trivial
     refine AS.sc rfl rfl rfl ?_ ?_
     ·intro k_ u w_ hk_ hJ hF K hK
      have h81 : u 81 = .pointer (some ⟨s0 + 1, 1, none⟩) := AS.facts_get hF 81 (by simp)
      have hJ0 : Below wr.heap.size wr w_ := hJ
      clear hF
      simp only [h81] at hK ⊢
      clear h81
      have c19 := (HXB.out.up hJ0).cell 1 _ rfl
      go_simp
      exact hK.out _ _ (Below.refl _ _) (rfl) trivial
     refine AS.sc rfl rfl rfl ?_ ?_
     ·intro k_ u w_ hk_ hJ hF K hK
      clear hF
      go_simp
      exact hK.out _ _ (Below.refl _ _) (rfl) trivial
     refine AS.sc rfl rfl rfl ?_ ?_
     ·intro k_ u w_ hk_ hJ hF K hK
      have h83 : u 83 = .pointer (some ⟨s0 + 1, 6, none⟩) := AS.facts_get hF 83 (by simp)
      have hJ0 : Below wr.heap.size wr w_ := hJ
      clear hF
      simp only [h83] at hK ⊢
      clear h83
      have c69 := (HXB.out.up hJ0).cell 6 _ HX6.out
      go_simp
      exact hK.out _ _ (Below.refl _ _) (rfl) trivial
     refine AS.sc rfl rfl rfl ?_ ?_
     ·intro k_ u w_ hk_ hJ hF K hK
      clear hF
      go_simp
      exact hK.out _ _ (Below.refl _ _) (rfl) trivial
     refine AS.sc rfl rfl rfl ?_ ?_
     ·intro k_ u w_ hk_ hJ hF K hK
      have h84 : u 84 = .slice (some ⟨bb, off, none⟩) x.n x.c := AS.facts_get hF 84 (by simp)
      have h85 : u 85 = .int .i64 k := AS.facts_get hF 85 (by simp)
      clear hF
      simp only [h84, h85] at hK ⊢
      clear h84 h85
      have hz9 := HZK.out
      go_simp
      exact hK.out _ _ (Below.refl _ _) (rfl) trivial
     refine AS.sc rfl rfl rfl ?_ ?_
     ·intro k_ u w_ hk_ hJ hF K hK
      have h86 : u 86 = .pointer (some ⟨bb, off + k * 3, none⟩) := AS.facts_get hF 86 (by simp)
      have hJ0 : Below wr.heap.size wr w_ := hJ
      clear hF
      simp only [h86] at hK ⊢
      clear h86
      obtain ⟨z0, z1, z2⟩ := HLC.out.up hJ0 HBL.out
      go_simp
      exact hK.out _ _ (Below.refl _ _) (rfl) trivial
     refine AS.sc rfl rfl rfl ?_ ?_
     ·intro k_ u w_ hk_ hJ hF K hK
      have h80 : u 80 = GV := AS.facts_get hF 80 (by simp)
      have h82 : u 82 = .int .i64 x.ent := AS.facts_get hF 82 (by simp)
      have h87 : u 87 = .agg #[.int .i64 l.frm, .int .i64 l.tgt, .int .i64 l.since] := AS.facts_get hF 87 (by simp)
      clear hF
      simp only [h80, h82, h87] at hK ⊢
      clear h80 h82 h87
      go_simp
      refine (HLN.out _).mono ?_
      rintro e w3 ⟨rfl, hb⟩
      exact hK.out _ _ hb (rfl) trivial
     refine AS.sc rfl rfl rfl ?_ ?_
     ·intro k_ u w_ hk_ hJ hF K hK
      have h88 : u 88 = .bool q := AS.facts_get hF 88 (by simp)
      clear hF
      simp only [h88] at hK ⊢
      clear h88
      go_simp
      exact hK.out _ _ (Below.refl _ _) (rfl) trivial
     exact AS.StepsOk.nil
    ·intro u W9 hJ9 hF
     have h89 : u 89 = .bool (!q) := AS.facts_get hF 89 (by simp [shpFa, AS.temps])
     have hB9 : Below wr.heap.size wr W9 := hJ9
     clear hF hJ9
     generalize W9 = W8 at *
     cases q
     ·replace h89 : u 89 = .bool true := h89
      simp only [h89]
      have E : Hid (q9 = false) := Lib.hid (by rw [← HQ9.out]; exact HNO.out rfl)
      go_wp2_with fail
      go_ret
      exact ⟨by rw [E.out]; rfl, by first | exact HB6.out.trans ((HBI.out.trans (hB9.mono HBI.out.size)).mono (by have := HB6.out.size; omega)) | (rw [← HS0.out]; exact HB6.out.trans ((HBI.out.trans (hB9.mono HBI.out.size)).mono (by have := HB6.out.size; omega)))⟩
     ·replace h89 : u 89 = .bool false := h89
      simp only [h89]
      have HT2 : Hid ((X.take (k + 1)).all (lnB g x.ent) = true) := Lib.hid HST.out
      go_wp2_with fail
      go_roundg (x.n - (k + 1))
      case measure => omega
      case rel => exact ⟨k + 1, by go_num, by omega, by omega, HT2, HBI.out.trans (hB9.mono HBI.out.size)⟩
   ·obtain rfl : k = x.n := by omega
    have hltz : ¬ (x.n : Int) < (x.n : Int) := by omega
    have E : Hid (q9 = true) := Lib.hid (by rw [← HQ9.out]; have h9 := HT.out; rwa [show X.take x.n = X by rw [← HN.out, List.take_length]] at h9)
    go_wp2_with fail
    go_ret
    exact ⟨by rw [E.out]; rfl, by first | exact HB6.out.trans (HBI.out.mono (by have := HB6.out.size; omega)) | (rw [← HS0.out]; exact HB6.out.trans (HBI.out.mono (by have := HB6.out.size; omega)))⟩
 ·have e11 : (x.kind == 3) = false := by simp [hk3]
  have e12 : (x.kind != 3) = true := by simp [hk3]
  rw [if_neg hk3]
  clear hk3
  by_cases hof : x.of_ = 0
  ·have e13 : decide (x.of_ = 0) = true := decide_eq_true hof
   have e14 : (x.of_ != 0) = false := by simp [hof]
   rw [e13, Bool.true_and]
   clear hof
   cases tx
   ·rw [Bool.false_and]
    have HM9 : True := trivial
    go_enter Tryz.func17, Tryz.ntmps17
    go_wp2_with (first
     | (clear HM9; refine wpList_load_is rfl 29 _ rfl (.pointer (some ⟨s0, 0, none⟩)) rfl GV (HLG.out _ (Below.refl _ _)) ?_)
     | (go_at_call 36; refine (HGV.out _ HK2.out).mono ?_; rintro e w5 ⟨rfl, hb5⟩; have hS5 := HXB.out.up hb5; have hG5 := HGB.out.up hb5; have HB5 := Lib.hid (HB2.out.trans (hb5.mono HB2.out.size)); have d0 := hS5.cell 0 _ rfl; have d1 := hS5.cell 1 _ rfl; have d3 := hS5.cell 3 _ rfl; have d4 := hS5.cell 4 _ rfl; have d5 := hS5.cell 5 _ rfl; have d6 := hS5.cell 6 _ rfl; have c20 := hG5.cell 20 _ rfl; have HS5 := Lib.hid hS5; have HG5 := Lib.hid hG5; have HZ5 := Lib.hid (HZ2.out.up hb5); clear hb5 hS5 hG5)
     | (go_at_call 37; refine (HPR.out _).mono ?_; rintro e w6 ⟨rfl, hb6⟩; have hS6 := HS5.out.up hb6; have d6b := hS6.cell 6 _ rfl; have HB6 := Lib.hid (below_more HB5.out hb6); have HS6 := Lib.hid hS6; have HG6 := Lib.hid (HG5.out.up hb6); have HZ6 := Lib.hid (HZ5.out.up hb6); clear hb6 hS6))
    go_ret
    exact ⟨by first | rfl | simp, HB6.out⟩
   rw [Bool.true_and]
   rcases Nat.lt_or_ge x.n 2 with g2 | g2
   ·have f2 : decide (2 ≤ x.n) = false := decide_eq_false (by omega)
    have f3 : decide ((x.n : Int) < 2) = true := decide_eq_true (by omega)
    rw [f2, Bool.false_and]
    have HM9 : True := trivial
    go_enter Tryz.func17, Tryz.ntmps17
    go_wp2_with (first
     | (clear HM9; refine wpList_load_is rfl 29 _ rfl (.pointer (some ⟨s0, 0, none⟩)) rfl GV (HLG.out _ (Below.refl _ _)) ?_)
     | (go_at_call 36; refine (HGV.out _ HK2.out).mono ?_; rintro e w5 ⟨rfl, hb5⟩; have hS5 := HXB.out.up hb5; have hG5 := HGB.out.up hb5; have HB5 := Lib.hid (HB2.out.trans (hb5.mono HB2.out.size)); have d0 := hS5.cell 0 _ rfl; have d1 := hS5.cell 1 _ rfl; have d3 := hS5.cell 3 _ rfl; have d4 := hS5.cell 4 _ rfl; have d5 := hS5.cell 5 _ rfl; have d6 := hS5.cell 6 _ rfl; have c20 := hG5.cell 20 _ rfl; have HS5 := Lib.hid hS5; have HG5 := Lib.hid hG5; have HZ5 := Lib.hid (HZ2.out.up hb5); clear hb5 hS5 hG5)
     | (go_at_call 37; refine (HPR.out _).mono ?_; rintro e w6 ⟨rfl, hb6⟩; have hS6 := HS5.out.up hb6; have d6b := hS6.cell 6 _ rfl; have HB6 := Lib.hid (below_more HB5.out hb6); have HS6 := Lib.hid hS6; have HG6 := Lib.hid (HG5.out.up hb6); have HZ6 := Lib.hid (HZ5.out.up hb6); clear hb6 hS6))
    go_ret
    exact ⟨by first | rfl | simp, HB6.out⟩
   have f2 : decide (2 ≤ x.n) = true := decide_eq_true g2
   have f3 : decide ((x.n : Int) < 2) = false := decide_eq_false (by omega)
   rw [f2, Bool.true_and]
   rcases Nat.lt_or_ge 40 x.n with g4 | g4
   ·have f4 : decide (x.n ≤ 40) = false := decide_eq_false (by omega)
    have f5 : decide ((40 : Int) < (x.n : Int)) = true := decide_eq_true (by omega)
    rw [f4, Bool.false_and]
    have HM9 : True := trivial
    go_enter Tryz.func17, Tryz.ntmps17
    go_wp2_with (first
     | (clear HM9; refine wpList_load_is rfl 29 _ rfl (.pointer (some ⟨s0, 0, none⟩)) rfl GV (HLG.out _ (Below.refl _ _)) ?_)
     | (go_at_call 36; refine (HGV.out _ HK2.out).mono ?_; rintro e w5 ⟨rfl, hb5⟩; have hS5 := HXB.out.up hb5; have hG5 := HGB.out.up hb5; have HB5 := Lib.hid (HB2.out.trans (hb5.mono HB2.out.size)); have d0 := hS5.cell 0 _ rfl; have d1 := hS5.cell 1 _ rfl; have d3 := hS5.cell 3 _ rfl; have d4 := hS5.cell 4 _ rfl; have d5 := hS5.cell 5 _ rfl; have d6 := hS5.cell 6 _ rfl; have c20 := hG5.cell 20 _ rfl; have HS5 := Lib.hid hS5; have HG5 := Lib.hid hG5; have HZ5 := Lib.hid (HZ2.out.up hb5); clear hb5 hS5 hG5)
     | (go_at_call 37; refine (HPR.out _).mono ?_; rintro e w6 ⟨rfl, hb6⟩; have hS6 := HS5.out.up hb6; have d6b := hS6.cell 6 _ rfl; have HB6 := Lib.hid (below_more HB5.out hb6); have HS6 := Lib.hid hS6; have HG6 := Lib.hid (HG5.out.up hb6); have HZ6 := Lib.hid (HZ5.out.up hb6); clear hb6 hS6))
    go_ret
    exact ⟨by first | rfl | simp, HB6.out⟩
   have f4 : decide (x.n ≤ 40) = true := decide_eq_true g4
   have f5 : decide ((40 : Int) < (x.n : Int)) = false := decide_eq_false (by omega)
   rw [f4, Bool.true_and]
   skip
   obtain ⟨q9, hq9⟩ : ∃ q9, X.all (lnB g x.ent) = q9 := ⟨_, rfl⟩
   rw [hq9]
   have HQ9 := Lib.hid hq9
   clear hq9
   have HM9 : True := trivial
   go_enter Tryz.func17, Tryz.ntmps17
   go_wp2_with (first
    | (clear HM9; refine wpList_load_is rfl 29 _ rfl (.pointer (some ⟨s0, 0, none⟩)) rfl GV (HLG.out _ (Below.refl _ _)) ?_)
    | (go_at_call 36; refine (HGV.out _ HK2.out).mono ?_; rintro e w5 ⟨rfl, hb5⟩; have hS5 := HXB.out.up hb5; have hG5 := HGB.out.up hb5; have HB5 := Lib.hid (HB2.out.trans (hb5.mono HB2.out.size)); have d0 := hS5.cell 0 _ rfl; have d1 := hS5.cell 1 _ rfl; have d3 := hS5.cell 3 _ rfl; have d4 := hS5.cell 4 _ rfl; have d5 := hS5.cell 5 _ rfl; have d6 := hS5.cell 6 _ rfl; have c20 := hG5.cell 20 _ rfl; have HS5 := Lib.hid hS5; have HG5 := Lib.hid hG5; have HZ5 := Lib.hid (HZ2.out.up hb5); clear hb5 hS5 hG5)
    | (go_at_call 37; refine (HPR.out _).mono ?_; rintro e w6 ⟨rfl, hb6⟩; have hS6 := HS5.out.up hb6; have d6b := hS6.cell 6 _ rfl; have HB6 := Lib.hid (below_more HB5.out hb6); have HS6 := Lib.hid hS6; have HG6 := Lib.hid (HG5.out.up hb6); have HZ6 := Lib.hid (HZ5.out.up hb6); clear hb6 hS6))
   go_loopg [5] x.n (fun kx s5 wr => ∃ k : Nat, s5 = .int .i64 k ∧ k ≤ x.n ∧ x.n - k ≤ kx ∧ Hid ((X.take k).all (lnB g x.ent) = true) ∧ Below w6.heap.size w6 wr)
   case atStart => exact ⟨0, rfl, by omega, by omega, Lib.hid rfl, Below.refl _ _⟩
   case round =>
    clear d0 d1 d3 d4 d5 d6 d6b c20
    obtain ⟨k, rfl, hk, hkx, HT, hBi⟩ := hrel
    have hxb := HS6.out.up hBi
    have e6 := hxb.cell 6 _ rfl
    have HXB := Lib.hid hxb
    have HBI := Lib.hid hBi
    have HLG : Hid (∀ w9, Below wr.heap.size wr w9 → (Instr.loadAt 29 (.pointer (some ⟨s0, 0, none⟩))).run Tryz.prog w9 = .ok GV w9) := Lib.hid (fun w9 h9 => HLL.out w9 ((HG6.out.up hBi).up h9))
    have HZw := Lib.hid (HZ6.out.up hBi)
    clear hxb hBi
    by_cases hlt : k < x.n
    ·have hltz : (k : Int) < (x.n : Int) := by omega
     obtain ⟨bb, off, hA, hbw, hcs⟩ := HZw.out (by rw [HN.out]; omega)
     have hkl : k < X.length := by rw [HN.out]; exact hlt
     have hlc := hcs k hkl
     have hst : (X.take (k + 1)).all (lnB g x.ent) = lnB g x.ent (X.getD k lnk0) := by
      rw [take_succ_getD (d := lnk0) hkl, List.all_append, HT.out, List.all_cons, List.all_nil, Bool.true_and, Bool.and_true]
     have hno := fun h => all_no (p := lnB g x.ent) hkl h
     generalize X.getD k lnk0 = l at *
     have HLN := Lib.hid (fun W => rline_any g x.ent l GV HGV0.out W)
     have HX6 : Hid ((etyC x)[6]? = some (.slice (some ⟨bb, off, none⟩) x.n x.c)) := Lib.hid (by rw [← hA]; rfl)
     clear hA
     have HLC := Lib.hid hlc
     have HBL := Lib.hid hbw
     have HZK := Lib.hid hltz
     have HST := Lib.hid hst
     have HNO := Lib.hid hno
     generalize lnB g x.ent l = q at *
     clear hst hno hcs hlc hbw
     go_wp2_with fail
     refine AS.region_facts (shpFa GV x l bb off k s0 q) (HNo wr) [[], [], [81], [], [83], [], [84, 85], [86], [80, 82, 87], [88]] [] [[]] [0, 0, 0, 0, 0, 0, 0, 0, 0, 0] [] (fun u => by simp only [shpFa, AS.temps, List.map_cons, List.map_nil, fillL, List.setIfInBounds_toArray, List.set_cons_zero, List.set_cons_succ]; rfl) (by kernel_rfl) (by kernel_rfl) (HNo.st wr) (dc_drew (Below.refl _ _)) ?_ ?_
     ·refine AS.sc rfl rfl rfl ?_ ?_
      ·intro k_ u w_ hk_ hJ hF K hK
       have hJ0 : Below wr.heap.size wr w_ := hJ
       clear hF
       refine wp_load_is 29 _ rfl (.pointer (some ⟨s0, 0, none⟩)) rfl GV (HLG.out _ hJ0) ?_
       exact hK.out _ _ (Below.refl _ _) (rfl) trivial
      refine AS.sc rfl rfl rfl ?_ ?_
      ·intro k_ u w_ hk_ hJ hF K hK
       clear hF
       go_simp
       exact hK.out _ _ (Below.refl _ _) (rfl) trivial
      refine AS.sc rfl rfl rfl ?_ ?_
      ·intro k_ u w_ hk_ hJ hF K hK
       have h81 : u 81 = .pointer (some ⟨s0 + 1, 1, none⟩) := AS.facts_get hF 81 (by simp)
       have hJ0 : Below wr.heap.size wr w_ := hJ
       clear hF
       simp only [h81] at hK ⊢
       clear h81
       have c19 := (HXB.out.up hJ0).cell 1 _ rfl
       go_simp
       exact hK.out _ _ (Below.refl _ _) (rfl) trivial
      refine AS.sc rfl rfl rfl ?_ ?_
      ·intro k_ u w_ hk_ hJ hF K hK
       clear hF
       go_simp
       exact hK.out _ _ (Below.refl _ _) (rfl) trivial
      refine AS.sc rfl rfl rfl ?_ ?_
      ·intro k_ u w_ hk_ hJ hF K hK
       have h83 : u 83 = .pointer (some ⟨s0 + 1, 6, none⟩) := AS.facts_get hF 83 (by simp)
       have hJ0 : Below wr.heap.size wr w_ := hJ
       clear hF
       simp only [h83] at hK ⊢
       clear h83
       have c69 := (HXB.out.up hJ0).cell 6 _ HX6.out
       go_simp
       exact hK.out _ _ (Below.refl _ _) (rfl) trivial
      refine AS.sc rfl rfl rfl ?_ ?_
      ·intro k_ u w_ hk_ hJ hF K hK
       clear hF
       go_simp
       exact hK.out _ _ (Below.refl _ _) (rfl) trivial
      refine AS.sc rfl rfl rfl ?_ ?_
      ·intro k_ u w_ hk_ hJ hF K hK
       have h84 : u 84 = .slice (some ⟨bb, off, none⟩) x.n x.c := AS.facts_get hF 84 (by simp)
       have h85 : u 85 = .int .i64 k := AS.facts_get hF 85 (by simp)
       clear hF
       simp only [h84, h85] at hK ⊢
       clear h84 h85
       have hz9 := HZK.out
       go_simp
       exact hK.out _ _ (Below.refl _ _) (rfl) trivial
      refine AS.sc rfl rfl rfl ?_ ?_
      ·intro k_ u w_ hk_ hJ hF K hK
       have h86 : u 86 = .pointer (some ⟨bb, off + k * 3, none⟩) := AS.facts_get hF 86 (by simp)
       have hJ0 : Below wr.heap.size wr w_ := hJ
       clear hF
       simp only [h86] at hK ⊢
       clear h86
       obtain ⟨z0, z1, z2⟩ := HLC.out.up hJ0 HBL.out
       go_simp
       exact hK.out _ _ (Below.refl _ _) (rfl) trivial
      refine AS.sc rfl rfl rfl ?_ ?_
      ·intro k_ u w_ hk_ hJ hF K hK
       have h80 : u 80 = GV := AS.facts_get hF 80 (by simp)
       have h82 : u 82 = .int .i64 x.ent := AS.facts_get hF 82 (by simp)
       have h87 : u 87 = .agg #[.int .i64 l.frm, .int .i64 l.tgt, .int .i64 l.since] := AS.facts_get hF 87 (by simp)
       clear hF
       simp only [h80, h82, h87] at hK ⊢
       clear h80 h82 h87
       go_simp
       refine (HLN.out _).mono ?_
       rintro e w3 ⟨rfl, hb⟩
       exact hK.out _ _ hb (rfl) trivial
      refine AS.sc rfl rfl rfl ?_ ?_
      ·intro k_ u w_ hk_ hJ hF K hK
       have h88 : u 88 = .bool q := AS.facts_get hF 88 (by simp)
       clear hF
       simp only [h88] at hK ⊢
       clear h88
       go_simp
       exact hK.out _ _ (Below.refl _ _) (rfl) trivial
      exact AS.StepsOk.nil
     ·intro u W9 hJ9 hF
      have h89 : u 89 = .bool (!q) := AS.facts_get hF 89 (by simp [shpFa, AS.temps])
      have hB9 : Below wr.heap.size wr W9 := hJ9
      clear hF hJ9
      generalize W9 = W8 at *
      cases q
      ·replace h89 : u 89 = .bool true := h89
       simp only [h89]
       have E : Hid (q9 = false) := Lib.hid (by rw [← HQ9.out]; exact HNO.out rfl)
       go_wp2_with fail
       go_ret
       exact ⟨by rw [E.out]; rfl, by first | exact HB6.out.trans ((HBI.out.trans (hB9.mono HBI.out.size)).mono (by have := HB6.out.size; omega)) | (rw [← HS0.out]; exact HB6.out.trans ((HBI.out.trans (hB9.mono HBI.out.size)).mono (by have := HB6.out.size; omega)))⟩
      ·replace h89 : u 89 = .bool false := h89
       simp only [h89]
       have HT2 : Hid ((X.take (k + 1)).all (lnB g x.ent) = true) := Lib.hid HST.out
       go_wp2_with fail
       go_roundg (x.n - (k + 1))
       case measure => omega
       case rel => exact ⟨k + 1, by go_num, by omega, by omega, HT2, HBI.out.trans (hB9.mono HBI.out.size)⟩
    ·obtain rfl : k = x.n := by omega
     have hltz : ¬ (x.n : Int) < (x.n : Int) := by omega
     have E : Hid (q9 = true) := Lib.hid (by rw [← HQ9.out]; have h9 := HT.out; rwa [show X.take x.n = X by rw [← HN.out, List.take_length]] at h9)
     go_wp2_with fail
     go_ret
     exact ⟨by rw [E.out]; rfl, by first | exact HB6.out.trans (HBI.out.mono (by have := HB6.out.size; omega)) | (rw [← HS0.out]; exact HB6.out.trans (HBI.out.mono (by have := HB6.out.size; omega)))⟩
  ·have e13 : decide (x.of_ = 0) = false := decide_eq_false hof
   have e14 : (x.of_ != 0) = true := by simp [hof]
   rw [e13, Bool.false_and]
   clear hof
   have HM9 : True := trivial
   go_enter Tryz.func17, Tryz.ntmps17
   go_wp2_with (first
    | (clear HM9; refine wpList_load_is rfl 29 _ rfl (.pointer (some ⟨s0, 0, none⟩)) rfl GV (HLG.out _ (Below.refl _ _)) ?_)
    | (go_at_call 36; refine (HGV.out _ HK2.out).mono ?_; rintro e w5 ⟨rfl, hb5⟩; have hS5 := HXB.out.up hb5; have hG5 := HGB.out.up hb5; have HB5 := Lib.hid (HB2.out.trans (hb5.mono HB2.out.size)); have d0 := hS5.cell 0 _ rfl; have d1 := hS5.cell 1 _ rfl; have d3 := hS5.cell 3 _ rfl; have d4 := hS5.cell 4 _ rfl; have d5 := hS5.cell 5 _ rfl; have d6 := hS5.cell 6 _ rfl; have c20 := hG5.cell 20 _ rfl; have HS5 := Lib.hid hS5; have HG5 := Lib.hid hG5; have HZ5 := Lib.hid (HZ2.out.up hb5); clear hb5 hS5 hG5)
    | (go_at_call 37; refine (HPR.out _).mono ?_; rintro e w6 ⟨rfl, hb6⟩; have hS6 := HS5.out.up hb6; have d6b := hS6.cell 6 _ rfl; have HB6 := Lib.hid (below_more HB5.out hb6); have HS6 := Lib.hid hS6; have HG6 := Lib.hid (HG5.out.up hb6); have HZ6 := Lib.hid (HZ5.out.up hb6); clear hb6 hS6))
   go_ret
   exact ⟨by first | rfl | simp, HB5.out⟩
set_option maxRecDepth 100000 in
set_option maxHeartbeats 1600000 in
theorem cd_build (g : Grp) (x : Ety) (w : World) : (Instr.build 51 #[(0, grpV g), (1, etyV x)]).run Tryz.prog w = .ok (cdV g x) w := by
 exact run_build w 51 _ _ (by kernel_rfl)
def fst6 (r0 r1 r2 r3 r4 r5 : Int) : Int := if r0 = 0 then (if r1 = 0 then (if r2 = 0 then (if r3 = 0 then (if r4 = 0 then (r5) else r4) else r3) else r2) else r1) else r0
def hdN (g : Grp) (x : Ety) (L : List Acc) (G : List Ent) : Int := if (grpP g L G && (decide (1 ≤ x.id) && (entIn g x.ent && orgB x.kind x.of_))) = true then 0 else 1
def blN (X : List Lnk) : Int := if wr (sumT X) = 0 then 0 else 11
def chkN (g : Grp) (x : Ety) (X : List Lnk) (L : List Acc) (G : List Ent) : Int := fst6 (hdN g x L G) (erB (txtB x.txt)) (erB (lsB g x.ent X)) (er17 (acB (G.getD x.ent.toNat ent0).L X)) (prE g.cy g.cm g.cp x.day) (blN X)
theorem hdN_ent {g : Grp} {x : Ety} {L : List Acc} {G : List Ent} (h : hdN g x L G = 0) : entIn g x.ent = true := by
 unfold hdN at h
 split at h
 ·rename_i h1
  simp only [Bool.and_eq_true] at h1
  exact h1.2.2.1
 ·cases h
theorem echecks_any (w : World) : Calls Tryz.prog 16 #[] w fun e w' => e = .returned (.slice (some ⟨w.heap.size, 0, none⟩) 6 6) ∧ w' = w.alloc (.cells #[.func (.func 30) #[] #[], .func (.func 31) #[] #[], .func (.func 32) #[] #[], .func (.func 33) #[] #[], .func (.func 34) #[] #[], .func (.func 35) #[] #[]] 49) := by
 go_enter Tryz.func16, Tryz.ntmps16
 go_wp2_with fail
 go_ret
 exact ⟨rfl, rfl⟩
set_option maxRecDepth 100000 in
set_option maxHeartbeats 6400000 in
theorem gcheck_any (g : Grp) (x : Ety) (X : List Lnk) (L : List Acc) (G : List Ent) (w : World) (hk : GrK w g L G) (hs : Sm g G) (hw : GrW g L G) (hx : EtyK w x X) (hn : x.n ≤ 1000) : Calls Tryz.prog 8 #[grpV g, etyV x] w fun e w' => e = .returned (.int .i64 (chkN g x X L G)) ∧ Below w.heap.size w w' := by
 obtain ⟨V, hV⟩ : ∃ V, V = cdV g x := ⟨_, rfl⟩
 have H0 := Lib.hid (fun W (h : Below w.heap.size w W) => ghead_any g x L G V hV W (hk.up h) hs hw)
 have H1 := Lib.hid (fun W (_ : Below w.heap.size w W) => gtext_any g x V hV W)
 have H2 := Lib.hid (fun W (h : Below w.heap.size w W) => glines_any g x X V hV W (hx.up h) hn)
 have H3 := Lib.hid (fun he W (h : Below w.heap.size w W) => gaccs_any g x X L G V hV W (hk.up h) hs (hx.up h) hn he)
 have H4 := Lib.hid (fun W (_ : Below w.heap.size w W) => gdate_any g x V hV W)
 have H5 := Lib.hid (fun W (h : Below w.heap.size w W) => gbal_any g x X V hV W (hx.up h) hn)
 have HE := Lib.hid (hdN_ent (g := g) (x := x) (L := L) (G := G))
 have e0 : (if (grpP g L G && (decide (1 ≤ x.id) && (entIn g x.ent && orgB x.kind x.of_))) = true then 0 else 1 : Int) = hdN g x L G := rfl
 have e5 : (if wr (sumT X) = 0 then 0 else 11 : Int) = blN X := rfl
 rw [e0] at H0
 rw [e5] at H5
 have hc : chkN g x X L G = fst6 (hdN g x L G) (erB (txtB x.txt)) (erB (lsB g x.ent X)) (er17 (acB (G.getD x.ent.toNat ent0).L X)) (prE g.cy g.cm g.cp x.day) (blN X) := rfl
 rw [hc]
 clear e0 e5 hc
 generalize hdN g x L G = r0 at *
 generalize erB (txtB x.txt) = r1 at *
 generalize erB (lsB g x.ent X) = r2 at *
 generalize er17 (acB (G.getD x.ent.toNat ent0).L X) = r3 at *
 generalize prE g.cy g.cm g.cp x.day = r4 at *
 generalize blN X = r5 at *
 generalize entIn g x.ent = en at *
 obtain ⟨GV, hGV⟩ : ∃ GV, GV = grpV g := ⟨_, rfl⟩
 obtain ⟨XV, hXV⟩ : ∃ XV, XV = etyV x := ⟨_, rfl⟩
 have HBD := Lib.hid (fun W => cd_build g x W)
 rw [← hGV, ← hXV, ← hV] at HBD
 have HGV := Lib.hid hGV
 have HXV := Lib.hid hXV
 have HV := Lib.hid hV
 rw [grpV_is]
 obtain ⟨gs, hgs⟩ : ∃ gs, (grpC g).toArray = gs := ⟨_, rfl⟩
 obtain ⟨xs, hxs⟩ : ∃ xs, (etyC x).toArray = xs := ⟨_, rfl⟩
 have hxV : etyV x = .agg xs := by rw [etyV_is, hxs]
 rw [hgs, hxV]
 obtain ⟨w2, hw2⟩ : ∃ w2, (w.alloc (.cells gs 29)).alloc (.cells xs 32) = w2 := ⟨_, rfl⟩
 have HG2 : Hid (Rg w2 w.heap.size (grpC g)) := Lib.hid (by rw [← hw2, ← hgs]; exact (rg_new w _ _).up (below_alloc_new _))
 have HX2 : Hid (Rg w2 (w.heap.size + 1) (etyC x)) := Lib.hid (by
  rw [← hw2, ← hxs]
  have h9 := rg_new (w.alloc (.cells gs 29)) 32 (etyC x)
  rw [World.size_alloc] at h9
  exact h9)
 have HB2 : Hid (Below w.heap.size w w2) := Lib.hid (by rw [← hw2]; exact below_new (below_alloc_new _) _)
 have hs2 : w2.heap.size = w.heap.size + 2 := by rw [← hw2]; simp
 have HS2 := Lib.hid hs2
 clear hV hGV hXV hgs hxs hxV hs2 hk hx hs hw
 go_enter Tryz.func8, Tryz.ntmps8
 go_wp2_with (go_at_call 16; refine (echecks_any _).mono ?_; rintro e w3 ⟨rfl, hw3⟩; have HW3 := Lib.hid hw3; clear hw3)
 have HF3 : Hid (Rg w3 w2.heap.size [.func (.func 30) #[] #[], .func (.func 31) #[] #[], .func (.func 32) #[] #[], .func (.func 33) #[] #[], .func (.func 34) #[] #[], .func (.func 35) #[] #[]]) := Lib.hid (by rw [HW3.out]; exact rg_new w2 _ _)
 have hB3 : Below w2.heap.size w2 w3 := by rw [HW3.out]; exact below_alloc_new _
 have HB3 := Lib.hid (HB2.out.trans (hB3.mono HB2.out.size))
 have HG3 := Lib.hid (HG2.out.up hB3)
 have HX3 := Lib.hid (HX2.out.up hB3)
 clear hB3 HG2 HX2 HB2 HW3
 go_loopg [10] 6 (fun kx s10 wr => ∃ k : Nat, s10 = .int .i64 k ∧ k ≤ 6 ∧ 6 - k ≤ kx ∧ (0 < k → r0 = 0) ∧ (1 < k → r1 = 0) ∧ (2 < k → r2 = 0) ∧ (3 < k → r3 = 0) ∧ (4 < k → r4 = 0) ∧ (5 < k → r5 = 0) ∧ Below w3.heap.size w3 wr)
 case atStart => exact ⟨0, rfl, by omega, by omega, fun h => absurd h (by omega), fun h => absurd h (by omega), fun h => absurd h (by omega), fun h => absurd h (by omega), fun h => absurd h (by omega), fun h => absurd h (by omega), Below.refl _ _⟩
 case round =>
  obtain ⟨k, rfl, hk, hkx, q0, q1, q2, q3, q4, q5, hBi⟩ := hrel
  have hF := HF3.out.up hBi
  have HG := Lib.hid (HG3.out.up hBi)
  have HX := Lib.hid (HX3.out.up hBi)
  have HBW := Lib.hid (HB3.out.trans (hBi.mono HB3.out.size))
  have HBI := Lib.hid hBi
  have HLG : Hid ((Instr.loadAt 29 (.pointer (some ⟨w.heap.size, 0, none⟩))).run Tryz.prog wr = .ok GV wr) := Lib.hid (by rw [HGV.out, grpV_is]; exact HG.out.load 0 29 (grpC g) rfl _ Tryz.underlying29 rfl (by kernel_rfl))
  have HLX : Hid ((Instr.loadAt 32 (.pointer (some ⟨w.heap.size + 1, 0, none⟩))).run Tryz.prog wr = .ok XV wr) := Lib.hid (by rw [HXV.out, etyV_is]; exact HX.out.load 0 32 (etyC x) rfl _ Tryz.underlying32 rfl (by kernel_rfl))
  clear hBi
  have hk6 : k = 0 ∨ k = 1 ∨ k = 2 ∨ k = 3 ∨ k = 4 ∨ k = 5 ∨ k = 6 := by omega
  rcases hk6 with rfl | rfl | rfl | rfl | rfl | rfl | rfl
  ·have c0 := hF.cell 0 _ rfl
   have HJ := H0
   by_cases hr : r0 = 0
   ·have HR := Lib.hid hr
    have e0 : (r0 != 0) = false := by simp [hr]
    clear hr hF
    go_wp2_with (first
     | (refine wpList_load_is rfl 29 _ rfl (.pointer (some ⟨w.heap.size, 0, none⟩)) rfl GV HLG.out ?_)
     | (refine wpList_load_is rfl 32 _ rfl (.pointer (some ⟨w.heap.size + 1, 0, none⟩)) rfl XV HLX.out ?_)
     | (refine wpList_build_is rfl 51 _ rfl [(0, GV), (1, XV)] rfl V (HBD.out _) ?_)
     | (go_at_call 30; refine (HJ.out _ HBW.out).mono ?_; rintro e w5 ⟨rfl, hb5⟩; have HB5 := Lib.hid (HBI.out.trans (hb5.mono HBI.out.size)); clear hb5))
    go_roundg 5
    case measure => omega
    case rel => exact ⟨1, by first | rfl | go_num, by omega, by omega, fun _ => HR.out, fun h => absurd h (by omega), fun h => absurd h (by omega), fun h => absurd h (by omega), fun h => absurd h (by omega), fun h => absurd h (by omega), HB5.out⟩
   ·have E : Hid (fst6 r0 r1 r2 r3 r4 r5 = r0) := Lib.hid (by unfold fst6; rw [if_neg hr])
    have e0 : (r0 != 0) = true := by simp [hr]
    clear hr hF q0 q1 q2 q3 q4 q5
    go_wp2_with (first
     | (refine wpList_load_is rfl 29 _ rfl (.pointer (some ⟨w.heap.size, 0, none⟩)) rfl GV HLG.out ?_)
     | (refine wpList_load_is rfl 32 _ rfl (.pointer (some ⟨w.heap.size + 1, 0, none⟩)) rfl XV HLX.out ?_)
     | (refine wpList_build_is rfl 51 _ rfl [(0, GV), (1, XV)] rfl V (HBD.out _) ?_)
     | (go_at_call 30; refine (HJ.out _ HBW.out).mono ?_; rintro e w5 ⟨rfl, hb5⟩; have HB5 := Lib.hid (HBI.out.trans (hb5.mono HBI.out.size)); clear hb5))
    go_ret
    exact ⟨by rw [E.out]; rfl, HB3.out.trans (HB5.out.mono HB3.out.size)⟩
  ·have c0 := hF.cell 1 _ rfl
   have HJ := H1
   by_cases hr : r1 = 0
   ·have HR := Lib.hid hr
    have e0 : (r1 != 0) = false := by simp [hr]
    clear hr hF
    go_wp2_with (first
     | (refine wpList_load_is rfl 29 _ rfl (.pointer (some ⟨w.heap.size, 0, none⟩)) rfl GV HLG.out ?_)
     | (refine wpList_load_is rfl 32 _ rfl (.pointer (some ⟨w.heap.size + 1, 0, none⟩)) rfl XV HLX.out ?_)
     | (refine wpList_build_is rfl 51 _ rfl [(0, GV), (1, XV)] rfl V (HBD.out _) ?_)
     | (go_at_call 31; refine (HJ.out _ HBW.out).mono ?_; rintro e w5 ⟨rfl, hb5⟩; have HB5 := Lib.hid (HBI.out.trans (hb5.mono HBI.out.size)); clear hb5))
    go_roundg 4
    case measure => omega
    case rel => exact ⟨2, by first | rfl | go_num, by omega, by omega, fun _ => q0 (by omega), fun _ => HR.out, fun h => absurd h (by omega), fun h => absurd h (by omega), fun h => absurd h (by omega), fun h => absurd h (by omega), HB5.out⟩
   ·have E : Hid (fst6 r0 r1 r2 r3 r4 r5 = r1) := Lib.hid (by unfold fst6; rw [if_pos (q0 (by omega)), if_neg hr])
    have e0 : (r1 != 0) = true := by simp [hr]
    clear hr hF q0 q1 q2 q3 q4 q5
    go_wp2_with (first
     | (refine wpList_load_is rfl 29 _ rfl (.pointer (some ⟨w.heap.size, 0, none⟩)) rfl GV HLG.out ?_)
     | (refine wpList_load_is rfl 32 _ rfl (.pointer (some ⟨w.heap.size + 1, 0, none⟩)) rfl XV HLX.out ?_)
     | (refine wpList_build_is rfl 51 _ rfl [(0, GV), (1, XV)] rfl V (HBD.out _) ?_)
     | (go_at_call 31; refine (HJ.out _ HBW.out).mono ?_; rintro e w5 ⟨rfl, hb5⟩; have HB5 := Lib.hid (HBI.out.trans (hb5.mono HBI.out.size)); clear hb5))
    go_ret
    exact ⟨by rw [E.out]; rfl, HB3.out.trans (HB5.out.mono HB3.out.size)⟩
  ·have c0 := hF.cell 2 _ rfl
   have HJ := H2
   by_cases hr : r2 = 0
   ·have HR := Lib.hid hr
    have e0 : (r2 != 0) = false := by simp [hr]
    clear hr hF
    go_wp2_with (first
     | (refine wpList_load_is rfl 29 _ rfl (.pointer (some ⟨w.heap.size, 0, none⟩)) rfl GV HLG.out ?_)
     | (refine wpList_load_is rfl 32 _ rfl (.pointer (some ⟨w.heap.size + 1, 0, none⟩)) rfl XV HLX.out ?_)
     | (refine wpList_build_is rfl 51 _ rfl [(0, GV), (1, XV)] rfl V (HBD.out _) ?_)
     | (go_at_call 32; refine (HJ.out _ HBW.out).mono ?_; rintro e w5 ⟨rfl, hb5⟩; have HB5 := Lib.hid (HBI.out.trans (hb5.mono HBI.out.size)); clear hb5))
    go_roundg 3
    case measure => omega
    case rel => exact ⟨3, by first | rfl | go_num, by omega, by omega, fun _ => q0 (by omega), fun _ => q1 (by omega), fun _ => HR.out, fun h => absurd h (by omega), fun h => absurd h (by omega), fun h => absurd h (by omega), HB5.out⟩
   ·have E : Hid (fst6 r0 r1 r2 r3 r4 r5 = r2) := Lib.hid (by unfold fst6; rw [if_pos (q0 (by omega)), if_pos (q1 (by omega)), if_neg hr])
    have e0 : (r2 != 0) = true := by simp [hr]
    clear hr hF q0 q1 q2 q3 q4 q5
    go_wp2_with (first
     | (refine wpList_load_is rfl 29 _ rfl (.pointer (some ⟨w.heap.size, 0, none⟩)) rfl GV HLG.out ?_)
     | (refine wpList_load_is rfl 32 _ rfl (.pointer (some ⟨w.heap.size + 1, 0, none⟩)) rfl XV HLX.out ?_)
     | (refine wpList_build_is rfl 51 _ rfl [(0, GV), (1, XV)] rfl V (HBD.out _) ?_)
     | (go_at_call 32; refine (HJ.out _ HBW.out).mono ?_; rintro e w5 ⟨rfl, hb5⟩; have HB5 := Lib.hid (HBI.out.trans (hb5.mono HBI.out.size)); clear hb5))
    go_ret
    exact ⟨by rw [E.out]; rfl, HB3.out.trans (HB5.out.mono HB3.out.size)⟩
  ·have c0 := hF.cell 3 _ rfl
   have HJ := Lib.hid (H3.out (HE.out (q0 (by omega))))
   by_cases hr : r3 = 0
   ·have HR := Lib.hid hr
    have e0 : (r3 != 0) = false := by simp [hr]
    clear hr hF
    go_wp2_with (first
     | (refine wpList_load_is rfl 29 _ rfl (.pointer (some ⟨w.heap.size, 0, none⟩)) rfl GV HLG.out ?_)
     | (refine wpList_load_is rfl 32 _ rfl (.pointer (some ⟨w.heap.size + 1, 0, none⟩)) rfl XV HLX.out ?_)
     | (refine wpList_build_is rfl 51 _ rfl [(0, GV), (1, XV)] rfl V (HBD.out _) ?_)
     | (go_at_call 33; refine (HJ.out _ HBW.out).mono ?_; rintro e w5 ⟨rfl, hb5⟩; have HB5 := Lib.hid (HBI.out.trans (hb5.mono HBI.out.size)); clear hb5))
    go_roundg 2
    case measure => omega
    case rel => exact ⟨4, by first | rfl | go_num, by omega, by omega, fun _ => q0 (by omega), fun _ => q1 (by omega), fun _ => q2 (by omega), fun _ => HR.out, fun h => absurd h (by omega), fun h => absurd h (by omega), HB5.out⟩
   ·have E : Hid (fst6 r0 r1 r2 r3 r4 r5 = r3) := Lib.hid (by unfold fst6; rw [if_pos (q0 (by omega)), if_pos (q1 (by omega)), if_pos (q2 (by omega)), if_neg hr])
    have e0 : (r3 != 0) = true := by simp [hr]
    clear hr hF q0 q1 q2 q3 q4 q5
    go_wp2_with (first
     | (refine wpList_load_is rfl 29 _ rfl (.pointer (some ⟨w.heap.size, 0, none⟩)) rfl GV HLG.out ?_)
     | (refine wpList_load_is rfl 32 _ rfl (.pointer (some ⟨w.heap.size + 1, 0, none⟩)) rfl XV HLX.out ?_)
     | (refine wpList_build_is rfl 51 _ rfl [(0, GV), (1, XV)] rfl V (HBD.out _) ?_)
     | (go_at_call 33; refine (HJ.out _ HBW.out).mono ?_; rintro e w5 ⟨rfl, hb5⟩; have HB5 := Lib.hid (HBI.out.trans (hb5.mono HBI.out.size)); clear hb5))
    go_ret
    exact ⟨by rw [E.out]; rfl, HB3.out.trans (HB5.out.mono HB3.out.size)⟩
  ·have c0 := hF.cell 4 _ rfl
   have HJ := H4
   by_cases hr : r4 = 0
   ·have HR := Lib.hid hr
    have e0 : (r4 != 0) = false := by simp [hr]
    clear hr hF
    go_wp2_with (first
     | (refine wpList_load_is rfl 29 _ rfl (.pointer (some ⟨w.heap.size, 0, none⟩)) rfl GV HLG.out ?_)
     | (refine wpList_load_is rfl 32 _ rfl (.pointer (some ⟨w.heap.size + 1, 0, none⟩)) rfl XV HLX.out ?_)
     | (refine wpList_build_is rfl 51 _ rfl [(0, GV), (1, XV)] rfl V (HBD.out _) ?_)
     | (go_at_call 34; refine (HJ.out _ HBW.out).mono ?_; rintro e w5 ⟨rfl, hb5⟩; have HB5 := Lib.hid (HBI.out.trans (hb5.mono HBI.out.size)); clear hb5))
    go_roundg 1
    case measure => omega
    case rel => exact ⟨5, by first | rfl | go_num, by omega, by omega, fun _ => q0 (by omega), fun _ => q1 (by omega), fun _ => q2 (by omega), fun _ => q3 (by omega), fun _ => HR.out, fun h => absurd h (by omega), HB5.out⟩
   ·have E : Hid (fst6 r0 r1 r2 r3 r4 r5 = r4) := Lib.hid (by unfold fst6; rw [if_pos (q0 (by omega)), if_pos (q1 (by omega)), if_pos (q2 (by omega)), if_pos (q3 (by omega)), if_neg hr])
    have e0 : (r4 != 0) = true := by simp [hr]
    clear hr hF q0 q1 q2 q3 q4 q5
    go_wp2_with (first
     | (refine wpList_load_is rfl 29 _ rfl (.pointer (some ⟨w.heap.size, 0, none⟩)) rfl GV HLG.out ?_)
     | (refine wpList_load_is rfl 32 _ rfl (.pointer (some ⟨w.heap.size + 1, 0, none⟩)) rfl XV HLX.out ?_)
     | (refine wpList_build_is rfl 51 _ rfl [(0, GV), (1, XV)] rfl V (HBD.out _) ?_)
     | (go_at_call 34; refine (HJ.out _ HBW.out).mono ?_; rintro e w5 ⟨rfl, hb5⟩; have HB5 := Lib.hid (HBI.out.trans (hb5.mono HBI.out.size)); clear hb5))
    go_ret
    exact ⟨by rw [E.out]; rfl, HB3.out.trans (HB5.out.mono HB3.out.size)⟩
  ·have c0 := hF.cell 5 _ rfl
   have HJ := H5
   by_cases hr : r5 = 0
   ·have HR := Lib.hid hr
    have e0 : (r5 != 0) = false := by simp [hr]
    clear hr hF
    go_wp2_with (first
     | (refine wpList_load_is rfl 29 _ rfl (.pointer (some ⟨w.heap.size, 0, none⟩)) rfl GV HLG.out ?_)
     | (refine wpList_load_is rfl 32 _ rfl (.pointer (some ⟨w.heap.size + 1, 0, none⟩)) rfl XV HLX.out ?_)
     | (refine wpList_build_is rfl 51 _ rfl [(0, GV), (1, XV)] rfl V (HBD.out _) ?_)
     | (go_at_call 35; refine (HJ.out _ HBW.out).mono ?_; rintro e w5 ⟨rfl, hb5⟩; have HB5 := Lib.hid (HBI.out.trans (hb5.mono HBI.out.size)); clear hb5))
    go_roundg 0
    case measure => omega
    case rel => exact ⟨6, by first | rfl | go_num, by omega, by omega, fun _ => q0 (by omega), fun _ => q1 (by omega), fun _ => q2 (by omega), fun _ => q3 (by omega), fun _ => q4 (by omega), fun _ => HR.out, HB5.out⟩
   ·have E : Hid (fst6 r0 r1 r2 r3 r4 r5 = r5) := Lib.hid (by unfold fst6; rw [if_pos (q0 (by omega)), if_pos (q1 (by omega)), if_pos (q2 (by omega)), if_pos (q3 (by omega)), if_pos (q4 (by omega))])
    have e0 : (r5 != 0) = true := by simp [hr]
    clear hr hF q0 q1 q2 q3 q4 q5
    go_wp2_with (first
     | (refine wpList_load_is rfl 29 _ rfl (.pointer (some ⟨w.heap.size, 0, none⟩)) rfl GV HLG.out ?_)
     | (refine wpList_load_is rfl 32 _ rfl (.pointer (some ⟨w.heap.size + 1, 0, none⟩)) rfl XV HLX.out ?_)
     | (refine wpList_build_is rfl 51 _ rfl [(0, GV), (1, XV)] rfl V (HBD.out _) ?_)
     | (go_at_call 35; refine (HJ.out _ HBW.out).mono ?_; rintro e w5 ⟨rfl, hb5⟩; have HB5 := Lib.hid (HBI.out.trans (hb5.mono HBI.out.size)); clear hb5))
    go_ret
    exact ⟨by rw [E.out]; rfl, HB3.out.trans (HB5.out.mono HB3.out.size)⟩
  ·have E : Hid (fst6 r0 r1 r2 r3 r4 r5 = 0) := Lib.hid (by unfold fst6; rw [if_pos (q0 (by omega)), if_pos (q1 (by omega)), if_pos (q2 (by omega)), if_pos (q3 (by omega)), if_pos (q4 (by omega))]; exact q5 (by omega))
   clear hF q0 q1 q2 q3 q4 q5
   go_wp2_with fail
   go_ret
   exact ⟨by rw [E.out]; rfl, HBW.out⟩
theorem five_up {w w5 : World} {a1 a2 a3 a4 a5 : Addr} {u1 u2 u3 u4 u5 : Value} (h : w.cell? a1 = some u1 ∧ w.cell? a2 = some u2 ∧ w.cell? a3 = some u3 ∧ w.cell? a4 = some u4 ∧ w.cell? a5 = some u5) (hb : Below w.heap.size w w5) :
  w5.cell? a1 = some u1 ∧ w5.cell? a2 = some u2 ∧ w5.cell? a3 = some u3 ∧ w5.cell? a4 = some u4 ∧ w5.cell? a5 = some u5 := by
 obtain ⟨h1, h2, h3, h4, h5⟩ := h
 exact ⟨(hb.cell (World.block_lt_of_cell? w a1 h1)).trans h1, (hb.cell (World.block_lt_of_cell? w a2 h2)).trans h2, (hb.cell (World.block_lt_of_cell? w a3 h3)).trans h3, (hb.cell (World.block_lt_of_cell? w a4 h4)).trans h4, (hb.cell (World.block_lt_of_cell? w a5 h5)).trans h5⟩
theorem five_below {w0 w w5 : World} {a1 a2 a3 a4 a5 : Addr} {u1 u2 u3 u4 u5 v1 v2 v3 v4 v5 : Value} (h0 : w0.cell? a1 = some v1 ∧ w0.cell? a2 = some v2 ∧ w0.cell? a3 = some v3 ∧ w0.cell? a4 = some v4 ∧ w0.cell? a5 = some v5) (h : w.cell? a1 = some u1 ∧ w.cell? a2 = some u2 ∧ w.cell? a3 = some u3 ∧ w.cell? a4 = some u4 ∧ w.cell? a5 = some u5) (hb : Below w0.heap.size w w5) :
  w5.cell? a1 = some u1 ∧ w5.cell? a2 = some u2 ∧ w5.cell? a3 = some u3 ∧ w5.cell? a4 = some u4 ∧ w5.cell? a5 = some u5 := by
 obtain ⟨g1, g2, g3, g4, g5⟩ := h0
 obtain ⟨h1, h2, h3, h4, h5⟩ := h
 exact ⟨(hb.cell (World.block_lt_of_cell? w0 a1 g1)).trans h1, (hb.cell (World.block_lt_of_cell? w0 a2 g2)).trans h2, (hb.cell (World.block_lt_of_cell? w0 a3 g3)).trans h3, (hb.cell (World.block_lt_of_cell? w0 a4 g4)).trans h4, (hb.cell (World.block_lt_of_cell? w0 a5 g5)).trans h5⟩
def erD (ic : Bool) (b : Int) : Int := if ic = true then b else 2
def rtlN (g : Grp) (x : Ety) (X : List Lnk) : Int := if inB g.cy g.cm g.cp x.day = true then (if wr (sumT X) = 0 then 0 else 11) else 2
def rchkN (sh ac : Bool) (t : Int) : Int := if sh = true then if ac = true then t else 17 else 1
theorem shpB_ent {gp : Bool} {g : Grp} {x : Ety} {X : List Lnk} (h : shpB gp g x X = true) : entIn g x.ent = true := by
 unfold shpB at h
 simp only [Bool.and_eq_true] at h
 unfold entIn
 rw [h.2.2.1, h.2.2.2.1]; rfl
theorem shpB_gp {gp : Bool} {g : Grp} {x : Ety} {X : List Lnk} (h : shpB gp g x X = true) : gp = true := by
 unfold shpB at h
 simp only [Bool.and_eq_true] at h
 exact h.1
theorem grpR_cl {g : Grp} {L : List Acc} {G : List Ent} (h : grpR g L G = true) : clV g.cy g.cm g.cp = true := by
 unfold grpR bokR at h
 simp only [Bool.and_eq_true] at h
 exact h.1.2.1
set_option maxRecDepth 100000 in
set_option maxHeartbeats 6400000 in
theorem rcheck_any (g : Grp) (x : Ety) (X : List Lnk) (L : List Acc) (G : List Ent) (w : World) (hk : GrK w g L G) (hs : Sm g G) (hw : GrW g L G) (hx : EtyK w x X) (hn : x.n ≤ 1000) (ht : x.txt.size ≤ maxLen) : Calls Tryz.prog 9 #[grpV g, etyV x] w fun e w' => e = .returned (.int .i64 (rchkN (shpB (grpR g L G) g x X) (acB (G.getD x.ent.toNat ent0).L X) (rtlN g x X))) ∧ Below w.heap.size w w' := by
 obtain ⟨GV, hGV⟩ : ∃ GV, GV = grpV g := ⟨_, rfl⟩
 obtain ⟨XV, hXV⟩ : ∃ XV, XV = etyV x := ⟨_, rfl⟩
 have HSH := Lib.hid (fun W (h : GrK W g L G) (h2 : EtyK W x X) => rshape_any g x X L G W h hs hw h2 hn ht)
 rw [← hGV, ← hXV] at HSH
 have HN := Lib.hid hx.ln
 have hsE := shpB_ent (gp := grpR g L G) (g := g) (x := x) (X := X)
 rw [grpV_is]
 obtain ⟨gs, hgs⟩ : ∃ gs, (grpC g).toArray = gs := ⟨_, rfl⟩
 obtain ⟨xs, hxs⟩ : ∃ xs, (etyC x).toArray = xs := ⟨_, rfl⟩
 have hxV : etyV x = .agg xs := by rw [etyV_is, hxs]
 rw [hgs, hxV]
 obtain ⟨s0, hs0⟩ : ∃ s0, w.heap.size = s0 := ⟨_, rfl⟩
 obtain ⟨w2, hw2⟩ : ∃ w2, (w.alloc (.cells gs 29)).alloc (.cells xs 32) = w2 := ⟨_, rfl⟩
 have HGB : Hid (Rg w2 s0 (grpC g)) := Lib.hid (by rw [← hw2, ← hgs, ← hs0]; exact (rg_new w _ _).up (below_alloc_new _))
 have HXB : Hid (Rg w2 (s0 + 1) (etyC x)) := Lib.hid (by
  rw [← hw2, ← hxs, ← hs0]
  have h9 := rg_new (w.alloc (.cells gs 29)) 32 (etyC x)
  rw [World.size_alloc] at h9
  exact h9)
 have HB2 : Hid (Below w.heap.size w w2) := Lib.hid (by rw [← hw2]; exact below_new (below_alloc_new _) _)
 have HLG : Hid ((Instr.loadAt 29 (.pointer (some ⟨s0, 0, none⟩))).run Tryz.prog w2 = .ok GV w2) := Lib.hid (by rw [hGV, grpV_is]; exact HGB.out.load 0 29 (grpC g) rfl _ Tryz.underlying29 rfl (by kernel_rfl))
 have HLX : Hid ((Instr.loadAt 32 (.pointer (some ⟨s0 + 1, 0, none⟩))).run Tryz.prog w2 = .ok XV w2) := Lib.hid (by rw [hXV, etyV_is]; exact HXB.out.load 0 32 (etyC x) rfl _ Tryz.underlying32 rfl (by kernel_rfl))
 have HK2 := Lib.hid (hk.up HB2.out)
 have HX2 := Lib.hid (hx.up HB2.out)
 have HSM := Lib.hid hs
 have HIC := Lib.hid (fun W => rincal_any g.cy g.cm g.cp x.day W)
 have hsG := shpB_gp (gp := grpR g L G) (g := g) (x := x) (X := X)
 have HCL := Lib.hid (fun h => grpR_cl (g := g) (L := L) (G := G) (hsG h))
 clear hsG
 generalize shpB (grpR g L G) g x X = sh at *
 clear hk hs hw hx ht hGV hXV hgs hxs hxV
 have HS0 := Lib.hid hs0
 cases sh
 ·have HM1 : True := trivial; have HM2 : True := trivial; go_enter Tryz.func9, Tryz.ntmps9
  go_wp2_with (first
   | (clear HM1; refine wpList_load_is rfl 29 _ rfl (.pointer (some ⟨s0, 0, none⟩)) rfl GV HLG.out ?_)
   | (clear HM2; refine wpList_load_is rfl 32 _ rfl (.pointer (some ⟨s0 + 1, 0, none⟩)) rfl XV HLX.out ?_)
   | (go_at_call 17; refine (HSH.out _ HK2.out HX2.out).mono ?_; rintro e w5 ⟨rfl, hb5⟩; have HBi5 := Lib.hid hb5; have HB5 := Lib.hid (HB2.out.trans (hb5.mono HB2.out.size)); clear hb5))
  go_ret
  exact ⟨by first | rfl | simp [rchkN], HB5.out⟩
 have he := hsE rfl
 clear hsE
 have hck : -9223372036854775807 ≤ g.cp ∧ g.cp ≤ 9223372036854775807 := by have := clV_iff.1 (HCL.out rfl); omega
 obtain ⟨j, hj⟩ : ∃ j : Nat, x.ent = (j : Int) := ⟨x.ent.toNat, by unfold entIn at he; simp at he; omega⟩
 have hjm : j < g.m := by unfold entIn at he; simp at he; omega
 rw [hj, Int.toNat_natCast]
 have hjG : j < G.length := by rw [HK2.out.lg]; exact hjm
 obtain ⟨eb, eoff, hE, hew, he5⟩ := ent_at HK2.out.he hjG
 have hmem : G.getD j ent0 ∈ G := getD_mem_acc hjG
 have hek := HK2.out.hk _ hmem
 have hen := (HSM.out.e _ hmem).1
 generalize G.getD j ent0 = ey at *
 have HE5 := Lib.hid he5
 have HEW := Lib.hid hew
 have HEZ := Lib.hid hek.hz
 have HF := Lib.hid (fun c W (h : AccAt W ey.A ey.L) => rfind_any ey.A ey.c ey.L c W h (by rw [hek.ln]; omega))
 rw [hek.ln] at HF
 have HC20 : Hid ((grpC g)[20]? = some (.slice (some ⟨eb, eoff, none⟩) g.m g.d)) := Lib.hid (by rw [← hE]; rfl)
 have HC1 : Hid ((etyC x)[1]? = some (.int .i64 (j : Int))) := Lib.hid (by rw [← hj]; rfl)
 have hjz : (j : Int) < (g.m : Int) := by omega
 have hj0 : (0 : Int) ≤ (j : Int) := by omega
 have HCK := Lib.hid hck
 have hrt : rtlN g x X = erD (inB g.cy g.cm g.cp x.day) (blN X) := rfl
 rw [hrt]
 generalize inB g.cy g.cm g.cp x.day = ic at *
 clear he5 hew hek hen hmem hjG he hck hrt
 have HM1 : True := trivial; have HM2 : True := trivial; go_enter Tryz.func9, Tryz.ntmps9
 go_wp2_with (first
   | (clear HM1; refine wpList_load_is rfl 29 _ rfl (.pointer (some ⟨s0, 0, none⟩)) rfl GV HLG.out ?_)
   | (clear HM2; refine wpList_load_is rfl 32 _ rfl (.pointer (some ⟨s0 + 1, 0, none⟩)) rfl XV HLX.out ?_)
   | (go_at_call 17; refine (HSH.out _ HK2.out HX2.out).mono ?_; rintro e w5 ⟨rfl, hb5⟩; have HBi5 := Lib.hid hb5; have HB5 := Lib.hid (HB2.out.trans (hb5.mono HB2.out.size)); clear hb5))
 go_loopg [5] x.n (fun kx s5 wr => ∃ k : Nat, s5 = .int .i64 k ∧ k ≤ x.n ∧ x.n - k ≤ kx ∧ Hid ((X.take k).all (fun l => (fnd ey.L l.frm).isSome) = true) ∧ Below w5.heap.size w5 wr)
 case atStart => exact ⟨0, rfl, by omega, by omega, Lib.hid rfl, Below.refl _ _⟩
 case round =>
  obtain ⟨k, rfl, hk, hkx, HT, hBi⟩ := hrel
  have hW : Below w2.heap.size w2 wr := HBi5.out.trans (hBi.mono HBi5.out.size)
  have hxb := HXB.out.up hW
  have hgb := HGB.out.up hW
  have HBW := Lib.hid (HB2.out.trans (hW.mono HB2.out.size))
  have HBI := Lib.hid hBi
  have HEZw := Lib.hid (HEZ.out.up hW)
  by_cases hlt : k < x.n
  ·have hltz : (k : Int) < (x.n : Int) := by omega
   obtain ⟨bb, off, hA, hbw, hcs⟩ := HX2.out.hz (by rw [HN.out]; omega)
   have hkl : k < X.length := by rw [HN.out]; exact hlt
   obtain ⟨f0, f1, f2⟩ := (hcs k hkl).up hW hbw
   have e6 := hxb.cell 6 (.slice (some ⟨bb, off, none⟩) x.n x.c) (by rw [← hA]; rfl)
   have hst : (X.take (k + 1)).all (fun l => (fnd ey.L l.frm).isSome) = (fnd ey.L (X.getD k lnk0).frm).isSome := by
    rw [take_succ_getD (d := lnk0) hkl, List.all_append, HT.out, List.all_cons, List.all_nil, Bool.true_and, Bool.and_true]
   have hno := fun h => all_no (p := fun l => (fnd ey.L l.frm).isSome) hkl h
   generalize X.getD k lnk0 = l at *
   have HFD := Lib.hid (fun W h => HF.out l.frm W h)
   have hS0 : wr.drew.cell? ⟨s0, 20, none⟩ = some (.slice (some ⟨eb, eoff, none⟩) g.m g.d) ∧ wr.drew.cell? ⟨s0 + 1, 1, none⟩ = some (.int .i64 j) ∧ wr.drew.cell? ⟨eb, eoff + j * 5 + 2, none⟩ = some (.slice ey.A ey.n ey.c) ∧ wr.drew.cell? ⟨s0 + 1, 6, none⟩ = some (.slice (some ⟨bb, off, none⟩) x.n x.c) ∧ wr.drew.cell? ⟨bb, off + k * 3, none⟩ = some (.int .i64 l.frm) := ⟨hgb.cell 20 _ HC20.out, hxb.cell 1 _ HC1.out, (HE5.out.up hW HEW.out).c2, e6, f0⟩
   have HST := Lib.hid hst
   have HNO := Lib.hid hno
   clear hst hno hcs hBi hW hxb hgb f0 f1 f2 hbw hA
   have hS1 := fun o => five_up (w := wr) (w5 := (wr.alloc o).drew) hS0 (dc_drew (below_alloc_new o))
   have HS1 := Lib.hid hS1
   clear hS1
   generalize fndA ey.L l.frm = ac at *
   generalize (fnd ey.L l.frm).isSome = fb at *
   go_wp2_with fail
   go_region_held_law (fun w' => w'.cell? ⟨s0, 20, none⟩ = some (.slice (some ⟨eb, eoff, none⟩) g.m g.d) ∧ w'.cell? ⟨s0 + 1, 1, none⟩ = some (.int .i64 j) ∧ w'.cell? ⟨eb, eoff + j * 5 + 2, none⟩ = some (.slice ey.A ey.n ey.c) ∧ w'.cell? ⟨s0 + 1, 6, none⟩ = some (.slice (some ⟨bb, off, none⟩) x.n x.c) ∧ w'.cell? ⟨bb, off + k * 3, none⟩ = some (.int .i64 l.frm)) (first | with_reducible exact hS6 _ _ _ _ | with_reducible exact hS5 | with_reducible exact hS0 | with_reducible exact HS1.out _ | go_keep | exact hS5 | exact hS0 | exact HS1.out _)
    (first
     | (go_at_call 18; refine (HFD.out wr.drew (HEZw.out.up (dc_drew (Below.refl _ _)))).mono ?_; rintro e w6 ⟨rfl, hb6⟩; have hS5 := five_up hS0 hb6; have HB6 : Below wr.heap.size wr w6 := (dc_drew (Below.refl wr.heap.size wr)).trans hb6)
     | (go_at_call 18; refine (HFD.out (wr.alloc (.cells #[.int .i64 acc0.code, .int .i64 acc0.kind, .int .i64 acc0.basis, .int .i64 acc0.par] 53)).drew (HEZw.out.up (dc_drew (below_alloc_new _)))).mono ?_; rintro e w6 ⟨rfl, hb6⟩; have hS5 := five_up (HS1.out _) hb6; have hS6 := fun v0 v1 v2 v3 => five_below hS0 hS5 (bset4 (Below.refl wr.heap.size _) (Nat.le_refl _) v0 v1 v2 v3); have HB6 : Below wr.heap.size wr w6 := (dc_drew (below_alloc_new _)).trans (hb6.mono (by show _ ≤ (wr.alloc (.cells #[.int .i64 acc0.code, .int .i64 acc0.kind, .int .i64 acc0.basis, .int .i64 acc0.par] 53)).heap.size; simp)); obtain ⟨⟨z0, z1, z2, z3⟩, zlt, zf⟩ := (ab_new wr 53 acc0).up (Below.trans (dc_drew (Below.refl _ _)) hb6); have zf0 := zf 0; have zf1 := zf 1; have zf2 := zf 2; have zf3 := zf 3; simp only [Nat.zero_add] at z1 z2 z3; clear zf))
   all_goals
    have HB7 : Hid (∀ v0 v1 v2 v3 : Value, Below w5.heap.size w5 (w6.alloc (.cells #[v0, v1, v2, v3] 53)) ∧ Below w5.heap.size w5 ((((w6.setCell ⟨wr.heap.size, 0, none⟩ v0).setCell ⟨wr.heap.size, 1, none⟩ v1).setCell ⟨wr.heap.size, 2, none⟩ v2).setCell ⟨wr.heap.size, 3, none⟩ v3)) := Lib.hid (fun v0 v1 v2 v3 => ⟨below_new (HBI.out.trans (HB6.mono HBI.out.size)) _, bset4 (HBI.out.trans (HB6.mono HBI.out.size)) HBI.out.size _ _ _ _⟩)
    clear HB6 hb6 hS0
    cases fb
    ·have E : Hid (acB ey.L X = false) := Lib.hid (HNO.out rfl)
     go_wp2_with fail
     go_ret
     exact ⟨by rw [E.out]; rfl, by first | exact HB5.out.trans (Below.mono (by first | exact (HB7.out _ _ _ _).1 | exact (HB7.out _ _ _ _).2) HB5.out.size) | (rw [← HS0.out]; exact HB5.out.trans (Below.mono (by first | exact (HB7.out _ _ _ _).1 | exact (HB7.out _ _ _ _).2) HB5.out.size))⟩
    ·have HT2 : Hid ((X.take (k + 1)).all (fun l => (fnd ey.L l.frm).isSome) = true) := Lib.hid HST.out
     go_wp2_with fail
     go_roundg (x.n - (k + 1))
     case measure => omega
     case rel => exact ⟨k + 1, by go_num, by omega, by omega, HT2, by first | exact (HB7.out _ _ _ _).1 | exact (HB7.out _ _ _ _).2⟩
  ·obtain rfl : k = x.n := by omega
   have hltz : ¬ (x.n : Int) < (x.n : Int) := by omega
   have E : Hid (acB ey.L X = true) := Lib.hid (by have h9 := HT.out; rwa [show X.take x.n = X by rw [← HN.out, List.take_length]] at h9)
   have e6 := hxb.cell 6 _ rfl
   have e2 := hxb.cell 2 _ rfl
   have c1 := hgb.cell 1 _ rfl
   have c2 := hgb.cell 2 _ rfl
   have c3 := hgb.cell 3 _ rfl
   have HXr := Lib.hid hxb
   have HIW := Lib.hid (fun W => HIC.out W HCK.out)
   have HSU := Lib.hid (fun W (h : LnkAt W x.A X) => rsum11_any x.A x.c X W h (by rw [HN.out]; exact hn))
   rw [HN.out] at HSU
   have HZr := Lib.hid (HX2.out.hz.up hW)
   have hbl : blN X = if Go.Proofs.YtfombohomebokaaGreat.wr (sumT X) = 0 then 0 else 11 := rfl
   generalize Go.Proofs.YtfombohomebokaaGreat.wr (sumT X) = sm at *
   clear hxb hgb hW
   have A9 : True := trivial
   cases ic
   ·go_wp2_with (go_at_call 11; refine (HIW.out _).mono ?_; rintro e w7 ⟨rfl, hb7⟩; have HB7 := Lib.hid (HBW.out.trans (hb7.mono HBW.out.size)); clear hb7)
    go_ret
    have hfin : rchkN true (acB ey.L X) (erD false (blN X)) = 2 := by rw [E.out]; rfl
    exact ⟨by rw [hfin]; rfl, by first | exact HB7.out | (rw [← HS0.out]; exact HB7.out)⟩
   ·by_cases h0 : sm = 0
    ·have HFN := Lib.hid (show rchkN true (acB ey.L X) (erD true (blN X)) = 0 by rw [E.out, hbl, if_pos h0]; rfl)
     clear hbl
     subst h0
     go_wp2_with (first
      | (go_at_call 11; refine (HIW.out _).mono ?_; rintro e w7 ⟨rfl, hb7⟩; have h6b := (HXr.out.up hb7).cell 6 _ rfl; have HB7 := Lib.hid (HBW.out.trans (hb7.mono HBW.out.size)); have HZ7 := Lib.hid (HZr.out.up hb7); clear hb7)
      | (go_at_call 19; refine (HSU.out _ HZ7.out).mono ?_; rintro e w8 ⟨rfl, hb8⟩; have HB8 := Lib.hid (below_more HB7.out hb8); clear hb8))
     go_ret
     exact ⟨by rw [HFN.out]; rfl, by first | exact HB8.out | (rw [← HS0.out]; exact HB8.out)⟩
    ·have h0b : (sm != 0) = true := by simp [h0]
     have HFN := Lib.hid (show rchkN true (acB ey.L X) (erD true (blN X)) = 11 by rw [E.out, hbl, if_neg h0]; rfl)
     clear hbl
     go_wp2_with (first
      | (go_at_call 11; refine (HIW.out _).mono ?_; rintro e w7 ⟨rfl, hb7⟩; have h6b := (HXr.out.up hb7).cell 6 _ rfl; have HB7 := Lib.hid (HBW.out.trans (hb7.mono HBW.out.size)); have HZ7 := Lib.hid (HZr.out.up hb7); clear hb7)
      | (go_at_call 19; refine (HSU.out _ HZ7.out).mono ?_; rintro e w8 ⟨rfl, hb8⟩; have HB8 := Lib.hid (below_more HB7.out hb8); clear hb8))
     go_ret
     exact ⟨by rw [HFN.out]; rfl, by first | exact HB8.out | (rw [← HS0.out]; exact HB8.out)⟩
theorem allTo_and {p q : Nat → Bool} : ∀ {n : Nat}, allTo (fun i => p i && q i) n = (allTo p n && allTo q n)
 | 0 => rfl
 | n + 1 => by
  show (allTo (fun i => p i && q i) n && (p n && q n)) = ((allTo p n && p n) && (allTo q n && q n))
  rw [allTo_and]
  cases allTo p n <;> cases allTo q n <;> cases p n <;> cases q n <;> rfl
theorem allTo_all {p : Acc → Bool} {L : List Acc} : L.all p = allTo (fun i => p (L.getD i acc0)) L.length := by
 rw [Bool.eq_iff_iff, all_getD (d := acc0), allTo_is]
theorem grp_eq (g : Grp) (L : List Acc) (G : List Ent) : grpP g L G = grpR g L G := by
 have h1 : rlsB L g.R = allTo (rowR L g.R) 15 := by
  unfold rlsB
  exact allTo_and.symm
 have h2 : chaB L = (vB L true && allTo (fun i => basB (L.getD i acc0)) L.length) := by
  unfold chaB
  rw [allTo_all]
 have h3 : rlsB L g.R = true → ensP L g.R G = ensR L g.R G := fun h => by
  have hd : allTo (dsR g.R) 15 = true := by
   unfold rlsB at h
   rw [Bool.and_eq_true] at h
   exact h.2
  have he : ∀ e, enpB L g.R e = enrB L g.R e := fun e => by
   unfold enpB enrB
   congr 4
   funext i
   exact opn_eq (R_len g) hd _
  unfold ensP ensR
  congr 4
  funext i
  unfold rowP rowX
  rw [he]
 unfold grpP grpR bokR
 rw [h2, ← h1]
 cases hr : rlsB L g.R
 ·simp
 ·rw [h3 hr]
  cases curB g.cur <;> cases clV g.cy g.cm g.cp <;> cases vB L true <;> simp
theorem in_is {y m k n : Int} (h : clV y m k = true) : inB y m k n = inP y m k n := by
 have h1 := clV_iff.1 h
 have e : mno y m = 12 * y + m - 1 := rfl
 have f : pdF y m k 0 = mfst (mno y m) := by
  unfold pdF
  rw [clE_in h (by omega), if_pos rfl, Int.add_zero]
 have l : pdL y m k (k - 1) = mfst (mno y m + k) - 1 := by
  unfold pdL
  rw [clE_in h (by omega), if_pos rfl, show mno y m + (k - 1) + 1 = mno y m + k by omega]
 have b0 := mfst_bd (T := mno y m) (by omega) (by omega)
 have b1 := mfst_bd (T := mno y m + k) (by omega) (by omega)
 rw [Bool.eq_iff_iff]
 constructor
 ·intro q
  unfold inB at q
  rw [Bool.and_eq_true, decide_eq_true_eq, decide_eq_true_eq, f, l] at q
  have hv : vdB n = true := vdB_iff.2 ⟨by omega, by omega⟩
  obtain ⟨t0, t1, t2, t3⟩ := mth_is hv
  refine inP_iff.2 ⟨hv, ?_, ?_⟩
  ·rcases Int.lt_or_le (mth n) (mno y m) with c | c
   ·have := mfst_mono (S := mth n + 1) (T := mno y m) (by omega) (by omega)
    omega
   ·omega
  ·rcases Int.lt_or_le (mth n - mno y m) k with c | c
   ·exact c
   ·have := mfst_mono (S := mno y m + k) (T := mth n) (by omega) (by omega)
    omega
 ·intro q
  obtain ⟨hp, p1, p2⟩ := per_at q
  have m1 := mfst_mono (S := mno y m) (T := mno y m + (mth n - mno y m)) (by omega) (by omega)
  have m2 := mfst_mono (S := mno y m + (mth n - mno y m) + 1) (T := mno y m + k) (by omega) (by omega)
  unfold inB
  rw [Bool.and_eq_true, decide_eq_true_eq, decide_eq_true_eq, f, l]
  omega
theorem org_is (kind of_ : Int) : orgB kind of_ = (decide (1 ≤ kind) && (decide (kind ≤ 3) && orgR kind of_)) := by
 unfold orgB orgR
 by_cases h3 : kind = 3
 ·subst h3
  rfl
 ·by_cases h1 : kind = 1 ∨ kind = 2
  ·rw [if_pos h1, if_neg h3, decide_eq_true (show 1 ≤ kind by omega), decide_eq_true (show kind ≤ 3 by omega), Bool.true_and, Bool.true_and]
  ·rw [if_neg h1, if_neg h3, if_neg h3]
   rcases Int.lt_or_le kind 1 with c | c
   ·rw [decide_eq_false (show ¬ 1 ≤ kind by omega), Bool.false_and]
   ·rw [decide_eq_false (show ¬ kind ≤ 3 by omega), Bool.false_and, Bool.and_false]
theorem shp_is (g : Grp) (x : Ety) (X : List Lnk) (gp : Bool) (hl : X.length = x.n) : shpB gp g x X = ((gp && (decide (1 ≤ x.id) && (entIn g x.ent && orgB x.kind x.of_))) && (txtB x.txt && lsB g x.ent X)) := by
 unfold shpB lsB entIn
 rw [org_is, hl]
 cases gp <;> cases decide (1 ≤ x.id) <;> cases decide (0 ≤ x.ent) <;> cases decide (x.ent < (g.m : Int)) <;> cases decide (1 ≤ x.kind) <;> cases decide (x.kind ≤ 3) <;> cases orgR x.kind x.of_ <;> cases txtB x.txt <;> rfl
theorem chk_eq (g : Grp) (x : Ety) (X : List Lnk) (L : List Acc) (G : List Ent) (hl : X.length = x.n) : chkN g x X L G = rchkN (shpB (grpR g L G) g x X) (acB (G.getD x.ent.toNat ent0).L X) (rtlN g x X) := by
 have hp : prE g.cy g.cm g.cp x.day = erD (inB g.cy g.cm g.cp x.day) 0 ∨ grpR g L G = false := by
  cases h : grpR g L G
  ·exact .inr rfl
  ·refine .inl ?_
   have hc := grpR_cl h
   unfold prE erD
   rw [hc, if_pos rfl, in_is hc]
 unfold chkN hdN
 rw [shp_is g x X _ hl, grp_eq]
 have hb : (if wr (sumT X) = 0 then 0 else 11 : Int) = blN X := rfl
 unfold rtlN
 rw [hb]
 rcases hp with hp | hp
 ·rw [hp]
  generalize (grpR g L G && (decide (1 ≤ x.id) && (entIn g x.ent && orgB x.kind x.of_))) = a
  generalize txtB x.txt = b
  generalize lsB g x.ent X = c
  generalize acB (G.getD x.ent.toNat ent0).L X = d
  generalize inB g.cy g.cm g.cp x.day = e
  unfold erD rchkN fst6 erB er17
  cases a <;> cases b <;> cases c <;> cases d <;> cases e <;> simp
 ·rw [hp]
  simp [rchkN, fst6]
open Go.RowKit Go.Sort Go.Shelf
def cmK (x y : Int × Int) : Int := if cmI x.1 y.1 = 0 then cmI x.2 y.2 else cmI x.1 y.1
theorem cmI_ltx {x y : Int} : cmI x y < 0 ↔ x < y := by unfold cmI; split <;> (try split) <;> omega
theorem cmI_eqx {x y : Int} : cmI x y = 0 ↔ x = y := by unfold cmI; split <;> (try split) <;> omega
theorem ltOf_cmK (x y : Int × Int) : ltOf cmK x y = decide (ltK x y) := by
 unfold ltOf cmK ltK
 by_cases h : cmI x.1 y.1 = 0
 ·rw [if_pos h]
  have h2 := cmI_eqx.1 h
  have h3 := cmI_ltx (x := x.2) (y := y.2)
  refine decide_eq_decide.2 ?_
  rw [h3]; omega
 ·rw [if_neg h]
  have h2 := mt cmI_eqx.2 h
  have h3 := cmI_ltx (x := x.1) (y := y.1)
  refine decide_eq_decide.2 ?_
  rw [h3]; omega
theorem cmK_swo : SWO (ltOf cmK) where
 irrefl x := by rw [ltOf_cmK]; simpa using ltK_irrefl x
 trans x y z h1 h2 := by rw [ltOf_cmK] at *; simp only [decide_eq_true_eq] at *; exact ltK_trans h1 h2
 ntrans x y z h1 h2 := by rw [ltOf_cmK] at *; simp only [decide_eq_false_iff_not] at *; unfold ltK at *; omega
theorem cmK_tot (x y : Int × Int) (h1 : ltOf cmK x y = false) (h2 : ltOf cmK y x = false) : x = y := by
 rw [ltOf_cmK] at h1 h2
 exact ltK_tri (of_decide_eq_false h1) (of_decide_eq_false h2)
structure P2 (w : World) (b : Nat) (k : Int × Int) : Prop where
 c0 : w.cell? ⟨b, 0, none⟩ = some (.int .i64 k.1)
 c1 : w.cell? ⟨b, 1, none⟩ = some (.int .i64 k.2)
 lt : b < w.heap.size
theorem P2.up {w w' : World} {b : Nat} {k : Int × Int} (h : P2 w b k) (hb : Below w.heap.size w w') : P2 w' b k :=
 ⟨(hb.cell (p := ⟨b, 0, none⟩) h.lt).trans h.c0, (hb.cell (p := ⟨b, 1, none⟩) h.lt).trans h.c1, Nat.lt_of_lt_of_le h.lt hb.size⟩
theorem p2_new (w : World) (t : TypeId) (k : Int × Int) : P2 (w.alloc (.cells #[.int .i64 k.1, .int .i64 k.2] t)) w.heap.size k := by
 refine ⟨?_, ?_, by simp⟩ <;> (simp only [World.cell?]; rw [heap_alloc_new]; rfl)
set_option maxRecDepth 20000 in
set_option maxHeartbeats 1600000 in
theorem scmp_any (p q : Nat) (x y : Int × Int) (w : World) (hx : P2 w p x) (hy : P2 w q y) :
  Calls Tryz.prog 46 #[.slice (some ⟨p, 0, none⟩) 2 2, .slice (some ⟨q, 0, none⟩) 2 2] w fun e w' => e = .returned (.int .i64 (cmK x y)) ∧ w = w' := by
 obtain ⟨a0, a1, -⟩ := hx
 obtain ⟨b0, b1, -⟩ := hy
 obtain ⟨x1, x2⟩ := x
 obtain ⟨y1, y2⟩ := y
 dsimp only at a0 a1 b0 b1
 have HC := Lib.hid (ccmp_any x1 y1)
 have HD := Lib.hid (ccmp_any x2 y2)
 have hE : cmK (x1, x2) (y1, y2) = if cmI x1 y1 = 0 then cmI x2 y2 else cmI x1 y1 := rfl
 rw [hE]
 clear hE
 generalize cmI x1 y1 = c at *
 generalize cmI x2 y2 = d at *
 go_enter Tryz.func46, Tryz.ntmps46
 go_wp2_with fail
 go_loopg [11] 2 (fun kx s11 W => w = W ∧ ((s11 = .int .i64 0 ∧ 2 ≤ kx) ∨ (s11 = .int .i64 1 ∧ 1 ≤ kx ∧ c = 0) ∨ (s11 = .int .i64 2 ∧ c = 0 ∧ d = 0)))
 case atStart => exact ⟨rfl, .inl ⟨rfl, by omega⟩⟩
 case round =>
  obtain ⟨rfl, hrel⟩ := hrel
  rcases hrel with ⟨rfl, hk⟩ | ⟨rfl, hk, rfl⟩ | ⟨rfl, rfl, rfl⟩
  ·by_cases hc : c = 0
   ·subst hc
    go_wp2_with (go_at_call 67; refine (HC.out _).mono ?_; rintro e w' ⟨rfl, rfl⟩)
    go_roundg 1
    case measure => omega
    case rel => exact ⟨by first | trivial | rfl, .inr (.inl ⟨rfl, by omega, by first | rfl | trivial⟩)⟩
   ·go_wp2_with (go_at_call 67; refine (HC.out _).mono ?_; rintro e w' ⟨rfl, rfl⟩)
    go_ret
    exact ⟨by first | rfl | (rw [if_neg hc]; rfl), rfl⟩
  ·by_cases hd : d = 0
   ·subst hd
    go_wp2_with (go_at_call 67; refine (HD.out _).mono ?_; rintro e w' ⟨rfl, rfl⟩)
    go_roundg 0
    case measure => omega
    case rel => exact ⟨by first | trivial | rfl, .inr (.inr ⟨rfl, by first | rfl | trivial, by first | rfl | trivial⟩)⟩
   ·go_wp2_with (go_at_call 67; refine (HD.out _).mono ?_; rintro e w' ⟨rfl, rfl⟩)
    go_ret
    exact ⟨by first | rfl | (rw [if_pos rfl]; rfl), rfl⟩
  ·go_wp2_with fail
   go_ret
   exact ⟨by first | rfl | (rw [if_pos rfl]; rfl), rfl⟩
set_option maxRecDepth 20000 in
set_option maxHeartbeats 1600000 in
theorem ecmp_any (x y : Int × Int) (w : World) :
  Calls Tryz.prog 29 #[.agg #[.int .i64 x.1, .int .i64 x.2], .agg #[.int .i64 y.1, .int .i64 y.2]] w fun e w' => e = .returned (.int .i64 (cmK x y)) ∧ ∃ q os, w' = grow (w.drewN q) os := by
 have HC := Lib.hid (fun W h1 h2 => scmp_any w.heap.size (w.heap.size + 1) x y W h1 h2)
 have hx := p2_new w 38 x
 have hy := p2_new (w.alloc (.cells #[.int .i64 x.1, .int .i64 x.2] 38)) 38 y
 rw [World.size_alloc] at hy
 have hx2 := hx.up (below_alloc_new (.cells #[.int .i64 y.1, .int .i64 y.2] 38))
 have HX : Hid (∀ n, P2 (((w.alloc (.cells #[.int .i64 x.1, .int .i64 x.2] 38)).alloc (.cells #[.int .i64 y.1, .int .i64 y.2] 38)).drewN n) w.heap.size x) := Lib.hid fun n => ⟨hx2.c0, hx2.c1, hx2.lt⟩
 have HY : Hid (∀ n, P2 (((w.alloc (.cells #[.int .i64 x.1, .int .i64 x.2] 38)).alloc (.cells #[.int .i64 y.1, .int .i64 y.2] 38)).drewN n) (w.heap.size + 1) y) := Lib.hid fun n => ⟨hy.c0, hy.c1, hy.lt⟩
 clear hx hy hx2
 generalize cmK x y = r at *
 go_enter Tryz.func29, Tryz.ntmps29
 go_wp2_with fail
 obtain ⟨W1, hW1⟩ : ∃ W1, (w.alloc (.cells #[.int .i64 x.1, .int .i64 x.2] 38)).alloc (.cells #[.int .i64 y.1, .int .i64 y.2] 38) = W1 := ⟨_, rfl⟩
 rw [hW1] at HX HY ⊢
 have HW1 := Lib.hid hW1
 clear hW1
 go_quiet ((go_at_call 46; exact (HC.out _ (HX.out _) (HY.out _)).mono (fun _ _ h => ⟨h.1, _, h.2.symm⟩)))
 go_wp2_with fail
 go_ret
 exact ⟨rfl, _, _, by rw [← HW1.out, alloc_eq_grow, alloc_eq_grow, grow_grow]; rfl⟩
open Go.RowKit Go.Maps Go.Sort Go.Shelf
def celP (k : Int × Int) : List Value := [.int .i64 k.1, .int .i64 k.2]
theorem cells_two_new (w : World) (t : TypeId) (a b : Value) : ∀ (j : Nat) (u : Value), [a, b][j]? = some u → (w.alloc (.cells #[a, b] t)).cell? ((⟨w.heap.size, 0, none⟩ : Addr).add j) = some u := by
 intro j u hj
 match j, hj with
 | 0, hj =>
  simp at hj; subst hj
  unfold World.cell? Addr.add
  rw [if_pos rfl]
  dsimp only
  rw [heap_alloc_new]
  rfl
 | 1, hj =>
  simp at hj; subst hj
  unfold World.cell? Addr.add
  rw [if_neg (by decide)]
  dsimp only
  rw [heap_alloc_new]
  rfl
 | j + 2, hj => simp at hj
theorem infoP : (Tryz.prog.info? 38).map (fun i => (i.zero, i.size, i.bytes)) = some (some (.agg #[.int .i64 0, .int .i64 0]), 2, 16) := by kernel_rfl
def CollP (D0 : DataW Value) (left : Lit → Bool) (ss : List (Int × Int)) : Prop := ss.Nodup ∧ ∀ k, k ∈ ss ↔ okK k ∧ Maps.has D0 (klit k) = true ∧ left (klit k) = false
section
variable {D0 : DataW Value} {left : Lit → Bool} {ss : List (Int × Int)}
theorem CollP.start (D0 : DataW Value) : CollP D0 (Maps.has D0) [] := ⟨List.nodup_nil, fun k => by cases Maps.has D0 (klit k) <;> simp⟩
theorem CollP.step (h : CollP D0 left ss) {x : Int × Int} (hx : okK x) {y : DataW Value} (hlk : left (klit x) = true) (hat : ∀ zd, D0.atKey (klit x) zd = y) : CollP D0 (fun z => left z && !z.sameKey (klit x)) (ss ++ [x]) := by
 have hhas : Maps.has D0 (klit x) = true := has_true_of_atKey hat
 have hno : x ∉ ss := fun hm => by
  have := ((h.2 x).1 hm).2.2
  rw [hlk] at this; cases this
 refine ⟨List.nodup_append.2 ⟨h.1, by simp, fun a ha b hb e => ?_⟩, fun q => ?_⟩
 ·rw [List.mem_singleton] at hb
  subst hb; subst e; exact hno ha
 ·rw [List.mem_append, List.mem_singleton, h.2 q]
  by_cases hq : q = x
  ·subst hq
   have : (klit q).sameKey (klit q) = true := WideAt.sameKey_self (pk_keyed.key (pair_key hx))
   simp [this, hhas, hx]
  ·constructor
   ·rintro (⟨h1, h2, h3⟩ | rfl)
    ·exact ⟨h1, h2, by simp [h3]⟩
    ·exact absurd rfl hq
   ·rintro ⟨h1, h2, h3⟩
    have hne : (klit q).sameKey (klit x) = false := by
     cases hs : (klit q).sameKey (klit x)
     ·rfl
     ·exact absurd (klit_inj h1 hx (WideAt.sameKey_eq hs)) hq
    simp only [hne] at h3
    exact .inl ⟨h1, h2, by simpa using h3⟩
end
set_option maxRecDepth 100000 in
set_option maxHeartbeats 1600000 in
theorem pkeys1_in (n : Nat) (hn : 1 ≤ n) (l Bm b nn : Nat) (D0 : DataW Value) (J : List (Int × Int) → World → Prop)
  (hY : ∀ pre x W, J pre W → pre.length < Maps.size D0 → YieldAt Fence.wide (n - 1) Tryz.prog l #[pairV x] W fun e W' => e = .returned (.bool true) ∧ J (pre ++ [x]) W' ∧ KeepsWalks W W')
  (W : World) (hJ : AbidesFrom W.heap.size J) (hm : W.cell? ⟨Bm, 0, none⟩ = some (.map (some b))) (hown : W.ownsMap Tryz.prog 38 heldP b nn D0) (h0 : J [] W) :
  CallsIn Fence.wide n Tryz.prog 45 #[.func (.yield l) #[] #[], .pointer (some ⟨Bm, 0, none⟩)] W fun e W' => (∃ v, e = .returned v) ∧ ∃ ss : List (Int × Int), CollP D0 (fun _ => false) ss ∧ J ss W' := by
 refine callsIn_of_wp Tryz.func45 rfl trivial ?_ rfl
 simp only [Tryz.ntmps45, List.size_toArray, List.length_cons, List.length_nil, Nat.reduceAdd, Nat.reduceSub, Array.replicate_succ, Array.replicate_zero, List.push_toArray, List.append_toArray, List.nil_append, List.cons_append]
 gi_wp2_with (first
  | (gi_at_range; refine wpListIn_range_own _ rfl _ 65 rfl 38 3 pk_keyed Tryz.underlying65 _ b nn _ rfl hown ?_; intro w0 hrg0 hg0 hs0)
  | gi_in)
 go_frame
 gi_loopw [3] (fun _ wr => ∃ (left : Lit → Bool) (cnt : Nat) (ss : List (Int × Int)), wr.ranges Tryz.prog 38 heldP b W.heap.size nn D0 left cnt ∧ ss.length + cnt ≤ Maps.size D0 ∧ CollP D0 left ss ∧ J ss wr ∧ W.heap.size ≤ wr.heap.size)
  (fun _ wr => wr.rangeLeft b W.heap.size)
 case atStart =>
  exact ⟨_, _, [], hrg0, by simp, CollP.start D0, hJ [] W w0 none h0 hg0 (fun r e => by cases e), by omega⟩
 case round =>
  obtain ⟨left, cnt, ss, hrg, hcs, hC, hJs, hsz⟩ := hrel
  gi_wp2_with (first
   | (gi_at_next; refine wpListIn_next_ranges _ rfl _ rfl 38 pk_keyed heldP pairV id (fun key kl hk => by obtain ⟨x, hx, _⟩ := pair_of_key hk; exact ⟨x, hx⟩) (fun v _ _ => ⟨v, rfl⟩) b W.heap.size nn _ _ _ rfl hrg ?_ ?_)
   | gi_in)
  ·intro hc0 hl0
   gi_wp2
   go_end0
   obtain rfl : left = fun _ => false := funext hl0
   exact ⟨⟨_, rfl⟩, ss, hC, hJs⟩
  ·intro x1 x2 c kl yd yp w2 cnt2 hkey hlk hv hv2 hat hrg2 hlt hg2 hs2 hen
   obtain ⟨x', ex, rfl, hok⟩ := pair_of_key hkey
   obtain rfl : (x1, x2) = x' := by
    simp only [pairV, Value.agg.injEq, Array.mk.injEq, List.cons.injEq, Value.int.injEq, true_and, and_true] at ex
    exact Prod.ext ex.1 ex.2
   have hJ2 : J ss w2 := hJ ss wr w2 (some W.heap.size) hJs hg2 (fun r e => by cases e; exact ⟨Nat.le_refl _, hrg.iter_walk⟩)
   obtain ⟨w3, hw3⟩ : ∃ w3, w2.alloc (.cells #[.int .i64 x1, .int .i64 x2] 38) = w3 := ⟨_, rfl⟩
   have hJ3 : J ss w3 := hJ ss w2 w3 none hJ2 (by rw [← hw3]; exact World.grownBy_alloc _ _ none) (fun r e => by cases e)
   have hp3 : P2 w3 w2.heap.size (x1, x2) := by rw [← hw3]; exact p2_new w2 _ (x1, x2)
   obtain ⟨d0, d1, -⟩ := hp3
   dsimp only at d0 d1
   have hrg3 := hrg2.of_walks (by rw [← hw3]; exact KeepsWalks.alloc _ _ : KeepsWalks w2 w3)
   have hs3 : w3.heap.size = w2.heap.size + 1 := by rw [← hw3]; simp
   obtain ⟨fn, tmps, assign, body, hy, hR⟩ := hY ss (x1, x2) w3 hJ3 (by omega)
   have HS2 := Lib.hid hs2
   clear hs2
   gi_wp2
   refine hR.mono ?_
   rintro e W3 ⟨rfl, hJ4, hk3⟩
   gi_wp2
   have hrg4 := hrg3.of_walks hk3
   go_roundw
   case rel => exact ⟨_, cnt2, ss ++ [(x1, x2)], hrg4, by simp; omega, hC.step hok hlk hat, hJ4, by have := hk3.size; have := HS2.out; omega⟩
   case measure => rw [hrg4.left_eq, hrg.left_eq]; exact hlt
theorem pkeys_gives (n : Nat) (hn : 1 ≤ n) (Bm b nn : Nat) (D0 : DataW Value) (w : World) (hBm : Bm < w.heap.size) (hm : w.cell? ⟨Bm, 0, none⟩ = some (.map (some b))) (hown : w.ownsMap Tryz.prog 38 heldP b nn D0) :
  SeqGives Fence.wide n Tryz.prog 45 #[.pointer (some ⟨Bm, 0, none⟩)] pairV (fun ss => CollP D0 (fun _ => false) ss) (Maps.size D0) w := fun l J W hW hJ hY h0 => by
 have hown' : W.ownsMap Tryz.prog 38 heldP b nn D0 := by
  have hbl := hown.lt
  obtain ⟨es, clock, hb, Ft, hs, hD⟩ := hown
  exact ⟨es, clock, (hW.block b hbl).trans hb, Ft, hs, hD⟩
 exact pkeys1_in n hn l Bm b nn D0 J hY W hJ ((hW.cell (p := ⟨Bm, 0, none⟩) hBm).trans hm) hown' h0

/-! What a round of the collecting loop does. -/
def epAssign : Code := .region 2 #[{ dst := some 5, op := .alloc 38, type := 0, pos := "iter.go:51", after := #[], guard := none }, { dst := none, op := .store 38 (.tmp 5) (.tmp 7), type := 0, pos := "iter.go:51", after := #[{ on := 0, ground := .data }, { on := 0, ground := .phase }], guard := none }] false
def epBody : Code := .block 1 (.region 3 #[{ dst := some 8, op := .load 67 (.tmp 2), type := 67, pos := "iter.go:52", after := #[], guard := none }, { dst := some 9, op := .load 38 (.tmp 5), type := 38, pos := "iter.go:52", after := #[], guard := none }, { dst := some 10, op := .buildSlice 67 1 #[(0, .tmp 9)], type := 67, pos := "iter.go:52", after := #[{ on := 1, ground := .data }], guard := none }, { dst := some 11, op := .call { callee := .builtin .append, args := #[.tmp 8, .tmp 10], argTypes := #[67, 67] }, type := 67, pos := "iter.go:52", after := #[{ on := 0, ground := .data }, { on := 2, ground := .data }], guard := none }, { dst := none, op := .store 67 (.tmp 2) (.tmp 11), type := 0, pos := "iter.go:52", after := #[{ on := 3, ground := .data }, { on := 3, ground := .chain }, { on := 0, ground := .phase }, { on := 1, ground := .phase }, { on := 2, ground := .phase }, { on := 3, ground := .phase }], guard := none }] false)
def epRec (fn : FuncId) (sv : Value) (Bs D : Nat) (st : LoopState) (pend : Option Code) : Loop :=
 { state := st, pending := pend, fn, tmps := #[.slice none 0 0, sv, .pointer (some ⟨Bs, 0, none⟩), undef, .slice none 0 0, undef, sv, undef, undef, undef, undef, undef, undef], params := #[7], assign := epAssign, body := epBody, defers := D }
structure EpAt (w0 : World) (fn : FuncId) (sv : Value) (Bs l D : Nat) (ss : List (Int × Int)) (W : World) : Prop where
 box : ∃ v, W.heap[Bs]? = some (.cells #[v] 67 (0, 0)) ∧ W.ownsRow w0.heap.size 38 2 v ss.length (ss.flatMap celP)
 L : W.heap[l]? = some (.loop (epRec fn sv Bs D .ready none))
 K : W.heap[D]? = some (.deferred (some []))
 below : Below w0.heap.size w0 W
theorem ep_abides (w0 : World) (fn : FuncId) (sv : Value) (Bs l D B : Nat) (hB : w0.heap.size ≤ B) : AbidesFrom B (EpAt w0 fn sv Bs l D) := fun s W W' row h hg hrow => by
 have hrow' : ∀ r, row = some r → ∃ o : Obj, W.heap[r]? = some o ∧ o.isWalk = true := fun r e => (hrow r e).2
 obtain ⟨v, hv, hr⟩ := h.box
 exact ⟨⟨v, (grownBy_keeps hg hrow' hv rfl).trans hv, ownsRow_abides_a hr hg hrow'⟩, (grownBy_keeps hg hrow' h.L rfl).trans h.L, (grownBy_keeps hg hrow' h.K rfl).trans h.K,
  h.below.grown hg h.below.size (fun k e => Nat.le_trans hB (hrow k e).1)⟩
set_option maxRecDepth 100000 in
set_option maxHeartbeats 4000000 in
theorem epYield (m : Nat) (w0 : World) (fn : FuncId) (sv : Value) (Bs l D : Nat) (hBl : Bs ≠ l) (hDl : D ≠ l) (hDB : D ≠ Bs) (h0B : w0.heap.size ≤ Bs) (h0l : w0.heap.size ≤ l)
    (N : Nat) (hN : N ≤ 1000000) (ss : List (Int × Int)) (x : Int × Int) (W : World) (h : EpAt w0 fn sv Bs l D ss W) (hlen : ss.length < N) :
    YieldAt Fence.wide m Tryz.prog l #[pairV x] W fun e W' => e = .returned (.bool true) ∧ EpAt w0 fn sv Bs l D (ss ++ [x]) W' ∧ KeepsWalks W W' := by
  have hne : ∀ {t : TypeId} {c d : Array Value} {o o' : Nat × Nat}, t ≠ 38 → Obj.cells c t o ≠ Obj.cells d 38 o' := fun ht e => ht (Obj.cells.inj e).2.1
  obtain ⟨i0, hi, hz0, hz1, hz2⟩ := info_parts infoP
  obtain ⟨v, hv, hrow⟩ := h.box
  refine ⟨fn, #[.slice none 0 0, sv, .pointer (some ⟨Bs, 0, none⟩), undef, .slice none 0 0, undef, sv, pairV x, undef, undef, undef, undef, undef], epAssign, epBody, by simpa [epRec] using run_yield (P := Tryz.prog) (args := #[pairV x]) h.L rfl, roundIn_of_wpIn trivial ?_⟩
  have hl : l < W.heap.size := (Array.getElem?_eq_some_iff.1 h.L).1
  have hBlt0 : Bs < W.heap.size := (Array.getElem?_eq_some_iff.1 hv).1
  have hDlt0 : D < W.heap.size := (Array.getElem?_eq_some_iff.1 h.K).1
  obtain ⟨B1, hB1⟩ : ∃ B1, W.heap.size = B1 := ⟨_, rfl⟩
  obtain ⟨W2, hW2⟩ : ∃ W2, W.alloc (.cells #[.int .i64 x.1, .int .i64 x.2] 38) = W2 := ⟨_, rfl⟩
  have hv2 : W2.heap[Bs]? = some (.cells #[v] 67 (0, 0)) := by rw [← hW2]; exact (Below.heap_alloc _ _ Bs hBlt0).trans hv
  have hK2 : W2.heap[D]? = some (.deferred (some [])) := by rw [← hW2]; exact (Below.heap_alloc _ _ D hDlt0).trans h.K
  have hL2 : W2.heap[l]? = some (.loop (epRec fn sv Bs D .ready none)) := by rw [← hW2]; exact (Below.heap_alloc _ _ l hl).trans h.L
  have hrow2 : W2.ownsRow w0.heap.size 38 2 v ss.length (ss.flatMap celP) := by rw [← hW2]; exact World.ownsRow.alloc hrow _
  have hb2 : Below w0.heap.size w0 W2 := by rw [← hW2]; exact h.below.alloc h.below.size _
  have hk2 : KeepsWalks W W2 := by rw [← hW2]; exact KeepsWalks.alloc _ _
  obtain ⟨d0, d1, hBn⟩ : P2 W2 B1 x := by rw [← hW2, ← hB1]; exact p2_new W _ x
  have hl2 : l < W2.heap.size := (Array.getElem?_eq_some_iff.1 hL2).1
  have hlB : l ≠ B1 := by omega
  have hbr := run_beginRound (P := Tryz.prog) hL2 rfl
  obtain ⟨W3, hW3⟩ : ∃ W3, W2.putObj l (.loop { epRec fn sv Bs D .ready none with state := .busy }) = W3 := ⟨_, rfl⟩
  rw [hW3] at hbr
  have hg3 : W2.grownBy W3 (some l) := by rw [← hW3]; exact grownBy_putObj_a _ _ _
  have hv3 : W3.heap[Bs]? = some (.cells #[v] 67 (0, 0)) := by rw [← hW3]; exact (World.putObj_heap_other hBl).trans hv2
  have hK3 : W3.heap[D]? = some (.deferred (some [])) := by rw [← hW3]; exact (World.putObj_heap_other hDl).trans hK2
  have hL3 : W3.heap[l]? = some (.loop { epRec fn sv Bs D .ready none with state := .busy }) := by rw [← hW3]; exact World.putObj_heap_same hl2
  have hrow3 : W3.ownsRow w0.heap.size 38 2 v ss.length (ss.flatMap celP) := hrow2.kept hg3 (ownsRow_ne_a hrow2 hL2 (fun cur e => by cases e))
  have hb3 : Below w0.heap.size w0 W3 := hb2.grown hg3 hb2.size (fun k e => by cases e; exact h0l)
  have hk3 : KeepsWalks W W3 := by rw [← hW3]; exact hk2.trans (KeepsWalks.putObj _ hL2 rfl)
  replace d0 : W3.cell? ⟨B1, 0, none⟩ = some (.int .i64 x.1) := by rw [← d0]; exact World.cell?_of_block (hg3.block B1 hBn (fun e => hlB (by cases e; rfl)))
  replace d1 : W3.cell? ⟨B1, 1, none⟩ = some (.int .i64 x.2) := by rw [← d1]; exact World.cell?_of_block (hg3.block B1 hBn (fun e => hlB (by cases e; rfl)))
  have hBlt : Bs < W3.heap.size := (Array.getElem?_eq_some_iff.1 hv3).1
  have hl3 : l < W3.heap.size := (Array.getElem?_eq_some_iff.1 hL3).1
  have hDlt : D < W3.heap.size := (Array.getElem?_eq_some_iff.1 hK3).1
  obtain ⟨hc3, hf3⟩ := cell_of_box_a hv3
  have ne_of : ∀ {j : Nat} {o : Obj}, W3.heap[j]? = some o → (∀ cur, o ≠ .cells cur 38 (0, 0)) → some j ≠ v.ownBlock := fun hj hno => by
    rcases ownsRow_ne_a hrow3 hj hno with e | e
    · rw [e]; simp
    · exact fun e' => e e'.symm
  clear hv2 hK2 hL2 hrow2 hb2 hk2 hg3 hW3
  unfold epAssign
  gi_wp2_with gi_round_op_a
  unfold epBody
  gi_wp2_with (first
    | (gi_at_builtin; refine wpListIn_append_own _ rfl _ _ 67 rfl w0.heap.size 38 i0 (.agg #[.int .i64 0, .int .i64 0]) 2 16 Tryz.underlying67 hi hz0 hz1 hz2 rfl (by decide) _ _ _ rfl (World.ownsRow.alloc hrow3 _) ⟨W3.heap.size, 0, none⟩ 1 1 [.int .i64 x.1, .int .i64 x.2] rfl rfl (cells_two_new _ _ _ _) (by simp [Value.oneCell']) (by unfold maxLen; omega) (by omega) (by have := hb3.size; simp; omega) ?_; intro v' w5 hown' hg5 hnil5
       have hv5 : w5.heap[Bs]? = some (.cells #[v] 67 (0, 0)) := (hg5.block Bs (by simp; omega) (ne_of hv3 (fun cur => hne (by decide)))).trans ((Below.heap_alloc _ _ Bs hBlt).trans hv3)
       obtain ⟨hc5, hf5⟩ := cell_of_box_a hv5
       obtain ⟨g', cap', cur', rfl, hbase', hgb', hr1, hr2, hr3, hr4⟩ : ∃ g' cap' cur', v' = .slice (some ⟨g', 0, none⟩) (ss.length + 1) cap' ∧ w0.heap.size ≤ g' ∧ w5.heap[g']? = some (.cells cur' 38 (0, 0)) ∧ ss.length + 1 ≤ cap' ∧ cap' ≤ maxLen ∧ cur'.size = cap' * 2 ∧ cur'.toList.take ((ss.length + 1) * 2) = ss.flatMap celP ++ [.int .i64 x.1, .int .i64 x.2] := by
         rcases hown'.2 with ⟨_, h0⟩ | h'
         · exact absurd h0 (by omega)
         · exact h'
       go_frame)
    | gi_round_op_a)
  have hg5' : (W3.alloc (.cells #[.int .i64 x.1, .int .i64 x.2] 38)).grownBy w5 v.ownBlock := hg5
  have hL5 : w5.heap[l]? = some (.loop { epRec fn sv Bs D .ready none with state := .busy }) := (hg5'.block l (by simp; omega) (ne_of hL3 (fun cur e => by cases e))).trans ((Below.heap_alloc _ _ l hl3).trans hL3)
  have hK5 : w5.heap[D]? = some (.deferred (some [])) := (hg5'.block D (by simp; omega) (ne_of hK3 (fun cur e => by cases e))).trans ((Below.heap_alloc _ _ D hDlt).trans hK3)
  obtain ⟨w4, hw4⟩ : ∃ w4, w5.setCell ⟨Bs, 0, none⟩ (.slice (some ⟨g', 0, none⟩) (ss.length + 1) cap') = w4 := ⟨_, rfl⟩
  rw [hw4]
  have hg4 : w5.grownBy w4 (some Bs) := by rw [← hw4]; exact grownBy_setCell0_a _ _ _
  have hv4 : w4.heap[Bs]? = some (.cells #[.slice (some ⟨g', 0, none⟩) (ss.length + 1) cap'] 67 (0, 0)) := by rw [← hw4]; exact heap_setCell_box_a _ hv5
  have hL4 : w4.heap[l]? = some (.loop { epRec fn sv Bs D .ready none with state := .busy }) := (hg4.block l (Array.getElem?_eq_some_iff.1 hL5).1 (fun e => hBl (by cases e; rfl))).trans hL5
  have hK4 : w4.heap[D]? = some (.deferred (some [])) := (hg4.block D (Array.getElem?_eq_some_iff.1 hK5).1 (fun e => hDB (by cases e; rfl))).trans hK5
  have hrow4 := hown'.kept hg4 (ownsRow_ne_a hown' hv5 (fun cur => hne (by decide)))
  have hl4 : l < w4.heap.size := (Array.getElem?_eq_some_iff.1 hL4).1
  have hb5 : Below w0.heap.size w0 w5 := (hb3.alloc hb3.size _).grown hg5' (by have := hb3.size; simp; omega) (fun k e => (World.ownsRow.lt hrow3 k e).1)
  have hb4 : Below w0.heap.size w0 w4 := hb5.grown hg4 hb5.size (fun k e => by cases e; exact h0B)
  have hk4 : KeepsWalks W w4 := ((hk3.trans (KeepsWalks.alloc _ _)).trans (KeepsWalks.of_grownBy hg5' (ownsRow_not_walk_a (World.ownsRow.alloc hrow3 _)))).trans (by rw [← hw4]; exact KeepsWalks.setCell _ _ _)
  clear hw4
  refine ⟨_, _, run_endRound none hL4, rfl, ⟨⟨_, (World.putObj_heap_other hBl).trans hv4, ?_⟩, World.putObj_heap_same hl4, (World.putObj_heap_other hDl).trans hK4, hb4.grown (grownBy_putObj_a _ _ _) hb4.size (fun k e => by cases e; exact h0l)⟩, hk4.trans (KeepsWalks.putObj _ hL4 rfl)⟩
  have := hrow4.kept (grownBy_putObj_a w4 l (.loop { { epRec fn sv Bs D .ready none with state := .busy } with state := if (none : Option Code).isNone then .ready else .done, pending := none })) (ownsRow_ne_a hrow4 hL4 (fun cur e => by cases e))
  rw [List.length_append, List.flatMap_append]
  simpa [celP] using this
open Go.RowKit Go.Maps Go.Sort Go.Shelf
def PairAt (w : World) (A : Option Addr) (L : List (Int × Int)) : Prop := 0 < L.length → ∃ b off, A = some ⟨b, off, none⟩ ∧ b < w.heap.size ∧ ∀ i, i < L.length → w.cell? ⟨b, off + i * 2, none⟩ = some (.int .i64 (L.getD i (0, 0)).1) ∧ w.cell? ⟨b, off + i * 2 + 1, none⟩ = some (.int .i64 (L.getD i (0, 0)).2)
set_option maxRecDepth 100000 in
set_option maxHeartbeats 4000000 in
theorem pAppendSeq (n : Nat) (hn : 2 ≤ n) (g : Nat) (lb : Array Value) (eg : ∀ args w, (callFunc g args).run Tryz.prog w = .ok (.enter g args) w)
    (S : List (Int × Int) → Prop) (N : Nat) (hN : N ≤ 1000000) (w : World) (hseq : SeqGives Fence.wide (n - 1) Tryz.prog g lb pairV S N w) :
    CallsIn Fence.wide n Tryz.prog 64 #[.slice none 0 0, .func (.func g) #[] lb] w fun e w' => ∃ (v : Value) (ss : List (Int × Int)), e = .returned v ∧ S ss ∧ w'.ownsRow w.heap.size 38 2 v ss.length (ss.flatMap celP) ∧ Below w.heap.size w w' := by
  have h1 : 1 ≤ n := by omega
  refine callsIn_of_wp_marks Tryz.func64 rfl trivial ?_ rfl
  simp only [Tryz.ntmps64, List.size_toArray, List.length_cons, List.length_nil, Nat.reduceAdd, Nat.reduceSub, Array.replicate_succ, Array.replicate_zero, List.push_toArray, List.append_toArray, List.nil_append, List.cons_append]
  gi_wp2
  refine wpIn_rangeFunc ?_
  intro fn hfn
  obtain ⟨W0, hW0⟩ : ∃ W0, w.alloc (.cells #[.slice none 0 0] 67) = W0 := ⟨_, rfl⟩
  have hs0 : W0.heap.size = w.heap.size + 1 := by rw [← hW0]; simp
  have hv0 : W0.heap[w.heap.size]? = some (.cells #[.slice none 0 0] 67 (0, 0)) := by rw [← hW0]; exact World.alloc_heap_new w _
  have hb0 : Below w.heap.size w W0 := by rw [← hW0]; exact (Below.refl _ w).alloc (Nat.le_refl _) _
  rw [hW0]
  obtain ⟨W1, hW1⟩ : ∃ W1, (W0.alloc (.deferred (some []))).alloc (.loop (epRec fn (.func (.func g) #[] lb) w.heap.size W0.heap.size .ready none)) = W1 := ⟨_, rfl⟩
  have hold : ∀ k, k < W0.heap.size → W1.heap[k]? = W0.heap[k]? := fun k hk => by
    rw [← hW1]; exact (Below.heap_alloc _ _ k (by simp; omega)).trans (Below.heap_alloc _ _ k hk)
  have hb1 : Below w.heap.size w W1 := by rw [← hW1]; exact (hb0.alloc hb0.size _).alloc (by have := hb0.size; simp; omega) _
  have hs1 : W1.heap.size = W0.heap.size + 2 := by rw [← hW1]; simp
  have hM : EpAt w fn (.func (.func g) #[] lb) w.heap.size (W0.heap.size + 1) W0.heap.size [] W1 :=
    ⟨⟨_, (hold w.heap.size (by omega)).trans hv0, ⟨rfl, .inl ⟨rfl, rfl⟩⟩⟩,
     by rw [← hW1]; have := World.alloc_heap_new (W0.alloc (.deferred (some []))) (.loop (epRec fn (.func (.func g) #[] lb) w.heap.size W0.heap.size .ready none)); rwa [World.size_alloc] at this,
     by rw [← hW1]; exact (Below.heap_alloc _ _ _ (by simp)).trans (World.alloc_heap_new W0 _), hb1⟩
  refine ⟨W0.heap.size + 1, [{ target := .collected W0.heap.size, args := #[] }], W1, { target := .fn (.func g) lb, args := #[.func (.yield (W0.heap.size + 1)) #[] #[]] }, W1, g,
    #[.func (.yield (W0.heap.size + 1)) #[] #[]] ++ lb, W1, ?_, ?_, ?_, ?_, fun _ => h1, ?_⟩
  · rw [← hW1]; exact run_enterLoop_outer _ _ _ _ _
  · simp [resolve, go_sem]
  · intro f' hf'; trivial
  · simp [invoke, go_sem, eg]
  · refine (hseq (W0.heap.size + 1) (EpAt w fn (.func (.func g) #[] lb) w.heap.size (W0.heap.size + 1) W0.heap.size) W1 hb1 (ep_abides _ _ _ _ _ _ _ hb1.size)
      (fun pre x W hJ hl => epYield (n - 1 - 1) w fn _ w.heap.size (W0.heap.size + 1) W0.heap.size (by omega) (by omega) (by omega) (Nat.le_refl _) (by omega) N hN pre x W hJ hl) hM).mono ?_
    rintro e W2 ⟨⟨v0, rfl⟩, ss, hS, h2⟩
    obtain ⟨v, hv, hrow⟩ := h2.box
    have hend := run_endLoop (P := Tryz.prog) h2.L (by simp [epRec])
    obtain ⟨W3, hW3⟩ : ∃ W3, W2.putObj (W0.heap.size + 1) (.loop { epRec fn (.func (.func g) #[] lb) w.heap.size W0.heap.size .ready none with state := .exhausted }) = W3 := ⟨_, rfl⟩
    rw [hW3] at hend
    have hg3 : W2.grownBy W3 (some (W0.heap.size + 1)) := by rw [← hW3]; exact grownBy_putObj_a _ _ _
    have hv3 : W3.heap[w.heap.size]? = some (.cells #[v] 67 (0, 0)) := by rw [← hW3]; exact (World.putObj_heap_other (by omega)).trans hv
    have hK3 : W3.heap[W0.heap.size]? = some (.deferred (some [])) := by rw [← hW3]; exact (World.putObj_heap_other (by omega)).trans h2.K
    have hrow3 := hrow.kept hg3 (ownsRow_ne_a hrow h2.L (fun cur e => by cases e))
    have hb3 : Below w.heap.size w W3 := h2.below.grown hg3 h2.below.size (fun k e => by cases e; omega)
    obtain ⟨hc3, hf3⟩ := cell_of_box_a hv3
    clear hW3
    refine ⟨none, W3, hend, ?_⟩
    gi_wp2
    rw [← hs0]
    refine ⟨by simp, .inl ⟨_, _, rfl, run_takeDeferred hK3, ?_⟩⟩
    exact ⟨_, results_tmp rfl _ _ _, v, ss, rfl, hS, hrow3.kept (grownBy_putObj_a _ _ _) (ownsRow_ne_a hrow3 hK3 (fun cur e => by cases e)), hb3.grown (grownBy_putObj_a _ _ _) hb3.size (fun k e => by cases e; omega)⟩
set_option maxHeartbeats 1000000 in
theorem pCollect (n : Nat) (hn : 3 ≤ n) (g : Nat) (lb : Array Value) (eg : ∀ args w, (callFunc g args).run Tryz.prog w = .ok (.enter g args) w)
  (S : List (Int × Int) → Prop) (N : Nat) (hN : N ≤ 1000000) (w : World) (hseq : SeqGives Fence.wide (n - 1 - 1) Tryz.prog g lb pairV S N w) :
  CallsIn Fence.wide n Tryz.prog 43 #[.func (.func g) #[] lb] w fun e w' => ∃ (v : Value) (ss : List (Int × Int)), e = .returned v ∧ S ss ∧ w'.ownsRow w.heap.size 38 2 v ss.length (ss.flatMap celP) ∧ Below w.heap.size w w' := by
 refine callsIn_wide.2 ?_
 have hA := Lib.hid ((callsIn_wide (n := n - 1)).1 (pAppendSeq (n - 1) (by omega) g lb eg S N hN w hseq))
 clear hseq eg
 go_enter Tryz.func43, Tryz.ntmps43
 go_wp2_with (go_at_call 64; refine hA.out.mono ?_; rintro e w' ⟨v, ss, rfl, hS, hrow, hb⟩)
 go_ret
 exact ⟨v, ss, rfl, hS, hrow, hb⟩
theorem celP_get : ∀ (L : List (Int × Int)) (i : Nat), i < L.length → (L.flatMap celP)[i * 2]? = some (.int .i64 (L.getD i (0, 0)).1) ∧ (L.flatMap celP)[i * 2 + 1]? = some (.int .i64 (L.getD i (0, 0)).2)
 | [], i, h => by simp at h
 | a :: L, 0, _ => by simp [celP]
 | a :: L, i + 1, h => by
  have := celP_get L i (by simpa using h)
  have e1 : (i + 1) * 2 = i * 2 + 1 + 1 := by omega
  rw [List.flatMap_cons, e1]
  simpa [celP] using this
theorem holdsP {w : World} {g : Nat} {cur : Array Value} {e : TypeId} {ss : List (Int × Int)} (hb : w.heap[g]? = some (.cells cur e (0, 0))) (ht : cur.toList.take (ss.length * 2) = ss.flatMap celP) : HoldsK celP 2 w g 0 ss.toArray := by
 intro j hj
 rw [size_flatK] at hj
 have hj' : j < ss.length * 2 := by simpa using hj
 refine ⟨?_, by simp [World.frozen?, hb]⟩
 rw [get_flatK _ _ _ _ hj, Nat.zero_add]
 have key : w.cell? ⟨g, j, none⟩ = (ss.flatMap celP)[j]? := by
  rw [← ht, List.getElem?_take, if_pos hj']
  simp only [World.cell?, hb]
  simp
 rw [key]
 have hq : j / 2 < ss.length := by omega
 have hget : (ss.toArray)[j / 2]! = ss.getD (j / 2) (0, 0) := by
  rw [List.getD_eq_getElem?_getD, List.getElem?_eq_getElem hq]
  simp [hq]
 rw [hget]
 obtain ⟨k0, k1⟩ := celP_get ss (j / 2) hq
 rcases Nat.mod_two_eq_zero_or_one j with h | h
 ·rw [h, show j = j / 2 * 2 by omega, k0, show j / 2 * 2 / 2 = j / 2 by omega]; rfl
 ·rw [h, show j = j / 2 * 2 + 1 by omega, k1, show (j / 2 * 2 + 1) / 2 = j / 2 by omega]; rfl
theorem pairs_of_holds {w : World} {g : Nat} {ss : List (Int × Int)} (h : HoldsK celP 2 w g 0 ss.toArray) (hg : g < w.heap.size) : PairAt w (some ⟨g, 0, none⟩) ss := fun _ => by
 refine ⟨g, 0, rfl, hg, fun i hi => ?_⟩
 have hi' : i < ss.toArray.size := by simpa using hi
 have hget : (ss.toArray)[i]! = ss.getD i (0, 0) := by
  rw [List.getD_eq_getElem?_getD, List.getElem?_eq_getElem hi]
  simp [hi]
 have c0 := (h.cell hi' (c := 0) (by omega)).1
 have c1 := (h.cell hi' (c := 1) (by omega)).1
 rw [hget] at c0 c1
 exact ⟨c0, c1⟩
theorem sortK_below {α : Type} [Inhabited α] {enc : α → List Value} {k : Nat} {w : World} {blk off n : Nat} {d : Array α} {os : Array Obj} {B : Nat} (hB : B ≤ blk) (hs : B ≤ w.heap.size) : Below B w (sortWorldK enc k w blk off n d os) := by
 unfold sortWorldK putRowK
 have h1 : Below B w (putRow id (Sort.ahead w n) blk off (flatK enc k d)) := by
  refine ⟨rfl, rfl, rfl, by rw [size_putRow]; exact Nat.le_refl _, fun k hk => ?_⟩
  show (w.heap.modify blk _)[k]? = _
  rw [Array.getElem?_modify, if_neg (by omega)]
 exact h1.trans (Lib.below_grow B _ (by rw [size_putRow]; exact hs) 0 os)
theorem cmpLaysP (blk off size : Nat) (w : World) : CmpLays Tryz.prog 29 #[] celP 2 cmK blk off size w := fun _ _ _ _ x y => ecmp_any x y _
def AscP (K : List (Int × Int)) : Prop := K.Pairwise ltK
theorem sort_ascP {ss : List (Int × Int)} (h : ss.Nodup) : AscP (ss.mergeSort fun x y => !ltOf cmK y x) := by
 have hp := List.mergeSort_perm ss fun x y => !ltOf cmK y x
 have h1 := List.pairwise_mergeSort (le := fun x y => !ltOf cmK y x) (fun a b c h1 h2 => by
  simp only [Bool.not_eq_true', ltOf_cmK, decide_eq_false_iff_not] at *
  unfold ltK at *; omega) (fun a b => by
  simp only [ltOf_cmK, Bool.or_eq_true, Bool.not_eq_true', decide_eq_false_iff_not]
  unfold ltK; omega) ss
 have h2 : (ss.mergeSort fun x y => !ltOf cmK y x).Nodup := hp.nodup_iff.2 h
 refine (List.Pairwise.and h1 h2).imp fun {a b} hab => ?_
 obtain ⟨h3, h4⟩ := hab
 simp only [Bool.not_eq_true', ltOf_cmK, decide_eq_false_iff_not] at h3
 rcases Decidable.em (ltK a b) with h5 | h5
 ·exact h5
 ·exact absurd (ltK_tri h5 h3) h4
set_option maxRecDepth 100000 in
set_option maxHeartbeats 4000000 in
theorem sortedP_any (b n : Nat) (f : Int × Int → Option Int) (w : World) (h : MapP w b n f) (hn : n ≤ 1000000) :
  Calls Tryz.prog 27 #[.func (.func 45) #[] #[.pointer (some ⟨w.heap.size, 0, none⟩)], .func (.func 29) #[] #[]] (w.alloc (.cells #[.map (some b)] 65)) fun e w' => ∃ (A : Option Addr) (c : Nat) (K : List (Int × Int)), e = .returned (.slice A K.length c) ∧ PairAt w' A K ∧ AscP K ∧ (∀ k, k ∈ K ↔ (f k).isSome = true) ∧ K.length ≤ n ∧ Below w.heap.size w w' := by
 obtain ⟨D, hown, hD, hok⟩ := h
 have hbl := hown.lt
 have hszD : Maps.size D ≤ n := hown.size_le
 have hown1 : (w.alloc (.cells #[.map (some b)] 65)).ownsMap Tryz.prog 38 heldP b n D := hown.alloc _
 have hseq : SeqGives Fence.wide 2 Tryz.prog 45 #[.pointer (some ⟨w.heap.size, 0, none⟩)] pairV (fun ss => CollP D (fun _ => false) ss) (Maps.size D) (w.alloc (.cells #[.map (some b)] 65)) :=
  pkeys_gives 2 (by omega) w.heap.size b n D _ (by simp) (by simp) hown1
 have eg := enters_of Tryz.func45 (by kernel_rfl) rfl
 have ec := enters_of Tryz.func29 (by kernel_rfl) rfl
 have cC := (callsIn_wide (n := 4)).1 (pCollect 4 (by omega) _ _ eg _ _ (by omega : Maps.size D ≤ 1000000) _ hseq.bounded)
 have cS0 := fun W => AnyF.slices_SortFunc_none { Tryz.sortf44 with } none 0 (.func (.func 29) #[] #[]) W
 have cS := fun (blk cap : Nat) (d : Array (Int × Int)) (W : World) (hH : HoldsK celP 2 W blk 0 d) (hb : blk < W.heap.size) (hs : d.size < 4611686018427387904) =>
  AnyQ.slices_SortFunc_total Tryz.sortf44 2 Tryz.isAgg38 Tryz.sizeOf38 celP (fun _ => rfl) (fun x v hv => by simp [celP] at hv; rcases hv with rfl | rfl <;> rfl) cmK cmK_swo 29 #[] blk 0 cap d W ec (cmpLaysP blk 0 d.size W) hH hb hs cmK_tot
 change ∀ W, Calls Tryz.prog 44 _ _ _ at cS0
 change ∀ (blk cap : Nat) (d : Array (Int × Int)) (W : World) (hH : HoldsK celP 2 W blk 0 d) (hb : blk < W.heap.size) (hs : d.size < 4611686018427387904), Calls Tryz.prog 44 _ _ _ at cS
 have HD := Lib.hid hD
 have HOK := Lib.hid hok
 have HC := Lib.hid cC
 have HS0 := Lib.hid cS0
 have HS := Lib.hid cS
 have hB0 := Lib.hid (below_alloc_new (w := w) (.cells #[.map (some b)] 65))
 generalize hw1 : w.alloc (.cells #[.map (some b)] 65) = w1 at *
 have hs1 : w1.heap.size = w.heap.size + 1 := by rw [← hw1]; simp
 have HS1 := Lib.hid hs1
 clear hD hok cC cS0 cS hown hown1 hseq hw1 hs1
 generalize w.heap.size = s0 at *
 go_enter Tryz.func27, Tryz.ntmps27
 go_wp2_with (go_at_call 43; refine HC.out.mono ?_; rintro e w2 ⟨v, ss, rfl, ⟨hS, hlen⟩, hrow, hb2⟩)
 have hmem : ∀ k, k ∈ ss ↔ (f k).isSome = true := fun k => by
  rw [hS.2 k]
  constructor
  ·rintro ⟨h1, h2, _⟩
   rw [← (HD.out k h1).1]; exact h2
  ·intro h1
   have h2 := HOK.out k h1
   exact ⟨h2, by rw [(HD.out k h2).1]; exact h1, rfl⟩
 have hle : ss.length ≤ n := Nat.le_trans hlen hszD
 have hB2 : Below s0 w w2 := hB0.out.trans (hb2.mono (by have := HS1.out; omega))
 have HM := Lib.hid hmem
 have HSS := Lib.hid hS
 have HLE := Lib.hid hle
 have HR := Lib.hid hrow
 have HB2 := Lib.hid hB2
 have hs0l : s0 ≤ w2.heap.size := by have := hb2.size; have := HS1.out; omega
 have HSL := Lib.hid hs0l
 have hbase := Lib.hid (show s0 ≤ w1.heap.size by have := HS1.out; omega)
 clear hmem hS hle hB2 hb2 hlen hs0l
 rcases hrow.2 with ⟨rfl, hz⟩ | ⟨gb, cap, cur, rfl, hbg, hgb, r1, r2, r3, r4⟩
 ·obtain rfl : ss = [] := List.eq_nil_of_length_eq_zero hz
  clear hrow
  go_wp2_with (go_at_call 44; refine (HS0.out _).mono ?_; rintro e w3 ⟨rfl, rfl⟩)
  go_ret
  exact ⟨none, 0, [], rfl, fun h => absurd h (by simp), List.Pairwise.nil, HM.out, by simp, HB2.out⟩
 ·have hgl : gb < w2.heap.size := (Array.getElem?_eq_some_iff.1 hgb).1
  have hH := holdsP hgb r4
  have hsz : ss.toArray.size < 4611686018427387904 := by have := HLE.out; simp; omega
  have hlen : (ss.toArray.size : Nat) = ss.length := by simp
  have c1 := HS.out gb cap ss.toArray w2 hH hgl hsz
  rw [hlen] at c1
  have HC1 := Lib.hid c1
  have HH := Lib.hid hH
  have HGL := Lib.hid hgl
  have HBG := Lib.hid hbg
  clear hrow c1 hsz hlen hH r1 r2 r3 r4 hgb hgl hbg
  go_wp2_with (go_at_call 44; refine HC1.out.mono ?_; rintro e w3 ⟨rfl, nn, os, rfl⟩)
  go_ret
  have hlm : (ss.mergeSort fun x y => !ltOf cmK y x).length = ss.length := List.length_mergeSort _
  have hhold : HoldsK celP 2 (sortWorldK celP 2 w2 gb 0 nn (ss.mergeSort fun x y => !ltOf cmK y x).toArray os) gb 0 (ss.mergeSort fun x y => !ltOf cmK y x).toArray := by
   unfold sortWorldK
   refine holdsK_grow celP 2 _ os gb 0 _ (by unfold putRowK; rw [size_putRow]; exact HGL.out) ?_
   exact holdsK_putRowK celP 2 _ gb 0 ss.toArray _ (holdsK_ahead celP 2 w2 nn gb 0 _ HH.out) (by simp)
  have hsb : Below s0 w2 (sortWorldK celP 2 w2 gb 0 nn (ss.mergeSort fun x y => !ltOf cmK y x).toArray os) := sortK_below (Nat.le_trans hbase.out HBG.out) HSL.out
  refine ⟨some ⟨gb, 0, none⟩, cap, ss.mergeSort fun x y => !ltOf cmK y x, by rw [hlm]; rfl, pairs_of_holds hhold (Nat.lt_of_lt_of_le HGL.out ?_), sort_ascP HSS.out.1, fun k => ?_, by rw [hlm]; exact HLE.out, HB2.out.trans hsb⟩
  ·unfold sortWorldK putRowK
   have h1 := (Lib.below_grow 0 (putRow id (Sort.ahead w2 nn) gb 0 (flatK celP 2 (ss.mergeSort fun x y => !ltOf cmK y x).toArray)) (Nat.zero_le _) 0 os).size
   rw [size_putRow] at h1
   exact h1
  ·rw [(List.mergeSort_perm ss _).mem_iff]; exact HM.out k
open Go.RowKit Go.Maps
def nrmK (f : Int × Int → Option Int) (K : List (Int × Int)) : List Lnk := K.filterMap fun k => if (f k).getD 0 = 0 then none else some ⟨k.1, (f k).getD 0, k.2⟩
theorem nrmK_snoc (f : Int × Int → Option Int) (K : List (Int × Int)) (k : Int × Int) : nrmK f (K ++ [k]) = if (f k).getD 0 = 0 then nrmK f K else nrmK f K ++ [⟨k.1, (f k).getD 0, k.2⟩] := by
 unfold nrmK
 rw [List.filterMap_append]
 split <;> simp [*]
theorem nrmK_len (f : Int × Int → Option Int) (K : List (Int × Int)) : (nrmK f K).length ≤ K.length := List.length_filterMap_le _ _
theorem isnrm_keys {L : List Lnk} {K : List (Int × Int)} (hK : AscP K) (hm : ∀ k, k ∈ K ↔ (fsum L k).isSome = true) : IsNrm L (nrmK (fsum L) K) := by
 refine ⟨?_, fun l => ?_⟩
 ·refine List.Pairwise.filterMap _ (fun a a' h b hb b' hb' => ?_) hK
  split at hb
  ·cases hb
  ·split at hb'
   ·cases hb'
   ·cases hb; cases hb'; exact h
 ·unfold nrmK
  rw [List.mem_filterMap]
  constructor
  ·rintro ⟨k, hk, he⟩
   split at he
   ·cases he
   ·rename_i h0
    cases he
    rw [fsum_getD] at h0 ⊢
    exact ⟨rfl, h0⟩
  ·rintro ⟨h1, h2⟩
   refine ⟨kOf l, (hm _).2 ?_, ?_⟩
   ·unfold fsum
    split
    ·rfl
    ·rename_i h3
     rw [amtK_none h3, wr_zero] at h1
     exact absurd h1 h2
   ·rw [fsum_getD, if_neg (by rw [← h1]; exact h2), ← h1]
    rfl
theorem ekeys_any (b : Nat) (w : World) : Calls Tryz.prog 28 #[.map (some b)] w fun e w' => e = .returned (.func (.func 45) #[] #[.pointer (some ⟨w.heap.size, 0, none⟩)]) ∧ w' = w.alloc (.cells #[.map (some b)] 65) := by
 go_enter Tryz.func28, Tryz.ntmps28
 go_wp2_with fail
 go_ret
 exact ⟨rfl, rfl⟩
set_option maxRecDepth 100000 in
set_option maxHeartbeats 4000000 in
theorem enorm_any (A : Option Addr) (cp : Nat) (L : List Lnk) (w : World) (hz : LnkAt w A L) (hl : L.length ≤ 1000) (hwf : ∀ l ∈ L, okK (kOf l)) :
    Calls Tryz.prog 13 #[.slice A L.length cp] w fun e w' => ∃ B c N, e = .returned (.slice B N.length c) ∧ LnkAt w' B N ∧ IsNrm L N ∧ N.length ≤ L.length ∧ Below w.heap.size w w' := by
  have HS := Lib.hid (esumsOf_any A cp L w hz hl hwf)
  have HK := Lib.hid (fun (K : List (Int × Int)) h1 h2 => isnrm_keys (L := L) (K := K) h1 h2)
  have hfl : ∀ K : List (Int × Int), AscP K → (∀ k, k ∈ K ↔ (fsum L k).isSome = true) → (nrmK (fsum L) K).length ≤ L.length := fun K h1 h2 => by
    refine Nat.le_trans (nrmK_len _ _) ?_
    have hnd : K.Nodup := h1.imp fun {a b} hab e => by subst e; exact ltK_irrefl _ hab
    have := List.Nodup.length_le_of_subset (l₁ := K) (l₂ := L.map kOf) hnd (fun k hk => by
      have := (h2 k).1 hk
      unfold fsum at this
      split at this
      · assumption
      · cases this)
    rwa [List.length_map] at this
  have HFL := Lib.hid hfl
  have hokf : ∀ k, (fsum L k).isSome = true → okK k := fun k hk => by
    unfold fsum at hk
    split at hk
    · rename_i h
      obtain ⟨l, hl, rfl⟩ := List.mem_map.1 h
      exact hwf l hl
    · cases hk
  have HOF := Lib.hid hokf
  have HKB := Lib.hid ekeys_any
  obtain ⟨i0, hi, hz1, hz2, hz3⟩ := info_parts infoLn
  clear hz hwf hfl hokf
  generalize fsum L = f at *
  obtain ⟨n0, hn0⟩ : ∃ n0, L.length = n0 := ⟨_, rfl⟩
  rw [hn0] at hl HS HFL ⊢
  clear hn0
  go_enter Tryz.func13, Tryz.ntmps13
  go_wp2_with (first
    | (go_at_call 26; refine HS.out.mono ?_; rintro e w1 ⟨b, rfl, hb0, hM, hB1⟩; have HM := Lib.hid hM; have HB1 := Lib.hid hB1; clear hM hB1)
    | (go_at_call 28; refine (HKB.out b w1).mono ?_; rintro e w2 ⟨rfl, hw2⟩; subst hw2)
    | (go_at_call 27; refine (sortedP_any b n0 f w1 HM.out (by omega)).mono ?_; rintro e w3 ⟨AK, ck, K, rfl, hP, hA, hmem, hKl, hB3⟩))
  have HP := Lib.hid hP
  have HA := Lib.hid hA
  have HME := Lib.hid hmem
  have hM3 : MapP w3 b n0 f := HM.out.up hB3
  have HM3 := Lib.hid hM3
  have hB13 : Below w.heap.size w w3 := HB1.out.trans (hB3.mono HB1.out.size)
  have HB3 := Lib.hid hB13
  have HKL := Lib.hid hKl
  obtain ⟨n, hn⟩ : ∃ n, K.length = n := ⟨_, rfl⟩
  rw [hn] at hKl
  have HN := Lib.hid hn
  have hB := Below.refl w3.heap.size w3
  rw [hn]
  clear hP hA hmem hM3 hB13 hB3 HM HB1 hn
  go_loopg [3, 13] n (fun kx s3 s13 wr => ∃ k : Nat, s13 = .int .i64 k ∧ k ≤ n ∧ n - k ≤ kx ∧ Hid (OwnL 45 wr w3.heap.size s3 (nrmK f (K.take k))) ∧ Below w3.heap.size w3 wr)
  case atStart => exact ⟨0, rfl, by omega, by omega, Lib.hid OwnL.nil, hB⟩
  case round =>
    clear hB
    obtain ⟨k, rfl, hk, hkx, HO, hB⟩ := hrel
    by_cases hlt : k < n
    · have hltz : (k : Int) < (n : Int) := by omega
      have hkl : k < K.length := by rw [HN.out]; exact hlt
      obtain ⟨bb, off, rfl, hbw, hcs⟩ := HP.out (by omega)
      obtain ⟨c0, c1⟩ := hcs k hkl
      replace c0 := (hB.cell (p := ⟨bb, off + k * 2, none⟩) hbw).trans c0
      replace c1 := (hB.cell (p := ⟨bb, off + k * 2 + 1, none⟩) hbw).trans c1
      have hmk := (HME.out _).1 (getD_mem_acc (d := ((0, 0) : Int × Int)) hkl)
      have hok := HOF.out _ hmk
      have hst := nrmK_snoc f (K.take k) (K.getD k (0, 0))
      rw [← take_succ_getD (d := ((0, 0) : Int × Int)) hkl] at hst
      generalize K.getD k (0, 0) = q at *
      obtain ⟨q1, q2⟩ := q
      dsimp only at c0 c1 hst
      have hsz : w3.heap.size ≤ wr.heap.size := hB.size
      obtain ⟨wn, hwn⟩ : ∃ wn, wr.alloc (.cells #[.int .i64 q1, .int .i64 q2] 38) = wn := ⟨_, rfl⟩
      have hB1 : Below w3.heap.size w3 wn := by rw [← hwn]; exact hB.alloc hsz _
      have hO1 : OwnL 45 wn w3.heap.size u3 (nrmK f (K.take k)) := by rw [← hwn]; exact HO.out.alloc _
      obtain ⟨d0, d1, dlt⟩ : P2 wn wr.heap.size (q1, q2) := by rw [← hwn]; exact p2_new wr _ (q1, q2)
      dsimp only at d0 d1
      have hM1 := (HM3.out.up hB1).look hok
      obtain ⟨s, hs⟩ : ∃ s, (f (q1, q2)).getD 0 = s := ⟨_, rfl⟩
      rw [hs] at hM1 hst
      by_cases h0 : s = 0
      · subst h0
        rw [if_pos rfl] at hst
        have HO2 : Hid (OwnL 45 wn w3.heap.size u3 (nrmK f (K.take (k + 1)))) := Lib.hid (by rw [hst]; exact hO1)
        have HB2 := Lib.hid hB1
        clear hst hs hB1 hO1 hok hmk hcs
        go_wp2_with fail
        go_roundg (n - (k + 1))
        case measure => omega
        case rel => exact ⟨k + 1, by go_num, by omega, by omega, HO2, HB2.out⟩
      · rw [if_neg h0] at hst
        have hlk : (Instr.lookup 65 (.map (some b)) (.agg #[.int .i64 q1, .int .i64 q2]) false).run Tryz.prog wn.drew = .ok (.int .i64 s) wn.drew := (HM3.out.up hB1).drew.look hok |>.trans (by rw [hs])
        have e0 : wn.drew.cell? ⟨wr.heap.size, 0, none⟩ = some (.int .i64 q1) := d0
        have e1 : wn.drew.cell? ⟨wr.heap.size, 1, none⟩ = some (.int .i64 q2) := d1
        have hlen : (nrmK f (K.take k)).length ≤ 1000 := by
          have h1 := nrmK_len f (K.take k)
          have h2 : (K.take k).length ≤ k := by rw [List.length_take]; omega
          omega
        have HST := Lib.hid hst
        have HLEN := Lib.hid hlen
        have hsn : w3.heap.size ≤ wn.heap.size := hB1.size
        have HB1 := Lib.hid hB1
        have HO1 := Lib.hid hO1
        have hMw := HM3.out
        have hBn := fun o => HB1.out.alloc hsn o
        have hlk2 : ∀ o, (Instr.lookup 65 (.map (some b)) (.agg #[.int .i64 q1, .int .i64 q2]) false).run Tryz.prog ((wn.alloc o).drew) = .ok (.int .i64 s) ((wn.alloc o).drew) := fun o => (hMw.up (hBn o)).drew.look hok |>.trans (by rw [hs])
        have hc2 : ∀ o, (wn.alloc o).drew.cell? ⟨wr.heap.size, 0, none⟩ = some (.int .i64 q1) ∧ (wn.alloc o).drew.cell? ⟨wr.heap.size, 1, none⟩ = some (.int .i64 q2) := fun o => ⟨((below_alloc_new o).cell (p := ⟨wr.heap.size, 0, none⟩) dlt).trans d0, ((below_alloc_new o).cell (p := ⟨wr.heap.size, 1, none⟩) dlt).trans d1⟩
        have HFAR : Hid (some wr.heap.size ≠ u3.ownBlock) := Lib.hid (fun e => by have := (HO.out.lt e.symm).2; omega)
        have HLK2 := Lib.hid hlk2
        have HC2 := Lib.hid hc2
        have HOK := Lib.hid hok
        have HSS := Lib.hid hs
        clear hst hs hB1 hO1 hmk hcs hlen hlk2 hc2 hBn hMw hok
        go_wp2_with fail
        go_region_held_law (fun w' => w'.cell? ⟨wr.heap.size, 0, none⟩ = some (.int .i64 q1) ∧ w'.cell? ⟨wr.heap.size, 1, none⟩ = some (.int .i64 q2)) (first | exact hS5 | exact ⟨e0, e1⟩ | exact HC2.out _ | go_keep)
          (first
            | (refine step_app_lines rfl (.tmp 21) (.tmp 30) 30 rfl w3.heap.size 45 i0 24 Tryz.underlying30 hi hz1 hz2 hz3 (by omega) u3 (nrmK f (K.take k)) rfl (HO1.out.alloc _) (some ⟨wn.heap.size, 0, none⟩) 1 1 [⟨q1, s, q2⟩] rfl rfl (lnk_one (lb_new wn 45 ⟨q1, s, q2⟩).drew) (by have := HLEN.out; simp; omega) (by simp; omega) ?_
               intro v5 w5 ho5 hg5 hb5
               have hS5 : w5.cell? ⟨wr.heap.size, 0, none⟩ = some (.int .i64 q1) ∧ w5.cell? ⟨wr.heap.size, 1, none⟩ = some (.int .i64 q2) := ⟨hg5.out.cell (HC2.out _).1 HFAR.out, hg5.out.cell (HC2.out _).2 HFAR.out⟩))
        all_goals
          have HO5 : Hid (OwnL 45 w5 w3.heap.size v5 (nrmK f (K.take (k + 1)))) := Lib.hid (by rw [HST.out]; exact ho5.out)
          have HB5 : Hid (Below w3.heap.size w3 w5) := Lib.hid ((dc_drew (HB1.out.alloc hsn _)).trans hb5)
          clear ho5 hg5 hb5 HO1 HST
          go_wp2_with fail
          go_roundg (n - (k + 1))
          case measure => omega
          case rel => exact ⟨k + 1, by go_num, by omega, by omega, HO5, HB5.out⟩
    · obtain rfl : k = n := by omega
      have hltz : ¬ (k : Int) < (k : Int) := by omega
      have hO9 := HO.out
      have h1 : K.take k = K := by rw [← HN.out, List.take_length]
      rw [h1] at hO9
      obtain ⟨B, c, rfl, hat⟩ := hO9.reads
      have HAT := Lib.hid hat
      clear hat hO9 HO h1
      go_wp2_with fail
      go_ret
      exact ⟨B, c, _, rfl, HAT.out, HK.out K HA.out HME.out, HFL.out K HA.out HME.out, HB3.out.trans (hB.mono HB3.out.size)⟩
open Go.RowKit
instance (a b : Lnk) : Decidable (a = b) :=
 if h : a.frm = b.frm ∧ a.tgt = b.tgt ∧ a.since = b.since then .isTrue (by cases a; cases b; simp at h; obtain ⟨rfl, rfl, rfl⟩ := h; rfl) else .isFalse (fun e => h (by subst e; exact ⟨rfl, rfl, rfl⟩))
set_option maxRecDepth 20000 in
set_option maxHeartbeats 1600000 in
theorem rsamel_any (A B : Option Addr) (c d : Nat) (zs ys : List Lnk) (w : World) (hz : LnkAt w A zs) (hy : LnkAt w B ys) (hl : zs.length ≤ 100000) (hl2 : ys.length ≤ 100000) :
  Calls Tryz.prog 14 #[.slice A zs.length c, .slice B ys.length d] w fun e w' => e = .returned (.bool (decide (zs = ys))) ∧ Below w.heap.size w w' := by
 have hB := Below.refl w.heap.size w
 obtain ⟨n, hn⟩ : ∃ n, zs.length = n := ⟨_, rfl⟩
 obtain ⟨m, hm⟩ : ∃ m, ys.length = m := ⟨_, rfl⟩
 rw [hn] at hl ⊢
 rw [hm] at hl2 ⊢
 by_cases hnm : n = m
 ·subst hnm
  have HN := Lib.hid hn
  have HM := Lib.hid hm
  have HZ := Lib.hid hz
  have HY := Lib.hid hy
  clear hn hm hz hy
  have hnn : ((n : Int) != (n : Int)) = false := by simp
  go_enter Tryz.func14, Tryz.ntmps14
  go_wp2_with fail
  go_loopg [5] n (fun kx s5 wr => ∃ k : Nat, s5 = .int .i64 k ∧ k ≤ n ∧ n - k ≤ kx ∧ Hid (zs.take k = ys.take k) ∧ Below w.heap.size w wr)
  case atStart => exact ⟨0, rfl, by omega, by omega, Lib.hid (by simp), hB⟩
  case round =>
   clear hB
   obtain ⟨k, rfl, hk, hkx, HT, hB⟩ := hrel
   by_cases hlt : k < n
   ·have hltz : (k : Int) < (n : Int) := by omega
    obtain ⟨b, off, rfl, hbw, hcs⟩ := HZ.out (by rw [HN.out]; omega)
    obtain ⟨b2, off2, rfl, hbw2, hcs2⟩ := HY.out (by rw [HM.out]; omega)
    obtain ⟨c0, c1, c2⟩ := (hcs k (by rw [HN.out]; exact hlt)).up hB hbw
    obtain ⟨d0, d1, d2⟩ := (hcs2 k (by rw [HM.out]; exact hlt)).up hB hbw2
    have ht1 := take_succ_getD (d := lnk0) (L := zs) (i := k) (by rw [HN.out]; exact hlt)
    have ht2 := take_succ_getD (d := lnk0) (L := ys) (i := k) (by rw [HM.out]; exact hlt)
    generalize zs.getD k lnk0 = x at *
    generalize ys.getD k lnk0 = y at *
    by_cases hxy : x = y
    ·subst hxy
     have HT2 : Hid (zs.take (k + 1) = ys.take (k + 1)) := Lib.hid (by rw [ht1, ht2, HT.out])
     clear ht1 ht2 hcs hcs2
     go_wp2_with fail
     go_quiet (fail)
     replace hB := below_drewN hB nq
     generalize World.drewN _ nq = W1 at *
     go_wp2_with fail
     go_roundg (n - (k + 1))
     case measure => omega
     case rel => exact ⟨k + 1, by go_num, by omega, by omega, HT2, hB⟩
    ·have hno : Hid (decide (zs = ys) = false) := Lib.hid (decide_eq_false fun e => by
      rw [e, ht2] at ht1
      have := List.append_cancel_left ht1
      simp at this; exact hxy this.symm)
     have hne : x.frm ≠ y.frm ∨ (x.frm = y.frm ∧ x.tgt ≠ y.tgt) ∨ (x.frm = y.frm ∧ x.tgt = y.tgt ∧ x.since ≠ y.since) := by
      by_cases h1 : x.frm = y.frm
      ·by_cases h2 : x.tgt = y.tgt
       ·exact .inr (.inr ⟨h1, h2, fun h3 => hxy (by cases x; cases y; simp at h1 h2 h3; rw [h1, h2, h3])⟩)
       ·exact .inr (.inl ⟨h1, h2⟩)
      ·exact .inl h1
     clear ht1 ht2 hcs hcs2 hxy
     rcases hne with h1 | ⟨h1, h2⟩ | ⟨h1, h2, h3⟩
     ·have q1 : (x.frm == y.frm) = false := by simp [h1]
      clear h1
      go_wp2_with fail
      go_quiet (fail)
      replace hB := below_drewN hB nq
      generalize World.drewN _ nq = W1 at *
      go_wp2_with fail
      go_ret
      exact ⟨by rw [hno.out]; rfl, hB⟩
     ·have q1 : (x.frm == y.frm) = true := by simp [h1]
      have q2 : (x.tgt == y.tgt) = false := by simp [h2]
      clear h1 h2
      go_wp2_with fail
      go_quiet (fail)
      replace hB := below_drewN hB nq
      generalize World.drewN _ nq = W1 at *
      go_wp2_with fail
      go_ret
      exact ⟨by rw [hno.out]; rfl, hB⟩
     ·have q1 : (x.frm == y.frm) = true := by simp [h1]
      have q2 : (x.tgt == y.tgt) = true := by simp [h2]
      have q3 : (x.since == y.since) = false := by simp [h3]
      clear h1 h2 h3
      go_wp2_with fail
      go_quiet (fail)
      replace hB := below_drewN hB nq
      generalize World.drewN _ nq = W1 at *
      go_wp2_with fail
      go_ret
      exact ⟨by rw [hno.out]; rfl, hB⟩
   ·obtain rfl : k = n := by omega
    have hltz : ¬ (k : Int) < (k : Int) := by omega
    have hyes : Hid (decide (zs = ys) = true) := Lib.hid (decide_eq_true (by have h := HT.out; rwa [List.take_of_length_le (by rw [HN.out]; omega), List.take_of_length_le (by rw [HM.out]; omega)] at h))
    go_wp2_with fail
    go_ret
    exact ⟨by rw [hyes.out]; rfl, hB⟩
 ·have hno : Hid (decide (zs = ys) = false) := Lib.hid (decide_eq_false fun e => hnm (by rw [← hn, ← hm, e]))
  have hnn : ((n : Int) != (m : Int)) = true := by simp; omega
  clear hn hm hz hy
  go_enter Tryz.func14, Tryz.ntmps14
  go_wp2_with fail
  go_ret
  exact ⟨by rw [hno.out]; rfl, hB⟩
def smL (l : Lnk) : Bool := decide (l.tgt ≤ 1125899906842624) && decide (-1125899906842624 ≤ l.tgt)
def smLB (L : List Lnk) : Bool := L.all smL && decide (L.length ≤ 100)
set_option maxRecDepth 20000 in
set_option maxHeartbeats 1600000 in
theorem esmall_any (A : Option Addr) (cp : Nat) (L : List Lnk) (w : World) (hz : LnkAt w A L) (hl : L.length ≤ 9223372036854775807) :
  Calls Tryz.prog 7 #[.slice A L.length cp] w fun e w' => e = .returned (.bool (smLB L)) ∧ Below w.heap.size w w' := by
 have hB := Below.refl w.heap.size w
 obtain ⟨n, hn⟩ : ∃ n, L.length = n := ⟨_, rfl⟩
 rw [hn] at hl ⊢
 have HN := Lib.hid hn
 have HZ := Lib.hid hz
 clear hn hz
 go_enter Tryz.func7, Tryz.ntmps7
 go_wp2_with fail
 go_loopg [3] n (fun kx s3 wr => ∃ k : Nat, s3 = .int .i64 k ∧ k ≤ n ∧ n - k ≤ kx ∧ Hid ((L.take k).all smL = true) ∧ Below w.heap.size w wr)
 case atStart => exact ⟨0, rfl, by omega, by omega, Lib.hid rfl, hB⟩
 case round =>
  clear hB
  obtain ⟨k, rfl, hk, hkx, HT, hB⟩ := hrel
  by_cases hlt : k < n
  ·have hltz : (k : Int) < (n : Int) := by omega
   obtain ⟨bb, off, rfl, hbw, hcs⟩ := HZ.out (by rw [HN.out]; omega)
   obtain ⟨c0, c1, c2⟩ := (hcs k (by rw [HN.out]; exact hlt)).up hB hbw
   have hkl : k < L.length := by rw [HN.out]; exact hlt
   have hst : (L.take (k + 1)).all smL = smL (L.getD k lnk0) := by
    rw [take_succ_getD (d := lnk0) hkl, List.all_append, HT.out, List.all_cons, List.all_nil, Bool.true_and, Bool.and_true]
   have hno : smL (L.getD k lnk0) = false → smLB L = false := fun h => by
    unfold smLB
    have : L.all smL = false := by
     rw [List.all_eq_false]
     exact ⟨_, getD_mem_acc hkl, by rw [h]; simp⟩
    rw [this]; rfl
   generalize L.getD k lnk0 = x at *
   have hsx : smL x = (decide (x.tgt ≤ 1125899906842624) && decide (-1125899906842624 ≤ x.tgt)) := rfl
   have HNO := Lib.hid hno
   have HST := Lib.hid hst
   clear hcs hst hno
   rcases Int.lt_or_le 1125899906842624 x.tgt with h1 | h1
   ·have E : Hid (smLB L = false) := Lib.hid (HNO.out (by rw [hsx, decide_eq_false (by omega)]; rfl))
    have e1 : decide (x.tgt ≤ 1125899906842624) = false := decide_eq_false (by omega)
    clear hsx
    go_wp2_with fail
    go_ret
    exact ⟨by rw [E.out]; rfl, hB⟩
   ·have e1 : decide (x.tgt ≤ 1125899906842624) = true := decide_eq_true h1
    have e9 : ¬ (1125899906842624 : Int) < x.tgt := by omega
    rcases Int.lt_or_le x.tgt (-1125899906842624) with h2 | h2
    ·have E : Hid (smLB L = false) := Lib.hid (HNO.out (by rw [hsx, e1, decide_eq_false (by omega)]; rfl))
     have e2 : decide (-1125899906842624 ≤ x.tgt) = false := decide_eq_false (by omega)
     clear hsx
     go_wp2_with fail
     go_ret
     exact ⟨by rw [E.out]; rfl, hB⟩
    ·have HT2 : Hid ((L.take (k + 1)).all smL = true) := Lib.hid (by rw [HST.out, hsx, e1, decide_eq_true h2]; rfl)
     have e2 : decide (-1125899906842624 ≤ x.tgt) = true := decide_eq_true h2
     have e8 : ¬ x.tgt < (-1125899906842624 : Int) := by omega
     clear hsx
     go_wp2_with fail
     go_roundg (n - (k + 1))
     case measure => omega
     case rel => exact ⟨k + 1, by go_num, by omega, by omega, HT2, hB⟩
  ·obtain rfl : k = n := by omega
   have hltz : ¬ (k : Int) < (k : Int) := by omega
   have E : Hid (smLB L = decide ((k : Int) ≤ 100)) := Lib.hid (by
    have h1 : L.take k = L := by rw [← HN.out, List.take_length]
    have h2 := HT.out
    rw [h1] at h2
    unfold smLB
    rw [h2, HN.out, Bool.true_and]
    exact decide_eq_decide.2 (by omega))
   go_wp2_with fail
   go_ret
   exact ⟨by rw [E.out]; rfl, hB⟩
end Go.Proofs.YtfombohomebokaaGreat
