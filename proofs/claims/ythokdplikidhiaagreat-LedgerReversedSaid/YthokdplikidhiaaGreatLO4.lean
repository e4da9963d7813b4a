/- Contracts of the functions that the statements reach, part 4: what was proved of each, callees first. -/
import Derived.Deep.RegionHeldLaw
import Derived.BigRegion
import Derived.Laws.Tables
import Derived.BigQuiet
import Derived.Laws.Rows
import Derived.WalkSpells
import Derived.Lib.SliceRun
import Derived.Test.YthokdplikidhiaaGreatLO3
namespace Go.Proofs.YthokdplikidhiaaGreat
open Go.RowKit
def entIn (g : Grp) (i : Int) : Bool := decide (0 ≤ i) && decide (i < g.m)
def orgB (kind of_ : Int) : Bool := if kind = 1 ∨ kind = 2 then decide (of_ = 0) else if kind = 3 then decide (1 ≤ of_) else false
def ptB (g : Grp) (e p : Int) : Bool := decide (p = -1) || (entIn g p && !decide (p = e))
set_option maxRecDepth 100000 in
set_option maxHeartbeats 1600000 in
theorem gisent_any (g : Grp) (x : Ety) (V : Value) (hV : V = cdV g x) (i : Int) (w : World) : Calls Tryz.prog 169 #[V, .int .i64 i] w fun e w' => e = .returned (.bool (entIn g i)) ∧ Below w.heap.size w w' := by
 have HV := Lib.hid hV
 have c20e : (cdC g x)[20]? = some (.slice g.E g.m g.d) := rfl
 have HC := Lib.hid c20e
 clear hV c20e
 unfold entIn
 rcases Int.lt_or_le i 0 with h1 | h1
 ·have e1 : decide (0 ≤ i) = false := decide_eq_false (by omega)
  rw [e1, Bool.false_and]
  go_enter Tryz.func169, Tryz.ntmps169
  go_wp2_with (refine wpList_box_rg rfl 174 (.tmp 0) rfl V rfl (cdC g x) HV.out ?_; intro b W hR hB; have c20 := hR.out.cell 20 _ HC.out)
  go_ret
  exact ⟨by first | rfl | simp, hB.out⟩
 ·have e1 : decide (0 ≤ i) = true := decide_eq_true h1
  rcases Int.lt_or_le i g.m with h2 | h2
  ·have e2 : decide (i < g.m) = true := decide_eq_true h2
   rw [e1, e2, Bool.true_and]
   go_enter Tryz.func169, Tryz.ntmps169
   go_wp2_with (refine wpList_box_rg rfl 174 (.tmp 0) rfl V rfl (cdC g x) HV.out ?_; intro b W hR hB; have c20 := hR.out.cell 20 _ HC.out)
   go_ret
   exact ⟨by first | rfl | simp, hB.out⟩
  ·have e2 : decide (i < g.m) = false := decide_eq_false (by omega)
   have e3 : ¬ i < g.m := by omega
   rw [e1, e2, Bool.true_and]
   go_enter Tryz.func169, Tryz.ntmps169
   go_wp2_with (refine wpList_box_rg rfl 174 (.tmp 0) rfl V rfl (cdC g x) HV.out ?_; intro b W hR hB; have c20 := hR.out.cell 20 _ HC.out)
   go_ret
   exact ⟨by first | rfl | simp, hB.out⟩
theorem cd_load {w : World} {b : Nat} {g : Grp} {x : Ety} {V : Value} (h : Rg w b (cdC g x)) (hV : V = cdV g x) : (Instr.loadAt 174 (.pointer (some ⟨b, 0, none⟩))).run Tryz.prog w = .ok V w := by
 rw [hV]
 exact h.load 0 174 (cdC g x) rfl _ Tryz.underlying174 rfl (by kernel_rfl)
theorem cd_grp {w : World} {b : Nat} {g : Grp} {x : Ety} {V : Value} (h : Rg w b (cdC g x)) (hV : V = grpV g) : (Instr.loadAt 29 (.pointer (some ⟨b, 0, none⟩))).run Tryz.prog w = .ok V w := by
 rw [hV, grpV_is]
 exact h.load 0 29 (grpC g) rfl _ Tryz.underlying29 rfl (by kernel_rfl)
theorem cd_cal {w : World} {b : Nat} {g : Grp} {x : Ety} (h : Rg w b (cdC g x)) : (Instr.loadAt 23 (.pointer (some ⟨b, 1, none⟩))).run Tryz.prog w = .ok (.agg #[.int .i64 g.cy, .int .i64 g.cm, .int .i64 g.cp]) w :=
 h.load 1 23 [.int .i64 g.cy, .int .i64 g.cm, .int .i64 g.cp] rfl _ Tryz.underlying23 rfl (by kernel_rfl)
theorem cd_ety {w : World} {b : Nat} {g : Grp} {x : Ety} (h : Rg w b (cdC g x)) : (Instr.loadAt 46 (.pointer (some ⟨b, 21, none⟩))).run Tryz.prog w = .ok (etyV x) w :=
 h.load 21 46 (etyC x) rfl _ Tryz.underlying46 rfl (by kernel_rfl)
theorem cd_open (g : Grp) (x : Ety) (w : World) : ∃ cs : Array Value, cdV g x = .agg cs ∧ (cdC g x).toArray = cs ∧ Hid (Rg (w.alloc (.cells cs 174)) w.heap.size (cdC g x)) ∧ Hid (Below w.heap.size w (w.alloc (.cells cs 174))) :=
 ⟨_, rfl, rfl, Lib.hid (rg_new w _ _), Lib.hid (below_alloc_new _)⟩
set_option maxRecDepth 100000 in
set_option maxHeartbeats 1600000 in
theorem gispart_any (g : Grp) (x : Ety) (V : Value) (hV : V = cdV g x) (p : Int) (w : World) : Calls Tryz.prog 172 #[V, .int .i64 p] w fun e w' => e = .returned (.bool (ptB g x.ent p)) ∧ Below w.heap.size w w' := by
 have HQ := Lib.hid (fun W => gisent_any g x V hV p W)
 obtain ⟨cs, h1, -, hR, hB⟩ := cd_open g x w
 rw [h1] at hV
 have c22 := hR.out.cell 22 _ rfl
 have HL := Lib.hid (cd_load hR.out h1.symm)
 subst hV
 clear h1
 unfold ptB
 by_cases h1 : p = -1
 ·subst h1
  have e1 : decide ((-1 : Int) = -1) = true := by decide
  rw [e1, Bool.true_or]
  go_enter Tryz.func172, Tryz.ntmps172
  go_wp2_with fail
  go_ret
  exact ⟨by first | rfl | simp, hB.out⟩
 ·have e1 : decide (p = -1) = false := decide_eq_false h1
  have e2 : (p == -1) = false := by simp [h1]
  rw [e1, Bool.false_or]
  clear h1 e1
  generalize entIn g p = q at *
  cases q
  ·rw [Bool.false_and]
   go_enter Tryz.func172, Tryz.ntmps172
   go_wp2_with (first | (refine wpList_load_if (by rfl) 174 _ rfl (.pointer (some ⟨w.heap.size, 0, none⟩)) rfl (.agg cs) HL.out ?_) | (go_at_call 169; refine (HQ.out _).mono ?_; rintro e w5 ⟨rfl, hb5⟩; have c22b := (hb5.cell (p := ⟨w.heap.size, 22, none⟩) hR.out.lt).trans c22))
   go_ret
   exact ⟨by first | rfl | simp, below_more hB.out hb5⟩
  ·rw [Bool.true_and]
   by_cases h3 : p = x.ent
   ·have e3 : (p == x.ent) = true := by simp [h3]
    have e4 : decide (p = x.ent) = true := decide_eq_true h3
    rw [e4]
    have H3 := Lib.hid h3
    clear h3 e4
    go_enter Tryz.func172, Tryz.ntmps172
    go_wp2_with (first | (refine wpList_load_if (by rfl) 174 _ rfl (.pointer (some ⟨w.heap.size, 0, none⟩)) rfl (.agg cs) HL.out ?_) | (go_at_call 169; refine (HQ.out _).mono ?_; rintro e w5 ⟨rfl, hb5⟩; have c22b := (hb5.cell (p := ⟨w.heap.size, 22, none⟩) hR.out.lt).trans c22))
    go_ret
    exact ⟨by first | rfl | simp [H3.out], below_more hB.out hb5⟩
   ·have e3 : (p == x.ent) = false := by simp [h3]
    have e4 : decide (p = x.ent) = false := decide_eq_false h3
    rw [e4]
    have H3 := Lib.hid h3
    clear h3 e4
    go_enter Tryz.func172, Tryz.ntmps172
    go_wp2_with (first | (refine wpList_load_if (by rfl) 174 _ rfl (.pointer (some ⟨w.heap.size, 0, none⟩)) rfl (.agg cs) HL.out ?_) | (go_at_call 169; refine (HQ.out _).mono ?_; rintro e w5 ⟨rfl, hb5⟩; have c22b := (hb5.cell (p := ⟨w.heap.size, 22, none⟩) hR.out.lt).trans c22))
    go_ret
    exact ⟨by first | rfl | simp [H3.out], below_more hB.out hb5⟩
set_option maxRecDepth 20000 in
set_option maxHeartbeats 1600000 in
theorem gisorg_any (kind of_ : Int) (w : World) : Calls Tryz.prog 170 #[.int .i64 kind, .int .i64 of_] w fun e w' => e = .returned (.bool (orgB kind of_)) ∧ w = w' := by
 unfold orgB
 by_cases h1 : kind = 1
 ·subst h1
  rw [if_pos (.inl rfl)]
  have e9 : (of_ == 0) = decide (of_ = 0) := rfl
  go_enter Tryz.func170, Tryz.ntmps170
  go_wp2_with fail
  go_ret
  exact ⟨by first | rfl | simp [e9], rfl⟩
 ·have e1 : (kind == 1) = false := by simp [h1]
  by_cases h2 : kind = 2
  ·subst h2
   rw [if_pos (.inr rfl)]
   have e9 : (of_ == 0) = decide (of_ = 0) := rfl
   go_enter Tryz.func170, Tryz.ntmps170
   go_wp2_with fail
   go_ret
   exact ⟨by first | rfl | simp [e9], rfl⟩
  ·have e2 : (kind == 2) = false := by simp [h2]
   rw [if_neg (by omega)]
   by_cases h3 : kind = 3
   ·subst h3
    rw [if_pos rfl]
    go_enter Tryz.func170, Tryz.ntmps170
    go_wp2_with fail
    go_ret
    exact ⟨by first | rfl | simp, rfl⟩
   ·have e3 : (kind == 3) = false := by simp [h3]
    rw [if_neg h3]
    go_enter Tryz.func170, Tryz.ntmps170
    go_wp2_with fail
    go_ret
    exact ⟨by first | rfl | simp, rfl⟩
set_option maxRecDepth 100000 in
set_option maxHeartbeats 3200000 in
theorem ghead_any (g : Grp) (x : Ety) (L : List Acc) (G : List Ent) (V : Value) (hV : V = cdV g x) (w : World) (hk : GrK w g L G) (hs : Sm g G) (hw : GrW g L G) : Calls Tryz.prog 156 #[V] w fun e w' => e = .returned (.int .i64 (if (grpP g L G && (decide (1 ≤ x.id) && (entIn g x.ent && orgB x.kind x.of_))) = true then 0 else 1)) ∧ Below w.heap.size w w' := by
 have HQ := Lib.hid (fun W => gisent_any g x V hV x.ent W)
 have HOG := Lib.hid (fun W => gisorg_any x.kind x.of_ W)
 obtain ⟨GV, hGV⟩ : ∃ GV, GV = grpV g := ⟨_, rfl⟩
 have HGV := Lib.hid (fun W (h : GrK W g L G) => gvalid_any g L G W h hs hw)
 rw [← hGV] at HGV
 obtain ⟨cs, h1, -, hR, hB⟩ := cd_open g x w
 rw [h1] at hV
 have HV := Lib.hid h1
 have HLE := Lib.hid (cd_ety hR.out)
 have hR2 := Lib.hid (hR.out.up (below_alloc_new (.cells #[.int .i64 x.id, .int .i64 x.ent, .int .i64 x.day, .int .i64 x.kind, .int .i64 x.of_, .string x.txt, .slice x.A x.n x.c] 46)))
 have hB2 := Lib.hid (below_new hB.out (.cells #[.int .i64 x.id, .int .i64 x.ent, .int .i64 x.day, .int .i64 x.kind, .int .i64 x.of_, .string x.txt, .slice x.A x.n x.c] 46))
 have hS2 : Hid (Rg ((w.alloc (.cells cs 174)).alloc (.cells #[.int .i64 x.id, .int .i64 x.ent, .int .i64 x.day, .int .i64 x.kind, .int .i64 x.of_, .string x.txt, .slice x.A x.n x.c] 46)) (w.heap.size + 1) (etyC x)) := Lib.hid (by
  have h9 := rg_new (w.alloc (.cells cs 174)) 46 (etyC x)
  rw [World.size_alloc] at h9
  exact h9)
 have HLG := Lib.hid (cd_grp hR2.out hGV)
 have HK2 := Lib.hid (hk.up hB2.out)
 subst hV
 clear h1 hGV hk hs hw
 generalize grpP g L G = gp at *
 generalize entIn g x.ent = en at *
 generalize orgB x.kind x.of_ = og at *
 cases gp
 ·rw [Bool.false_and]
  go_enter Tryz.func156, Tryz.ntmps156
  go_wp2_with (first
   | (refine wpList_load_is rfl 46 _ rfl (.pointer (some ⟨w.heap.size, 21, none⟩)) rfl (etyV x) HLE.out ?_)
   | (refine wpList_load_is rfl 29 _ rfl (.pointer (some ⟨w.heap.size, 0, none⟩)) rfl GV HLG.out ?_)
   | (refine wpList_load_if (by rfl) 174 _ rfl (.pointer (some ⟨w.heap.size, 0, none⟩)) rfl (.agg cs) HL5.out ?_)
   | (go_at_call 80; refine (HGV.out _ HK2.out).mono ?_; rintro e w5 ⟨rfl, hb5⟩; have hR5 := hR2.out.up hb5; have hS5 := hS2.out.up hb5; have HB5 := Lib.hid (hB2.out.trans (hb5.mono hB2.out.size)); have HL5 := Lib.hid (cd_load hR5 HV.out.symm); have d0 := hS5.cell 0 _ rfl; have d1 := hS5.cell 1 _ rfl; have d3 := hS5.cell 3 _ rfl; have d4 := hS5.cell 4 _ rfl; have HS5 := Lib.hid hS5; clear hb5 hR5 hS5)
   | (go_at_call 169; refine (HQ.out _).mono ?_; rintro e w6 ⟨rfl, hb6⟩; have hS6 := HS5.out.up hb6; have d3b := hS6.cell 3 _ rfl; have d4b := hS6.cell 4 _ rfl; have HB6 := Lib.hid (below_more HB5.out hb6); clear hb6 hS6)
   | (go_at_call 170; refine (HOG.out _).mono ?_; rintro e w7 ⟨rfl, rfl⟩))
  go_ret
  exact ⟨by first | rfl | simp, HB5.out⟩
 rw [Bool.true_and]
 rcases Int.lt_or_le x.id 1 with h2 | h2
 ·have e2 : decide (1 ≤ x.id) = false := decide_eq_false (by omega)
  have e3 : decide (x.id < 1) = true := decide_eq_true h2
  rw [e2, Bool.false_and]
  go_enter Tryz.func156, Tryz.ntmps156
  go_wp2_with (first
   | (refine wpList_load_is rfl 46 _ rfl (.pointer (some ⟨w.heap.size, 21, none⟩)) rfl (etyV x) HLE.out ?_)
   | (refine wpList_load_is rfl 29 _ rfl (.pointer (some ⟨w.heap.size, 0, none⟩)) rfl GV HLG.out ?_)
   | (refine wpList_load_if (by rfl) 174 _ rfl (.pointer (some ⟨w.heap.size, 0, none⟩)) rfl (.agg cs) HL5.out ?_)
   | (go_at_call 80; refine (HGV.out _ HK2.out).mono ?_; rintro e w5 ⟨rfl, hb5⟩; have hR5 := hR2.out.up hb5; have hS5 := hS2.out.up hb5; have HB5 := Lib.hid (hB2.out.trans (hb5.mono hB2.out.size)); have HL5 := Lib.hid (cd_load hR5 HV.out.symm); have d0 := hS5.cell 0 _ rfl; have d1 := hS5.cell 1 _ rfl; have d3 := hS5.cell 3 _ rfl; have d4 := hS5.cell 4 _ rfl; have HS5 := Lib.hid hS5; clear hb5 hR5 hS5)
   | (go_at_call 169; refine (HQ.out _).mono ?_; rintro e w6 ⟨rfl, hb6⟩; have hS6 := HS5.out.up hb6; have d3b := hS6.cell 3 _ rfl; have d4b := hS6.cell 4 _ rfl; have HB6 := Lib.hid (below_more HB5.out hb6); clear hb6 hS6)
   | (go_at_call 170; refine (HOG.out _).mono ?_; rintro e w7 ⟨rfl, rfl⟩))
  go_ret
  exact ⟨by first | rfl | simp, HB5.out⟩
 have e2 : decide (1 ≤ x.id) = true := decide_eq_true h2
 have e3 : decide (x.id < 1) = false := decide_eq_false (by omega)
 rw [e2, Bool.true_and]
 cases en
 ·rw [Bool.false_and]
  go_enter Tryz.func156, Tryz.ntmps156
  go_wp2_with (first
   | (refine wpList_load_is rfl 46 _ rfl (.pointer (some ⟨w.heap.size, 21, none⟩)) rfl (etyV x) HLE.out ?_)
   | (refine wpList_load_is rfl 29 _ rfl (.pointer (some ⟨w.heap.size, 0, none⟩)) rfl GV HLG.out ?_)
   | (refine wpList_load_if (by rfl) 174 _ rfl (.pointer (some ⟨w.heap.size, 0, none⟩)) rfl (.agg cs) HL5.out ?_)
   | (go_at_call 80; refine (HGV.out _ HK2.out).mono ?_; rintro e w5 ⟨rfl, hb5⟩; have hR5 := hR2.out.up hb5; have hS5 := hS2.out.up hb5; have HB5 := Lib.hid (hB2.out.trans (hb5.mono hB2.out.size)); have HL5 := Lib.hid (cd_load hR5 HV.out.symm); have d0 := hS5.cell 0 _ rfl; have d1 := hS5.cell 1 _ rfl; have d3 := hS5.cell 3 _ rfl; have d4 := hS5.cell 4 _ rfl; have HS5 := Lib.hid hS5; clear hb5 hR5 hS5)
   | (go_at_call 169; refine (HQ.out _).mono ?_; rintro e w6 ⟨rfl, hb6⟩; have hS6 := HS5.out.up hb6; have d3b := hS6.cell 3 _ rfl; have d4b := hS6.cell 4 _ rfl; have HB6 := Lib.hid (below_more HB5.out hb6); clear hb6 hS6)
   | (go_at_call 170; refine (HOG.out _).mono ?_; rintro e w7 ⟨rfl, rfl⟩))
  go_ret
  exact ⟨by first | rfl | simp, HB6.out⟩
 rw [Bool.true_and]
 cases og
 ·go_enter Tryz.func156, Tryz.ntmps156
  go_wp2_with (first
   | (refine wpList_load_is rfl 46 _ rfl (.pointer (some ⟨w.heap.size, 21, none⟩)) rfl (etyV x) HLE.out ?_)
   | (refine wpList_load_is rfl 29 _ rfl (.pointer (some ⟨w.heap.size, 0, none⟩)) rfl GV HLG.out ?_)
   | (refine wpList_load_if (by rfl) 174 _ rfl (.pointer (some ⟨w.heap.size, 0, none⟩)) rfl (.agg cs) HL5.out ?_)
   | (go_at_call 80; refine (HGV.out _ HK2.out).mono ?_; rintro e w5 ⟨rfl, hb5⟩; have hR5 := hR2.out.up hb5; have hS5 := hS2.out.up hb5; have HB5 := Lib.hid (hB2.out.trans (hb5.mono hB2.out.size)); have HL5 := Lib.hid (cd_load hR5 HV.out.symm); have d0 := hS5.cell 0 _ rfl; have d1 := hS5.cell 1 _ rfl; have d3 := hS5.cell 3 _ rfl; have d4 := hS5.cell 4 _ rfl; have HS5 := Lib.hid hS5; clear hb5 hR5 hS5)
   | (go_at_call 169; refine (HQ.out _).mono ?_; rintro e w6 ⟨rfl, hb6⟩; have hS6 := HS5.out.up hb6; have d3b := hS6.cell 3 _ rfl; have d4b := hS6.cell 4 _ rfl; have HB6 := Lib.hid (below_more HB5.out hb6); clear hb6 hS6)
   | (go_at_call 170; refine (HOG.out _).mono ?_; rintro e w7 ⟨rfl, rfl⟩))
  go_ret
  exact ⟨by first | rfl | simp, HB6.out⟩
 ·go_enter Tryz.func156, Tryz.ntmps156
  go_wp2_with (first
   | (refine wpList_load_is rfl 46 _ rfl (.pointer (some ⟨w.heap.size, 21, none⟩)) rfl (etyV x) HLE.out ?_)
   | (refine wpList_load_is rfl 29 _ rfl (.pointer (some ⟨w.heap.size, 0, none⟩)) rfl GV HLG.out ?_)
   | (refine wpList_load_if (by rfl) 174 _ rfl (.pointer (some ⟨w.heap.size, 0, none⟩)) rfl (.agg cs) HL5.out ?_)
   | (go_at_call 80; refine (HGV.out _ HK2.out).mono ?_; rintro e w5 ⟨rfl, hb5⟩; have hR5 := hR2.out.up hb5; have hS5 := hS2.out.up hb5; have HB5 := Lib.hid (hB2.out.trans (hb5.mono hB2.out.size)); have HL5 := Lib.hid (cd_load hR5 HV.out.symm); have d0 := hS5.cell 0 _ rfl; have d1 := hS5.cell 1 _ rfl; have d3 := hS5.cell 3 _ rfl; have d4 := hS5.cell 4 _ rfl; have HS5 := Lib.hid hS5; clear hb5 hR5 hS5)
   | (go_at_call 169; refine (HQ.out _).mono ?_; rintro e w6 ⟨rfl, hb6⟩; have hS6 := HS5.out.up hb6; have d3b := hS6.cell 3 _ rfl; have d4b := hS6.cell 4 _ rfl; have HB6 := Lib.hid (below_more HB5.out hb6); clear hb6 hS6)
   | (go_at_call 170; refine (HOG.out _).mono ?_; rintro e w7 ⟨rfl, rfl⟩))
  go_ret
  exact ⟨by first | rfl | simp, HB6.out⟩
theorem emvalid_any (n : Int) (w : World) : Calls Tryz.prog 171 #[.int .i64 n] w fun e w' => e = .returned (.bool (amtB n)) ∧ w = w' := by
 unfold amtB
 by_cases h1 : (-1000000000000 : Int) ≤ n
 ·by_cases h2 : n ≤ 1000000000000
  ·rw [decide_eq_true h1, decide_eq_true h2]
   go_enter Tryz.func171, Tryz.ntmps171
   go_wp2
   go_ret
   exact ⟨rfl, rfl⟩
  ·rw [decide_eq_true h1, decide_eq_false h2]
   have h3 : decide (n ≤ 1000000000000) = false := decide_eq_false h2
   clear h2
   go_enter Tryz.func171, Tryz.ntmps171
   go_wp2
   go_ret
   exact ⟨rfl, rfl⟩
 ·rw [decide_eq_false h1]
  have h3 : decide ((-1000000000000 : Int) ≤ n) = false := decide_eq_false h1
  clear h1
  go_enter Tryz.func171, Tryz.ntmps171
  go_wp2
  go_ret
  exact ⟨rfl, rfl⟩
def erB (b : Bool) : Int := if b = true then 0 else 1
def prtB (b : UInt8) : Bool := decide (32 ≤ b.toNat) && decide (b.toNat ≤ 126)
def txtB (s : ByteArray) : Bool := decide (s.size ≤ 80) && allC prtB s
theorem txtB_no {s : ByteArray} {k : Nat} (h : k < s.size) (hd : prtB (s[k]'h) = false) : txtB s = false := by
 unfold txtB
 rw [allC_no h hd, Bool.and_false]
set_option maxRecDepth 100000 in
set_option maxHeartbeats 1600000 in
theorem gtext_any (g : Grp) (x : Ety) (V : Value) (hV : V = cdV g x) (w : World) : Calls Tryz.prog 157 #[V] w fun e w' => e = .returned (.int .i64 (erB (txtB x.txt))) ∧ Below w.heap.size w w' := by
 obtain ⟨cs, h1, -, hR, hB⟩ := cd_open g x w
 rw [h1] at hV
 have c26 := hR.out.cell 26 _ rfl
 have hB1 := hB.out
 subst hV
 clear h1 hR hB
 generalize x.txt = s at *
 rcases Nat.lt_or_ge 80 s.size with h80 | h80
 ·have e0 : decide ((80 : Int) < (s.size : Int)) = true := decide_eq_true (by omega)
  have E : Hid (txtB s = false) := Lib.hid (by unfold txtB; rw [decide_eq_false (by omega)]; rfl)
  go_enter Tryz.func157, Tryz.ntmps157
  go_wp2_with fail
  go_ret
  exact ⟨by rw [E.out]; rfl, hB1⟩
 ·have e0 : decide ((80 : Int) < (s.size : Int)) = false := decide_eq_false (by omega)
  go_enter Tryz.func157, Tryz.ntmps157
  go_wp2_with fail
  go_loopg [13] s.size (fun kx sI wr => ∃ i : Nat, sI = .int .i64 i ∧ i ≤ s.size ∧ s.size - i ≤ kx ∧ Hid (∀ j, j < i → (h2 : j < s.size) → prtB (s[j]'h2) = true) ∧ Below w.heap.size w wr)
  case atStart => exact ⟨0, rfl, by omega, by omega, Lib.hid (fun j h => absurd h (by omega)), hB1⟩
  case round =>
   obtain ⟨i, rfl, hi, hix, hd, hBi⟩ := hrel
   by_cases hlt : i < s.size
   ·have hlt' : (i : Int) < (s.size : Int) := by omega
    have hno := fun h => txtB_no (s := s) hlt h
    obtain ⟨b, hb⟩ : ∃ b, s[i]'hlt = b := ⟨_, rfl⟩
    have hcb : ∀ h, s[i]'h = b := fun h => hb
    have hnx : prtB b = true → Hid (∀ j, j < i + 1 → (h2 : j < s.size) → prtB (s[j]'h2) = true) := fun hq => Lib.hid (fun j hj h2 => by
     rcases Nat.lt_or_ge j i with h4 | h4
     ·exact hd.out j h4 h2
     ·obtain rfl : j = i := by omega
      rw [hb]; exact hq)
    rw [hb] at hno
    have hpb : prtB b = (decide (32 ≤ b.toNat) && decide (b.toNat ≤ 126)) := rfl
    clear hb
    rcases Nat.lt_or_ge b.toNat 32 with g1 | g1
    ·have E : Hid (txtB s = false) := Lib.hid (hno (by rw [hpb, decide_eq_false (by omega)]; rfl))
     have e1 : decide ((b.toNat : Int) < 32) = true := decide_eq_true (by omega)
     clear hno hnx hpb g1
     go_wp2_with fail
     go_ret
     exact ⟨by rw [E.out]; rfl, hBi⟩
    ·have e1 : decide ((b.toNat : Int) < 32) = false := decide_eq_false (by omega)
     rcases Nat.lt_or_ge 126 b.toNat with g2 | g2
     ·have E : Hid (txtB s = false) := Lib.hid (hno (by rw [hpb, decide_eq_false (show ¬ b.toNat ≤ 126 by omega), Bool.and_false]))
      have e2 : decide ((126 : Int) < (b.toNat : Int)) = true := decide_eq_true (by omega)
      clear hno hnx hpb g1 g2
      go_wp2_with fail
      go_ret
      exact ⟨by rw [E.out]; rfl, hBi⟩
     ·have e2 : decide ((126 : Int) < (b.toNat : Int)) = false := decide_eq_false (by omega)
      have hd2 := hnx (by rw [hpb, decide_eq_true g1, decide_eq_true g2]; rfl)
      clear hno hnx hpb g1 g2 hd
      go_wp2_with fail
      go_roundg (s.size - (i + 1))
      case measure => omega
      case rel => exact ⟨i + 1, by go_num, by omega, by omega, hd2, hBi⟩
   ·obtain rfl : i = s.size := by omega
    have hlt' : ¬ (s.size : Int) < (s.size : Int) := by omega
    have hall : allC prtB s = true := allC_yes (fun j h2 => hd.out j h2 h2)
    have E : Hid (txtB s = true) := Lib.hid (by unfold txtB; rw [hall, decide_eq_true h80]; rfl)
    clear hall
    go_wp2_with fail
    go_ret
    exact ⟨by rw [E.out]; rfl, hBi⟩
structure EtyK (w : World) (x : Ety) (X : List Lnk) : Prop where
 ln : X.length = x.n
 hz : LnkAt w x.A X
 ok : ∀ l ∈ X, okK (kOf l) ∧ (Lit.int .i64 l.tgt).wf = true
theorem EtyK.up {w w' : World} {x : Ety} {X : List Lnk} (h : EtyK w x X) (hb : Below w.heap.size w w') : EtyK w' x X := ⟨h.ln, h.hz.up hb, h.ok⟩
set_option maxRecDepth 100000 in
set_option maxHeartbeats 1600000 in
theorem gbal_any (g : Grp) (x : Ety) (X : List Lnk) (V : Value) (hV : V = cdV g x) (w : World) (hx : EtyK w x X) (hn : x.n ≤ 1000) : Calls Tryz.prog 161 #[V] w fun e w' => e = .returned (.int .i64 (if wr (sumT X) = 0 then 0 else 11)) ∧ Below w.heap.size w w' := by
 obtain ⟨cs, h1, -, hR, hB⟩ := cd_open g x w
 rw [h1] at hV
 have c27 := hR.out.cell 27 _ rfl
 have HS := Lib.hid (esum_any x.A x.c X _ (hx.hz.up hB.out) (by rw [hx.ln]; exact hn))
 rw [hx.ln] at HS
 subst hV
 clear h1 hR
 generalize wr (sumT X) = s at *
 by_cases h2 : s = 0
 ·subst h2
  rw [if_pos rfl]
  go_enter Tryz.func161, Tryz.ntmps161
  go_wp2_with (go_at_call 174; refine HS.out.mono ?_; rintro e w5 ⟨rfl, hb5⟩)
  go_ret
  exact ⟨by first | rfl | simp, below_more hB.out hb5⟩
 ·have e1 : (s != 0) = true := by simp [h2]
  rw [if_neg h2]
  go_enter Tryz.func161, Tryz.ntmps161
  go_wp2_with (go_at_call 174; refine HS.out.mono ?_; rintro e w5 ⟨rfl, hb5⟩)
  go_ret
  exact ⟨by first | rfl | simp, below_more hB.out hb5⟩
set_option maxRecDepth 100000 in
set_option maxHeartbeats 1600000 in
theorem gdate_any (g : Grp) (x : Ety) (V : Value) (hV : V = cdV g x) (w : World) : Calls Tryz.prog 160 #[V] w fun e w' => e = .returned (.int .i64 (prE g.cy g.cm g.cp x.day)) ∧ Below w.heap.size w w' := by
 obtain ⟨cs, h1, -, hR, hB⟩ := cd_open g x w
 rw [h1] at hV
 have c23 := hR.out.cell 23 _ rfl
 have HL := Lib.hid (cd_cal hR.out)
 have HS := Lib.hid (fun W => cperiod7_any g.cy g.cm g.cp x.day W)
 subst hV
 clear h1 hR
 generalize prE g.cy g.cm g.cp x.day = s at *
 generalize prN g.cy g.cm g.cp x.day = t at *
 go_enter Tryz.func160, Tryz.ntmps160
 go_wp2_with (first
  | (refine wpList_load_is rfl 23 _ rfl (.pointer (some ⟨w.heap.size, 1, none⟩)) rfl (.agg #[.int .i64 g.cy, .int .i64 g.cm, .int .i64 g.cp]) HL.out ?_)
  | (go_at_call 173; refine (HS.out _).mono ?_; rintro e w5 ⟨rfl, hb5⟩))
 go_ret
 exact ⟨by first | rfl | simp, below_more hB.out hb5⟩
def lnB (g : Grp) (e : Int) (l : Lnk) : Bool := !decide (l.tgt = 0) && (amtB l.tgt && ptB g e l.since)
def lsB (g : Grp) (e : Int) (X : List Lnk) : Bool := decide (2 ≤ X.length) && (decide (X.length ≤ 40) && X.all (lnB g e))
def acB (L : List Acc) (X : List Lnk) : Bool := X.all fun l => (fnd L l.frm).isSome
def er17 (b : Bool) : Int := if b = true then 0 else 17
theorem all_no {p : Lnk → Bool} {X : List Lnk} {k : Nat} (h : k < X.length) (hd : p (X.getD k lnk0) = false) : X.all p = false := by
 rw [List.all_eq_false]
 exact ⟨_, getD_mem_acc h, by rw [hd]; simp⟩
set_option maxRecDepth 100000 in
set_option maxHeartbeats 3200000 in
theorem glines_any (g : Grp) (x : Ety) (X : List Lnk) (V : Value) (hV : V = cdV g x) (w : World) (hx : EtyK w x X) (hn : x.n ≤ 1000) : Calls Tryz.prog 158 #[V] w fun e w' => e = .returned (.int .i64 (erB (lsB g x.ent X))) ∧ Below w.heap.size w w' := by
 have HQ := Lib.hid (fun p W => gispart_any g x V hV p W)
 obtain ⟨cs, h1, -, hR, hB⟩ := cd_open g x w
 rw [h1] at hV
 have HV := Lib.hid h1
 have c27 := hR.out.cell 27 _ rfl
 have HZ := Lib.hid (hx.hz.up hB.out)
 have HN := Lib.hid hx.ln
 generalize x.A = XA at c27 HZ
 subst hV
 clear h1 hx
 have hls : lsB g x.ent X = (decide (2 ≤ x.n) && (decide (x.n ≤ 40) && X.all (lnB g x.ent))) := by unfold lsB; rw [HN.out]
 have HLS := Lib.hid hls
 clear hls
 rcases Nat.lt_or_ge x.n 2 with h2 | h2
 ·have e1 : decide ((x.n : Int) < 2) = true := decide_eq_true (by omega)
  have E : Hid (lsB g x.ent X = false) := Lib.hid (by rw [HLS.out, decide_eq_false (by omega)]; rfl)
  generalize lsB g x.ent X = q at *
  go_enter Tryz.func158, Tryz.ntmps158
  go_wp2_with fail
  go_ret
  exact ⟨by rw [E.out]; rfl, hB.out⟩
 have e1 : decide ((x.n : Int) < 2) = false := decide_eq_false (by omega)
 rcases Nat.lt_or_ge 40 x.n with h4 | h4
 ·have e2 : decide ((40 : Int) < (x.n : Int)) = true := decide_eq_true (by omega)
  have E : Hid (lsB g x.ent X = false) := Lib.hid (by rw [HLS.out, decide_eq_true h2, decide_eq_false (by omega)]; rfl)
  generalize lsB g x.ent X = q at *
  go_enter Tryz.func158, Tryz.ntmps158
  go_wp2_with fail
  go_ret
  exact ⟨by rw [E.out]; rfl, hB.out⟩
 have e2 : decide ((40 : Int) < (x.n : Int)) = false := decide_eq_false (by omega)
 have HL2 : Hid (lsB g x.ent X = X.all (lnB g x.ent)) := Lib.hid (by rw [HLS.out, decide_eq_true h2, decide_eq_true h4]; rfl)
 clear HLS
 generalize lsB g x.ent X = q at *
 generalize hW : w.alloc (.cells cs 174) = W0 at *
 have hsW : W0.heap.size = w.heap.size + 1 := by rw [← hW]; simp
 have HSW := Lib.hid hsW
 clear hsW
 go_enter Tryz.func158, Tryz.ntmps158
 go_wp2_with fail
 go_loopg [19] x.n (fun kx s19 wr => ∃ k : Nat, s19 = .int .i64 k ∧ k ≤ x.n ∧ x.n - k ≤ kx ∧ Hid ((X.take k).all (lnB g x.ent) = true) ∧ Below W0.heap.size W0 wr)
 case atStart => exact ⟨0, rfl, by omega, by omega, Lib.hid rfl, Below.refl _ _⟩
 case round =>
  obtain ⟨k, rfl, hk, hkx, HT, hBi⟩ := hrel
  by_cases hlt : k < x.n
  ·have hltz : (k : Int) < (x.n : Int) := by omega
   obtain ⟨bb, off, rfl, hbw, hcs⟩ := HZ.out (by rw [HN.out]; omega)
   have hkl : k < X.length := by rw [HN.out]; exact hlt
   obtain ⟨c0, c1, c2⟩ := (hcs k hkl).up hBi hbw
   have hst : (X.take (k + 1)).all (lnB g x.ent) = lnB g x.ent (X.getD k lnk0) := by
    rw [take_succ_getD (d := lnk0) hkl, List.all_append, HT.out, List.all_cons, List.all_nil, Bool.true_and, Bool.and_true]
   have hno := fun h => all_no (p := lnB g x.ent) hkl h
   generalize X.getD k lnk0 = l at *
   have hln : lnB g x.ent l = (!decide (l.tgt = 0) && (amtB l.tgt && ptB g x.ent l.since)) := rfl
   have HPT := Lib.hid (fun W => HQ.out l.since W)
   have HMV := Lib.hid (fun W => emvalid_any l.tgt W)
   obtain ⟨W1, hW1⟩ : ∃ W1, wr.alloc (.cells #[.int .i64 l.frm, .int .i64 l.tgt, .int .i64 l.since] 59) = W1 := ⟨_, rfl⟩
   have hB1 : Below W0.heap.size W0 W1 := by rw [← hW1]; exact below_new hBi _
   obtain ⟨⟨d0, d1, d2⟩, dlt⟩ : LB W1 wr.heap.size l := by rw [← hW1]; exact lb_new wr _ l
   simp only [Nat.zero_add] at d0 d1 d2
   have HB1 := Lib.hid hB1
   have HL1 := Lib.hid (cd_load (hR.out.up hB1) HV.out.symm)
   have HST := Lib.hid hst
   have HNO := Lib.hid hno
   clear hst hno hcs hBi hB1
   generalize ptB g x.ent l.since = pt at *
   generalize amtB l.tgt = am at *
   by_cases h0 : l.tgt = 0
   ·have e3 : (l.tgt == 0) = true := by simp [h0]
    have E : Hid (q = false) := Lib.hid (by rw [HL2.out]; exact HNO.out (by rw [hln, decide_eq_true h0]; rfl))
    clear h0 hln
    go_wp2_with fail
    go_ret
    exact ⟨by rw [E.out]; rfl, hB.out.trans (HB1.out.mono (by have := HSW.out; omega))⟩
   have e3 : (l.tgt == 0) = false := by simp [h0]
   rw [decide_eq_false h0, Bool.not_false, Bool.true_and] at hln
   clear h0
   cases am
   ·have E : Hid (q = false) := Lib.hid (by rw [HL2.out]; exact HNO.out (by rw [hln]; rfl))
    clear hln
    go_wp2_with (first | (refine wpList_load_if (by rfl) 174 _ rfl (.pointer (some ⟨w.heap.size, 0, none⟩)) rfl (.agg cs) HL1.out ?_) | (go_at_call 171; refine (HMV.out _).mono ?_; rintro e w4 ⟨rfl, rfl⟩) | (go_at_call 172; refine (HPT.out _).mono ?_; rintro e w5 ⟨rfl, hb5⟩; have HB5 := Lib.hid (HB1.out.trans (hb5.mono HB1.out.size)); clear hb5))
    go_ret
    exact ⟨by rw [E.out]; rfl, hB.out.trans (HB1.out.mono (by have := HSW.out; omega))⟩
   rw [Bool.true_and] at hln
   cases pt
   ·have E : Hid (q = false) := Lib.hid (by rw [HL2.out]; exact HNO.out hln)
    clear hln
    go_wp2_with (first | (refine wpList_load_if (by rfl) 174 _ rfl (.pointer (some ⟨w.heap.size, 0, none⟩)) rfl (.agg cs) HL1.out ?_) | (go_at_call 171; refine (HMV.out _).mono ?_; rintro e w4 ⟨rfl, rfl⟩) | (go_at_call 172; refine (HPT.out _).mono ?_; rintro e w5 ⟨rfl, hb5⟩; have HB5 := Lib.hid (HB1.out.trans (hb5.mono HB1.out.size)); clear hb5))
    go_ret
    exact ⟨by rw [E.out]; rfl, hB.out.trans (HB5.out.mono (by have := HSW.out; omega))⟩
   ·have HT2 : Hid ((X.take (k + 1)).all (lnB g x.ent) = true) := Lib.hid (by rw [HST.out]; exact hln)
    clear hln
    go_wp2_with (first | (refine wpList_load_if (by rfl) 174 _ rfl (.pointer (some ⟨w.heap.size, 0, none⟩)) rfl (.agg cs) HL1.out ?_) | (go_at_call 171; refine (HMV.out _).mono ?_; rintro e w4 ⟨rfl, rfl⟩) | (go_at_call 172; refine (HPT.out _).mono ?_; rintro e w5 ⟨rfl, hb5⟩; have HB5 := Lib.hid (HB1.out.trans (hb5.mono HB1.out.size)); clear hb5))
    go_roundg (x.n - (k + 1))
    case measure => omega
    case rel => exact ⟨k + 1, by go_num, by omega, by omega, HT2, HB5.out⟩
  ·obtain rfl : k = x.n := by omega
   have hltz : ¬ (x.n : Int) < (x.n : Int) := by omega
   have E : Hid (q = true) := Lib.hid (by rw [HL2.out]; have h9 := HT.out; rwa [show X.take x.n = X by rw [← HN.out, List.take_length]] at h9)
   go_wp2_with fail
   go_ret
   exact ⟨by rw [E.out]; rfl, hB.out.trans (hBi.mono (by have := HSW.out; omega))⟩
set_option maxRecDepth 100000 in
set_option maxHeartbeats 3200000 in
theorem gaccs_any (g : Grp) (x : Ety) (X : List Lnk) (L : List Acc) (G : List Ent) (V : Value) (hV : V = cdV g x) (w : World) (hk : GrK w g L G) (hs : Sm g G) (hx : EtyK w x X) (hn : x.n ≤ 1000) (he : entIn g x.ent = true) : Calls Tryz.prog 159 #[V] w fun e w' => e = .returned (.int .i64 (er17 (acB (G.getD x.ent.toNat ent0).L X))) ∧ Below w.heap.size w w' := by
 obtain ⟨j, hj⟩ : ∃ j : Nat, x.ent = (j : Int) := ⟨x.ent.toNat, by unfold entIn at he; simp at he; omega⟩
 have hjm : j < g.m := by unfold entIn at he; simp at he; omega
 rw [hj, Int.toNat_natCast]
 obtain ⟨cs, h1, -, hR, hB⟩ := cd_open g x w
 rw [h1] at hV
 have c27 := hR.out.cell 27 _ rfl
 have c22 := hR.out.cell 22 _ rfl
 have c20 := hR.out.cell 20 _ rfl
 rw [hj] at c22
 have hjG : j < G.length := by rw [hk.lg]; exact hjm
 obtain ⟨eb, eoff, hE, hew, he5⟩ := ent_at (hk.he.up hB.out) hjG
 have hmem : G.getD j ent0 ∈ G := getD_mem_acc hjG
 have hek := (hk.hk _ hmem).up hB.out
 have hen := (hs.e _ hmem).1
 generalize G.getD j ent0 = ey at *
 have f2 := he5.c2
 have HZ := Lib.hid (hx.hz.up hB.out)
 have HN := Lib.hid hx.ln
 generalize x.A = XA at c27 HZ
 have HF := Lib.hid (fun c W (h : AccAt W ey.A ey.L) => cfind_any ey.A ey.c ey.L c W h (by rw [hek.ln]; omega))
 rw [hek.ln] at HF
 have HEZ := Lib.hid hek.hz
 subst hV
 have hjz : (j : Int) < (g.m : Int) := by omega
 have hj0 : (0 : Int) ≤ (j : Int) := by omega
 clear h1 hx hR he5 hek hen hmem he hk hs
 rw [hE] at c20
 generalize hW : w.alloc (.cells cs 174) = W0 at *
 have hsW : W0.heap.size = w.heap.size + 1 := by rw [← hW]; simp
 have HSW := Lib.hid hsW
 clear hsW
 go_enter Tryz.func159, Tryz.ntmps159
 go_wp2_with fail
 go_loopg [21] x.n (fun kx s21 wr => ∃ k : Nat, s21 = .int .i64 k ∧ k ≤ x.n ∧ x.n - k ≤ kx ∧ Hid ((X.take k).all (fun l => (fnd ey.L l.frm).isSome) = true) ∧ Below W0.heap.size W0 wr)
 case atStart => exact ⟨0, rfl, by omega, by omega, Lib.hid rfl, Below.refl _ _⟩
 case round =>
  obtain ⟨k, rfl, hk, hkx, HT, hBi⟩ := hrel
  by_cases hlt : k < x.n
  ·have hltz : (k : Int) < (x.n : Int) := by omega
   obtain ⟨bb, off, rfl, hbw, hcs⟩ := HZ.out (by rw [HN.out]; omega)
   have hkl : k < X.length := by rw [HN.out]; exact hlt
   obtain ⟨c0, c1, c2⟩ := (hcs k hkl).up hBi hbw
   have hst : (X.take (k + 1)).all (fun l => (fnd ey.L l.frm).isSome) = (fnd ey.L (X.getD k lnk0).frm).isSome := by
    rw [take_succ_getD (d := lnk0) hkl, List.all_append, HT.out, List.all_cons, List.all_nil, Bool.true_and, Bool.and_true]
   have hno := fun h => all_no (p := fun l => (fnd ey.L l.frm).isSome) hkl h
   generalize X.getD k lnk0 = l at *
   have HFD := Lib.hid (fun W h => HF.out l.frm W h)
   obtain ⟨W1, hW1⟩ : ∃ W1, wr.alloc (.cells #[.int .i64 l.frm, .int .i64 l.tgt, .int .i64 l.since] 59) = W1 := ⟨_, rfl⟩
   have hB1 : Below W0.heap.size W0 W1 := by rw [← hW1]; exact below_new hBi _
   obtain ⟨⟨d0, d1, d2⟩, dlt⟩ : LB W1 wr.heap.size l := by rw [← hW1]; exact lb_new wr _ l
   simp only [Nat.zero_add] at d0 d1 d2
   have HB1 := Lib.hid hB1
   have HEZ1 := Lib.hid (HEZ.out.up hB1)
   have HST := Lib.hid hst
   have HNO := Lib.hid hno
   clear hst hno hcs hBi hB1
   generalize fndA ey.L l.frm = ac at *
   generalize (fnd ey.L l.frm).isSome = fb at *
   cases fb
   ·have E : Hid (acB ey.L X = false) := Lib.hid (HNO.out rfl)
    go_wp2_with (go_at_call 95; refine (HFD.out _ HEZ1.out).mono ?_; rintro e w5 ⟨rfl, hb5⟩; have HB5 := Lib.hid (below_new (HB1.out.trans (hb5.mono HB1.out.size)) (.cells #[.int .i64 ac.code, .int .i64 ac.kind, .int .i64 ac.basis, .int .i64 ac.par] 118)); clear hb5)
    go_ret
    exact ⟨by rw [E.out]; rfl, hB.out.trans (HB5.out.mono (by have := HSW.out; omega))⟩
   ·have HT2 : Hid ((X.take (k + 1)).all (fun l => (fnd ey.L l.frm).isSome) = true) := Lib.hid HST.out
    go_wp2_with (go_at_call 95; refine (HFD.out _ HEZ1.out).mono ?_; rintro e w5 ⟨rfl, hb5⟩; have HB5 := Lib.hid (below_new (HB1.out.trans (hb5.mono HB1.out.size)) (.cells #[.int .i64 ac.code, .int .i64 ac.kind, .int .i64 ac.basis, .int .i64 ac.par] 118)); clear hb5)
    go_roundg (x.n - (k + 1))
    case measure => omega
    case rel => exact ⟨k + 1, by go_num, by omega, by omega, HT2, HB5.out⟩
  ·obtain rfl : k = x.n := by omega
   have hltz : ¬ (x.n : Int) < (x.n : Int) := by omega
   have E : Hid (acB ey.L X = true) := Lib.hid (by have h9 := HT.out; rwa [show X.take x.n = X by rw [← HN.out, List.take_length]] at h9)
   go_wp2_with fail
   go_ret
   exact ⟨by rw [E.out]; rfl, hB.out.trans (hBi.mono (by have := HSW.out; omega))⟩
def enrB (L : List Acc) (R : List Int) (e : Ent) : Bool := nameB e.nm && (curB e.cur && (mvB e.L e.K L && allTo (fun i => opnB R (e.K.getD i lnk0).tgt) e.K.length))
def rowR (L : List Acc) (R : List Int) (i : Nat) : Bool := chkR L R i && dsR R i
def bokR (g : Grp) (L : List Acc) : Bool := curB g.cur && (clV g.cy g.cm g.cp && (vB L true && (allTo (fun i => basB (L.getD i acc0)) L.length && allTo (rowR L g.R) 15)))
def rowX (L : List Acc) (R : List Int) (G : List Ent) (i : Nat) : Bool := dsN G i && enrB L R (G.getD i ent0)
def ensR (L : List Acc) (R : List Int) (G : List Ent) : Bool := decide (1 ≤ G.length) && (decide (G.length ≤ 12) && (!(G.getD 0 ent0).jt && allTo (rowX L R G) G.length))
def grpR (g : Grp) (L : List Acc) (G : List Ent) : Bool := bokR g L && ensR L g.R G
def inB (y m k n : Int) : Bool := decide (pdF y m k 0 ≤ n) && decide (n ≤ pdL y m k (k - 1))
def orgR (kind of_ : Int) : Bool := if kind = 3 then decide (1 ≤ of_) else decide (of_ = 0)
def shpB (gp : Bool) (g : Grp) (x : Ety) (X : List Lnk) : Bool := gp && (decide (1 ≤ x.id) && (decide (0 ≤ x.ent) && (decide (x.ent < g.m) && (decide (1 ≤ x.kind) && (decide (x.kind ≤ 3) && (orgR x.kind x.of_ && (txtB x.txt && (decide (2 ≤ x.n) && (decide (x.n ≤ 40) && X.all (lnB g x.ent))))))))))
set_option maxRecDepth 100000 in
set_option maxHeartbeats 1600000 in
theorem cd_build (g : Grp) (x : Ety) (w : World) : (Instr.build 174 #[(0, grpV g), (1, etyV x)]).run Tryz.prog w = .ok (cdV g x) w := by
 exact run_build w 174 _ _ (by kernel_rfl)
def fst6 (r0 r1 r2 r3 r4 r5 : Int) : Int := if r0 = 0 then (if r1 = 0 then (if r2 = 0 then (if r3 = 0 then (if r4 = 0 then (r5) else r4) else r3) else r2) else r1) else r0
def hdN (g : Grp) (x : Ety) (L : List Acc) (G : List Ent) : Int := if (grpP g L G && (decide (1 ≤ x.id) && (entIn g x.ent && orgB x.kind x.of_))) = true then 0 else 1
def blN (X : List Lnk) : Int := if wr (sumT X) = 0 then 0 else 11
def chkN (g : Grp) (x : Ety) (X : List Lnk) (L : List Acc) (G : List Ent) : Int := fst6 (hdN g x L G) (erB (txtB x.txt)) (erB (lsB g x.ent X)) (er17 (acB (G.getD x.ent.toNat ent0).L X)) (prE g.cy g.cm g.cp x.day) (blN X)
theorem hdN_ent {g : Grp} {x : Ety} {L : List Acc} {G : List Ent} (h : hdN g x L G = 0) : entIn g x.ent = true := by
 unfold hdN at h
 split at h
 ·rename_i h1
  simp only [Bool.and_eq_true] at h1
  exact h1.2.2.1
 ·cases h
theorem echecks_any (w : World) : Calls Tryz.prog 140 #[] w fun e w' => e = .returned (.slice (some ⟨w.heap.size, 0, none⟩) 6 6) ∧ w' = w.alloc (.cells #[.func (.func 156) #[] #[], .func (.func 157) #[] #[], .func (.func 158) #[] #[], .func (.func 159) #[] #[], .func (.func 160) #[] #[], .func (.func 161) #[] #[]] 172) := by
 go_enter Tryz.func140, Tryz.ntmps140
 go_wp2_with fail
 go_ret
 exact ⟨rfl, rfl⟩
set_option maxRecDepth 100000 in
set_option maxHeartbeats 6400000 in
theorem gcheck_any (g : Grp) (x : Ety) (X : List Lnk) (L : List Acc) (G : List Ent) (w : World) (hk : GrK w g L G) (hs : Sm g G) (hw : GrW g L G) (hx : EtyK w x X) (hn : x.n ≤ 1000) : Calls Tryz.prog 120 #[grpV g, etyV x] w fun e w' => e = .returned (.int .i64 (chkN g x X L G)) ∧ Below w.heap.size w w' := by
 obtain ⟨V, hV⟩ : ∃ V, V = cdV g x := ⟨_, rfl⟩
 have H0 := Lib.hid (fun W (h : Below w.heap.size w W) => ghead_any g x L G V hV W (hk.up h) hs hw)
 have H1 := Lib.hid (fun W (_ : Below w.heap.size w W) => gtext_any g x V hV W)
 have H2 := Lib.hid (fun W (h : Below w.heap.size w W) => glines_any g x X V hV W (hx.up h) hn)
 have H3 := Lib.hid (fun he W (h : Below w.heap.size w W) => gaccs_any g x X L G V hV W (hk.up h) hs (hx.up h) hn he)
 have H4 := Lib.hid (fun W (_ : Below w.heap.size w W) => gdate_any g x V hV W)
 have H5 := Lib.hid (fun W (h : Below w.heap.size w W) => gbal_any g x X V hV W (hx.up h) hn)
 have HE := Lib.hid (hdN_ent (g := g) (x := x) (L := L) (G := G))
 have e0 : (if (grpP g L G && (decide (1 ≤ x.id) && (entIn g x.ent && orgB x.kind x.of_))) = true then 0 else 1 : Int) = hdN g x L G := rfl
 have e5 : (if wr (sumT X) = 0 then 0 else 11 : Int) = blN X := rfl
 rw [e0] at H0
 rw [e5] at H5
 have hc : chkN g x X L G = fst6 (hdN g x L G) (erB (txtB x.txt)) (erB (lsB g x.ent X)) (er17 (acB (G.getD x.ent.toNat ent0).L X)) (prE g.cy g.cm g.cp x.day) (blN X) := rfl
 rw [hc]
 clear e0 e5 hc
 generalize hdN g x L G = r0 at *
 generalize erB (txtB x.txt) = r1 at *
 generalize erB (lsB g x.ent X) = r2 at *
 generalize er17 (acB (G.getD x.ent.toNat ent0).L X) = r3 at *
 generalize prE g.cy g.cm g.cp x.day = r4 at *
 generalize blN X = r5 at *
 generalize entIn g x.ent = en at *
 obtain ⟨GV, hGV⟩ : ∃ GV, GV = grpV g := ⟨_, rfl⟩
 obtain ⟨XV, hXV⟩ : ∃ XV, XV = etyV x := ⟨_, rfl⟩
 have HBD := Lib.hid (fun W => cd_build g x W)
 rw [← hGV, ← hXV, ← hV] at HBD
 have HGV := Lib.hid hGV
 have HXV := Lib.hid hXV
 have HV := Lib.hid hV
 rw [grpV_is]
 obtain ⟨gs, hgs⟩ : ∃ gs, (grpC g).toArray = gs := ⟨_, rfl⟩
 obtain ⟨xs, hxs⟩ : ∃ xs, (etyC x).toArray = xs := ⟨_, rfl⟩
 have hxV : etyV x = .agg xs := by rw [etyV_is, hxs]
 rw [hgs, hxV]
 obtain ⟨w2, hw2⟩ : ∃ w2, (w.alloc (.cells gs 29)).alloc (.cells xs 46) = w2 := ⟨_, rfl⟩
 have HG2 : Hid (Rg w2 w.heap.size (grpC g)) := Lib.hid (by rw [← hw2, ← hgs]; exact (rg_new w _ _).up (below_alloc_new _))
 have HX2 : Hid (Rg w2 (w.heap.size + 1) (etyC x)) := Lib.hid (by
  rw [← hw2, ← hxs]
  have h9 := rg_new (w.alloc (.cells gs 29)) 46 (etyC x)
  rw [World.size_alloc] at h9
  exact h9)
 have HB2 : Hid (Below w.heap.size w w2) := Lib.hid (by rw [← hw2]; exact below_new (below_alloc_new _) _)
 have hs2 : w2.heap.size = w.heap.size + 2 := by rw [← hw2]; simp
 have HS2 := Lib.hid hs2
 clear hV hGV hXV hgs hxs hxV hs2 hk hx hs hw
 go_enter Tryz.func120, Tryz.ntmps120
 go_wp2_with (go_at_call 140; refine (echecks_any _).mono ?_; rintro e w3 ⟨rfl, hw3⟩; have HW3 := Lib.hid hw3; clear hw3)
 have HF3 : Hid (Rg w3 w2.heap.size [.func (.func 156) #[] #[], .func (.func 157) #[] #[], .func (.func 158) #[] #[], .func (.func 159) #[] #[], .func (.func 160) #[] #[], .func (.func 161) #[] #[]]) := Lib.hid (by rw [HW3.out]; exact rg_new w2 _ _)
 have hB3 : Below w2.heap.size w2 w3 := by rw [HW3.out]; exact below_alloc_new _
 have HB3 := Lib.hid (HB2.out.trans (hB3.mono HB2.out.size))
 have HG3 := Lib.hid (HG2.out.up hB3)
 have HX3 := Lib.hid (HX2.out.up hB3)
 clear hB3 HG2 HX2 HB2 HW3
 go_loopg [10] 6 (fun kx s10 wr => ∃ k : Nat, s10 = .int .i64 k ∧ k ≤ 6 ∧ 6 - k ≤ kx ∧ (0 < k → r0 = 0) ∧ (1 < k → r1 = 0) ∧ (2 < k → r2 = 0) ∧ (3 < k → r3 = 0) ∧ (4 < k → r4 = 0) ∧ (5 < k → r5 = 0) ∧ Below w3.heap.size w3 wr)
 case atStart => exact ⟨0, rfl, by omega, by omega, fun h => absurd h (by omega), fun h => absurd h (by omega), fun h => absurd h (by omega), fun h => absurd h (by omega), fun h => absurd h (by omega), fun h => absurd h (by omega), Below.refl _ _⟩
 case round =>
  obtain ⟨k, rfl, hk, hkx, q0, q1, q2, q3, q4, q5, hBi⟩ := hrel
  have hF := HF3.out.up hBi
  have HG := Lib.hid (HG3.out.up hBi)
  have HX := Lib.hid (HX3.out.up hBi)
  have HBW := Lib.hid (HB3.out.trans (hBi.mono HB3.out.size))
  have HBI := Lib.hid hBi
  have HLG : Hid ((Instr.loadAt 29 (.pointer (some ⟨w.heap.size, 0, none⟩))).run Tryz.prog wr = .ok GV wr) := Lib.hid (by rw [HGV.out, grpV_is]; exact HG.out.load 0 29 (grpC g) rfl _ Tryz.underlying29 rfl (by kernel_rfl))
  have HLX : Hid ((Instr.loadAt 46 (.pointer (some ⟨w.heap.size + 1, 0, none⟩))).run Tryz.prog wr = .ok XV wr) := Lib.hid (by rw [HXV.out, etyV_is]; exact HX.out.load 0 46 (etyC x) rfl _ Tryz.underlying46 rfl (by kernel_rfl))
  clear hBi
  have hk6 : k = 0 ∨ k = 1 ∨ k = 2 ∨ k = 3 ∨ k = 4 ∨ k = 5 ∨ k = 6 := by omega
  rcases hk6 with rfl | rfl | rfl | rfl | rfl | rfl | rfl
  ·have c0 := hF.cell 0 _ rfl
   have HJ := H0
   by_cases hr : r0 = 0
   ·have HR := Lib.hid hr
    have e0 : (r0 != 0) = false := by simp [hr]
    clear hr hF
    go_wp2_with (first
     | (refine wpList_load_is rfl 29 _ rfl (.pointer (some ⟨w.heap.size, 0, none⟩)) rfl GV HLG.out ?_)
     | (refine wpList_load_is rfl 46 _ rfl (.pointer (some ⟨w.heap.size + 1, 0, none⟩)) rfl XV HLX.out ?_)
     | (refine wpList_build_is rfl 174 _ rfl [(0, GV), (1, XV)] rfl V (HBD.out _) ?_)
     | (go_at_call 156; refine (HJ.out _ HBW.out).mono ?_; rintro e w5 ⟨rfl, hb5⟩; have HB5 := Lib.hid (HBI.out.trans (hb5.mono HBI.out.size)); clear hb5))
    go_roundg 5
    case measure => omega
    case rel => exact ⟨1, by first | rfl | go_num, by omega, by omega, fun _ => HR.out, fun h => absurd h (by omega), fun h => absurd h (by omega), fun h => absurd h (by omega), fun h => absurd h (by omega), fun h => absurd h (by omega), HB5.out⟩
   ·have E : Hid (fst6 r0 r1 r2 r3 r4 r5 = r0) := Lib.hid (by unfold fst6; rw [if_neg hr])
    have e0 : (r0 != 0) = true := by simp [hr]
    clear hr hF q0 q1 q2 q3 q4 q5
    go_wp2_with (first
     | (refine wpList_load_is rfl 29 _ rfl (.pointer (some ⟨w.heap.size, 0, none⟩)) rfl GV HLG.out ?_)
     | (refine wpList_load_is rfl 46 _ rfl (.pointer (some ⟨w.heap.size + 1, 0, none⟩)) rfl XV HLX.out ?_)
     | (refine wpList_build_is rfl 174 _ rfl [(0, GV), (1, XV)] rfl V (HBD.out _) ?_)
     | (go_at_call 156; refine (HJ.out _ HBW.out).mono ?_; rintro e w5 ⟨rfl, hb5⟩; have HB5 := Lib.hid (HBI.out.trans (hb5.mono HBI.out.size)); clear hb5))
    go_ret
    exact ⟨by rw [E.out]; rfl, HB3.out.trans (HB5.out.mono HB3.out.size)⟩
  ·have c0 := hF.cell 1 _ rfl
   have HJ := H1
   by_cases hr : r1 = 0
   ·have HR := Lib.hid hr
    have e0 : (r1 != 0) = false := by simp [hr]
    clear hr hF
    go_wp2_with (first
     | (refine wpList_load_is rfl 29 _ rfl (.pointer (some ⟨w.heap.size, 0, none⟩)) rfl GV HLG.out ?_)
     | (refine wpList_load_is rfl 46 _ rfl (.pointer (some ⟨w.heap.size + 1, 0, none⟩)) rfl XV HLX.out ?_)
     | (refine wpList_build_is rfl 174 _ rfl [(0, GV), (1, XV)] rfl V (HBD.out _) ?_)
     | (go_at_call 157; refine (HJ.out _ HBW.out).mono ?_; rintro e w5 ⟨rfl, hb5⟩; have HB5 := Lib.hid (HBI.out.trans (hb5.mono HBI.out.size)); clear hb5))
    go_roundg 4
    case measure => omega
    case rel => exact ⟨2, by first | rfl | go_num, by omega, by omega, fun _ => q0 (by omega), fun _ => HR.out, fun h => absurd h (by omega), fun h => absurd h (by omega), fun h => absurd h (by omega), fun h => absurd h (by omega), HB5.out⟩
   ·have E : Hid (fst6 r0 r1 r2 r3 r4 r5 = r1) := Lib.hid (by unfold fst6; rw [if_pos (q0 (by omega)), if_neg hr])
    have e0 : (r1 != 0) = true := by simp [hr]
    clear hr hF q0 q1 q2 q3 q4 q5
    go_wp2_with (first
     | (refine wpList_load_is rfl 29 _ rfl (.pointer (some ⟨w.heap.size, 0, none⟩)) rfl GV HLG.out ?_)
     | (refine wpList_load_is rfl 46 _ rfl (.pointer (some ⟨w.heap.size + 1, 0, none⟩)) rfl XV HLX.out ?_)
     | (refine wpList_build_is rfl 174 _ rfl [(0, GV), (1, XV)] rfl V (HBD.out _) ?_)
     | (go_at_call 157; refine (HJ.out _ HBW.out).mono ?_; rintro e w5 ⟨rfl, hb5⟩; have HB5 := Lib.hid (HBI.out.trans (hb5.mono HBI.out.size)); clear hb5))
    go_ret
    exact ⟨by rw [E.out]; rfl, HB3.out.trans (HB5.out.mono HB3.out.size)⟩
  ·have c0 := hF.cell 2 _ rfl
   have HJ := H2
   by_cases hr : r2 = 0
   ·have HR := Lib.hid hr
    have e0 : (r2 != 0) = false := by simp [hr]
    clear hr hF
    go_wp2_with (first
     | (refine wpList_load_is rfl 29 _ rfl (.pointer (some ⟨w.heap.size, 0, none⟩)) rfl GV HLG.out ?_)
     | (refine wpList_load_is rfl 46 _ rfl (.pointer (some ⟨w.heap.size + 1, 0, none⟩)) rfl XV HLX.out ?_)
     | (refine wpList_build_is rfl 174 _ rfl [(0, GV), (1, XV)] rfl V (HBD.out _) ?_)
     | (go_at_call 158; refine (HJ.out _ HBW.out).mono ?_; rintro e w5 ⟨rfl, hb5⟩; have HB5 := Lib.hid (HBI.out.trans (hb5.mono HBI.out.size)); clear hb5))
    go_roundg 3
    case measure => omega
    case rel => exact ⟨3, by first | rfl | go_num, by omega, by omega, fun _ => q0 (by omega), fun _ => q1 (by omega), fun _ => HR.out, fun h => absurd h (by omega), fun h => absurd h (by omega), fun h => absurd h (by omega), HB5.out⟩
   ·have E : Hid (fst6 r0 r1 r2 r3 r4 r5 = r2) := Lib.hid (by unfold fst6; rw [if_pos (q0 (by omega)), if_pos (q1 (by omega)), if_neg hr])
    have e0 : (r2 != 0) = true := by simp [hr]
    clear hr hF q0 q1 q2 q3 q4 q5
    go_wp2_with (first
     | (refine wpList_load_is rfl 29 _ rfl (.pointer (some ⟨w.heap.size, 0, none⟩)) rfl GV HLG.out ?_)
     | (refine wpList_load_is rfl 46 _ rfl (.pointer (some ⟨w.heap.size + 1, 0, none⟩)) rfl XV HLX.out ?_)
     | (refine wpList_build_is rfl 174 _ rfl [(0, GV), (1, XV)] rfl V (HBD.out _) ?_)
     | (go_at_call 158; refine (HJ.out _ HBW.out).mono ?_; rintro e w5 ⟨rfl, hb5⟩; have HB5 := Lib.hid (HBI.out.trans (hb5.mono HBI.out.size)); clear hb5))
    go_ret
    exact ⟨by rw [E.out]; rfl, HB3.out.trans (HB5.out.mono HB3.out.size)⟩
  ·have c0 := hF.cell 3 _ rfl
   have HJ := Lib.hid (H3.out (HE.out (q0 (by omega))))
   by_cases hr : r3 = 0
   ·have HR := Lib.hid hr
    have e0 : (r3 != 0) = false := by simp [hr]
    clear hr hF
    go_wp2_with (first
     | (refine wpList_load_is rfl 29 _ rfl (.pointer (some ⟨w.heap.size, 0, none⟩)) rfl GV HLG.out ?_)
     | (refine wpList_load_is rfl 46 _ rfl (.pointer (some ⟨w.heap.size + 1, 0, none⟩)) rfl XV HLX.out ?_)
     | (refine wpList_build_is rfl 174 _ rfl [(0, GV), (1, XV)] rfl V (HBD.out _) ?_)
     | (go_at_call 159; refine (HJ.out _ HBW.out).mono ?_; rintro e w5 ⟨rfl, hb5⟩; have HB5 := Lib.hid (HBI.out.trans (hb5.mono HBI.out.size)); clear hb5))
    go_roundg 2
    case measure => omega
    case rel => exact ⟨4, by first | rfl | go_num, by omega, by omega, fun _ => q0 (by omega), fun _ => q1 (by omega), fun _ => q2 (by omega), fun _ => HR.out, fun h => absurd h (by omega), fun h => absurd h (by omega), HB5.out⟩
   ·have E : Hid (fst6 r0 r1 r2 r3 r4 r5 = r3) := Lib.hid (by unfold fst6; rw [if_pos (q0 (by omega)), if_pos (q1 (by omega)), if_pos (q2 (by omega)), if_neg hr])
    have e0 : (r3 != 0) = true := by simp [hr]
    clear hr hF q0 q1 q2 q3 q4 q5
    go_wp2_with (first
     | (refine wpList_load_is rfl 29 _ rfl (.pointer (some ⟨w.heap.size, 0, none⟩)) rfl GV HLG.out ?_)
     | (refine wpList_load_is rfl 46 _ rfl (.pointer (some ⟨w.heap.size + 1, 0, none⟩)) rfl XV HLX.out ?_)
     | (refine wpList_build_is rfl 174 _ rfl [(0, GV), (1, XV)] rfl V (HBD.out _) ?_)
     | (go_at_call 159; refine (HJ.out _ HBW.out).mono ?_; rintro e w5 ⟨rfl, hb5⟩; have HB5 := Lib.hid (HBI.out.trans (hb5.mono HBI.out.size)); clear hb5))
    go_ret
    exact ⟨by rw [E.out]; rfl, HB3.out.trans (HB5.out.mono HB3.out.size)⟩
  ·have c0 := hF.cell 4 _ rfl
   have HJ := H4
   by_cases hr : r4 = 0
   ·have HR := Lib.hid hr
    have e0 : (r4 != 0) = false := by simp [hr]
    clear hr hF
    go_wp2_with (first
     | (refine wpList_load_is rfl 29 _ rfl (.pointer (some ⟨w.heap.size, 0, none⟩)) rfl GV HLG.out ?_)
     | (refine wpList_load_is rfl 46 _ rfl (.pointer (some ⟨w.heap.size + 1, 0, none⟩)) rfl XV HLX.out ?_)
     | (refine wpList_build_is rfl 174 _ rfl [(0, GV), (1, XV)] rfl V (HBD.out _) ?_)
     | (go_at_call 160; refine (HJ.out _ HBW.out).mono ?_; rintro e w5 ⟨rfl, hb5⟩; have HB5 := Lib.hid (HBI.out.trans (hb5.mono HBI.out.size)); clear hb5))
    go_roundg 1
    case measure => omega
    case rel => exact ⟨5, by first | rfl | go_num, by omega, by omega, fun _ => q0 (by omega), fun _ => q1 (by omega), fun _ => q2 (by omega), fun _ => q3 (by omega), fun _ => HR.out, fun h => absurd h (by omega), HB5.out⟩
   ·have E : Hid (fst6 r0 r1 r2 r3 r4 r5 = r4) := Lib.hid (by unfold fst6; rw [if_pos (q0 (by omega)), if_pos (q1 (by omega)), if_pos (q2 (by omega)), if_pos (q3 (by omega)), if_neg hr])
    have e0 : (r4 != 0) = true := by simp [hr]
    clear hr hF q0 q1 q2 q3 q4 q5
    go_wp2_with (first
     | (refine wpList_load_is rfl 29 _ rfl (.pointer (some ⟨w.heap.size, 0, none⟩)) rfl GV HLG.out ?_)
     | (refine wpList_load_is rfl 46 _ rfl (.pointer (some ⟨w.heap.size + 1, 0, none⟩)) rfl XV HLX.out ?_)
     | (refine wpList_build_is rfl 174 _ rfl [(0, GV), (1, XV)] rfl V (HBD.out _) ?_)
     | (go_at_call 160; refine (HJ.out _ HBW.out).mono ?_; rintro e w5 ⟨rfl, hb5⟩; have HB5 := Lib.hid (HBI.out.trans (hb5.mono HBI.out.size)); clear hb5))
    go_ret
    exact ⟨by rw [E.out]; rfl, HB3.out.trans (HB5.out.mono HB3.out.size)⟩
  ·have c0 := hF.cell 5 _ rfl
   have HJ := H5
   by_cases hr : r5 = 0
   ·have HR := Lib.hid hr
    have e0 : (r5 != 0) = false := by simp [hr]
    clear hr hF
    go_wp2_with (first
     | (refine wpList_load_is rfl 29 _ rfl (.pointer (some ⟨w.heap.size, 0, none⟩)) rfl GV HLG.out ?_)
     | (refine wpList_load_is rfl 46 _ rfl (.pointer (some ⟨w.heap.size + 1, 0, none⟩)) rfl XV HLX.out ?_)
     | (refine wpList_build_is rfl 174 _ rfl [(0, GV), (1, XV)] rfl V (HBD.out _) ?_)
     | (go_at_call 161; refine (HJ.out _ HBW.out).mono ?_; rintro e w5 ⟨rfl, hb5⟩; have HB5 := Lib.hid (HBI.out.trans (hb5.mono HBI.out.size)); clear hb5))
    go_roundg 0
    case measure => omega
    case rel => exact ⟨6, by first | rfl | go_num, by omega, by omega, fun _ => q0 (by omega), fun _ => q1 (by omega), fun _ => q2 (by omega), fun _ => q3 (by omega), fun _ => q4 (by omega), fun _ => HR.out, HB5.out⟩
   ·have E : Hid (fst6 r0 r1 r2 r3 r4 r5 = r5) := Lib.hid (by unfold fst6; rw [if_pos (q0 (by omega)), if_pos (q1 (by omega)), if_pos (q2 (by omega)), if_pos (q3 (by omega)), if_pos (q4 (by omega))])
    have e0 : (r5 != 0) = true := by simp [hr]
    clear hr hF q0 q1 q2 q3 q4 q5
    go_wp2_with (first
     | (refine wpList_load_is rfl 29 _ rfl (.pointer (some ⟨w.heap.size, 0, none⟩)) rfl GV HLG.out ?_)
     | (refine wpList_load_is rfl 46 _ rfl (.pointer (some ⟨w.heap.size + 1, 0, none⟩)) rfl XV HLX.out ?_)
     | (refine wpList_build_is rfl 174 _ rfl [(0, GV), (1, XV)] rfl V (HBD.out _) ?_)
     | (go_at_call 161; refine (HJ.out _ HBW.out).mono ?_; rintro e w5 ⟨rfl, hb5⟩; have HB5 := Lib.hid (HBI.out.trans (hb5.mono HBI.out.size)); clear hb5))
    go_ret
    exact ⟨by rw [E.out]; rfl, HB3.out.trans (HB5.out.mono HB3.out.size)⟩
  ·have E : Hid (fst6 r0 r1 r2 r3 r4 r5 = 0) := Lib.hid (by unfold fst6; rw [if_pos (q0 (by omega)), if_pos (q1 (by omega)), if_pos (q2 (by omega)), if_pos (q3 (by omega)), if_pos (q4 (by omega))]; exact q5 (by omega))
   clear hF q0 q1 q2 q3 q4 q5
   go_wp2_with fail
   go_ret
   exact ⟨by rw [E.out]; rfl, HBW.out⟩
def erD (ic : Bool) (b : Int) : Int := if ic = true then b else 2
def rtlN (g : Grp) (x : Ety) (X : List Lnk) : Int := if inB g.cy g.cm g.cp x.day = true then (if wr (sumT X) = 0 then 0 else 11) else 2
def rchkN (sh ac : Bool) (t : Int) : Int := if sh = true then if ac = true then t else 17 else 1
theorem grpR_cl {g : Grp} {L : List Acc} {G : List Ent} (h : grpR g L G = true) : clV g.cy g.cm g.cp = true := by
 unfold grpR bokR at h
 simp only [Bool.and_eq_true] at h
 exact h.1.2.1
theorem allTo_and {p q : Nat → Bool} : ∀ {n : Nat}, allTo (fun i => p i && q i) n = (allTo p n && allTo q n)
 | 0 => rfl
 | n + 1 => by
  show (allTo (fun i => p i && q i) n && (p n && q n)) = ((allTo p n && p n) && (allTo q n && q n))
  rw [allTo_and]
  cases allTo p n <;> cases allTo q n <;> cases p n <;> cases q n <;> rfl
theorem allTo_all {p : Acc → Bool} {L : List Acc} : L.all p = allTo (fun i => p (L.getD i acc0)) L.length := by
 rw [Bool.eq_iff_iff, all_getD (d := acc0), allTo_is]
theorem grp_eq (g : Grp) (L : List Acc) (G : List Ent) : grpP g L G = grpR g L G := by
 have h1 : rlsB L g.R = allTo (rowR L g.R) 15 := by
  unfold rlsB
  exact allTo_and.symm
 have h2 : chaB L = (vB L true && allTo (fun i => basB (L.getD i acc0)) L.length) := by
  unfold chaB
  rw [allTo_all]
 have h3 : rlsB L g.R = true → ensP L g.R G = ensR L g.R G := fun h => by
  have hd : allTo (dsR g.R) 15 = true := by
   unfold rlsB at h
   rw [Bool.and_eq_true] at h
   exact h.2
  have he : ∀ e, enpB L g.R e = enrB L g.R e := fun e => by
   unfold enpB enrB
   congr 4
   funext i
   exact opn_eq (R_len g) hd _
  unfold ensP ensR
  congr 4
  funext i
  unfold rowP rowX
  rw [he]
 unfold grpP grpR bokR
 rw [h2, ← h1]
 cases hr : rlsB L g.R
 ·simp
 ·rw [h3 hr]
  cases curB g.cur <;> cases clV g.cy g.cm g.cp <;> cases vB L true <;> simp
theorem in_is {y m k n : Int} (h : clV y m k = true) : inB y m k n = inP y m k n := by
 have h1 := clV_iff.1 h
 have e : mno y m = 12 * y + m - 1 := rfl
 have f : pdF y m k 0 = mfst (mno y m) := by
  unfold pdF
  rw [clE_in h (by omega), if_pos rfl, Int.add_zero]
 have l : pdL y m k (k - 1) = mfst (mno y m + k) - 1 := by
  unfold pdL
  rw [clE_in h (by omega), if_pos rfl, show mno y m + (k - 1) + 1 = mno y m + k by omega]
 have b0 := mfst_bd (T := mno y m) (by omega) (by omega)
 have b1 := mfst_bd (T := mno y m + k) (by omega) (by omega)
 rw [Bool.eq_iff_iff]
 constructor
 ·intro q
  unfold inB at q
  rw [Bool.and_eq_true, decide_eq_true_eq, decide_eq_true_eq, f, l] at q
  have hv : vdB n = true := vdB_iff.2 ⟨by omega, by omega⟩
  obtain ⟨t0, t1, t2, t3⟩ := mth_is hv
  refine inP_iff.2 ⟨hv, ?_, ?_⟩
  ·rcases Int.lt_or_le (mth n) (mno y m) with c | c
   ·have := mfst_mono (S := mth n + 1) (T := mno y m) (by omega) (by omega)
    omega
   ·omega
  ·rcases Int.lt_or_le (mth n - mno y m) k with c | c
   ·exact c
   ·have := mfst_mono (S := mno y m + k) (T := mth n) (by omega) (by omega)
    omega
 ·intro q
  obtain ⟨hp, p1, p2⟩ := per_at q
  have m1 := mfst_mono (S := mno y m) (T := mno y m + (mth n - mno y m)) (by omega) (by omega)
  have m2 := mfst_mono (S := mno y m + (mth n - mno y m) + 1) (T := mno y m + k) (by omega) (by omega)
  unfold inB
  rw [Bool.and_eq_true, decide_eq_true_eq, decide_eq_true_eq, f, l]
  omega
theorem org_is (kind of_ : Int) : orgB kind of_ = (decide (1 ≤ kind) && (decide (kind ≤ 3) && orgR kind of_)) := by
 unfold orgB orgR
 by_cases h3 : kind = 3
 ·subst h3
  rfl
 ·by_cases h1 : kind = 1 ∨ kind = 2
  ·rw [if_pos h1, if_neg h3, decide_eq_true (show 1 ≤ kind by omega), decide_eq_true (show kind ≤ 3 by omega), Bool.true_and, Bool.true_and]
  ·rw [if_neg h1, if_neg h3, if_neg h3]
   rcases Int.lt_or_le kind 1 with c | c
   ·rw [decide_eq_false (show ¬ 1 ≤ kind by omega), Bool.false_and]
   ·rw [decide_eq_false (show ¬ kind ≤ 3 by omega), Bool.false_and, Bool.and_false]
theorem shp_is (g : Grp) (x : Ety) (X : List Lnk) (gp : Bool) (hl : X.length = x.n) : shpB gp g x X = ((gp && (decide (1 ≤ x.id) && (entIn g x.ent && orgB x.kind x.of_))) && (txtB x.txt && lsB g x.ent X)) := by
 unfold shpB lsB entIn
 rw [org_is, hl]
 cases gp <;> cases decide (1 ≤ x.id) <;> cases decide (0 ≤ x.ent) <;> cases decide (x.ent < (g.m : Int)) <;> cases decide (1 ≤ x.kind) <;> cases decide (x.kind ≤ 3) <;> cases orgR x.kind x.of_ <;> cases txtB x.txt <;> rfl
theorem chk_eq (g : Grp) (x : Ety) (X : List Lnk) (L : List Acc) (G : List Ent) (hl : X.length = x.n) : chkN g x X L G = rchkN (shpB (grpR g L G) g x X) (acB (G.getD x.ent.toNat ent0).L X) (rtlN g x X) := by
 have hp : prE g.cy g.cm g.cp x.day = erD (inB g.cy g.cm g.cp x.day) 0 ∨ grpR g L G = false := by
  cases h : grpR g L G
  ·exact .inr rfl
  ·refine .inl ?_
   have hc := grpR_cl h
   unfold prE erD
   rw [hc, if_pos rfl, in_is hc]
 unfold chkN hdN
 rw [shp_is g x X _ hl, grp_eq]
 have hb : (if wr (sumT X) = 0 then 0 else 11 : Int) = blN X := rfl
 unfold rtlN
 rw [hb]
 rcases hp with hp | hp
 ·rw [hp]
  generalize (grpR g L G && (decide (1 ≤ x.id) && (entIn g x.ent && orgB x.kind x.of_))) = a
  generalize txtB x.txt = b
  generalize lsB g x.ent X = c
  generalize acB (G.getD x.ent.toNat ent0).L X = d
  generalize inB g.cy g.cm g.cp x.day = e
  unfold erD rchkN fst6 erB er17
  cases a <;> cases b <;> cases c <;> cases d <;> cases e <;> simp
 ·rw [hp]
  simp [rchkN, fst6]
instance (a b : Lnk) : Decidable (a = b) :=
 if h : a.frm = b.frm ∧ a.tgt = b.tgt ∧ a.since = b.since then .isTrue (by cases a; cases b; simp at h; obtain ⟨rfl, rfl, rfl⟩ := h; rfl) else .isFalse (fun e => h (by subst e; exact ⟨rfl, rfl, rfl⟩))
def smL (l : Lnk) : Bool := decide (l.tgt ≤ 1125899906842624) && decide (-1125899906842624 ≤ l.tgt)
def negL (l : Lnk) : Lnk := ⟨l.frm, wr (-l.tgt), l.since⟩
theorem lines_up6 {w w5 : World} {g b i1 i2 i3 j1 j2 j3 : Nat} {u1 u2 u3 v1 v2 v3 : Value} (h : w.cell? ⟨g, i1, none⟩ = some u1 ∧ w.cell? ⟨g, i2, none⟩ = some u2 ∧ w.cell? ⟨g, i3, none⟩ = some u3 ∧ w.cell? ⟨b, j1, none⟩ = some v1 ∧ w.cell? ⟨b, j2, none⟩ = some v2 ∧ w.cell? ⟨b, j3, none⟩ = some v3)
  (hb : Below w.heap.size w w5) (hg : g < w.heap.size) (hbb : b < w.heap.size) : w5.cell? ⟨g, i1, none⟩ = some u1 ∧ w5.cell? ⟨g, i2, none⟩ = some u2 ∧ w5.cell? ⟨g, i3, none⟩ = some u3 ∧ w5.cell? ⟨b, j1, none⟩ = some v1 ∧ w5.cell? ⟨b, j2, none⟩ = some v2 ∧ w5.cell? ⟨b, j3, none⟩ = some v3 := by
 obtain ⟨h1, h2, h3, h4, h5, h6⟩ := h
 exact ⟨(hb.cell (p := ⟨g, i1, none⟩) hg).trans h1, (hb.cell (p := ⟨g, i2, none⟩) hg).trans h2, (hb.cell (p := ⟨g, i3, none⟩) hg).trans h3, (hb.cell (p := ⟨b, j1, none⟩) hbb).trans h4, (hb.cell (p := ⟨b, j2, none⟩) hbb).trans h5, (hb.cell (p := ⟨b, j3, none⟩) hbb).trans h6⟩
set_option maxRecDepth 20000 in
set_option maxHeartbeats 1600000 in
theorem eneg_any (x : Lnk) (w : World) : Calls Tryz.prog 143 #[lnkV x] w fun e w' => e = .returned (lnkV (negL x)) ∧ Below w.heap.size w w' := by
 obtain ⟨x1, x2, x3⟩ := x
 have HB := below_new (below_alloc_new (w := w) (.cells #[.int .i64 x1, .int .i64 (wrap64 (-x2)), .int .i64 x3] 59)) (.cells #[.int .i64 x1, .int .i64 (wrap64 (-x2)), .int .i64 x3] 59)
 have hnew : ((w.alloc (.cells #[.int .i64 x1, .int .i64 (wrap64 (-x2)), .int .i64 x3] 59)).alloc (.cells #[.int .i64 x1, .int .i64 (wrap64 (-x2)), .int .i64 x3] 59)).heap[w.heap.size + 1]? = some (.cells #[.int .i64 x1, .int .i64 (wrap64 (-x2)), .int .i64 x3] 59 (0, 0)) := by
  have := heap_alloc_new (w.alloc (.cells #[.int .i64 x1, .int .i64 (wrap64 (-x2)), .int .i64 x3] 59)) (.cells #[.int .i64 x1, .int .i64 (wrap64 (-x2)), .int .i64 x3] 59)
  rwa [World.size_alloc] at this
 have HN : negL ⟨x1, x2, x3⟩ = ⟨x1, wrap64 (-x2), x3⟩ := rfl
 rw [HN]
 clear HN
 go_enter Tryz.func143, Tryz.ntmps143
 go_wp2_with fail
 exact bodyPost_ret (v := lnkV ⟨x1, wrap64 (-x2), x3⟩) (results_cell_row Tryz.results143 _ _ (w.heap.size + 1) _ _ _ _ rfl hnew Tryz.underlying59 rfl (by kernel_rfl)) rfl ⟨rfl, HB⟩
set_option maxRecDepth 20000 in
set_option maxHeartbeats 1600000 in
theorem eopp1_any (x y : Lnk) (w : World) : Calls Tryz.prog 142 #[lnkV x, lnkV y] w fun e w' => e = .returned (.bool (decide (x = negL y))) ∧ Below w.heap.size w w' := by
 have HB := Lib.hid (below_new (below_alloc_new (w := w) (.cells #[.int .i64 x.frm, .int .i64 x.tgt, .int .i64 x.since] 59)) (.cells #[.int .i64 y.frm, .int .i64 y.tgt, .int .i64 y.since] 59))
 have hx := (lb_new w 59 x).up (below_alloc_new (.cells #[.int .i64 y.frm, .int .i64 y.tgt, .int .i64 y.since] 59))
 have hy := lb_new (w.alloc (.cells #[.int .i64 x.frm, .int .i64 x.tgt, .int .i64 x.since] 59)) 59 y
 rw [World.size_alloc] at hy
 have HN := Lib.hid (fun w => eneg_any y w)
 have hneg : (negL y).frm = y.frm ∧ (negL y).since = y.since := ⟨rfl, rfl⟩
 generalize hw2 : (w.alloc (.cells #[.int .i64 x.frm, .int .i64 x.tgt, .int .i64 x.since] 59)).alloc (.cells #[.int .i64 y.frm, .int .i64 y.tgt, .int .i64 y.since] 59) = w2 at *
 obtain ⟨⟨c0, c1, c2⟩, hgl⟩ := hx
 obtain ⟨⟨d0, d1, d2⟩, hbl⟩ := hy
 simp only [Nat.zero_add] at c0 c1 c2 d0 d1 d2
 have hS0 : w2.drew.cell? ⟨w.heap.size, 0, none⟩ = some (.int .i64 x.frm) ∧ w2.drew.cell? ⟨w.heap.size, 1, none⟩ = some (.int .i64 x.tgt) ∧ w2.drew.cell? ⟨w.heap.size, 2, none⟩ = some (.int .i64 x.since) ∧ w2.drew.cell? ⟨w.heap.size + 1, 0, none⟩ = some (.int .i64 y.frm) ∧ w2.drew.cell? ⟨w.heap.size + 1, 1, none⟩ = some (.int .i64 y.tgt) ∧ w2.drew.cell? ⟨w.heap.size + 1, 2, none⟩ = some (.int .i64 y.since) := ⟨c0, c1, c2, d0, d1, d2⟩
 clear hneg
 generalize negL y = z at *
 have HW := Lib.hid hw2
 by_cases hxz : x = z
 ·subst hxz
  have E : decide (x = x) = true := by simp
  go_enter Tryz.func142, Tryz.ntmps142
  go_wp2_with fail
  go_region_held_law (fun w' => w'.cell? ⟨w.heap.size, 0, none⟩ = some (.int .i64 x.frm) ∧ w'.cell? ⟨w.heap.size, 1, none⟩ = some (.int .i64 x.tgt) ∧ w'.cell? ⟨w.heap.size, 2, none⟩ = some (.int .i64 x.since) ∧ w'.cell? ⟨w.heap.size + 1, 0, none⟩ = some (.int .i64 y.frm) ∧ w'.cell? ⟨w.heap.size + 1, 1, none⟩ = some (.int .i64 y.tgt) ∧ w'.cell? ⟨w.heap.size + 1, 2, none⟩ = some (.int .i64 y.since)) (first | exact hS5 | exact hS0 | go_keep)
   ((go_at_call 143; refine (HN.out _).mono ?_; rintro e w5 ⟨rfl, hb5⟩; have hS5 := lines_up6 hS0 hb5 hgl hbl))
  have HB5 := Lib.hid ((dc_drew HB.out).trans (hb5.mono (by have := HB.out.size; exact this)))
  go_wp2_with fail
  go_ret
  exact ⟨by first | (simp; done) | (rw [E]; rfl), HB5.out⟩
 ·have hno : Hid (decide (x = z) = false) := Lib.hid (decide_eq_false hxz)
  have hne : x.frm ≠ z.frm ∨ (x.frm = z.frm ∧ x.tgt ≠ z.tgt) ∨ (x.frm = z.frm ∧ x.tgt = z.tgt ∧ x.since ≠ z.since) := by
   by_cases h1 : x.frm = z.frm
   ·by_cases h2 : x.tgt = z.tgt
    ·exact .inr (.inr ⟨h1, h2, fun h3 => hxz (by cases x; cases z; simp at h1 h2 h3; rw [h1, h2, h3])⟩)
    ·exact .inr (.inl ⟨h1, h2⟩)
   ·exact .inl h1
  clear hxz
  rcases hne with h1 | ⟨h1, h2⟩ | ⟨h1, h2, h3⟩
  ·have q1 : (x.frm == z.frm) = false := by simp [h1]
   clear h1
   go_enter Tryz.func142, Tryz.ntmps142
   go_wp2_with fail
   go_region_held_law (fun w' => w'.cell? ⟨w.heap.size, 0, none⟩ = some (.int .i64 x.frm) ∧ w'.cell? ⟨w.heap.size, 1, none⟩ = some (.int .i64 x.tgt) ∧ w'.cell? ⟨w.heap.size, 2, none⟩ = some (.int .i64 x.since) ∧ w'.cell? ⟨w.heap.size + 1, 0, none⟩ = some (.int .i64 y.frm) ∧ w'.cell? ⟨w.heap.size + 1, 1, none⟩ = some (.int .i64 y.tgt) ∧ w'.cell? ⟨w.heap.size + 1, 2, none⟩ = some (.int .i64 y.since)) (first | exact hS5 | exact hS0 | go_keep)
    ((go_at_call 143; refine (HN.out _).mono ?_; rintro e w5 ⟨rfl, hb5⟩; have hS5 := lines_up6 hS0 hb5 hgl hbl))
   have HB5 := Lib.hid ((dc_drew HB.out).trans (hb5.mono (by have := HB.out.size; exact this)))
   go_wp2_with fail
   go_ret
   exact ⟨by first | (simp; done) | (rw [hno.out]; rfl), HB5.out⟩
  ·have q1 : (x.frm == z.frm) = true := by simp [h1]
   have q2 : (x.tgt == z.tgt) = false := by simp [h2]
   clear h1 h2
   go_enter Tryz.func142, Tryz.ntmps142
   go_wp2_with fail
   go_region_held_law (fun w' => w'.cell? ⟨w.heap.size, 0, none⟩ = some (.int .i64 x.frm) ∧ w'.cell? ⟨w.heap.size, 1, none⟩ = some (.int .i64 x.tgt) ∧ w'.cell? ⟨w.heap.size, 2, none⟩ = some (.int .i64 x.since) ∧ w'.cell? ⟨w.heap.size + 1, 0, none⟩ = some (.int .i64 y.frm) ∧ w'.cell? ⟨w.heap.size + 1, 1, none⟩ = some (.int .i64 y.tgt) ∧ w'.cell? ⟨w.heap.size + 1, 2, none⟩ = some (.int .i64 y.since)) (first | exact hS5 | exact hS0 | go_keep)
    ((go_at_call 143; refine (HN.out _).mono ?_; rintro e w5 ⟨rfl, hb5⟩; have hS5 := lines_up6 hS0 hb5 hgl hbl))
   have HB5 := Lib.hid ((dc_drew HB.out).trans (hb5.mono (by have := HB.out.size; exact this)))
   go_wp2_with fail
   go_ret
   exact ⟨by first | (simp; done) | (rw [hno.out]; rfl), HB5.out⟩
  ·have q1 : (x.frm == z.frm) = true := by simp [h1]
   have q2 : (x.tgt == z.tgt) = true := by simp [h2]
   have q3 : (x.since == z.since) = false := by simp [h3]
   clear h1 h2 h3
   go_enter Tryz.func142, Tryz.ntmps142
   go_wp2_with fail
   go_region_held_law (fun w' => w'.cell? ⟨w.heap.size, 0, none⟩ = some (.int .i64 x.frm) ∧ w'.cell? ⟨w.heap.size, 1, none⟩ = some (.int .i64 x.tgt) ∧ w'.cell? ⟨w.heap.size, 2, none⟩ = some (.int .i64 x.since) ∧ w'.cell? ⟨w.heap.size + 1, 0, none⟩ = some (.int .i64 y.frm) ∧ w'.cell? ⟨w.heap.size + 1, 1, none⟩ = some (.int .i64 y.tgt) ∧ w'.cell? ⟨w.heap.size + 1, 2, none⟩ = some (.int .i64 y.since)) (first | exact hS5 | exact hS0 | go_keep)
    ((go_at_call 143; refine (HN.out _).mono ?_; rintro e w5 ⟨rfl, hb5⟩; have hS5 := lines_up6 hS0 hb5 hgl hbl))
   have HB5 := Lib.hid ((dc_drew HB.out).trans (hb5.mono (by have := HB.out.size; exact this)))
   go_wp2_with fail
   go_ret
   exact ⟨by first | (simp; done) | (rw [hno.out]; rfl), HB5.out⟩
def oppB (X Y : List Lnk) : Bool := decide (X = Y.map negL)
set_option maxRecDepth 20000 in
set_option maxHeartbeats 1600000 in
theorem eeqf_any (A B : Option Addr) (c d : Nat) (X Y : List Lnk) (w : World) (hz : LnkAt w A X) (hy : LnkAt w B Y) (hl : X.length ≤ 100000) (hl2 : Y.length ≤ 100000) :
  Calls Tryz.prog 141 #[.slice A X.length c, .slice B Y.length d, .func (.func 142) #[] #[]] w fun e w' => e = .returned (.bool (oppB X Y)) ∧ Below w.heap.size w w' := by
 have hB := Below.refl w.heap.size w
 obtain ⟨n, hn⟩ : ∃ n, X.length = n := ⟨_, rfl⟩
 obtain ⟨m, hm⟩ : ∃ m, Y.length = m := ⟨_, rfl⟩
 rw [hn] at hl ⊢
 rw [hm] at hl2 ⊢
 by_cases hnm : n = m
 ·subst hnm
  have HN := Lib.hid hn
  have HM := Lib.hid hm
  have HZ := Lib.hid hz
  have HY := Lib.hid hy
  clear hn hm hz hy
  have hnn : ((n : Int) != (n : Int)) = false := by simp
  go_enter Tryz.func141, Tryz.ntmps141
  go_wp2_with fail
  go_loopg [17] n (fun kx s17 wr => ∃ k : Nat, s17 = .int .i64 k ∧ k ≤ n ∧ n - k ≤ kx ∧ Hid (X.take k = (Y.take k).map negL) ∧ Below w.heap.size w wr)
  case atStart => exact ⟨0, rfl, by omega, by omega, Lib.hid rfl, hB⟩
  case round =>
   clear hB
   obtain ⟨k, rfl, hk, hkx, HT, hB⟩ := hrel
   by_cases hlt : k < n
   ·have hltz : (k : Int) < (n : Int) := by omega
    obtain ⟨b, off, rfl, hbw, hcs⟩ := HZ.out (by rw [HN.out]; omega)
    obtain ⟨b2, off2, rfl, hbw2, hcs2⟩ := HY.out (by rw [HM.out]; omega)
    have ht1 := take_succ_getD (d := lnk0) (L := X) (i := k) (by rw [HN.out]; exact hlt)
    have ht2 := take_succ_getD (d := lnk0) (L := Y) (i := k) (by rw [HM.out]; exact hlt)
    obtain ⟨c0, c1, c2⟩ := (hcs k (by rw [HN.out]; exact hlt)).up hB hbw
    have hd2 := (hcs2 k (by rw [HM.out]; exact hlt)).up hB hbw2
    generalize X.getD k lnk0 = x at *
    generalize Y.getD k lnk0 = y at *
    obtain ⟨w1, hw1⟩ : ∃ w1, wr.alloc (.cells #[.int .i64 x.frm, .int .i64 x.tgt, .int .i64 x.since] 59) = w1 := ⟨_, rfl⟩
    have hbr2 : b2 < wr.heap.size := Nat.lt_of_lt_of_le hbw2 hB.size
    obtain ⟨d0, d1, d2⟩ : L3 w1 b2 (off2 + k * 3) y := by rw [← hw1]; exact hd2.up (below_alloc_new _) hbr2
    have hs1 : w1.heap.size = wr.heap.size + 1 := by rw [← hw1]; simp
    have hlx : LB w1 wr.heap.size x := by rw [← hw1]; exact lb_new wr _ x
    obtain ⟨w2, hw2⟩ : ∃ w2, w1.alloc (.cells #[.int .i64 y.frm, .int .i64 y.tgt, .int .i64 y.since] 59) = w2 := ⟨_, rfl⟩
    obtain ⟨⟨e0, e1, e2⟩, -⟩ : LB w2 wr.heap.size x := by rw [← hw2]; exact hlx.up (below_alloc_new _)
    obtain ⟨⟨g0, g1, g2⟩, -⟩ : LB w2 w1.heap.size y := by rw [← hw2]; exact lb_new w1 _ y
    simp only [Nat.zero_add] at e0 e1 e2 g0 g1 g2
    have HB2 : Hid (Below w.heap.size w w2) := Lib.hid (by rw [← hw2, ← hw1]; exact below_new (below_new hB _) _)
    have HC := Lib.hid (eopp1_any x y w2)
    by_cases hxy : x = negL y
    ·have HT2 : Hid (X.take (k + 1) = (Y.take (k + 1)).map negL) := Lib.hid (by rw [ht1, ht2, List.map_append, List.map_cons, List.map_nil, ← hxy, HT.out])
     have hde : decide (x = negL y) = true := decide_eq_true hxy
     rw [hde] at HC
     clear ht1 ht2 hcs hcs2 hxy hd2 hlx hs1 hde
     go_wp2_with (go_at_call 142; refine HC.out.mono ?_; rintro e w5 ⟨rfl, hb5⟩; have HB5 := Lib.hid (below_more HB2.out hb5); clear hb5)
     go_roundg (n - (k + 1))
     case measure => omega
     case rel => exact ⟨k + 1, by go_num, by omega, by omega, HT2, HB5.out⟩
    ·have hno : Hid (oppB X Y = false) := Lib.hid (decide_eq_false fun e => by
      have h9 := congrArg (List.take (k + 1)) e
      rw [← List.map_take, ht1, ht2, List.map_append, HT.out] at h9
      have := List.append_cancel_left h9
      simp at this; exact hxy this)
     have hde : decide (x = negL y) = false := decide_eq_false hxy
     rw [hde] at HC
     clear ht1 ht2 hcs hcs2 hxy hd2 hlx hs1 hde
     go_wp2_with (go_at_call 142; refine HC.out.mono ?_; rintro e w5 ⟨rfl, hb5⟩; have HB5 := Lib.hid (below_more HB2.out hb5); clear hb5)
     go_ret
     exact ⟨by rw [hno.out]; rfl, HB5.out⟩
   ·obtain rfl : k = n := by omega
    have hltz : ¬ (k : Int) < (k : Int) := by omega
    have hyes : Hid (oppB X Y = true) := Lib.hid (decide_eq_true (by have h := HT.out; rwa [List.take_of_length_le (by rw [HN.out]; omega), List.take_of_length_le (by rw [HM.out]; omega)] at h))
    go_wp2_with fail
    go_ret
    exact ⟨by rw [hyes.out]; rfl, hB⟩
 ·have hno : Hid (oppB X Y = false) := Lib.hid (decide_eq_false fun e => hnm (by rw [← hn, ← hm, e, List.length_map]))
  have hnn : ((n : Int) != (m : Int)) = true := by simp; omega
  clear hn hm hz hy
  go_enter Tryz.func141, Tryz.ntmps141
  go_wp2_with fail
  go_ret
  exact ⟨by rw [hno.out]; rfl, hB⟩
theorem eopp_any (A B : Option Addr) (c d : Nat) (X Y : List Lnk) (w : World) (hz : LnkAt w A X) (hy : LnkAt w B Y) (hl : X.length ≤ 100000) (hl2 : Y.length ≤ 100000) :
  Calls Tryz.prog 121 #[.slice A X.length c, .slice B Y.length d] w fun e w' => e = .returned (.bool (oppB X Y)) ∧ Below w.heap.size w w' := by
 have HC := Lib.hid (eeqf_any A B c d X Y w hz hy hl hl2)
 generalize oppB X Y = r at *
 generalize X.length = n at *
 generalize Y.length = m at *
 go_enter Tryz.func121, Tryz.ntmps121
 go_wp2_with (go_at_call 141; refine HC.out.mono ?_; rintro e w5 ⟨rfl, hb5⟩)
 go_ret
 exact ⟨rfl, hb5⟩
def revE (x : Ety) (a b : Int) (A : Option Addr) (c : Nat) : Ety := ⟨a, x.ent, b, 3, x.id, x.txt, A, x.n, c⟩
theorem okL_neg {X : List Lnk} (h : ∀ l ∈ X, okK (kOf l) ∧ (Lit.int .i64 l.tgt).wf = true) : ∀ l ∈ X.map negL, okK (kOf l) ∧ (Lit.int .i64 l.tgt).wf = true := by
 intro l hl
 obtain ⟨m, hm, rfl⟩ := List.mem_map.1 hl
 refine ⟨(h m hm).1, ?_⟩
 show (decide (-9223372036854775808 ≤ wr (-m.tgt)) && decide (wr (-m.tgt) ≤ 9223372036854775807)) = true
 have h9 := wr_range (-m.tgt)
 rw [decide_eq_true h9.1, decide_eq_true h9.2]
 rfl
open Go.RowKit Go.Maps
structure PE where
 id : Int
 ent : Int
 day : Int
 kind : Int
 of_ : Int
 txt : ByteArray
 ls : List Lnk
abbrev Etl := Ety × List Lnk
def pe (p : Etl) : PE := ⟨p.1.id, p.1.ent, p.1.day, p.1.kind, p.1.of_, p.1.txt, p.2⟩
def idxP (Es : List PE) (id : Int) : Nat := Es.findIdx fun e => decide (e.id = id)
def getP (Es : List PE) (id : Int) : Int := if idxP Es id < Es.length then (idxP Es id : Int) else -1
def isRv (id : Int) (e : PE) : Bool := decide (e.kind = 3) && decide (e.of_ = id)
def revO (Es : List PE) (id : Int) : Option PE := Es.find? (isRv id)
def revP (Es : List PE) (id : Int) : Int := match revO Es id with | some e => e.id | none => 0
def rvE (Es : List PE) (x : PE) : Int := if x.kind = 3 then (match Es[idxP Es x.of_]? with
 | none => 8
 | some e => if (decide (e.kind = 3) || decide (revP Es x.of_ ≠ 0)) = true then 7 else if (decide (e.ent ≠ x.ent) || (decide (x.day < e.day) || !oppB x.ls e.ls)) = true then 18 else 0) else 0
def fst4 (a b c d : Int) : Int := if a = 0 then (if b = 0 then (if c = 0 then d else c) else b) else a
def postE (c : Int) (Es : List PE) (x : PE) : Int := fst4 c (if idxP Es x.id < Es.length then 9 else 0) (rvE Es x) (if 2000 ≤ Es.length then 6 else 0)
theorem idxP_some {Es : List PE} {id : Int} (h : idxP Es id < Es.length) : ∃ e, Es[idxP Es id]? = some e ∧ e.id = id := by
 refine ⟨Es[idxP Es id], List.getElem?_eq_getElem h, ?_⟩
 have h2 : Es.findIdx (fun e : PE => decide (e.id = id)) < Es.length := h
 have := List.findIdx_getElem (p := fun e : PE => decide (e.id = id)) (xs := Es) (w := h2)
 exact of_decide_eq_true this
theorem idxP_snoc (Es : List PE) (x : PE) (id : Int) : idxP (Es ++ [x]) id = if idxP Es id < Es.length then idxP Es id else if x.id = id then Es.length else Es.length + 1 := by
 unfold idxP
 rw [List.findIdx_append]
 split
 ·rfl
 ·rename_i h
  have h1 : Es.findIdx (fun e => decide (e.id = id)) = Es.length := Nat.le_antisymm List.findIdx_le_length (Nat.le_of_not_lt h)
  by_cases h2 : x.id = id
  ·simp [h2, List.findIdx_cons]
  ·simp [h2, List.findIdx_cons]; omega
theorem revO_snoc (Es : List PE) (x : PE) (id : Int) : revO (Es ++ [x]) id = (revO Es id).or (if isRv id x = true then some x else none) := by
 unfold revO
 rw [List.find?_append]
 congr 1
 by_cases h : isRv id x = true <;> simp [h]
structure GoodP (Es : List PE) : Prop where
 pos : ∀ e ∈ Es, 1 ≤ e.id
 wf : ∀ e ∈ Es, (Lit.int .i64 e.id).wf = true
 ln : ∀ e ∈ Es, e.ls.length ≤ 1000
theorem revP_ne {Es : List PE} (h : GoodP Es) (id : Int) : (revP Es id ≠ 0) ↔ (revO Es id).isSome = true := by
 unfold revP
 cases hr : revO Es id with
 | none => simp
 | some e =>
  have := h.pos e (List.mem_of_find?_eq_some hr)
  simp
  omega
def idxF (Es : List PE) (id : Int) : Option Value := if idxP Es id < Es.length then some (.int .i64 (idxP Es id : Nat)) else none
def revF (Es : List PE) (id : Int) : Option Value := (revO Es id).map fun e => .int .i64 e.id
theorem idxF_snoc {Es : List PE} {x : PE} (h : ¬ idxP Es x.id < Es.length) (c : Int) : idxF (Es ++ [x]) c = if c = x.id then some (.int .i64 (Es.length : Nat)) else idxF Es c := by
 unfold idxF
 rw [idxP_snoc, List.length_append, List.length_singleton]
 by_cases hc : c = x.id
 ·subst hc
  rw [if_neg h, if_pos rfl, if_pos rfl, if_pos (by omega)]
 ·rw [if_neg hc]
  by_cases h1 : idxP Es c < Es.length
  ·rw [if_pos h1, if_pos h1, if_pos (by omega)]
  ·have e1 : (if idxP Es c < Es.length then idxP Es c else if x.id = c then Es.length else Es.length + 1) = Es.length + 1 := by rw [if_neg h1, if_neg (fun e => hc e.symm)]
   rw [e1, if_neg (by omega), if_neg h1]
theorem revF_snoc {Es : List PE} {x : PE} (hk : x.kind = 3) (h : revO Es x.of_ = none) (c : Int) : revF (Es ++ [x]) c = if c = x.of_ then some (.int .i64 x.id) else revF Es c := by
 unfold revF
 rw [revO_snoc]
 by_cases hc : c = x.of_
 ·subst hc
  rw [h, if_pos rfl]
  simp [isRv, hk]
 ·rw [if_neg hc]
  have : isRv c x = false := by simp [isRv, hk]; exact fun e => hc e.symm
  rw [this]
  simp
theorem revF_same {Es : List PE} {x : PE} (hk : x.kind ≠ 3) (c : Int) : revF (Es ++ [x]) c = revF Es c := by
 unfold revF
 rw [revO_snoc]
 have : isRv c x = false := by simp [isRv, hk]
 rw [this]
 simp
theorem fst4_zero {a b c d : Int} (h : fst4 a b c d = 0) : a = 0 ∧ b = 0 ∧ c = 0 ∧ d = 0 := by
 unfold fst4 at h
 by_cases h0 : a = 0
 ·by_cases h1 : b = 0
  ·by_cases h2 : c = 0
   ·rw [if_pos h0, if_pos h1, if_pos h2] at h; exact ⟨h0, h1, h2, h⟩
   ·rw [if_pos h0, if_pos h1, if_neg h2] at h; exact absurd h h2
  ·rw [if_pos h0, if_neg h1] at h; exact absurd h h1
 ·rw [if_neg h0] at h; exact absurd h h0
theorem postE_zero {c : Int} {Es : List PE} {x : PE} (hg : GoodP Es) (h : postE c Es x = 0) : c = 0 ∧ ¬ idxP Es x.id < Es.length ∧ (x.kind = 3 → revO Es x.of_ = none) := by
 obtain ⟨h0, h1, h2, -⟩ := fst4_zero h
 refine ⟨h0, (fun h3 => by rw [if_pos h3] at h1; cases h1), fun hk => ?_⟩
 unfold rvE at h2
 rw [if_pos hk] at h2
 split at h2
 ·cases h2
 ·split at h2
  ·cases h2
  ·rename_i h4
   cases hr : revO Es x.of_ with
   | none => rfl
   | some e =>
    exfalso
    have := (revP_ne hg x.of_).2 (by rw [hr]; rfl)
    simp [this] at h4
def EtysK (w : World) (Xs : List Etl) : Prop := ∀ p ∈ Xs, EtyK w p.1 p.2
theorem EtysK.up {w w' : World} {Xs : List Etl} (h : EtysK w Xs) (hb : Below w.heap.size w w') : EtysK w' Xs := fun p hp => (h p hp).up hb
structure JD where
 b : Nat
 g : Grp
 L : List Acc
 G : List Ent
 A : Option Addr
 n : Nat
 c : Nat
 Xs : List Etl
 bi : Nat
 br : Nat
def JD.Es (j : JD) : List PE := j.Xs.map pe
def JC (j : JD) : List Value := grpC j.g ++ [.slice j.A j.n j.c, .map (some j.bi), .map (some j.br)]
structure JK (M : Nat → Prop) (B : Nat) (w : World) (j : JD) : Prop where
 box : Wh 91 w j.b (JC j)
 row : OwnR lyX 46 w B (.slice j.A j.n j.c) (j.Xs.map (·.1))
 ln : j.Xs.length = j.n
 idx : MapV w j.bi j.n (idxF j.Es)
 rev : MapV w j.br j.n (revF j.Es)
 grp : Im M (fun w => GrK w j.g j.L j.G) w
 ets : Im M (fun w => EtysK w j.Xs) w
 mb : M j.b
 mi : M j.bi
 mr : M j.br
 mx : ∀ k, (Value.slice j.A j.n j.c).ownBlock = some k → M k
 ne : j.bi ≠ j.br
 hs : Sm j.g j.G
 hw : GrW j.g j.L j.G
 good : GoodP j.Es
section
variable {M : Nat → Prop} {B : Nat} {w w' : World} {j : JD}
theorem MapV.isMap {b n : Nat} {f : Int → Option Value} (h : MapV w b n f) : ∃ es k, w.heap[b]? = some (.map es k) := by
 obtain ⟨D, ⟨es, clock, hb, _⟩, _⟩ := h
 exact ⟨es, clock, hb⟩
theorem JK.up (h : JK M B w j) (hb : Below w.heap.size w w') : JK M B w' j :=
 ⟨h.box.up hb, h.row.up hb, h.ln, h.idx.up hb, h.rev.up hb, h.grp.on (Only.of hb), h.ets.on (Only.of hb), h.mb, h.mi, h.mr, h.mx, h.ne, h.hs, h.hw, h.good⟩
theorem JK.len (h : JK M B w j) : j.Es.length = j.n := by rw [← h.ln]; simp [JD.Es]
theorem JK.b_row (h : JK M B w j) : ∀ k, (Value.slice j.A j.n j.c).ownBlock = some k → k ≠ j.b := by
 intro k hk e
 subst e
 rcases h.row.2 with ⟨h1, _⟩ | ⟨g, cap, cur, h1, _, hg, _⟩
 ·rw [h1] at hk; cases hk
 ·rw [h1] at hk
  have hk2 : g = j.b := by injection hk
  rw [hk2, h.box.blk] at hg
  injection hg with hg
  injection hg with _ h2
  exact absurd h2 (by decide)
theorem JK.i_row (h : JK M B w j) : ∀ k, (Value.slice j.A j.n j.c).ownBlock = some k → k ≠ j.bi ∧ k ≠ j.br := by
 intro k hk
 rcases h.row.2 with ⟨h1, _⟩ | ⟨g, cap, cur, h1, _, hg, _⟩
 ·rw [h1] at hk; cases hk
 ·rw [h1] at hk
  have hk2 : g = k := by injection hk
  rw [hk2] at hg
  obtain ⟨e1, k1, h3⟩ := h.idx.isMap
  obtain ⟨e2, k2, h4⟩ := h.rev.isMap
  exact ⟨(fun e => by rw [e, h3] at hg; cases hg), (fun e => by rw [e, h4] at hg; cases hg)⟩
theorem JK.b_map (h : JK M B w j) : j.b ≠ j.bi ∧ j.b ≠ j.br := by
 obtain ⟨e1, k1, h3⟩ := h.idx.isMap
 obtain ⟨e2, k2, h4⟩ := h.rev.isMap
 exact ⟨(fun e => by have := h.box.blk; rw [e, h3] at this; cases this), (fun e => by have := h.box.blk; rw [e, h4] at this; cases this)⟩
end
theorem wpList_mapv_ok {w : World} {ops : Array Oper} {rest : List Oper} {o : Oper} {a : Act} {Q : Exit → Act → World → Prop} (hg : o.guard = none) (m x : Operand) (hop : o.op = Op.lookup 89 m x true)
  (b n : Nat) (f : Int → Option Value) (hm : a.eval m = .map (some b)) (hs : MapV w b n f) (c : Int) (hx : a.eval x = .int .i64 c) (hw : (Lit.int .i64 c).wf = true)
  (hK : wpList Tryz.prog ops Q rest (a.put o.dst (.tuple #[(f c).getD (.int .i64 0), .bool (f c).isSome])) w) : wpList Tryz.prog ops Q (o :: rest) a w := by
 obtain ⟨D, h1, h3⟩ := hs
 refine wpList_plain hg fun K' hK' => ?_
 obtain ⟨v, ps, hrun, hv⟩ := h1.look_ok ti_keyed Tryz.underlying89 (ti_zero w) (zd := .held (.int .i64 0)) (zp := []) rfl (keyOf_int_mk Tryz.underlying3 hw)
 have he : v = (f c).getD (.int .i64 0) := by
  rw [(h3 c).2] at hv
  simp only [heldE, Option.some.injEq, Prod.mk.injEq] at hv
  have h4 := hv.1
  cases hf : f c with
  | none => rw [hf] at h4; injection h4
  | some u => rw [hf] at h4; injection h4
 rw [(h3 c).1] at hrun
 unfold Oper.wp
 simp [execOp, hop, hm, hx, hrun, Result.andThen]
 exact hK' _ _ (he ▸ hK)
theorem wp_mapv_put {w : World} {o : Oper} {a : Act} {K : Act → World → Prop} {Q : Exit → Act → World → Prop} (m x y : Operand) (hop : o.op = Op.mapUpdate 89 m x y)
  (b n : Nat) (f : Int → Option Value) (hm : a.eval m = .map (some b)) (hs : MapV w b n f) (c : Int) (hx : a.eval x = .int .i64 c) (v : Value) (hy : a.eval y = v) (hw : (Lit.int .i64 c).wf = true) (hn : n ≤ 1000000)
  (hK : ∀ w', MapV w' b (n + 1) (fun x => if x = c then some v else f x) → w.grownBy w' (some b) → K (a.put o.dst undef) w') : Oper.wp Tryz.prog o a w K Q := by
 obtain ⟨D, h1, h3⟩ := hs
 have h2 := h1.isMap
 obtain ⟨w', hrun, h4, h5⟩ := h1.update ti_keyed Tryz.underlying89 (by unfold maxLen; omega) (val := v) (d := .held v) (ps := []) (keyOf_int_mk Tryz.underlying3 hw) rfl
 unfold Oper.wp
 simp [execOp, hop, hm, hx, hy, hrun, Result.andThen]
 refine hK w' ⟨_, h4, fun x => ?_⟩ h5
 have hkl : ∀ z : Int, WideAt.IsKeyLit (Lit.int .i64 z) := fun z => by simp [WideAt.IsKeyLit]
 by_cases hxc : x = c
 ·subst hxc
  simp only [if_true]
  exact ⟨by rw [has_put_same h2 (hkl _)]; rfl, fun z => atKey_put_same h2 (hkl _) _ _⟩
 ·simp only [if_neg hxc]
  have hne : Lit.int .i64 x ≠ Lit.int .i64 c := fun e => hxc (by injection e)
  refine ⟨by rw [has_put_other hne]; exact (h3 x).1, fun z => ?_⟩
  rw [atKey_put_other hne]
  exact (h3 x).2 z
theorem infoEx : (Tryz.prog.info? 46).map (fun i => (i.zero, i.size, i.bytes)) = some (some (.agg #[.int .i64 0, .int .i64 0, .int .i64 0, .int .i64 0, .int .i64 0, .string ⟨#[]⟩, .slice none 0 0]), 7, 80) := by kernel_rfl
def ety0 : Ety := ⟨0, 0, 0, 0, 0, ⟨#[]⟩, none, 0, 0⟩
open Go.RowKit
abbrev LnD := Lnk × Int
def lns1 (e hi : Int) (p : Etl) : List LnD := if p.1.ent = e ∧ p.1.day ≤ hi then p.2.map fun l => (l, p.1.day) else []
def lnsU (Xs : List Etl) (e hi : Int) : List LnD := Xs.flatMap (lns1 e hi)
theorem lnsU_app (X Y : List Etl) (e hi : Int) : lnsU (X ++ Y) e hi = lnsU X e hi ++ lnsU Y e hi := by unfold lnsU; rw [List.flatMap_append]
theorem lnsU_one (p : Etl) (e hi : Int) : lnsU [p] e hi = lns1 e hi p := by unfold lnsU; rw [List.flatMap_cons, List.flatMap_nil, List.append_nil]
theorem take_succ_at {α : Type} {L : List α} {i : Nat} {p : α} (h : L[i]? = some p) : L.take (i + 1) = L.take i ++ [p] := by
 obtain ⟨hi, rfl⟩ := List.getElem?_eq_some_iff.1 h
 exact List.take_succ_eq_append_getElem hi
theorem lnsU_succ {Xs : List Etl} {i : Nat} {p : Etl} (h : Xs[i]? = some p) (e hi : Int) : lnsU (Xs.take (i + 1)) e hi = lnsU (Xs.take i) e hi ++ lns1 e hi p := by
 rw [take_succ_at h, lnsU_app, lnsU_one]
theorem lns1_yes {e hi : Int} {p : Etl} (h : p.1.ent = e) (h2 : ¬ hi < p.1.day) : lns1 e hi p = p.2.map fun l => (l, p.1.day) := by unfold lns1; rw [if_pos ⟨h, by omega⟩]
theorem lns1_ent {e hi : Int} {p : Etl} (h : ¬ p.1.ent = e) : lns1 e hi p = [] := by unfold lns1; rw [if_neg fun q => h q.1]
theorem lns1_day {e hi : Int} {p : Etl} (h : hi < p.1.day) : lns1 e hi p = [] := by unfold lns1; rw [if_neg fun q => by omega]
def sumL (h : LnD → Bool) (L : List LnD) : Int := sumI L fun q => if h q = true then q.1.tgt else 0
theorem sumL_nil (h : LnD → Bool) : sumL h [] = 0 := rfl
theorem sumL_app (h : LnD → Bool) (L M : List LnD) : sumL h (L ++ M) = sumL h L + sumL h M := sumI_app
theorem sumL_snoc (h : LnD → Bool) (L : List LnD) (q : LnD) : sumL h (L ++ [q]) = sumL h L + (if h q = true then q.1.tgt else 0) := by
 rw [sumL_app]; congr 1; unfold sumL; rw [sumI_cons, sumI_nil, Int.add_zero]
theorem sumL_yes {h : LnD → Bool} {L : List LnD} {q : LnD} (hq : h q = true) : wr (sumL h (L ++ [q])) = wr (wr (sumL h L) + q.1.tgt) := by rw [sumL_snoc, if_pos hq, wr_add]
theorem sumL_no {h : LnD → Bool} {L : List LnD} {q : LnD} (hq : h q = false) : wr (sumL h (L ++ [q])) = wr (sumL h L) := by rw [sumL_snoc, hq]; simp
def lcB (a : Int) (q : LnD) : Bool := decide (q.1.frm = a)
def balS (Xs : List Etl) (e a hi : Int) : Int := sumL (lcB a) (lnsU Xs e hi)
def trW (Xs : List Etl) (e hi : Int) (c : Int) : Int := wr (balS Xs e c hi)
def trL (L : List Acc) (Xs : List Etl) (e hi : Int) : List Bal := rowsB L (trW Xs e hi)
theorem lns_sum {e hi : Int} : ∀ {Xs : List Etl}, (∀ p ∈ Xs, wr (sumT p.2) = 0) → sumI (lnsU Xs e hi) (fun q => q.1.tgt) % 18446744073709551616 = 0
 | [], _ => rfl
 | p :: Xs, h => by
  rw [← List.singleton_append, lnsU_app, lnsU_one, sumI_app]
  have h1 := lns_sum (e := e) (hi := hi) (Xs := Xs) fun q hq => h q (List.mem_cons_of_mem _ hq)
  have h2 : sumI (lns1 e hi p) (fun q => q.1.tgt) % 18446744073709551616 = 0 := by
   unfold lns1
   split
   ·rw [sumI_map]
    have h3 := h p (List.mem_cons_self ..)
    have h4 := wr_emod (sumT p.2)
    rw [h3] at h4
    exact h4.symm
   ·rfl
  omega
theorem trL_congr {L : List Acc} {Xs Ys : List Etl} {e hi : Int} (h : ∀ a, wr (balS Xs e a hi) = wr (balS Ys e a hi)) : trL L Xs e hi = trL L Ys e hi := by
 unfold trL
 rw [show trW Xs e hi = trW Ys e hi from funext h]
theorem balS_app (X Y : List Etl) (e a hi : Int) : balS (X ++ Y) e a hi = balS X e a hi + balS Y e a hi := by unfold balS; rw [lnsU_app, sumL_app]
theorem balS_swap (X Y : List Etl) (p q : Etl) (e a hi : Int) : balS (X ++ p :: q :: Y) e a hi = balS (X ++ q :: p :: Y) e a hi := by
 rw [balS_app, balS_app, show p :: q :: Y = [p] ++ ([q] ++ Y) from rfl, show q :: p :: Y = [q] ++ ([p] ++ Y) from rfl, balS_app, balS_app, balS_app, balS_app]; omega
theorem bal_rev {p q : Etl} {e a hi : Int} (he : q.1.ent = p.1.ent) (hd : q.1.day = p.1.day) (hl : q.2 = p.2.map negL) : wr (balS [p] e a hi + balS [q] e a hi) = 0 := by
 unfold balS
 rw [lnsU_one, lnsU_one]
 unfold lns1
 rw [he, hd, hl]
 split
 ·have h1 : ∀ {M : List Lnk} {d : Int}, (sumL (lcB a) (M.map fun l => (l, d)) + sumL (lcB a) ((M.map negL).map fun l => (l, d))) % 18446744073709551616 = 0 := by
   intro M d
   unfold sumL
   rw [List.map_map, sumI_map, sumI_map]
   induction M with
   | nil => rfl
   | cons l M ih =>
    rw [sumI_cons, sumI_cons]
    have h2 : ((if lcB a (l, d) = true then l.tgt else 0) + (if lcB a ((fun l : Lnk => (l, d)) (negL l)) = true then (negL l).tgt else 0)) % 18446744073709551616 = 0 := by
     unfold lcB negL
     dsimp only
     by_cases h : l.frm = a
     ·rw [if_pos (by simp [h]), if_pos (by simp [h])]
      have := wr_emod (-l.tgt)
      omega
     ·rw [if_neg (by simp [h]), if_neg (by simp [h])]; rfl
    have h3 := ih
    simp only [Function.comp_def] at h2 h3 ⊢
    omega
  have h4 := h1 (M := p.2) (d := p.1.day)
  have h5 := wr_eq_of (x := sumL (lcB a) (p.2.map fun l => (l, p.1.day)) + sumL (lcB a) ((p.2.map negL).map fun l => (l, p.1.day))) (y := 0) h4
  rw [h5]; exact wr_zero
 ·exact wr_zero
theorem infoAcJ : (Tryz.prog.info? 118).map (fun i => (i.zero, i.size, i.bytes)) = some (some (.agg #[.int .i64 0, .int .i64 0, .int .i64 0, .int .i64 0]), 4, 32) := by kernel_rfl
set_option maxRecDepth 100000 in
set_option maxHeartbeats 3200000 in
theorem cloneL_any (A : Option Addr) (c : Nat) (X : List Lnk) (w : World) (hz : RowAt lyL w A X) (hl : X.length ≤ 100000) : Calls Tryz.prog 91 #[.slice A X.length c] w fun e w' => (∃ A' c', e = .returned (.slice A' X.length c') ∧ OwnR lyL 59 w' w.heap.size (.slice A' X.length c') X) ∧ Below w.heap.size w w' := by
 obtain ⟨n, hn⟩ : ∃ n, X.length = n := ⟨_, rfl⟩
 rw [hn] at hl ⊢
 have HN := Lib.hid hn
 have HZ := Lib.hid hz
 clear hz hn
 obtain ⟨i0, hi, hz1, hz2, hz3⟩ := info_parts infoLn
 rcases A with _ | ad
 ·have hx : X = [] := by
   rcases X with _ | ⟨x, X⟩
   ·rfl
   ·obtain ⟨b, off, e, _⟩ := HZ.out (by simp)
    cases e
  have hn0 : n = 0 := by rw [← HN.out, hx]; rfl
  subst hn0
  have HX := Lib.hid hx
  clear hx
  have kn := fun w : World => Lib.run_eql_slice_nil (P := Tryz.prog) w 44 59 none 0 c 0 0 Tryz.underlying44
  go_enter Tryz.func91, Tryz.ntmps91
  go_wp2_with fail
  go_ret
  exact ⟨⟨none, 0, rfl, by rw [HX.out]; exact OwnR.nil⟩, Below.refl _ _⟩
 ·have HB := Lib.hid (below_alloc_new (w := w) (.cells #[] 59))
  have HE : Hid (OwnR lyL 59 (w.alloc (.cells #[] 59)) w.heap.size (.slice (some ⟨w.heap.size, 0, none⟩) 0 0) []) := Lib.hid (OwnR.empty (Nat.le_refl _))
  have HZ2 := Lib.hid (HZ.out.up HB.out)
  have kn := fun w : World => Lib.run_eql_slice_nil (P := Tryz.prog) w 44 59 (some ad) n c 0 0 Tryz.underlying44
  go_enter Tryz.func91, Tryz.ntmps91
  go_wp2_with (at_builtin; refine wpList_app_row (R := lyL) (v := .slice (some ⟨w.heap.size, 0, none⟩) 0 0) rfl (.tmp 5) (.tmp 6) 44 rfl i0 _ 24 Tryz.underlying44 hi hz1 hz2 hz3 (by omega) rfl rfl HE.out (some ad) n c X HN.out rfl HZ2.out (by simp; omega) (Nat.le_of_lt (by simp)) ?_; intro v5 w5 ho5 hg5 hn5; obtain ⟨A5, c5, e5, -, -⟩ := ho5.out.reads; rw [List.nil_append, HN.out] at e5; obtain rfl := e5; have HO5 : Hid (OwnR lyL 59 w5 w.heap.size (.slice A5 n c5) X) := Lib.hid ho5.out; have HB5 : Hid (Below w.heap.size w w5) := Lib.hid (HB.out.grown hg5.out (by simp) (fun k hk => Nat.le_of_eq (Option.some.inj hk))); clear ho5 hg5 hn5)
  go_ret
  exact ⟨⟨A5, c5, rfl, HO5.out⟩, HB5.out⟩
set_option maxRecDepth 100000 in
set_option maxHeartbeats 3200000 in
theorem cloneA_any (A : Option Addr) (c : Nat) (X : List Acc) (w : World) (hz : RowAt lyA w A X) (hl : X.length ≤ 100000) : Calls Tryz.prog 136 #[.slice A X.length c] w fun e w' => (∃ A' c', e = .returned (.slice A' X.length c') ∧ OwnR lyA 118 w' w.heap.size (.slice A' X.length c') X) ∧ Below w.heap.size w w' := by
 obtain ⟨n, hn⟩ : ∃ n, X.length = n := ⟨_, rfl⟩
 rw [hn] at hl ⊢
 have HN := Lib.hid hn
 have HZ := Lib.hid hz
 clear hz hn
 obtain ⟨i0, hi, hz1, hz2, hz3⟩ := info_parts infoAcJ
 rcases A with _ | ad
 ·have hx : X = [] := by
   rcases X with _ | ⟨x, X⟩
   ·rfl
   ·obtain ⟨b, off, e, _⟩ := HZ.out (by simp)
    cases e
  have hn0 : n = 0 := by rw [← HN.out, hx]; rfl
  subst hn0
  have HX := Lib.hid hx
  clear hx
  have kn := fun w : World => Lib.run_eql_slice_nil (P := Tryz.prog) w 24 118 none 0 c 0 0 Tryz.underlying24
  go_enter Tryz.func136, Tryz.ntmps136
  go_wp2_with fail
  go_ret
  exact ⟨⟨none, 0, rfl, by rw [HX.out]; exact OwnR.nil⟩, Below.refl _ _⟩
 ·have HB := Lib.hid (below_alloc_new (w := w) (.cells #[] 118))
  have HE : Hid (OwnR lyA 118 (w.alloc (.cells #[] 118)) w.heap.size (.slice (some ⟨w.heap.size, 0, none⟩) 0 0) []) := Lib.hid (OwnR.empty (Nat.le_refl _))
  have HZ2 := Lib.hid (HZ.out.up HB.out)
  have kn := fun w : World => Lib.run_eql_slice_nil (P := Tryz.prog) w 24 118 (some ad) n c 0 0 Tryz.underlying24
  go_enter Tryz.func136, Tryz.ntmps136
  go_wp2_with (at_builtin; refine wpList_app_row (R := lyA) (v := .slice (some ⟨w.heap.size, 0, none⟩) 0 0) rfl (.tmp 5) (.tmp 6) 24 rfl i0 _ 32 Tryz.underlying24 hi hz1 hz2 hz3 (by omega) rfl rfl HE.out (some ad) n c X HN.out rfl HZ2.out (by simp; omega) (Nat.le_of_lt (by simp)) ?_; intro v5 w5 ho5 hg5 hn5; obtain ⟨A5, c5, e5, -, -⟩ := ho5.out.reads; rw [List.nil_append, HN.out] at e5; obtain rfl := e5; have HO5 : Hid (OwnR lyA 118 w5 w.heap.size (.slice A5 n c5) X) := Lib.hid ho5.out; have HB5 : Hid (Below w.heap.size w w5) := Lib.hid (HB.out.grown hg5.out (by simp) (fun k hk => Nat.le_of_eq (Option.some.inj hk))); clear ho5 hg5 hn5)
  go_ret
  exact ⟨⟨A5, c5, rfl, HO5.out⟩, HB5.out⟩
set_option maxRecDepth 100000 in
set_option maxHeartbeats 3200000 in
theorem cloneE_any (A : Option Addr) (c : Nat) (X : List Ent) (w : World) (hz : RowAt lyE w A X) (hl : X.length ≤ 100000) : Calls Tryz.prog 112 #[.slice A X.length c] w fun e w' => (∃ A' c', e = .returned (.slice A' X.length c') ∧ OwnR lyE 116 w' w.heap.size (.slice A' X.length c') X) ∧ Below w.heap.size w w' := by
 obtain ⟨n, hn⟩ : ∃ n, X.length = n := ⟨_, rfl⟩
 rw [hn] at hl ⊢
 have HN := Lib.hid hn
 have HZ := Lib.hid hz
 clear hz hn
 obtain ⟨i0, hi, hz1, hz2, hz3⟩ := info_parts infoEn
 rcases A with _ | ad
 ·have hx : X = [] := by
   rcases X with _ | ⟨x, X⟩
   ·rfl
   ·obtain ⟨b, off, e, _⟩ := HZ.out (by simp)
    cases e
  have hn0 : n = 0 := by rw [← HN.out, hx]; rfl
  subst hn0
  have HX := Lib.hid hx
  clear hx
  have kn := fun w : World => Lib.run_eql_slice_nil (P := Tryz.prog) w 27 116 none 0 c 0 0 Tryz.underlying27
  go_enter Tryz.func112, Tryz.ntmps112
  go_wp2_with fail
  go_ret
  exact ⟨⟨none, 0, rfl, by rw [HX.out]; exact OwnR.nil⟩, Below.refl _ _⟩
 ·have HB := Lib.hid (below_alloc_new (w := w) (.cells #[] 116))
  have HE : Hid (OwnR lyE 116 (w.alloc (.cells #[] 116)) w.heap.size (.slice (some ⟨w.heap.size, 0, none⟩) 0 0) []) := Lib.hid (OwnR.empty (Nat.le_refl _))
  have HZ2 := Lib.hid (HZ.out.up HB.out)
  have kn := fun w : World => Lib.run_eql_slice_nil (P := Tryz.prog) w 27 116 (some ad) n c 0 0 Tryz.underlying27
  go_enter Tryz.func112, Tryz.ntmps112
  go_wp2_with (at_builtin; refine wpList_app_row (R := lyE) (v := .slice (some ⟨w.heap.size, 0, none⟩) 0 0) rfl (.tmp 5) (.tmp 6) 27 rfl i0 _ 88 Tryz.underlying27 hi hz1 hz2 hz3 (by omega) rfl rfl HE.out (some ad) n c X HN.out rfl HZ2.out (by simp; omega) (Nat.le_of_lt (by simp)) ?_; intro v5 w5 ho5 hg5 hn5; obtain ⟨A5, c5, e5, -, -⟩ := ho5.out.reads; rw [List.nil_append, HN.out] at e5; obtain rfl := e5; have HO5 : Hid (OwnR lyE 116 w5 w.heap.size (.slice A5 n c5) X) := Lib.hid ho5.out; have HB5 : Hid (Below w.heap.size w w5) := Lib.hid (HB.out.grown hg5.out (by simp) (fun k hk => Nat.le_of_eq (Option.some.inj hk))); clear ho5 hg5 hn5)
  go_ret
  exact ⟨⟨A5, c5, rfl, HO5.out⟩, HB5.out⟩
def Ety.at (x : Ety) (A : Option Addr) (c : Nat) : Ety := { x with A := A, c := c }
set_option maxRecDepth 100000 in
set_option maxHeartbeats 3200000 in
theorem copyof_any (x : Ety) (X : List Lnk) (w : World) (hx : EtyK w x X) (hn : x.n ≤ 1000) : Calls Tryz.prog 55 #[etyV x] w fun e w' => (∃ A c, e = .returned (etyV (x.at A c)) ∧ OwnR lyL 59 w' w.heap.size (.slice A x.n c) X) ∧ Below w.heap.size w w' := by
 have HC := Lib.hid (fun W (h : LnkAt W x.A X) => cloneL_any x.A x.c X W (lnk_row.2 h) (by rw [hx.ln]; omega))
 rw [hx.ln] at HC
 obtain ⟨s0, hs0⟩ : ∃ s0, w.heap.size = s0 := ⟨_, rfl⟩
 obtain ⟨w2, hw2⟩ : ∃ w2, (w.alloc (.cells (etyC x).toArray 46)).alloc (.cells #[.int .i64 0, .int .i64 0, .int .i64 0, .int .i64 0, .int .i64 0, .string ⟨#[]⟩, .slice none 0 0] 46) = w2 := ⟨_, rfl⟩
 have hXB : Wh 46 w2 s0 (etyC x) := by rw [← hw2, ← hs0]; exact (Wh.new w _ _).up (below_alloc_new _)
 have HRB : Hid (Wh 46 w2 (s0 + 1) [.int .i64 0, .int .i64 0, .int .i64 0, .int .i64 0, .int .i64 0, .string ⟨#[]⟩, .slice none 0 0]) := Lib.hid (by
  rw [← hw2, ← hs0]
  have h9 := Wh.new (w.alloc (.cells (etyC x).toArray 46)) 46 [.int .i64 0, .int .i64 0, .int .i64 0, .int .i64 0, .int .i64 0, .string ⟨#[]⟩, .slice none 0 0]
  rw [World.size_alloc] at h9
  exact h9)
 have HB2 : Hid (Below s0 w w2) := Lib.hid (by rw [← hw2, ← hs0]; exact below_new (below_alloc_new _) _)
 have HS2 : Hid (w2.heap.size = s0 + 2) := Lib.hid (by rw [← hw2, ← hs0]; simp)
 have HX2 := Lib.hid (hx.hz.up (HB2.out.mono (Nat.le_of_eq hs0)))
 have c6 := hXB.at 6 _ rfl
 have HXB := Lib.hid hXB
 have HS0 := Lib.hid hs0
 have hw3 : (etyC x).toArray = #[.int .i64 x.id, .int .i64 x.ent, .int .i64 x.day, .int .i64 x.kind, .int .i64 x.of_, .string x.txt, .slice x.A x.n x.c] := rfl
 rw [hw3] at hw2
 clear hx hw3 hXB
 go_enter Tryz.func55, Tryz.ntmps55
 go_upto_region 2 with (go_at_call 91; refine (HC.out _ HX2.out).mono ?_; rintro e w3 ⟨⟨A, c, rfl, ho⟩, hb⟩; have hx3 := HXB.out.up hb; have z6 := hx3.at 6 _ rfl; have y6 := hx3.frozen 6; have HX3 := Lib.hid hx3; have HR3 := Lib.hid (HRB.out.up hb); have HO3 := Lib.hid ho; have HB3 := Lib.hid hb; clear hx3 ho hb)
 have hX4 : Wh 46 (w3.setCell ⟨s0, 6, none⟩ (.slice A x.n c)) s0 (etyC (x.at A c)) := HX3.out.set 6 _
 have hR4 := HR3.out.same (Below.heap_setCell w3 ⟨s0, 6, none⟩ (.slice A x.n c) (s0 + 1) (by show s0 + 1 ≠ s0; omega))
 have hO4 : OwnR lyL 59 (w3.setCell ⟨s0, 6, none⟩ (.slice A x.n c)) w2.heap.size (.slice A x.n c) X := HO3.out.blk fun g hg => Below.heap_setCell w3 ⟨s0, 6, none⟩ _ g (by have := (HO3.out.lt hg).1; have := HS2.out; show g ≠ s0; omega)
 have hB4 : Below s0 w (w3.setCell ⟨s0, 6, none⟩ (.slice A x.n c)) := Below.setCell (p := ⟨s0, 6, none⟩) (HB2.out.trans (HB3.out.mono (by have := HS2.out; omega))) (Nat.le_refl _) _
 clear z6 y6 c6 HX3 HR3 HO3 HB3 HXB HRB HX2 hw2
 generalize w3.setCell ⟨s0, 6, none⟩ (.slice A x.n c) = w4 at *
 have HL : Hid ((Instr.loadAt 46 (.pointer (some ⟨s0, 0, none⟩))).run Tryz.prog w4 = .ok (etyV (x.at A c)) w4) := Lib.hid (hX4.rg.load 0 46 (etyC (x.at A c)) rfl _ Tryz.underlying46 rfl (by kernel_rfl))
 have HR4 := Lib.hid hR4
 have HO4 := Lib.hid hO4
 have HB4 := Lib.hid hB4
 have HM1 : True := trivial
 clear hX4 hR4 hO4 hB4
 go_wp2_with (first
  | (clear HM1; refine wpList_load_is rfl 46 _ rfl (.pointer (some ⟨s0, 0, none⟩)) rfl (etyV (x.at A c)) HL.out ?_)
  | (refine wpList_store_wh rfl 46 _ _ rfl (s0 + 1) rfl 46 [.int .i64 0, .int .i64 0, .int .i64 0, .int .i64 0, .int .i64 0, .string ⟨#[]⟩, .slice none 0 0] (etyC (x.at A c)) rfl HR4.out rfl (by kernel_rfl) (by kernel_rfl) ?_; intro w5 hr5 ho5 hz5))
 refine bodyPost_ret (v := etyV (x.at A c)) (results_cell_mid Tryz.results55 _ _ (s0 + 1) (etyC (x.at A c)) _ rfl hr5.out.range Tryz.underlying46 rfl (by kernel_rfl)) rfl ⟨⟨A, c, rfl, ?_⟩, ?_⟩
 ·exact (HO4.out.blk fun g hg => ho5.out.blk g (HO4.out.lt hg).2 (by have := (HO4.out.lt hg).1; have := HS2.out; show ¬ g = s0 + 1; omega)).low (by have := HS2.out; have := HS0.out; omega)
 ·have h9 := HB4.out.trans (ho5.out.below (B := s0) (fun k hk => by have h8 : k = s0 + 1 := hk; omega) (by have := HB4.out.size; have := HS0.out; omega))
  first | exact h9 | (rw [HS0.out]; exact h9)
theorem OwnR.frozen {α : Type} {R : Lay α} {e : TypeId} {w : World} {base g n c : Nat} {L : List α} (h : OwnR R e w base (.slice (some ⟨g, 0, none⟩) n c) L) (i : Nat) : w.frozen? ⟨g, i, none⟩ = false := by
 rcases h.2 with ⟨h1, _⟩ | ⟨g', cap, cur, h1, _, hg, _⟩
 ·cases h1
 ·injection h1 with h1 _ _
  injection h1 with h1
  injection h1 with h1 _ _
  subst h1
  simp [World.frozen?, hg]
def noPar (a : Acc) : Acc := { a with par := 0 }
theorem nopar_step {L : List Acc} {k : Nat} {a : Acc} (h : L[k]? = some a) : (((L.take k).map noPar) ++ L.drop k)[k]? = some a ∧ (((L.take k).map noPar) ++ L.drop k).set k (noPar a) = (L.take (k + 1)).map noPar ++ L.drop (k + 1) := by
 have hk : k < L.length := (List.getElem?_eq_some_iff.1 h).1
 have h1 : ((L.take k).map noPar).length = k := by rw [List.length_map, List.length_take]; omega
 have h2 : L.drop k = a :: L.drop (k + 1) := by
  rw [List.drop_eq_getElem_cons hk]
  rw [List.getElem?_eq_getElem hk] at h
  injection h with h
  rw [h]
 have h3 : L.take (k + 1) = L.take k ++ [a] := by rw [List.take_add_one, h]; rfl
 constructor
 ·rw [List.getElem?_append_right (by omega), h1, Nat.sub_self, h2]; rfl
 ·rw [List.set_append_right _ _ (by omega), h1, Nat.sub_self, h2, List.set_cons_zero, h3, List.map_append, List.append_assoc]; rfl
set_option maxRecDepth 100000 in
set_option maxHeartbeats 3200000 in
theorem wop_any (A : Option Addr) (c : Nat) (L : List Acc) (w : World) (hz : RowAt lyA w A L) (hl : L.length ≤ 1000) : Calls Tryz.prog 111 #[.slice A L.length c] w fun e w' => (∃ A' c', e = .returned (.slice A' L.length c') ∧ OwnR lyA 118 w' w.heap.size (.slice A' L.length c') (L.map noPar)) ∧ Below w.heap.size w w' := by
 have HC := Lib.hid (cloneA_any A c L w hz (by omega))
 obtain ⟨n, hn⟩ : ∃ n, L.length = n := ⟨_, rfl⟩
 rw [hn] at HC hl ⊢
 have HN := Lib.hid hn
 clear hz hn
 go_enter Tryz.func111, Tryz.ntmps111
 go_wp2_with (go_at_call 136; refine HC.out.mono ?_; rintro e w2 ⟨⟨A2, c2, rfl, ho⟩, hb⟩; have HO := Lib.hid ho; have HB := Lib.hid hb; clear ho hb)
 go_loopg [9] n (fun kx s9 wr => ∃ k : Nat, s9 = .int .i64 k ∧ k ≤ n ∧ n - k ≤ kx ∧ Hid (OwnR lyA 118 wr w.heap.size (.slice A2 n c2) ((L.take k).map noPar ++ L.drop k)) ∧ Hid (Below w.heap.size w wr))
 case atStart => exact ⟨0, rfl, by omega, by omega, HO, HB⟩
 case round =>
  clear HO HB
  obtain ⟨k, rfl, hk, hkx, HO, HB⟩ := hrel
  by_cases hlt : k < n
  ·have hltz : (k : Int) < (n : Int) := by omega
   obtain ⟨a, ha⟩ : ∃ a, L[k]? = some a := ⟨_, List.getElem?_eq_getElem (by rw [HN.out]; exact hlt)⟩
   obtain ⟨h1, h2⟩ := nopar_step ha
   obtain ⟨A9, c9, e9, hr, hg⟩ := HO.out.reads
   injection e9 with e9 q1 q2
   subst e9
   clear q1 q2
   obtain ⟨g, off, rfl, hgl, hrg⟩ := hr.at h1
   obtain ⟨-, rfl⟩ := hg g off rfl
   have z3 : wr.cell? ⟨g, k * 4 + 3, none⟩ = some (.int .i64 a.par) := by have := hrg 3 _ rfl; rwa [Nat.zero_add] at this
   have y3 := HO.out.frozen (k * 4 + 3)
   have HO2 : Hid (OwnR lyA 118 (wr.setCell ⟨g, k * 4 + 3, none⟩ (.int .i64 0)) w.heap.size (.slice (some ⟨g, 0, none⟩) n c2) ((L.take (k + 1)).map noPar ++ L.drop (k + 1))) := Lib.hid (by rw [← h2]; exact HO.out.setf (j := 3) h1 (by decide) _ rfl)
   have HB2 : Hid (Below w.heap.size w (wr.setCell ⟨g, k * 4 + 3, none⟩ (.int .i64 0))) := Lib.hid (Below.setCell (p := ⟨g, k * 4 + 3, none⟩) HB.out (HO.out.lt rfl).1 _)
   clear hr hrg hg ha h1 h2 HO HB
   go_wp2_with fail
   go_roundg (n - (k + 1))
   case measure => omega
   case rel => exact ⟨k + 1, by go_num, by omega, by omega, HO2, HB2⟩
  ·obtain rfl : k = n := by omega
   have hltz : ¬ (k : Int) < (k : Int) := by omega
   have hO9 := HO.out
   rw [← HN.out, List.take_length, List.drop_length, List.append_nil, HN.out] at hO9
   have HO9 := Lib.hid hO9
   clear hO9
   go_wp2_with fail
   go_ret
   exact ⟨⟨A2, c2, rfl, HO9.out⟩, HB.out⟩
end Go.Proofs.YthokdplikidhiaaGreat
