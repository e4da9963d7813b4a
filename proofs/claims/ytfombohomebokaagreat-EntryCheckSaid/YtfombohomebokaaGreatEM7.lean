/- Contracts of the functions that the statements reach, part 7: what was proved of each, callees first. -/
import Derived.Test.YtfombohomebokaaGreatEM6
namespace Go.Proofs.YtfombohomebokaaGreat
open Go.RowKit
theorem lnk_lit (w : World) (t : TypeId) (L : List Lnk) : LnkAt (w.alloc (.cells (L.flatMap celL).toArray t)) (some ⟨w.heap.size, 0, none⟩) L := fun _ => by
 refine ⟨w.heap.size, 0, rfl, by simp, fun j hj => ?_⟩
 have key : ∀ i, (w.alloc (.cells (L.flatMap celL).toArray t)).cell? ⟨w.heap.size, i, none⟩ = (L.flatMap celL)[i]? := by
  intro i
  simp only [World.cell?]
  rw [heap_alloc_new]
  simp
 obtain ⟨k0, k1, k2⟩ := celL_get L j hj
 exact ⟨by rw [Nat.zero_add, key]; exact k0, by rw [Nat.zero_add, key]; exact k1, by rw [Nat.zero_add, key]; exact k2⟩
def exLn : List Lnk := [⟨1000, 5, -1⟩, ⟨2000, -5, 1⟩, ⟨1000, -2, -1⟩, ⟨2000, 2, 1⟩]
def exNn : List Lnk := [⟨1000, 3, -1⟩, ⟨2000, -3, 1⟩]
theorem exLn_nrm : IsNrm exLn exNn := by
 have h := isnrm_keys (L := exLn) (K := [(1000, -1), (2000, 1)]) (by unfold AscP; simp [ltK]) (fun k => by
  unfold fsum
  constructor
  ·intro h
   rw [if_pos]
   ·rfl
   ·simp only [List.mem_cons, List.not_mem_nil, or_false] at h
    rcases h with rfl | rfl <;> decide
  ·intro h
   split at h
   ·rename_i h1
    simp [exLn, kOf] at h1
    simp only [List.mem_cons, List.not_mem_nil, or_false]
    rcases h1 with h1 | h1 | h1 | h1
    all_goals first | exact .inl h1 | exact .inr h1
   ·cases h)
 have e : nrmK (fsum exLn) [(1000, -1), (2000, 1)] = exNn := by decide +kernel
 rw [← e]; exact h
set_option maxRecDepth 20000 in
set_option maxHeartbeats 1600000 in
theorem eawake_any (w : World) : Calls Tryz.prog 5 #[] w fun e w' => e = .returned (.bool true) ∧ Below w.heap.size w w' := by
 have hB1 := below_alloc_new (w := w) (.cells #[.int .i64 1000, .int .i64 5, .int .i64 (-1), .int .i64 2000, .int .i64 (-5), .int .i64 1, .int .i64 1000, .int .i64 (-2), .int .i64 (-1), .int .i64 2000, .int .i64 2, .int .i64 1] 45)
 have hat : LnkAt (w.alloc (.cells #[.int .i64 1000, .int .i64 5, .int .i64 (-1), .int .i64 2000, .int .i64 (-5), .int .i64 1, .int .i64 1000, .int .i64 (-2), .int .i64 (-1), .int .i64 2000, .int .i64 2, .int .i64 1] 45)) (some ⟨w.heap.size, 0, none⟩) exLn := lnk_lit w 45 exLn
 have HN := Lib.hid (fun W (h : LnkAt W (some ⟨w.heap.size, 0, none⟩) exLn) => enorm_any (some ⟨w.heap.size, 0, none⟩) 4 exLn W h (by decide) (by unfold okK; decide +kernel))
 have HAT := Lib.hid hat
 have HB1 := Lib.hid hB1
 clear hat hB1
 go_enter Tryz.func5, Tryz.ntmps5
 go_wp2_with (first
  | (go_at_call 13; refine (HN.out _ HAT.out).mono ?_; rintro e w2 ⟨B, c, N, rfl, hl, hnm, -, hb⟩; obtain rfl := isnrm_unique hnm exLn_nrm; have HL := Lib.hid hl; have HB2 := Lib.hid (below_more HB1.out hb); clear hl hnm hb)
  | (go_at_call 14; refine (rsamel_any B (some ⟨w2.heap.size, 0, none⟩) c 2 exNn exNn _ (HL.out.up (below_alloc_new _)) (lnk_lit w2 45 exNn) (by decide) (by decide)).mono ?_; rintro e w3 ⟨rfl, hb⟩; have HB3 := Lib.hid (below_more (below_new HB2.out _) hb); clear hb))
 go_ret
 exact ⟨by simp, HB3.out⟩
def fewR (e : Ent) : Bool := decide (e.n ≤ 40) && (decide (e.m ≤ 60) && !decide ((60 : Int) < wrap64 ((e.nm.size : Int) + (e.cur.size : Int))))
def few10 (g : Grp) (G : List Ent) : Bool := allTo (fun i => fewR (G.getD i ent0)) G.length && (decide (g.n ≤ 60) && (decide (g.m ≤ 14) && decide ((g.cur.size : Int) ≤ 20)))
theorem few_sm {g : Grp} {G : List Ent} (h : few10 g G = true) : Sm g G := by
 unfold few10 at h
 simp only [Bool.and_eq_true, decide_eq_true_eq] at h
 obtain ⟨h1, h2, h3, -⟩ := h
 refine ⟨h2, h3, fun e he => ?_⟩
 obtain ⟨i, hi, rfl⟩ := mem_getD_acc (d := ent0) he
 have h4 := allTo_is.1 h1 i hi
 unfold fewR at h4
 simp only [Bool.and_eq_true, decide_eq_true_eq] at h4
 exact ⟨by omega, h4.2.1⟩
set_option maxRecDepth 20000 in
set_option maxHeartbeats 1600000 in
theorem rfew10_is (g : Grp) (G : List Ent) (w : World) (he : EntsAt w g.E G) (lg : G.length = g.m) (hmx : g.m ≤ 9223372036854775807) :
  Calls Tryz.prog 15 #[grpV g] w fun e w' => e = .returned (.bool (few10 g G)) ∧ Below w.heap.size w w' := by
 have hB := below_alloc_new (w := w) (.cells #[.string g.cur, .int .i64 g.cy, .int .i64 g.cm, .int .i64 g.cp, .slice g.A g.n g.c, .int .i64 g.r0, .int .i64 g.r1, .int .i64 g.r2, .int .i64 g.r3, .int .i64 g.r4, .int .i64 g.r5, .int .i64 g.r6, .int .i64 g.r7, .int .i64 g.r8, .int .i64 g.r9, .int .i64 g.r10, .int .i64 g.r11, .int .i64 g.r12, .int .i64 g.r13, .int .i64 g.r14, .slice g.E g.m g.d] 29)
 have hG := gb_new w 29 g
 have hv : few10 g G = (allTo (fun i => fewR (G.getD i ent0)) G.length && (decide (g.n ≤ 60) && (decide (g.m ≤ 14) && decide ((g.cur.size : Int) ≤ 20)))) := rfl
 rw [lg] at hv
 generalize few10 g G = r at *
 obtain ⟨P, hP⟩ : ∃ P : Nat → Bool, (fun i => fewR (G.getD i ent0)) = P := ⟨_, rfl⟩
 have hpk : ∀ k, P k = fewR (G.getD k ent0) := fun k => by rw [← hP]
 rw [hP] at hv
 have HV := Lib.hid hv
 have HPK := Lib.hid hpk
 clear hv hpk hP
 obtain ⟨s0, hs0⟩ : ∃ s0, w.heap.size = s0 := ⟨_, rfl⟩
 rw [hs0] at hB hG ⊢
 have HM := Lib.hid lg
 have HZ := Lib.hid he
 have HS0 := Lib.hid hs0
 have HG := Lib.hid hG
 clear he lg hG
 go_enter Tryz.func15, Tryz.ntmps15
 go_wp2_with fail
 clear hs0
 go_loopg [3] g.m (fun kx s3 wr => ∃ k : Nat, s3 = .int .i64 k ∧ k ≤ g.m ∧ g.m - k ≤ kx ∧ Hid (allTo P k = true) ∧ Hid (GB wr s0 g) ∧ Below s0 w wr)
 case atStart => exact ⟨0, rfl, by omega, by omega, Lib.hid rfl, HG, hB⟩
 case round =>
  clear hB HG
  obtain ⟨k, rfl, hk, hkx, HN, HG, hB⟩ := hrel
  have c20 := HG.out.c20
  have hsz : s0 ≤ wr.heap.size := by have := hB.size; have := HS0.out; omega
  by_cases hlt : k < g.m
  ·have hltz : (k : Int) < (g.m : Int) := by omega
   obtain ⟨b, off, eE, hbw, hcs⟩ := ent_at HZ.out (k := k) (by rw [HM.out]; omega)
   obtain ⟨c0, c1, c2, c3, c4⟩ := hcs.up hB (by have := HS0.out; omega)
   have hno : P k = false → r = false := fun h => by rw [HV.out, allTo_no hlt h]; rfl
   have hnx : P k = true → Hid (allTo P (k + 1) = true) := fun h => Lib.hid (by show (allTo P k && P k) = true; rw [HN.out, h]; rfl)
   have hpk := HPK.out k
   obtain ⟨x, hx⟩ : ∃ x, G.getD k ent0 = x := ⟨_, rfl⟩
   rw [hx] at c0 c1 c2 c3 c4 hpk
   have hfr : fewR x = (decide (x.n ≤ 40) && (decide (x.m ≤ 60) && !decide ((60 : Int) < wrap64 ((x.nm.size : Int) + (x.cur.size : Int))))) := rfl
   rw [hfr] at hpk
   generalize P k = pk at *
   obtain ⟨z0, z1, z2, z3, z4, zlt⟩ := eb_new wr 58 x.nm x.cur x.A x.n x.c x.B x.m x.d x.jt
   have hB1 : Below s0 w (wr.alloc (.cells #[.string x.nm, .string x.cur, .slice x.A x.n x.c, .slice x.B x.m x.d, .bool x.jt] 58)) := hB.alloc hsz _
   have HG1 := Lib.hid (HG.out.up (below_alloc_new (w := wr) (.cells #[.string x.nm, .string x.cur, .slice x.A x.n x.c, .slice x.B x.m x.d, .bool x.jt] 58)))
   clear hcs hx HN HG hfr
   rcases Nat.lt_or_ge 40 x.n with h1 | h1
   ·have e1 : decide ((40 : Int) < (x.n : Int)) = true := decide_eq_true (by omega)
    have HR := Lib.hid (hno (by rw [hpk, decide_eq_false (show ¬ x.n ≤ 40 by omega)]; rfl))
    clear hnx h1 hno hpk
    go_wp2_with fail
    go_ret
    exact ⟨by rw [HR.out]; rfl, hB1⟩
   have e1 : decide ((40 : Int) < (x.n : Int)) = false := decide_eq_false (by omega)
   rcases Nat.lt_or_ge 60 x.m with h2 | h2
   ·have e2 : decide ((60 : Int) < (x.m : Int)) = true := decide_eq_true (by omega)
    have HR := Lib.hid (hno (by rw [hpk, decide_eq_false (show ¬ x.m ≤ 60 by omega)]; simp))
    clear hnx h1 h2 hno hpk
    go_wp2_with fail
    go_ret
    exact ⟨by rw [HR.out]; rfl, hB1⟩
   have e2 : decide ((60 : Int) < (x.m : Int)) = false := decide_eq_false (by omega)
   rw [decide_eq_true h1, decide_eq_true h2] at hpk
   clear h1 h2
   cases e3 : decide ((60 : Int) < wrap64 ((x.nm.size : Int) + (x.cur.size : Int)))
   ·have HN2 := hnx (by rw [hpk, e3]; rfl)
    clear hnx hno hpk
    go_wp2_with fail
    go_roundg (g.m - (k + 1))
    case measure => omega
    case rel => exact ⟨k + 1, by go_num, by omega, by omega, HN2, HG1, hB1⟩
   ·have HR := Lib.hid (hno (by rw [hpk, e3]; rfl))
    clear hnx hno hpk
    go_wp2_with fail
    go_ret
    exact ⟨by rw [HR.out]; rfl, hB1⟩
  ·have hke : k = g.m := by omega
   have hltz : ¬ (k : Int) < (g.m : Int) := by omega
   have hv2 := HV.out
   rw [← hke, HN.out, Bool.true_and] at hv2
   have hm9 : decide (k ≤ 14) = decide (g.m ≤ 14) := by rw [hke]
   have c4 := HG.out.c4
   have c0 := HG.out.c0
   clear hke
   rcases Nat.lt_or_ge 60 g.n with h1 | h1
   ·have e1 : decide ((g.n : Int) ≤ 60) = false := decide_eq_false (by omega)
    have HR : Hid (r = false) := Lib.hid (by rw [hv2, decide_eq_false (show ¬ g.n ≤ 60 by omega)]; rfl)
    clear h1 hv2
    go_wp2_with fail
    go_ret
    exact ⟨by rw [HR.out]; rfl, hB⟩
   have e1 : decide ((g.n : Int) ≤ 60) = true := decide_eq_true (by omega)
   rcases Nat.lt_or_ge 14 g.m with h2 | h2
   ·have e2 : decide ((g.m : Int) ≤ 14) = false := decide_eq_false (by omega)
    have HR : Hid (r = false) := Lib.hid (by rw [hv2, hm9, decide_eq_false (show ¬ g.m ≤ 14 by omega)]; simp)
    clear h1 h2 hv2 hm9
    go_wp2_with fail
    go_ret
    exact ⟨by rw [HR.out]; rfl, hB⟩
   have e2 : decide ((g.m : Int) ≤ 14) = true := decide_eq_true (by omega)
   have HR : Hid (r = decide ((g.cur.size : Int) ≤ 20)) := Lib.hid (by rw [hv2, hm9, decide_eq_true h1, decide_eq_true h2]; rfl)
   clear h1 h2 hv2 hm9
   go_wp2_with fail
   go_ret
   exact ⟨by rw [HR.out]; rfl, hB⟩
def few11 (g : Grp) (G : List Ent) (x : Ety) : Bool := few10 g G && (decide ((x.n : Int) ≤ 60) && decide ((x.txt.size : Int) ≤ 200))
set_option maxRecDepth 100000 in
set_option maxHeartbeats 6400000 in
theorem rfew11_any (g : Grp) (x : Ety) (X : List Lnk) (L : List Acc) (G : List Ent) (w : World) (hk : GrK w g L G) (hmx : g.m ≤ 9223372036854775807) (hx : EtyK w x X) : Calls Tryz.prog 6 #[grpV g, etyV x] w fun e w' => e = .returned (.bool (few11 g G x)) ∧ Below w.heap.size w w' := by
 obtain ⟨GV, hGV⟩ : ∃ GV, GV = grpV g := ⟨_, rfl⟩
 obtain ⟨XV, hXV⟩ : ∃ XV, XV = etyV x := ⟨_, rfl⟩
 have HFW := Lib.hid (fun W h => rfew10_is g G W h hk.lg hmx)
 rw [← hGV] at HFW
 have hq : few11 g G x = (few10 g G && (decide ((x.n : Int) ≤ 60) && decide ((x.txt.size : Int) ≤ 200))) := rfl
 rw [hq]
 rw [grpV_is]
 obtain ⟨gs, hgs⟩ : ∃ gs, (grpC g).toArray = gs := ⟨_, rfl⟩
 obtain ⟨xs, hxs⟩ : ∃ xs, (etyC x).toArray = xs := ⟨_, rfl⟩
 have hxV : etyV x = .agg xs := by rw [etyV_is, hxs]
 rw [hgs, hxV]
 obtain ⟨s0, hs0⟩ : ∃ s0, w.heap.size = s0 := ⟨_, rfl⟩
 obtain ⟨w2, hw2⟩ : ∃ w2, (w.alloc (.cells gs 29)).alloc (.cells xs 32) = w2 := ⟨_, rfl⟩
 have HGB : Hid (Rg w2 s0 (grpC g)) := Lib.hid (by rw [← hw2, ← hgs, ← hs0]; exact (rg_new w _ _).up (below_alloc_new _))
 have HXB : Hid (Rg w2 (s0 + 1) (etyC x)) := Lib.hid (by
  rw [← hw2, ← hxs, ← hs0]
  have h9 := rg_new (w.alloc (.cells gs 29)) 32 (etyC x)
  rw [World.size_alloc] at h9
  exact h9)
 have HB2 : Hid (Below w.heap.size w w2) := Lib.hid (by rw [← hw2]; exact below_new (below_alloc_new _) _)
 have HLG : Hid (∀ w9, Below w2.heap.size w2 w9 → (Instr.loadAt 29 (.pointer (some ⟨s0, 0, none⟩))).run Tryz.prog w9 = .ok GV w9) := Lib.hid (fun w9 h9 => by rw [hGV, grpV_is]; exact (HGB.out.up h9).load 0 29 (grpC g) rfl _ Tryz.underlying29 rfl (by kernel_rfl))
 have HLX : Hid (∀ w9, Below w2.heap.size w2 w9 → (Instr.loadAt 32 (.pointer (some ⟨s0 + 1, 0, none⟩))).run Tryz.prog w9 = .ok XV w9) := Lib.hid (fun w9 h9 => by rw [hXV, etyV_is]; exact (HXB.out.up h9).load 0 32 (etyC x) rfl _ Tryz.underlying32 rfl (by kernel_rfl))
 have HK2 := Lib.hid (hk.up HB2.out)
 have HX2 := Lib.hid (hx.up HB2.out)
 have HBC := Lib.hid (Below.refl w2.heap.size w2)
 clear hk hx hGV hXV hgs hxs hxV hq hmx
 have HS0 := Lib.hid hs0
 generalize few10 g G = q at *
 cases q
 ·rw [Bool.false_and]
  have HM1 : True := trivial
  have HM2 : True := trivial
  go_enter Tryz.func6, Tryz.ntmps6
  go_wp2_with (first | (clear HM1; refine wpList_load_is rfl 29 _ rfl (.pointer (some ⟨s0, 0, none⟩)) rfl GV (HLG.out _ HBC.out) ?_) | (go_at_call 15; refine (HFW.out _ HK2.out.he).mono ?_; rintro e w3 ⟨rfl, hb⟩; have hB3 := Lib.hid (HBC.out.trans (hb.mono HBC.out.size)); clear hb HBC; have HBC := hB3; clear hB3; have d5 := (HXB.out.up HBC.out).cell 5 _ rfl; have d6 := (HXB.out.up HBC.out).cell 6 _ rfl))
  go_ret
  exact ⟨by first | rfl | simp, (by have h9 := HB2.out.trans (HBC.out.mono HB2.out.size); first | exact h9 | (rw [← HS0.out]; exact h9))⟩
 rw [Bool.true_and]
 by_cases h6 : (x.n : Int) ≤ 60
 ·have e1 : decide ((x.n : Int) ≤ 60) = true := decide_eq_true h6
  rw [e1, Bool.true_and]
  clear h6
  by_cases h2 : (x.txt.size : Int) ≤ 200
  ·have e2 : decide ((x.txt.size : Int) ≤ 200) = true := decide_eq_true h2
   rw [e2]
   clear h2
   have HM1 : True := trivial
   have HM2 : True := trivial
   go_enter Tryz.func6, Tryz.ntmps6
   go_wp2_with (first | (clear HM1; refine wpList_load_is rfl 29 _ rfl (.pointer (some ⟨s0, 0, none⟩)) rfl GV (HLG.out _ HBC.out) ?_) | (go_at_call 15; refine (HFW.out _ HK2.out.he).mono ?_; rintro e w3 ⟨rfl, hb⟩; have hB3 := Lib.hid (HBC.out.trans (hb.mono HBC.out.size)); clear hb HBC; have HBC := hB3; clear hB3; have d5 := (HXB.out.up HBC.out).cell 5 _ rfl; have d6 := (HXB.out.up HBC.out).cell 6 _ rfl))
   go_ret
   exact ⟨by first | rfl | simp, (by have h9 := HB2.out.trans (HBC.out.mono HB2.out.size); first | exact h9 | (rw [← HS0.out]; exact h9))⟩
  ·have e2 : decide ((x.txt.size : Int) ≤ 200) = false := decide_eq_false h2
   rw [e2]
   clear h2
   have HM1 : True := trivial
   have HM2 : True := trivial
   go_enter Tryz.func6, Tryz.ntmps6
   go_wp2_with (first | (clear HM1; refine wpList_load_is rfl 29 _ rfl (.pointer (some ⟨s0, 0, none⟩)) rfl GV (HLG.out _ HBC.out) ?_) | (go_at_call 15; refine (HFW.out _ HK2.out.he).mono ?_; rintro e w3 ⟨rfl, hb⟩; have hB3 := Lib.hid (HBC.out.trans (hb.mono HBC.out.size)); clear hb HBC; have HBC := hB3; clear hB3; have d5 := (HXB.out.up HBC.out).cell 5 _ rfl; have d6 := (HXB.out.up HBC.out).cell 6 _ rfl))
   go_ret
   exact ⟨by first | rfl | simp, (by have h9 := HB2.out.trans (HBC.out.mono HB2.out.size); first | exact h9 | (rw [← HS0.out]; exact h9))⟩
 ·have e1 : decide ((x.n : Int) ≤ 60) = false := decide_eq_false h6
  rw [e1, Bool.false_and]
  clear h6
  have HM1 : True := trivial
  have HM2 : True := trivial
  go_enter Tryz.func6, Tryz.ntmps6
  go_wp2_with (first | (clear HM1; refine wpList_load_is rfl 29 _ rfl (.pointer (some ⟨s0, 0, none⟩)) rfl GV (HLG.out _ HBC.out) ?_) | (go_at_call 15; refine (HFW.out _ HK2.out.he).mono ?_; rintro e w3 ⟨rfl, hb⟩; have hB3 := Lib.hid (HBC.out.trans (hb.mono HBC.out.size)); clear hb HBC; have HBC := hB3; clear hB3; have d5 := (HXB.out.up HBC.out).cell 5 _ rfl; have d6 := (HXB.out.up HBC.out).cell 6 _ rfl))
  go_ret
  exact ⟨by first | rfl | simp, (by have h9 := HB2.out.trans (HBC.out.mono HB2.out.size); first | exact h9 | (rw [← HS0.out]; exact h9))⟩
def ecFa (GV XV : Value) (cc : Int) : List (Nat × AS.Fact) := [(17, AS.Fact.is (GV)), (18, AS.Fact.is (XV)), (19, AS.Fact.is (.int .i64 cc)), (20, AS.Fact.is (GV)), (21, AS.Fact.is (XV)), (22, AS.Fact.is (.int .i64 cc)), (23, AS.Fact.is (.bool true)), (4, AS.Fact.is (.bool true))]
set_option maxRecDepth 100000 in
set_option maxHeartbeats 6400000 in
theorem law_echeck (g : Grp) (L : List Acc) (G : List Ent) (x : Ety) (X : List Lnk) (w : World) (hk : GrK w g L G) (hw : GrW g L G) (hmx : g.m ≤ 9223372036854775807) (hx : EtyK w x X) (hxm : x.n ≤ 9223372036854775807) (ht : x.txt.size ≤ maxLen) : Calls Tryz.prog 3 #[grpV g, etyV x] w fun e w' => e = .returned (.bool true) ∧ Below w.heap.size w w' := by
 obtain ⟨GV, hGV⟩ : ∃ GV, GV = grpV g := ⟨_, rfl⟩
 obtain ⟨XV, hXV⟩ : ∃ XV, XV = etyV x := ⟨_, rfl⟩
 have HFW := Lib.hid (fun W h h9 => rfew11_any g x X L G W h hmx h9)
 have HSM := Lib.hid (fun W h => esmall_any x.A x.c X W h (by rw [hx.ln]; exact hxm))
 rw [hx.ln] at HSM
 have hC1 := fun (hs : Sm g G) (hn : x.n ≤ 1000) W (h : GrK W g L G) (h9 : EtyK W x X) => gcheck_any g x X L G W h hs hw h9 hn
 have hC2 := fun (hs : Sm g G) (hn : x.n ≤ 1000) W (h : GrK W g L G) (h9 : EtyK W x X) => rcheck_any g x X L G W h hs hw h9 hn ht
 simp only [← chk_eq g x X L G hx.ln] at hC2
 generalize chkN g x X L G = cc at *
 have hf9 : few11 g G x = true → Sm g G ∧ x.n ≤ 1000 := fun h => by
  unfold few11 at h
  simp only [Bool.and_eq_true, decide_eq_true_eq] at h
  exact ⟨few_sm h.1, by omega⟩
 rw [← hGV, ← hXV] at HFW
 simp only [← hGV, ← hXV] at hC1 hC2
 rw [grpV_is]
 obtain ⟨gs, hgs⟩ : ∃ gs, (grpC g).toArray = gs := ⟨_, rfl⟩
 obtain ⟨xs, hxs⟩ : ∃ xs, (etyC x).toArray = xs := ⟨_, rfl⟩
 have hxV : etyV x = .agg xs := by rw [etyV_is, hxs]
 rw [hgs, hxV]
 obtain ⟨s0, hs0⟩ : ∃ s0, w.heap.size = s0 := ⟨_, rfl⟩
 obtain ⟨w2, hw2⟩ : ∃ w2, (w.alloc (.cells gs 29)).alloc (.cells xs 32) = w2 := ⟨_, rfl⟩
 have HGB : Hid (Rg w2 s0 (grpC g)) := Lib.hid (by rw [← hw2, ← hgs, ← hs0]; exact (rg_new w _ _).up (below_alloc_new _))
 have HXB : Hid (Rg w2 (s0 + 1) (etyC x)) := Lib.hid (by
  rw [← hw2, ← hxs, ← hs0]
  have h9 := rg_new (w.alloc (.cells gs 29)) 32 (etyC x)
  rw [World.size_alloc] at h9
  exact h9)
 have HB2 : Hid (Below w.heap.size w w2) := Lib.hid (by rw [← hw2]; exact below_new (below_alloc_new _) _)
 have HLG : Hid (∀ w9, Below w2.heap.size w2 w9 → (Instr.loadAt 29 (.pointer (some ⟨s0, 0, none⟩))).run Tryz.prog w9 = .ok GV w9) := Lib.hid (fun w9 h9 => by rw [hGV, grpV_is]; exact (HGB.out.up h9).load 0 29 (grpC g) rfl _ Tryz.underlying29 rfl (by kernel_rfl))
 have HLX : Hid (∀ w9, Below w2.heap.size w2 w9 → (Instr.loadAt 32 (.pointer (some ⟨s0 + 1, 0, none⟩))).run Tryz.prog w9 = .ok XV w9) := Lib.hid (fun w9 h9 => by rw [hXV, etyV_is]; exact (HXB.out.up h9).load 0 32 (etyC x) rfl _ Tryz.underlying32 rfl (by kernel_rfl))
 have HK2 := Lib.hid (hk.up HB2.out)
 have HX2 := Lib.hid (hx.up HB2.out)
 have HBC := Lib.hid (Below.refl w2.heap.size w2)
 clear hk hx hGV hXV hgs hxs hxV hmx hxm ht hw
 have HS0 := Lib.hid hs0
 have HEQ : Hid ((cc == cc) = true) := Lib.hid (by simp)
 generalize few11 g G x = fb at *
 generalize smLB X = sb at *
 cases fb
 ·clear hC1 hC2 hf9
  have HM1 : True := trivial
  have HM2 : True := trivial
  go_enter Tryz.func3, Tryz.ntmps3
  go_wp2_with (first
   | (clear HM1; refine wpList_load_is rfl 29 _ rfl (.pointer (some ⟨s0, 0, none⟩)) rfl GV (HLG.out _ HBC.out) ?_)
   | (clear HM2; refine wpList_load_is rfl 32 _ rfl (.pointer (some ⟨s0 + 1, 0, none⟩)) rfl XV (HLX.out _ HBC.out) ?_)
   | (go_at_call 5; refine (eawake_any _).mono ?_; rintro e w3 ⟨rfl, hb⟩; have hB3 := Lib.hid (HBC.out.trans (hb.mono HBC.out.size)); clear hb HBC; have HBC := hB3; clear hB3)
   | (go_at_call 6; refine (HFW.out _ (HK2.out.up HBC.out) (HX2.out.up HBC.out)).mono ?_; rintro e w4 ⟨rfl, hb⟩; have hB3 := Lib.hid (HBC.out.trans (hb.mono HBC.out.size)); clear hb HBC; have HBC := hB3; clear hB3; have d6 := (HXB.out.up HBC.out).cell 6 _ rfl)
   | (go_at_call 7; refine (HSM.out _ (HX2.out.hz.up HBC.out)).mono ?_; rintro e wr ⟨rfl, hb⟩; have hB3 := Lib.hid (HBC.out.trans (hb.mono HBC.out.size)); clear hb HBC; have HBC := hB3; clear hB3))
  go_ret
  exact ⟨by first | rfl | simp, (by have h9 := HB2.out.trans (HBC.out.mono HB2.out.size); first | exact h9 | (rw [← HS0.out]; exact h9))⟩
 obtain ⟨hs, hn⟩ := hf9 rfl
 have HC1 := Lib.hid (hC1 hs hn)
 have HC2 := Lib.hid (hC2 hs hn)
 clear hC1 hC2 hf9 hs hn
 cases sb
 ·have HM1 : True := trivial
  have HM2 : True := trivial
  go_enter Tryz.func3, Tryz.ntmps3
  go_wp2_with (first
   | (clear HM1; refine wpList_load_is rfl 29 _ rfl (.pointer (some ⟨s0, 0, none⟩)) rfl GV (HLG.out _ HBC.out) ?_)
   | (clear HM2; refine wpList_load_is rfl 32 _ rfl (.pointer (some ⟨s0 + 1, 0, none⟩)) rfl XV (HLX.out _ HBC.out) ?_)
   | (go_at_call 5; refine (eawake_any _).mono ?_; rintro e w3 ⟨rfl, hb⟩; have hB3 := Lib.hid (HBC.out.trans (hb.mono HBC.out.size)); clear hb HBC; have HBC := hB3; clear hB3)
   | (go_at_call 6; refine (HFW.out _ (HK2.out.up HBC.out) (HX2.out.up HBC.out)).mono ?_; rintro e w4 ⟨rfl, hb⟩; have hB3 := Lib.hid (HBC.out.trans (hb.mono HBC.out.size)); clear hb HBC; have HBC := hB3; clear hB3; have d6 := (HXB.out.up HBC.out).cell 6 _ rfl)
   | (go_at_call 7; refine (HSM.out _ (HX2.out.hz.up HBC.out)).mono ?_; rintro e wr ⟨rfl, hb⟩; have hB3 := Lib.hid (HBC.out.trans (hb.mono HBC.out.size)); clear hb HBC; have HBC := hB3; clear hB3))
  go_ret
  exact ⟨by first | rfl | simp, (by have h9 := HB2.out.trans (HBC.out.mono HB2.out.size); first | exact h9 | (rw [← HS0.out]; exact h9))⟩
 ·have HM1 : True := trivial
  have HM2 : True := trivial
  go_enter Tryz.func3, Tryz.ntmps3
  go_wp2_with (first
   | (clear HM1; refine wpList_load_is rfl 29 _ rfl (.pointer (some ⟨s0, 0, none⟩)) rfl GV (HLG.out _ HBC.out) ?_)
   | (clear HM2; refine wpList_load_is rfl 32 _ rfl (.pointer (some ⟨s0 + 1, 0, none⟩)) rfl XV (HLX.out _ HBC.out) ?_)
   | (go_at_call 5; refine (eawake_any _).mono ?_; rintro e w3 ⟨rfl, hb⟩; have hB3 := Lib.hid (HBC.out.trans (hb.mono HBC.out.size)); clear hb HBC; have HBC := hB3; clear hB3)
   | (go_at_call 6; refine (HFW.out _ (HK2.out.up HBC.out) (HX2.out.up HBC.out)).mono ?_; rintro e w4 ⟨rfl, hb⟩; have hB3 := Lib.hid (HBC.out.trans (hb.mono HBC.out.size)); clear hb HBC; have HBC := hB3; clear hB3; have d6 := (HXB.out.up HBC.out).cell 6 _ rfl)
   | (go_at_call 7; refine (HSM.out _ (HX2.out.hz.up HBC.out)).mono ?_; rintro e wr ⟨rfl, hb⟩; have hB3 := Lib.hid (HBC.out.trans (hb.mono HBC.out.size)); clear hb HBC; have HBC := hB3; clear hB3))
  refine AS.region_facts (ecFa GV XV cc) (HNo wr) [[], [], [17, 18], [], [], [20, 21], [19, 22], [23]] [] [[]] [0, 0, 0, 0, 0, 0, 0, 0] [] (fun u => by simp only [ecFa, AS.temps, List.map_cons, List.map_nil, fillL, List.setIfInBounds_toArray, List.set_cons_zero, List.set_cons_succ]; rfl) (by kernel_rfl) (by kernel_rfl) (HNo.st wr) (dc_drew (Below.refl _ _)) ?_ ?_
  ·refine AS.sc rfl rfl rfl ?_ ?_
   ·intro k_ u w_ hk_ hJ hF K hK
    clear hF
    have hW9 := HBC.out.trans ((hJ : Below wr.heap.size wr w_).mono HBC.out.size)
    refine wp_load_is 29 _ rfl (.pointer (some ⟨s0, 0, none⟩)) rfl GV (HLG.out _ hW9) ?_
    exact hK.out _ _ (Below.refl _ _) (rfl) trivial
   refine AS.sc rfl rfl rfl ?_ ?_
   ·intro k_ u w_ hk_ hJ hF K hK
    clear hF
    have hW9 := HBC.out.trans ((hJ : Below wr.heap.size wr w_).mono HBC.out.size)
    refine wp_load_is 32 _ rfl (.pointer (some ⟨s0 + 1, 0, none⟩)) rfl XV (HLX.out _ hW9) ?_
    exact hK.out _ _ (Below.refl _ _) (rfl) trivial
   refine AS.sc rfl rfl rfl ?_ ?_
   ·intro k_ u w_ hk_ hJ hF K hK
    have h17 : u 17 = GV := AS.facts_get hF 17 (by simp)
    have h18 : u 18 = XV := AS.facts_get hF 18 (by simp)
    clear hF
    simp only [h17, h18] at hK ⊢
    clear h17 h18
    have hW9 := HBC.out.trans ((hJ : Below wr.heap.size wr w_).mono HBC.out.size)
    have hk9 := HK2.out.up hW9
    have hx9 := HX2.out.up hW9
    go_simp
    refine (HC1.out _ hk9 hx9).mono ?_
    rintro e w3 ⟨rfl, hb⟩
    exact hK.out _ _ hb (rfl) trivial
   refine AS.sc rfl rfl rfl ?_ ?_
   ·intro k_ u w_ hk_ hJ hF K hK
    clear hF
    have hW9 := HBC.out.trans ((hJ : Below wr.heap.size wr w_).mono HBC.out.size)
    refine wp_load_is 29 _ rfl (.pointer (some ⟨s0, 0, none⟩)) rfl GV (HLG.out _ hW9) ?_
    exact hK.out _ _ (Below.refl _ _) (rfl) trivial
   refine AS.sc rfl rfl rfl ?_ ?_
   ·intro k_ u w_ hk_ hJ hF K hK
    clear hF
    have hW9 := HBC.out.trans ((hJ : Below wr.heap.size wr w_).mono HBC.out.size)
    refine wp_load_is 32 _ rfl (.pointer (some ⟨s0 + 1, 0, none⟩)) rfl XV (HLX.out _ hW9) ?_
    exact hK.out _ _ (Below.refl _ _) (rfl) trivial
   refine AS.sc rfl rfl rfl ?_ ?_
   ·intro k_ u w_ hk_ hJ hF K hK
    have h20 : u 20 = GV := AS.facts_get hF 20 (by simp)
    have h21 : u 21 = XV := AS.facts_get hF 21 (by simp)
    clear hF
    simp only [h20, h21] at hK ⊢
    clear h20 h21
    have hW9 := HBC.out.trans ((hJ : Below wr.heap.size wr w_).mono HBC.out.size)
    have hk9 := HK2.out.up hW9
    have hx9 := HX2.out.up hW9
    go_simp
    refine (HC2.out _ hk9 hx9).mono ?_
    rintro e w3 ⟨rfl, hb⟩
    exact hK.out _ _ hb (rfl) trivial
   refine AS.sc rfl rfl rfl ?_ ?_
   ·intro k_ u w_ hk_ hJ hF K hK
    have h19 : u 19 = .int .i64 cc := AS.facts_get hF 19 (by simp)
    have h22 : u 22 = .int .i64 cc := AS.facts_get hF 22 (by simp)
    clear hF
    simp only [h19, h22] at hK ⊢
    clear h19 h22
    have heq9 := HEQ.out
    go_simp
    exact hK.out _ _ (Below.refl _ _) (rfl) trivial
   refine AS.sc rfl rfl rfl ?_ ?_
   ·intro k_ u w_ hk_ hJ hF K hK
    have h23 : u 23 = .bool true := AS.facts_get hF 23 (by simp)
    clear hF
    simp only [h23] at hK ⊢
    clear h23
    go_simp
    exact hK.out _ _ (Below.refl _ _) (rfl) trivial
   exact AS.StepsOk.nil
  ·intro u W9 hJ9 hF
   have h4 : u 4 = .bool true := AS.facts_get hF 4 (by simp [ecFa, AS.temps])
   have hB9 : Below wr.heap.size wr W9 := hJ9
   clear hF hJ9
   simp only [h4]
   clear h4
   go_wp2_with fail
   go_ret
   exact ⟨by first | rfl | simp, (by have h9 := HB2.out.trans ((HBC.out.trans (hB9.mono HBC.out.size)).mono HB2.out.size); first | exact h9 | (rw [← HS0.out]; exact h9))⟩
open Go.ChangeShapes Go.WideShapes Go.ChangeAt Go.WideMaps Go.WideElems Go.RowKit Go.Deep Go.Joins
section
variable {H : Type} {enc : TypeId × Value → H} {P : Program} {W : World}
theorem open_nums {E I : TypeId} {fs : Array Field} {fuel : Nat} {cs : List Value} {x : DataW H × List MemPlace} (hE : P.underlying E = some (.struct fs))
  (hone : oneCellFields P fs = true) (hty : (fs.toList.all fun f => f.type == I) = true) (hI : P.underlying I = some (.int .i64))
  (hl : cs.length = fs.size) (h2 : DataW.trod enc P W 0 (fun _ => true) true fuel E cs = some x) :
  ∀ j, j < fs.size → ∃ z : Int, cs[j]? = some (.int .i64 z) ∧ (Lit.int .i64 z).wf = true := by
 intro j hj
 obtain ⟨xs, n', -, -, -, hxl, hff⟩ := DataW.trod_struct hE h2
 have hfj : fs[j]? = some fs[j] := Array.getElem?_eq_getElem hj
 obtain ⟨ho, hk1⟩ := hone_of hone j _ hfj
 have ht : fs[j].type = I := by
  have := List.all_eq_true.1 hty fs[j] (by simp)
  simpa using this
 have hxj : xs[j]? = some (xs[j]'(by omega)) := List.getElem?_eq_getElem (by omega)
 have h3 := hff j _ hfj
 rw [ho, hk1, ht, hxj] at h3
 obtain ⟨z, hz, -, hw⟩ := DataW.trod_int hI h3
 refine ⟨z, ?_, hw⟩
 have h5 : (cs.drop j).take 1 = [cs[j]'(by omega)] := by
  rw [List.drop_eq_getElem_cons (by omega)]; rfl
 rw [h5] at hz
 rw [List.getElem?_eq_getElem (by omega)]
 injection hz with hz
 rw [hz]
end
theorem cells21 {cs : List Value} (h : cs.length = 21) : ∃ c0 c1 c2 c3 c4 c5 c6 c7 c8 c9 c10 c11 c12 c13 c14 c15 c16 c17 c18 c19 c20, cs = [c0, c1, c2, c3, c4, c5, c6, c7, c8, c9, c10, c11, c12, c13, c14, c15, c16, c17, c18, c19, c20] := by
 match cs, h with
 | [c0, c1, c2, c3, c4, c5, c6, c7, c8, c9, c10, c11, c12, c13, c14, c15, c16, c17, c18, c19, c20], _ => exact ⟨c0, c1, c2, c3, c4, c5, c6, c7, c8, c9, c10, c11, c12, c13, c14, c15, c16, c17, c18, c19, c20, rfl⟩
section
variable {H : Type} {enc : TypeId × Value → H} {W : World}
set_option maxRecDepth 100000 in
theorem open_igrp {b0 : Nat} {v : Value} {d : DataW H} {p : List MemPlace} (hval : Value.okWide Tryz.prog W .any b0 29 v) (h : DataW.Trod enc Tryz.prog W 0 (fun _ => true) true 29 v d p) :
  ∃ g L G, v = grpV g ∧ GrK W g L G ∧ GrW g L G ∧ g.m ≤ 9223372036854775807 := by
 obtain ⟨cs, rfl, hsz⟩ := okWide_struct Tryz.underlying29 hval
 obtain ⟨fuel, hf⟩ := h
 have hcs : (Value.agg cs).cells.toList = cs.toList := by simp [Value.cells]
 rw [hcs] at hf
 obtain ⟨xs, n', -, -, hlen, hxl, hff⟩ := DataW.trod_struct Tryz.underlying29 hf
 have hC : Tryz.prog.cellsOf 29 = 21 := by kernel_rfl
 rw [hC] at hlen
 obtain ⟨c0, c1, c2, c3, c4, c5, c6, c7, c8, c9, c10, c11, c12, c13, c14, c15, c16, c17, c18, c19, c20, e21⟩ := cells21 hlen
 have k9 : Tryz.prog.cellsOf 9 = 1 := by kernel_rfl
 have kc : Tryz.prog.cellsOf 23 = 3 := by kernel_rfl
 have ka : Tryz.prog.cellsOf 24 = 1 := by kernel_rfl
 have kr : Tryz.prog.cellsOf 26 = 15 := by kernel_rfl
 have ke : Tryz.prog.cellsOf 27 = 1 := by kernel_rfl
 have hxl' : xs.length = 5 := hxl
 have hget : ∀ i, i < 5 → ∃ y, xs[i]? = some y := fun i hi => ⟨_, List.getElem?_eq_getElem (by omega)⟩
 have h0 : DataW.trod enc Tryz.prog W 0 (fun _ => true) true n' 9 ((cs.toList.drop 0).take (Tryz.prog.cellsOf 9)) = xs[0]? := hff 0 _ rfl
 have h1 : DataW.trod enc Tryz.prog W 0 (fun _ => true) true n' 23 ((cs.toList.drop 1).take (Tryz.prog.cellsOf 23)) = xs[1]? := hff 1 _ rfl
 have h2 : DataW.trod enc Tryz.prog W 0 (fun _ => true) true n' 24 ((cs.toList.drop 4).take (Tryz.prog.cellsOf 24)) = xs[2]? := hff 2 _ rfl
 have h3 : DataW.trod enc Tryz.prog W 0 (fun _ => true) true n' 26 ((cs.toList.drop 5).take (Tryz.prog.cellsOf 26)) = xs[3]? := hff 3 _ rfl
 have h4 : DataW.trod enc Tryz.prog W 0 (fun _ => true) true n' 27 ((cs.toList.drop 20).take (Tryz.prog.cellsOf 27)) = xs[4]? := hff 4 _ rfl
 obtain ⟨y0, e0⟩ := hget 0 (by omega)
 obtain ⟨y1, e1⟩ := hget 1 (by omega)
 obtain ⟨y2, e2⟩ := hget 2 (by omega)
 obtain ⟨y3, e3⟩ := hget 3 (by omega)
 obtain ⟨y4, e4⟩ := hget 4 (by omega)
 rw [e0, k9, e21] at h0
 rw [e1, kc, e21] at h1
 rw [e2, ka, e21] at h2
 rw [e3, kr, e21] at h3
 rw [e4, ke, e21] at h4
 have n1 := open_nums (cs := [c1, c2, c3]) Tryz.underlying23 (by kernel_rfl) (by kernel_rfl) Tryz.underlying3 rfl h1
 have n3 := open_nums (cs := [c5, c6, c7, c8, c9, c10, c11, c12, c13, c14, c15, c16, c17, c18, c19]) Tryz.underlying26 (by kernel_rfl) (by kernel_rfl) Tryz.underlying3 rfl h3
 obtain ⟨cur, q0, -, bc⟩ := DataW.trod_string Tryz.underlying9 h0
 obtain ⟨A, n, c, L, q4, ln, -, hz, wa⟩ := open_waccs Tryz.underlying24 Tryz.underlying53 (by kernel_rfl) (by kernel_rfl) (by kernel_rfl) Tryz.underlying3 h2
 obtain ⟨X, m, cap, G, q20, lg, hmx, he, hk, hb⟩ := open_entsC Tryz.underlying27 h4
 obtain ⟨z1, p1, -⟩ := n1 0 (by decide)
 obtain ⟨z2, p2, -⟩ := n1 1 (by decide)
 obtain ⟨z3, p3, -⟩ := n1 2 (by decide)
 obtain ⟨r0, s0, w0⟩ := n3 0 (by decide)
 obtain ⟨r1, s1, w1⟩ := n3 1 (by decide)
 obtain ⟨r2, s2, w2⟩ := n3 2 (by decide)
 obtain ⟨r3, s3, w3⟩ := n3 3 (by decide)
 obtain ⟨r4, s4, w4⟩ := n3 4 (by decide)
 obtain ⟨r5, s5, w5⟩ := n3 5 (by decide)
 obtain ⟨r6, s6, w6⟩ := n3 6 (by decide)
 obtain ⟨r7, s7, w7⟩ := n3 7 (by decide)
 obtain ⟨r8, s8, w8⟩ := n3 8 (by decide)
 obtain ⟨r9, s9, w9⟩ := n3 9 (by decide)
 obtain ⟨r10, s10, w10⟩ := n3 10 (by decide)
 obtain ⟨r11, s11, w11⟩ := n3 11 (by decide)
 obtain ⟨r12, s12, w12⟩ := n3 12 (by decide)
 obtain ⟨r13, s13, w13⟩ := n3 13 (by decide)
 obtain ⟨r14, s14, w14⟩ := n3 14 (by decide)
 have a0 : c0 = .string cur := by simpa using q0
 have a4 : c4 = .slice A n c := by simpa using q4
 have a20 : c20 = .slice X m cap := by simpa using q20
 have b1 : c1 = .int .i64 z1 := by simpa using p1
 have b2 : c2 = .int .i64 z2 := by simpa using p2
 have b3 : c3 = .int .i64 z3 := by simpa using p3
 have t0 : c5 = .int .i64 r0 := by simpa using s0
 have t1 : c6 = .int .i64 r1 := by simpa using s1
 have t2 : c7 = .int .i64 r2 := by simpa using s2
 have t3 : c8 = .int .i64 r3 := by simpa using s3
 have t4 : c9 = .int .i64 r4 := by simpa using s4
 have t5 : c10 = .int .i64 r5 := by simpa using s5
 have t6 : c11 = .int .i64 r6 := by simpa using s6
 have t7 : c12 = .int .i64 r7 := by simpa using s7
 have t8 : c13 = .int .i64 r8 := by simpa using s8
 have t9 : c14 = .int .i64 r9 := by simpa using s9
 have t10 : c15 = .int .i64 r10 := by simpa using s10
 have t11 : c16 = .int .i64 r11 := by simpa using s11
 have t12 : c17 = .int .i64 r12 := by simpa using s12
 have t13 : c18 = .int .i64 r13 := by simpa using s13
 have t14 : c19 = .int .i64 r14 := by simpa using s14
 subst a0 a4 a20 b1 b2 b3 t0 t1 t2 t3 t4 t5 t6 t7 t8 t9 t10 t11 t12 t13 t14
 refine ⟨⟨cur, z1, z2, z3, A, n, c, r0, r1, r2, r3, r4, r5, r6, r7, r8, r9, r10, r11, r12, r13, r14, X, m, cap⟩, L, G, ?_, ⟨ln, lg, hz, he, hk⟩, ⟨bc, fun x hx => ?_, hb⟩, hmx⟩
 ·rw [← Array.toArray_toList (xs := cs), e21]
 ·simp only [Grp.R, List.mem_cons, List.mem_nil_iff, or_false] at hx
  rcases hx with rfl | rfl | rfl | rfl | rfl | rfl | rfl | rfl | rfl | rfl | rfl | rfl | rfl | rfl | rfl
  ·exact w0
  ·exact w1
  ·exact w2
  ·exact w3
  ·exact w4
  ·exact w5
  ·exact w6
  ·exact w7
  ·exact w8
  ·exact w9
  ·exact w10
  ·exact w11
  ·exact w12
  ·exact w13
  ·exact w14
end
open Go.ChangeShapes Go.WideShapes Go.ChangeAt Go.WideMaps Go.WideElems Go.RowKit Go.Deep Go.Joins
theorem open_wlineK {H : Type} {enc : TypeId × Value → H} {W : World} {fuel : Nat} {cs : List Value} {x : DataW H × List MemPlace} (hf : DataW.trod enc Tryz.prog W 0 (fun _ => true) true fuel 30 cs = some x) :
  ∃ A len cap K, cs = [.slice A len cap] ∧ K.length = len ∧ len ≤ 9223372036854775807 ∧ LnkAt W A K ∧ ∀ l ∈ K, okK (kOf l) ∧ (Lit.int .i64 l.tgt).wf = true := by
 obtain ⟨A, len, cap, K, hcs, hlen, hmax, hz, hw⟩ := open_wlnks Tryz.underlying30 Tryz.underlying45 (by kernel_rfl) (by kernel_rfl) (by kernel_rfl) Tryz.underlying3 hf
 exact ⟨A, len, cap, K, hcs, hlen, hmax, hz, fun l hl => ⟨⟨(hw l hl).frm, (hw l hl).since⟩, (hw l hl).tgt⟩⟩
theorem cellsE7 {cs : List Value} (h : cs.length = 7) : ∃ c0 c1 c2 c3 c4 c5 c6, cs = [c0, c1, c2, c3, c4, c5, c6] := by
 match cs, h with
 | [c0, c1, c2, c3, c4, c5, c6], _ => exact ⟨c0, c1, c2, c3, c4, c5, c6, rfl⟩
section
variable {H : Type} {enc : TypeId × Value → H} {W : World}
set_option maxRecDepth 100000 in
theorem open_iety {b0 : Nat} {v : Value} {d : DataW H} {p : List MemPlace} (hval : Value.okWide Tryz.prog W .any b0 32 v) (h : DataW.Trod enc Tryz.prog W 0 (fun _ => true) true 32 v d p) :
  ∃ x X, v = etyV x ∧ EtyK W x X ∧ x.n ≤ 9223372036854775807 ∧ x.txt.size ≤ maxLen := by
 obtain ⟨cs, rfl, hsz⟩ := okWide_struct Tryz.underlying32 hval
 obtain ⟨fuel, hf⟩ := h
 have hcs : (Value.agg cs).cells.toList = cs.toList := by simp [Value.cells]
 rw [hcs] at hf
 obtain ⟨xs, n', -, -, hlen, hxl, hff⟩ := DataW.trod_struct Tryz.underlying32 hf
 have hC : Tryz.prog.cellsOf 32 = 7 := by kernel_rfl
 rw [hC] at hlen
 obtain ⟨c0, c1, c2, c3, c4, c5, c6, e7⟩ := cellsE7 hlen
 have k9 : Tryz.prog.cellsOf 9 = 1 := by kernel_rfl
 have ki : Tryz.prog.cellsOf 3 = 1 := by kernel_rfl
 have kl : Tryz.prog.cellsOf 30 = 1 := by kernel_rfl
 have hxl' : xs.length = 7 := hxl
 have hget : ∀ i, i < 7 → ∃ y, xs[i]? = some y := fun i hi => ⟨_, List.getElem?_eq_getElem (by omega)⟩
 have h0 : DataW.trod enc Tryz.prog W 0 (fun _ => true) true n' 3 ((cs.toList.drop 0).take (Tryz.prog.cellsOf 3)) = xs[0]? := hff 0 _ rfl
 have h1 : DataW.trod enc Tryz.prog W 0 (fun _ => true) true n' 3 ((cs.toList.drop 1).take (Tryz.prog.cellsOf 3)) = xs[1]? := hff 1 _ rfl
 have h2 : DataW.trod enc Tryz.prog W 0 (fun _ => true) true n' 3 ((cs.toList.drop 2).take (Tryz.prog.cellsOf 3)) = xs[2]? := hff 2 _ rfl
 have h3 : DataW.trod enc Tryz.prog W 0 (fun _ => true) true n' 3 ((cs.toList.drop 3).take (Tryz.prog.cellsOf 3)) = xs[3]? := hff 3 _ rfl
 have h4 : DataW.trod enc Tryz.prog W 0 (fun _ => true) true n' 3 ((cs.toList.drop 4).take (Tryz.prog.cellsOf 3)) = xs[4]? := hff 4 _ rfl
 have h5 : DataW.trod enc Tryz.prog W 0 (fun _ => true) true n' 9 ((cs.toList.drop 5).take (Tryz.prog.cellsOf 9)) = xs[5]? := hff 5 _ rfl
 have h6 : DataW.trod enc Tryz.prog W 0 (fun _ => true) true n' 30 ((cs.toList.drop 6).take (Tryz.prog.cellsOf 30)) = xs[6]? := hff 6 _ rfl
 obtain ⟨y0, e0⟩ := hget 0 (by omega)
 obtain ⟨y1, e1⟩ := hget 1 (by omega)
 obtain ⟨y2, e2⟩ := hget 2 (by omega)
 obtain ⟨y3, e3⟩ := hget 3 (by omega)
 obtain ⟨y4, e4⟩ := hget 4 (by omega)
 obtain ⟨y5, e5⟩ := hget 5 (by omega)
 obtain ⟨y6, e6⟩ := hget 6 (by omega)
 rw [e0, ki, e7] at h0
 rw [e1, ki, e7] at h1
 rw [e2, ki, e7] at h2
 rw [e3, ki, e7] at h3
 rw [e4, ki, e7] at h4
 rw [e5, k9, e7] at h5
 rw [e6, kl, e7] at h6
 obtain ⟨z0, q0, -, -⟩ := DataW.trod_int Tryz.underlying3 h0
 obtain ⟨z1, q1, -, -⟩ := DataW.trod_int Tryz.underlying3 h1
 obtain ⟨z2, q2, -, -⟩ := DataW.trod_int Tryz.underlying3 h2
 obtain ⟨z3, q3, -, -⟩ := DataW.trod_int Tryz.underlying3 h3
 obtain ⟨z4, q4, -, -⟩ := DataW.trod_int Tryz.underlying3 h4
 obtain ⟨tx, q5, -, bt⟩ := DataW.trod_string Tryz.underlying9 h5
 obtain ⟨A, n, c, X, q6, lx, hmx, hz, ok⟩ := open_wlineK h6
 have a0 : c0 = .int .i64 z0 := by simpa using q0
 have a1 : c1 = .int .i64 z1 := by simpa using q1
 have a2 : c2 = .int .i64 z2 := by simpa using q2
 have a3 : c3 = .int .i64 z3 := by simpa using q3
 have a4 : c4 = .int .i64 z4 := by simpa using q4
 have a5 : c5 = .string tx := by simpa using q5
 have a6 : c6 = .slice A n c := by simpa using q6
 subst a0 a1 a2 a3 a4 a5 a6
 refine ⟨⟨z0, z1, z2, z3, z4, tx, A, n, c⟩, X, ?_, ⟨lx, hz, ok⟩, hmx, bt⟩
 rw [← Array.toArray_toList (xs := cs), e7]
end
end Go.Proofs.YtfombohomebokaaGreat
