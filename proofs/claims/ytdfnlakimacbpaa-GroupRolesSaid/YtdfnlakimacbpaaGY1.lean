/- Contracts and the law of GroupRoles, part 1: what was proved of each, callees first. -/
import Derived.Deep.RegionHeldLaw
import Derived.Test.YtdfnlakimacbpaaGK6
namespace Go.Proofs.Ytdfnlakimacbpaa
open Go.RowKit
theorem wpAnyH_takeD {P : Program} {md : Region.Mode} {ops : Array Oper} {Q : Exit → Act → World → Prop} {S : World → Prop} {i : Nat} {oi : Oper} {v : Value} {fuel : Nat} {listed : Array Bool} {a : Act} {w : World} (d : Option Tmp) (hi : ops[i]? = some oi) (hd : oi.dst = d)
  (hs : Region.noSelect ops = true) (hf : Region.free md ops listed i = true) (hr : (Region.ready md ops listed).contains i = true)
  (hQ : ∀ c a w, Q (.panic c) (a.put d v) w → Q (.panic c) a w) (hy : YieldsIf P ops S oi v a) (hS : S w)
  (h : wpAnyH P md ops Q S fuel (listed.setIfInBounds i true) (a.put d v) w) : wpAnyH P md ops Q S (fuel + 1) listed a w := by
 subst hd
 exact wpAnyH_take hi hs hf hr hQ hy hS h
def fewR (e : Ent) : Bool := decide (e.n ≤ 40) && (decide (e.m ≤ 60) && !decide ((60 : Int) < wrap64 ((e.nm.size : Int) + (e.cur.size : Int))))
def few10 (g : Grp) (G : List Ent) : Bool := allTo (fun i => fewR (G.getD i ent0)) G.length && (decide (g.n ≤ 60) && (decide (g.m ≤ 14) && decide ((g.cur.size : Int) ≤ 20)))
theorem few_sm {g : Grp} {G : List Ent} (h : few10 g G = true) : Sm g G := by
 unfold few10 at h
 simp only [Bool.and_eq_true, decide_eq_true_eq] at h
 obtain ⟨h1, h2, h3, -⟩ := h
 refine ⟨h2, h3, fun e he => ?_⟩
 obtain ⟨i, hi, rfl⟩ := mem_getD_acc (d := ent0) he
 have h4 := allTo_is.1 h1 i hi
 unfold fewR at h4
 simp only [Bool.and_eq_true, decide_eq_true_eq] at h4
 exact ⟨by omega, h4.2.1⟩
set_option maxRecDepth 20000 in
set_option maxHeartbeats 1600000 in
theorem rfew10_is (g : Grp) (G : List Ent) (w : World) (he : EntsAt w g.E G) (lg : G.length = g.m) (hmx : g.m ≤ 9223372036854775807) :
  Calls Try.prog 9 #[grpV g] w fun e w' => e = .returned (.bool (few10 g G)) ∧ Below w.heap.size w w' := by
 have hB := below_alloc_new (w := w) (.cells #[.string g.cur, .int .i64 g.cy, .int .i64 g.cm, .int .i64 g.cp, .slice g.A g.n g.c, .int .i64 g.r0, .int .i64 g.r1, .int .i64 g.r2, .int .i64 g.r3, .int .i64 g.r4, .int .i64 g.r5, .int .i64 g.r6, .int .i64 g.r7, .int .i64 g.r8, .int .i64 g.r9, .int .i64 g.r10, .int .i64 g.r11, .int .i64 g.r12, .int .i64 g.r13, .int .i64 g.r14, .slice g.E g.m g.d] 29)
 have hG := gb_new w 29 g
 have hv : few10 g G = (allTo (fun i => fewR (G.getD i ent0)) G.length && (decide (g.n ≤ 60) && (decide (g.m ≤ 14) && decide ((g.cur.size : Int) ≤ 20)))) := rfl
 rw [lg] at hv
 generalize few10 g G = r at *
 obtain ⟨P, hP⟩ : ∃ P : Nat → Bool, (fun i => fewR (G.getD i ent0)) = P := ⟨_, rfl⟩
 have hpk : ∀ k, P k = fewR (G.getD k ent0) := fun k => by rw [← hP]
 rw [hP] at hv
 have HV := Lib.hid hv
 have HPK := Lib.hid hpk
 clear hv hpk hP
 obtain ⟨s0, hs0⟩ : ∃ s0, w.heap.size = s0 := ⟨_, rfl⟩
 rw [hs0] at hB hG ⊢
 have HM := Lib.hid lg
 have HZ := Lib.hid he
 have HS0 := Lib.hid hs0
 have HG := Lib.hid hG
 clear he lg hG
 go_enter Try.func9, Try.ntmps9
 go_wp2_with fail
 clear hs0
 go_loopg [3] g.m (fun kx s3 wr => ∃ k : Nat, s3 = .int .i64 k ∧ k ≤ g.m ∧ g.m - k ≤ kx ∧ Hid (allTo P k = true) ∧ Hid (GB wr s0 g) ∧ Below s0 w wr)
 case atStart => exact ⟨0, rfl, by omega, by omega, Lib.hid rfl, HG, hB⟩
 case round =>
  clear hB HG
  obtain ⟨k, rfl, hk, hkx, HN, HG, hB⟩ := hrel
  have c20 := HG.out.c20
  have hsz : s0 ≤ wr.heap.size := by have := hB.size; have := HS0.out; omega
  by_cases hlt : k < g.m
  ·have hltz : (k : Int) < (g.m : Int) := by omega
   obtain ⟨b, off, eE, hbw, hcs⟩ := ent_at HZ.out (k := k) (by rw [HM.out]; omega)
   obtain ⟨c0, c1, c2, c3, c4⟩ := hcs.up hB (by have := HS0.out; omega)
   have hno : P k = false → r = false := fun h => by rw [HV.out, allTo_no hlt h]; rfl
   have hnx : P k = true → Hid (allTo P (k + 1) = true) := fun h => Lib.hid (by show (allTo P k && P k) = true; rw [HN.out, h]; rfl)
   have hpk := HPK.out k
   obtain ⟨x, hx⟩ : ∃ x, G.getD k ent0 = x := ⟨_, rfl⟩
   rw [hx] at c0 c1 c2 c3 c4 hpk
   have hfr : fewR x = (decide (x.n ≤ 40) && (decide (x.m ≤ 60) && !decide ((60 : Int) < wrap64 ((x.nm.size : Int) + (x.cur.size : Int))))) := rfl
   rw [hfr] at hpk
   generalize P k = pk at *
   obtain ⟨z0, z1, z2, z3, z4, zlt⟩ := eb_new wr 47 x.nm x.cur x.A x.n x.c x.B x.m x.d x.jt
   have hB1 : Below s0 w (wr.alloc (.cells #[.string x.nm, .string x.cur, .slice x.A x.n x.c, .slice x.B x.m x.d, .bool x.jt] 47)) := hB.alloc hsz _
   have HG1 := Lib.hid (HG.out.up (below_alloc_new (w := wr) (.cells #[.string x.nm, .string x.cur, .slice x.A x.n x.c, .slice x.B x.m x.d, .bool x.jt] 47)))
   clear hcs hx HN HG hfr
   rcases Nat.lt_or_ge 40 x.n with h1 | h1
   ·have e1 : decide ((40 : Int) < (x.n : Int)) = true := decide_eq_true (by omega)
    have HR := Lib.hid (hno (by rw [hpk, decide_eq_false (show ¬ x.n ≤ 40 by omega)]; rfl))
    clear hnx h1 hno hpk
    go_wp2_with fail
    go_ret
    exact ⟨by rw [HR.out]; rfl, hB1⟩
   have e1 : decide ((40 : Int) < (x.n : Int)) = false := decide_eq_false (by omega)
   rcases Nat.lt_or_ge 60 x.m with h2 | h2
   ·have e2 : decide ((60 : Int) < (x.m : Int)) = true := decide_eq_true (by omega)
    have HR := Lib.hid (hno (by rw [hpk, decide_eq_false (show ¬ x.m ≤ 60 by omega)]; simp))
    clear hnx h1 h2 hno hpk
    go_wp2_with fail
    go_ret
    exact ⟨by rw [HR.out]; rfl, hB1⟩
   have e2 : decide ((60 : Int) < (x.m : Int)) = false := decide_eq_false (by omega)
   rw [decide_eq_true h1, decide_eq_true h2] at hpk
   clear h1 h2
   cases e3 : decide ((60 : Int) < wrap64 ((x.nm.size : Int) + (x.cur.size : Int)))
   ·have HN2 := hnx (by rw [hpk, e3]; rfl)
    clear hnx hno hpk
    go_wp2_with fail
    go_roundg (g.m - (k + 1))
    case measure => omega
    case rel => exact ⟨k + 1, by go_num, by omega, by omega, HN2, HG1, hB1⟩
   ·have HR := Lib.hid (hno (by rw [hpk, e3]; rfl))
    clear hnx hno hpk
    go_wp2_with fail
    go_ret
    exact ⟨by rw [HR.out]; rfl, hB1⟩
  ·have hke : k = g.m := by omega
   have hltz : ¬ (k : Int) < (g.m : Int) := by omega
   have hv2 := HV.out
   rw [← hke, HN.out, Bool.true_and] at hv2
   have hm9 : decide (k ≤ 14) = decide (g.m ≤ 14) := by rw [hke]
   have c4 := HG.out.c4
   have c0 := HG.out.c0
   clear hke
   rcases Nat.lt_or_ge 60 g.n with h1 | h1
   ·have e1 : decide ((g.n : Int) ≤ 60) = false := decide_eq_false (by omega)
    have HR : Hid (r = false) := Lib.hid (by rw [hv2, decide_eq_false (show ¬ g.n ≤ 60 by omega)]; rfl)
    clear h1 hv2
    go_wp2_with fail
    go_ret
    exact ⟨by rw [HR.out]; rfl, hB⟩
   have e1 : decide ((g.n : Int) ≤ 60) = true := decide_eq_true (by omega)
   rcases Nat.lt_or_ge 14 g.m with h2 | h2
   ·have e2 : decide ((g.m : Int) ≤ 14) = false := decide_eq_false (by omega)
    have HR : Hid (r = false) := Lib.hid (by rw [hv2, hm9, decide_eq_false (show ¬ g.m ≤ 14 by omega)]; simp)
    clear h1 h2 hv2 hm9
    go_wp2_with fail
    go_ret
    exact ⟨by rw [HR.out]; rfl, hB⟩
   have e2 : decide ((g.m : Int) ≤ 14) = true := decide_eq_true (by omega)
   have HR : Hid (r = decide ((g.cur.size : Int) ≤ 20)) := Lib.hid (by rw [hv2, hm9, decide_eq_true h1, decide_eq_true h2]; rfl)
   clear h1 h2 hv2 hm9
   go_wp2_with fail
   go_ret
   exact ⟨by rw [HR.out]; rfl, hB⟩
theorem grp_roles {g : Grp} {L : List Acc} {G : List Ent} (h : grpR g L G = true) : ∀ k, k < 15 → (fnd L (g.R.getD k 0)).isSome = true ∧ (fndA L (g.R.getD k 0)).kind = rlK k ∧ (fndA L (g.R.getD k 0)).basis = rlB k ∧ roN g.R (g.R.getD k 0) = rlN k ∧ decide (g.R.getD k 0 ∈ g.R) = true := by
 intro k hk
 unfold grpR bokR at h
 simp only [Bool.and_eq_true] at h
 have hrow := h.1.2.2.2.2
 have h1 := allTo_is.1 hrow k hk
 unfold rowR chkR at h1
 simp only [Bool.and_eq_true, decide_eq_true_eq] at h1
 obtain ⟨⟨h2, h3, h4⟩, h5⟩ := h1
 obtain ⟨h6, h7⟩ := ro_at (R := g.R) (c := g.R.getD k 0) (k := k) hk (dsR_is.1 h5) rfl
 exact ⟨h2, h3, h4, h6, h7⟩
def grFa (X : Value) (y1 : ByteArray) (x : Int) (k s0 t : Nat) : List (Nat × AS.Fact) := [(31, AS.Fact.is (X)), (32, AS.Fact.is (.slice (some ⟨t, 0, none⟩) 15 15)), (33, AS.Fact.is (.int .i64 (k : Int))), (34, AS.Fact.is (.pointer (some ⟨t, k * 5, none⟩))), (35, AS.Fact.is (.pointer (some ⟨t, k * 5 + 1, none⟩))), (36, AS.Fact.is (.int .i64 x)), (37, AS.Fact.is (.tuple #[.string y1, .bool true])), (30, AS.Fact.is (.tuple #[.string y1, .bool true])), (38, AS.Fact.is (.string y1)), (39, AS.Fact.is (.bool true)), (5, AS.Fact.is (.string y1)), (6, AS.Fact.is (.bool true))]
set_option maxRecDepth 20000 in
set_option maxHeartbeats 6400000 in
theorem law_grroles (g : Grp) (L : List Acc) (G : List Ent) (w : World) (hk : GrK w g L G) (hw : GrW g L G) (hmx : g.m ≤ 9223372036854775807) :
  Calls Try.prog 7 #[grpV g] w fun e w' => e = .returned (.bool true) ∧ Below w.heap.size w w' := by
 have hB := below_alloc_new (w := w) (.cells #[.string g.cur, .int .i64 g.cy, .int .i64 g.cm, .int .i64 g.cp, .slice g.A g.n g.c, .int .i64 g.r0, .int .i64 g.r1, .int .i64 g.r2, .int .i64 g.r3, .int .i64 g.r4, .int .i64 g.r5, .int .i64 g.r6, .int .i64 g.r7, .int .i64 g.r8, .int .i64 g.r9, .int .i64 g.r10, .int .i64 g.r11, .int .i64 g.r12, .int .i64 g.r13, .int .i64 g.r14, .slice g.E g.m g.d] 29)
 have hG := gb_new w 29 g
 have hk2 := hk.up hB
 have h1 := fun w h => rfew10_is g G w h hk.lg hmx
 have hsm := few_sm (g := g) (G := G)
 have h2 := fun hs w h => rvalid10_any g L G w h hs hw
 have h3 := fun (hs : Sm g G) x w h => gacct_any g L x w h hk.ln (by have := hs.n; omega)
 have h4 := fun x w => grole_any g x w
 have h5 := fun w => rroles_any g w
 have hro := grp_roles (g := g) (L := L) (G := G)
 obtain ⟨U, hU⟩ : ∃ U : Value, rolV g = U := ⟨_, rfl⟩
 rw [hU] at h5
 obtain ⟨X, hX⟩ : ∃ X : Value, X = grpV g := ⟨_, rfl⟩
 rw [← hX] at h1
 simp only [← hX] at h2 h3 h4
 generalize few10 g G = fb at *
 generalize grpR g L G = q at *
 obtain ⟨s0, hs0⟩ : ∃ s0, w.heap.size = s0 := ⟨_, rfl⟩
 have hsz : s0 ≤ (w.alloc (.cells #[.string g.cur, .int .i64 g.cy, .int .i64 g.cm, .int .i64 g.cp, .slice g.A g.n g.c, .int .i64 g.r0, .int .i64 g.r1, .int .i64 g.r2, .int .i64 g.r3, .int .i64 g.r4, .int .i64 g.r5, .int .i64 g.r6, .int .i64 g.r7, .int .i64 g.r8, .int .i64 g.r9, .int .i64 g.r10, .int .i64 g.r11, .int .i64 g.r12, .int .i64 g.r13, .int .i64 g.r14, .slice g.E g.m g.d] 29)).heap.size := by simp; omega
 rw [hs0] at hB hG ⊢
 have HX := Lib.hid hX
 have HU := Lib.hid hU
 have HG := Lib.hid hG
 have HK := Lib.hid hk2
 have HSZ := Lib.hid hsz
 have HFW := Lib.hid h1
 have H2 := Lib.hid h2
 have H3 := Lib.hid h3
 have H4 := Lib.hid h4
 have H5 := Lib.hid h5
 have HRO := Lib.hid hro
 clear hk hw hmx hG hk2 h1 h2 h3 h4 h5 hX hU hsz hro
 cases fb
 ·clear H2 H3 HRO hsm
  go_enter Try.func7, Try.ntmps7
  go_wp2_with (first
   | (refine wpList_load_is rfl 29 _ rfl (.pointer (some ⟨s0, 0, none⟩)) rfl X (gb_lV HG.out HX.out) ?_) | (refine wpList_load_if rfl 29 _ rfl (.pointer (some ⟨s0, 0, none⟩)) rfl X (gb_lV HG.out HX.out) ?_) | (refine wp_load_is 29 _ rfl (.pointer (some ⟨s0, 0, none⟩)) rfl X (gb_lV HG.out HX.out) ?_)
   | (go_at_call 8; refine (grawake_any _).mono ?_; rintro e1 w1 ⟨rfl, hb⟩; have hB2 := hB.trans (hb.mono HSZ.out); have HSZ2 := Lib.hid (Nat.le_trans HSZ.out hb.size); have HG2 := Lib.hid (HG.out.up hb); have HK2 := Lib.hid (HK.out.up hb); clear hb hB HSZ HG HK; have hB := hB2; have HSZ := HSZ2; have HG := HG2; have HK := HK2; clear hB2 HSZ2 HG2 HK2)
   | (go_at_call 9; (with_reducible refine (HFW.out _ HK.out.he).mono ?_); rintro e1 w2 ⟨rfl, hb⟩; have hB2 := hB.trans (hb.mono HSZ.out); have HSZ2 := Lib.hid (Nat.le_trans HSZ.out hb.size); have HG2 := Lib.hid (HG.out.up hb); have HK2 := Lib.hid (HK.out.up hb); clear hb hB HSZ HG HK; have hB := hB2; have HSZ := HSZ2; have HG := HG2; have HK := HK2; clear hB2 HSZ2 HG2 HK2))
  go_ret
  exact ⟨rfl, hB⟩
 have hs := hsm rfl
 have HV := Lib.hid (H2.out hs)
 have HAC := Lib.hid (H3.out hs)
 clear H2 H3 hsm hs
 cases q
 ·clear HRO
  go_enter Try.func7, Try.ntmps7
  go_wp2_with (first
   | (refine wpList_load_is rfl 29 _ rfl (.pointer (some ⟨s0, 0, none⟩)) rfl X (gb_lV HG.out HX.out) ?_) | (refine wpList_load_if rfl 29 _ rfl (.pointer (some ⟨s0, 0, none⟩)) rfl X (gb_lV HG.out HX.out) ?_) | (refine wp_load_is 29 _ rfl (.pointer (some ⟨s0, 0, none⟩)) rfl X (gb_lV HG.out HX.out) ?_)
   | (go_at_call 8; refine (grawake_any _).mono ?_; rintro e1 w1 ⟨rfl, hb⟩; have hB2 := hB.trans (hb.mono HSZ.out); have HSZ2 := Lib.hid (Nat.le_trans HSZ.out hb.size); have HG2 := Lib.hid (HG.out.up hb); have HK2 := Lib.hid (HK.out.up hb); clear hb hB HSZ HG HK; have hB := hB2; have HSZ := HSZ2; have HG := HG2; have HK := HK2; clear hB2 HSZ2 HG2 HK2)
   | (go_at_call 9; (with_reducible refine (HFW.out _ HK.out.he).mono ?_); rintro e1 w2 ⟨rfl, hb⟩; have hB2 := hB.trans (hb.mono HSZ.out); have HSZ2 := Lib.hid (Nat.le_trans HSZ.out hb.size); have HG2 := Lib.hid (HG.out.up hb); have HK2 := Lib.hid (HK.out.up hb); clear hb hB HSZ HG HK; have hB := hB2; have HSZ := HSZ2; have HG := HG2; have HK := HK2; clear hB2 HSZ2 HG2 HK2)
   | (go_at_call 11; (with_reducible refine (HV.out _ HK.out).mono ?_); rintro e1 w3 ⟨rfl, hb⟩; have hB2 := hB.trans (hb.mono HSZ.out); have HSZ2 := Lib.hid (Nat.le_trans HSZ.out hb.size); have HG2 := Lib.hid (HG.out.up hb); have HK2 := Lib.hid (HK.out.up hb); clear hb hB HSZ HG HK; have hB := hB2; have HSZ := HSZ2; have HG := HG2; have HK := HK2; clear hB2 HSZ2 HG2 HK2))
  go_ret
  exact ⟨rfl, hB⟩
 have HRL := Lib.hid (HRO.out rfl)
 clear HRO
 go_enter Try.func7, Try.ntmps7
 go_wp2_with (first
  | (refine wpList_load_is rfl 29 _ rfl (.pointer (some ⟨s0, 0, none⟩)) rfl X (gb_lV HG.out HX.out) ?_) | (refine wpList_load_if rfl 29 _ rfl (.pointer (some ⟨s0, 0, none⟩)) rfl X (gb_lV HG.out HX.out) ?_) | (refine wp_load_is 29 _ rfl (.pointer (some ⟨s0, 0, none⟩)) rfl X (gb_lV HG.out HX.out) ?_)
  | (go_at_call 8; refine (grawake_any _).mono ?_; rintro e1 w1 ⟨rfl, hb⟩; have hB2 := hB.trans (hb.mono HSZ.out); have HSZ2 := Lib.hid (Nat.le_trans HSZ.out hb.size); have HG2 := Lib.hid (HG.out.up hb); have HK2 := Lib.hid (HK.out.up hb); clear hb hB HSZ HG HK; have hB := hB2; have HSZ := HSZ2; have HG := HG2; have HK := HK2; clear hB2 HSZ2 HG2 HK2)
  | (go_at_call 9; (with_reducible refine (HFW.out _ HK.out.he).mono ?_); rintro e1 w2 ⟨rfl, hb⟩; have hB2 := hB.trans (hb.mono HSZ.out); have HSZ2 := Lib.hid (Nat.le_trans HSZ.out hb.size); have HG2 := Lib.hid (HG.out.up hb); have HK2 := Lib.hid (HK.out.up hb); clear hb hB HSZ HG HK; have hB := hB2; have HSZ := HSZ2; have HG := HG2; have HK := HK2; clear hB2 HSZ2 HG2 HK2)
  | (go_at_call 11; (with_reducible refine (HV.out _ HK.out).mono ?_); rintro e1 w3 ⟨rfl, hb⟩; have hB2 := hB.trans (hb.mono HSZ.out); have HSZ2 := Lib.hid (Nat.le_trans HSZ.out hb.size); have HG2 := Lib.hid (HG.out.up hb); have HK2 := Lib.hid (HK.out.up hb); clear hb hB HSZ HG HK; have hB := hB2; have HSZ := HSZ2; have HG := HG2; have HK := HK2; clear hB2 HSZ2 HG2 HK2)
  | (refine wpList_load_is rfl 26 _ rfl (.pointer (some ⟨s0, 5, none⟩)) rfl U (gb_rU HG.out HU.out) ?_)
  | (go_at_call 25; refine (H5.out _).mono ?_; rintro e1 w4 ⟨⟨t, rfl, ht⟩, hb⟩; have HT := Lib.hid ht; clear ht; have hB2 := hB.trans (hb.mono HSZ.out); have HSZ2 := Lib.hid (Nat.le_trans HSZ.out hb.size); have HG2 := Lib.hid (HG.out.up hb); have HK2 := Lib.hid (HK.out.up hb); clear hb hB HSZ HG HK; have hB := hB2; have HSZ := HSZ2; have HG := HG2; have HK := HK2; clear hB2 HSZ2 HG2 HK2))
 clear hs0 HFW HV HU H5
 go_loopg [27] 15 (fun kx s27 wr => ∃ k : Nat, s27 = .int .i64 k ∧ k ≤ 15 ∧ 15 - k ≤ kx ∧ Hid (GB wr s0 g) ∧ Hid (GrK wr g L G) ∧ Hid (RolAt wr t g) ∧ Below s0 w wr)
 case atStart => exact ⟨0, rfl, by omega, by omega, HG, HK, HT, hB⟩
 case round =>
  clear hB HG HK HT HSZ
  rename World => wr
  obtain ⟨k, rfl, hk, hkx, HG, HK, HT, hB⟩ := hrel
  have hsz : s0 ≤ wr.heap.size := Nat.le_of_lt HG.out.lt
  by_cases hlt : k < 15
  ·have hltz : (k : Int) < 15 := by omega
   obtain ⟨f1, f2, f3, f4, f5⟩ := HRL.out k hlt
   have hrow := HT.out.row hlt
   obtain ⟨x, hx⟩ : ∃ x, g.R.getD k 0 = x := ⟨_, rfl⟩
   rw [hx] at f1 f2 f3 f4 f5 hrow
   have h4x := fun w => H4.out x w
   have h3x := fun w h => HAC.out x w h
   rw [f4, f5] at h4x
   rw [f1] at h3x
   generalize fndA L x = fa at *
   obtain ⟨y1, hy1⟩ : ∃ y, rlN k = y := ⟨_, rfl⟩
   obtain ⟨y2, hy2⟩ : ∃ y, rlK k = y := ⟨_, rfl⟩
   obtain ⟨y3, hy3⟩ : ∃ y, rlB k = y := ⟨_, rfl⟩
   rw [hy1, hy2, hy3] at hrow
   rw [hy1] at h4x
   rw [hy2] at f2
   rw [hy3] at f3
   have HF2 : Hid ((fa.kind != y2) = false) := Lib.hid (by simp [f2])
   have HF3 : Hid ((fa.basis != y3) = false) := Lib.hid (by simp [f3])
   have HF1 : Hid ((y1.toList != y1.toList) = false) := Lib.hid (by simp)
   have HRLx := Lib.hid h4x
   have H5x := Lib.hid h3x
   simp only [Nat.zero_add] at hrow
   have HROW : Hid (∀ w', Below wr.heap.size wr w' → w'.cell? ⟨t, k * 5, none⟩ = some (.string y1) ∧ w'.cell? ⟨t, k * 5 + 1, none⟩ = some (.int .i64 x) ∧ w'.cell? ⟨t, k * 5 + 2, none⟩ = some (.int .i64 y2) ∧ w'.cell? ⟨t, k * 5 + 3, none⟩ = some (.int .i64 y3)) := Lib.hid fun w' h =>
    ⟨(h.cell (p := ⟨t, k * 5, none⟩) HT.out.1).trans hrow.1, (h.cell (p := ⟨t, k * 5 + 1, none⟩) HT.out.1).trans hrow.2.1, (h.cell (p := ⟨t, k * 5 + 2, none⟩) HT.out.1).trans hrow.2.2.1, (h.cell (p := ⟨t, k * 5 + 3, none⟩) HT.out.1).trans hrow.2.2.2.1⟩
   have HC : Hid (∀ w', Below wr.heap.size wr w' → w'.cell? ⟨t, k * 5 + 1, none⟩ = some (.int .i64 x)) := Lib.hid fun w' h => (HROW.out w' h).2.1
   clear f1 f2 f3 f4 f5 hrow hx h4x h3x hy1 hy2 hy3
   go_wp2_with fail
   refine AS.region_facts (grFa X y1 x k s0 t) (HNo wr) [[], [], [], [32, 33], [34], [35], [31, 36], [37], [30], [30], [38], [39]] [] [[]] [0, 0, 0, 0, 0, 0, 0, 0, 0, 0, 0, 0] [] (fun u => by simp only [grFa, AS.temps, List.map_cons, List.map_nil, fillL, List.setIfInBounds_toArray, List.set_cons_zero, List.set_cons_succ]; rfl) (by kernel_rfl) (by kernel_rfl) (HNo.st wr) (dc_drew (Below.refl _ _)) ?_ ?_
   ·refine AS.sc rfl rfl rfl ?_ ?_
    ·intro k_ u w_ hk_ hJ hF K hK
     clear hF
     refine wp_load_is 29 _ rfl (.pointer (some ⟨s0, 0, none⟩)) rfl X (gb_lV (HG.out.up (hJ : Below wr.heap.size wr w_)) HX.out) ?_
     exact hK.out _ _ (Below.refl _ _) (rfl) trivial
    refine AS.sc rfl rfl rfl ?_ ?_
    ·intro k_ u w_ hk_ hJ hF K hK
     clear hF
     go_simp
     exact hK.out _ _ (Below.refl _ _) (rfl) trivial
    refine AS.sc rfl rfl rfl ?_ ?_
    ·intro k_ u w_ hk_ hJ hF K hK
     clear hF
     go_simp
     exact hK.out _ _ (Below.refl _ _) (rfl) trivial
    refine AS.sc rfl rfl rfl ?_ ?_
    ·intro k_ u w_ hk_ hJ hF K hK
     have h32 : u 32 = .slice (some ⟨t, 0, none⟩) 15 15 := AS.facts_get hF 32 (by simp)
     have h33 : u 33 = .int .i64 (k : Int) := AS.facts_get hF 33 (by simp)
     clear hF
     simp only [h32, h33] at hK ⊢
     clear h32 h33
     go_simp
     exact hK.out _ _ (Below.refl _ _) (rfl) trivial
    refine AS.sc rfl rfl rfl ?_ ?_
    ·intro k_ u w_ hk_ hJ hF K hK
     have h34 : u 34 = .pointer (some ⟨t, k * 5, none⟩) := AS.facts_get hF 34 (by simp)
     clear hF
     simp only [h34] at hK ⊢
     clear h34
     go_simp
     exact hK.out _ _ (Below.refl _ _) (rfl) trivial
    refine AS.sc rfl rfl rfl ?_ ?_
    ·intro k_ u w_ hk_ hJ hF K hK
     have h35 : u 35 = .pointer (some ⟨t, k * 5 + 1, none⟩) := AS.facts_get hF 35 (by simp)
     clear hF
     simp only [h35] at hK ⊢
     clear h35
     have hc9 := HC.out w_ (hJ : Below wr.heap.size wr w_)
     go_simp
     exact hK.out _ _ (Below.refl _ _) (rfl) trivial
    refine AS.sc rfl rfl rfl ?_ ?_
    ·intro k_ u w_ hk_ hJ hF K hK
     have h31 : u 31 = X := AS.facts_get hF 31 (by simp)
     have h36 : u 36 = .int .i64 x := AS.facts_get hF 36 (by simp)
     clear hF
     simp only [h31, h36] at hK ⊢
     clear h31 h36
     go_simp
     refine (HRLx.out _).mono ?_
     rintro e w3 ⟨rfl, hb⟩
     exact hK.out _ _ hb (rfl) trivial
    refine AS.sc rfl rfl rfl ?_ ?_
    ·intro k_ u w_ hk_ hJ hF K hK
     have h37 : u 37 = .tuple #[.string y1, .bool true] := AS.facts_get hF 37 (by simp)
     clear hF
     simp only [h37] at hK ⊢
     clear h37
     go_simp
     exact hK.out _ _ (Below.refl _ _) (rfl) trivial
    refine AS.sc rfl rfl rfl ?_ ?_
    ·intro k_ u w_ hk_ hJ hF K hK
     have h30 : u 30 = .tuple #[.string y1, .bool true] := AS.facts_get hF 30 (by simp)
     clear hF
     simp only [h30] at hK ⊢
     clear h30
     go_simp
     exact hK.out _ _ (Below.refl _ _) (rfl) trivial
    refine AS.sc rfl rfl rfl ?_ ?_
    ·intro k_ u w_ hk_ hJ hF K hK
     have h30 : u 30 = .tuple #[.string y1, .bool true] := AS.facts_get hF 30 (by simp)
     clear hF
     simp only [h30] at hK ⊢
     clear h30
     go_simp
     exact hK.out _ _ (Below.refl _ _) (rfl) trivial
    refine AS.sc rfl rfl rfl ?_ ?_
    ·intro k_ u w_ hk_ hJ hF K hK
     have h38 : u 38 = .string y1 := AS.facts_get hF 38 (by simp)
     clear hF
     simp only [h38] at hK ⊢
     clear h38
     go_simp
     exact hK.out _ _ (Below.refl _ _) (rfl) trivial
    refine AS.sc rfl rfl rfl ?_ ?_
    ·intro k_ u w_ hk_ hJ hF K hK
     have h39 : u 39 = .bool true := AS.facts_get hF 39 (by simp)
     clear hF
     simp only [h39] at hK ⊢
     clear h39
     go_simp
     exact hK.out _ _ (Below.refl _ _) (rfl) trivial
    exact AS.StepsOk.nil
   ·intro u W9 hJ9 hF
    have h5 : u 5 = .string y1 := AS.facts_get hF 5 (by simp [grFa, AS.temps])
    have h6 : u 6 = .bool true := AS.facts_get hF 6 (by simp [grFa, AS.temps])
    have hB9 : Below wr.heap.size wr W9 := hJ9
    clear hF hJ9
    simp only [h5, h6]
    clear h5 h6
    rename World => W8
    have HG8 := Lib.hid (HG.out.up hB9)
    have HK8 := Lib.hid (HK.out.up hB9)
    have HT8 := Lib.hid (HT.out.up hB9)
    have HROW8 : Hid (∀ w', Below W8.heap.size W8 w' → w'.cell? ⟨t, k * 5, none⟩ = some (.string y1) ∧ w'.cell? ⟨t, k * 5 + 1, none⟩ = some (.int .i64 x) ∧ w'.cell? ⟨t, k * 5 + 2, none⟩ = some (.int .i64 y2) ∧ w'.cell? ⟨t, k * 5 + 3, none⟩ = some (.int .i64 y3)) := Lib.hid fun w' h => HROW.out w' (below_more hB9 h)
    have hB8 := hB.trans (hB9.mono hsz)
    have hsz8 : s0 ≤ W8.heap.size := Nat.le_of_lt HG8.out.lt
    clear HG HK HT HROW HC hB hB9 hsz
    have HC : Hid (∀ w', Below W8.heap.size W8 w' → w'.cell? ⟨t, k * 5 + 1, none⟩ = some (.int .i64 x)) := Lib.hid fun w' h => (HROW8.out w' h).2.1
    go_upto_region 8 with fail
    go_cut [7, 8] from 28 to 85 (fun v7 v8 wx => ∃ g6, v7 = .pointer (some ⟨g6, 0, none⟩) ∧ v8 = .bool true ∧ Hid (AB wx g6 fa) ∧ Hid (GB wx s0 g) ∧ Hid (GrK wx g L G) ∧ Hid (RolAt wx t g) ∧ Hid (Below W8.heap.size W8 wx) ∧ Below s0 w wx)
    case first =>
     refine wp_region_held_drew (S := fun w9 => Below W8.heap.size W8 w9) (by kernel_rfl) (dc_drew (Below.refl _ _)) (fun hH => ?_)
     refine wpAnyH_take (i := 0) (v := X) rfl (by kernel_rfl) (by kernel_rfl) (by kernel_rfl) (fun _ _ _ h => h) (yieldsIf_load_is rfl 29 _ rfl (.pointer (some ⟨s0, 0, none⟩)) rfl X (fun w9 h9 => gb_lV (HG8.out.up h9) HX.out)) hH ?_
     try simp only [Act.put, List.setIfInBounds_toArray, List.set_cons_zero, List.set_cons_succ]
     refine wpAnyH_take (i := 1) (v := .slice (some ⟨t, 0, none⟩) 15 15) rfl (by kernel_rfl) (by kernel_rfl) (by kernel_rfl) (fun _ _ _ h => h) (Or.inl ⟨by rfl, fun w9 h9 => by go_simp⟩) hH ?_
     try simp only [Act.put, List.setIfInBounds_toArray, List.set_cons_zero, List.set_cons_succ]
     refine wpAnyH_take (i := 2) (v := .int .i64 (k : Int)) rfl (by kernel_rfl) (by kernel_rfl) (by kernel_rfl) (fun _ _ _ h => h) (Or.inl ⟨by rfl, fun w9 h9 => by go_simp⟩) hH ?_
     try simp only [Act.put, List.setIfInBounds_toArray, List.set_cons_zero, List.set_cons_succ]
     refine wpAnyH_take (i := 3) (v := .pointer (some ⟨t, k * 5, none⟩)) rfl (by kernel_rfl) (by kernel_rfl) (by kernel_rfl) (fun _ _ _ h => h) (Or.inl ⟨by rfl, fun w9 h9 => by go_simp⟩) hH ?_
     try simp only [Act.put, List.setIfInBounds_toArray, List.set_cons_zero, List.set_cons_succ]
     refine wpAnyH_take (i := 4) (v := .pointer (some ⟨t, k * 5 + 1, none⟩)) rfl (by kernel_rfl) (by kernel_rfl) (by kernel_rfl) (fun _ _ _ h => h) (Or.inl ⟨by rfl, fun w9 h9 => by go_simp⟩) hH ?_
     try simp only [Act.put, List.setIfInBounds_toArray, List.set_cons_zero, List.set_cons_succ]
     refine wpAnyH_take (i := 5) (v := .int .i64 x) rfl (by kernel_rfl) (by kernel_rfl) (by kernel_rfl) (fun _ _ _ h => h) (Or.inl ⟨by rfl, fun w9 h9 => by have hc9 := HC.out w9 h9; go_simp⟩) hH ?_
     try simp only [Act.put, List.setIfInBounds_toArray, List.set_cons_zero, List.set_cons_succ]
     refine wpAnyH_ready (rs := [6, 10]) (by kernel_rfl) (by simp) ?_
     refine AllReadyH.cons rfl (fun K hK => ?_) (AllReadyH.cons rfl (fun K hK => ?_) AllReadyH.nil)
     ·go_simp
      go_wp2_with (go_at_call 17; refine (H5x.out _ ((HK8.out.up hH).hz)).mono ?_; rintro e1 w3 ⟨rfl, hb⟩; have hB3 : Below W8.heap.size W8 w3 := below_more hH hb; clear hb)
      refine hK.out _ _ hB3 (fun hH2 => ?_)
      clear hK K
      try simp only [Act.put, List.setIfInBounds_toArray, List.set_cons_zero, List.set_cons_succ]
      refine wpAnyH_take (i := 7) (v := .tuple #[accV fa, .bool true]) rfl (by kernel_rfl) (by kernel_rfl) (by kernel_rfl) (fun _ _ _ h => h) (Or.inl ⟨by rfl, fun w9 h9 => by go_simp⟩) hH2 ?_
      try simp only [Act.put, List.setIfInBounds_toArray, List.set_cons_zero, List.set_cons_succ]
      refine wpAnyH_take (i := 8) (v := accV fa) rfl (by kernel_rfl) (by kernel_rfl) (by kernel_rfl) (fun _ _ _ h => h) (Or.inl ⟨by rfl, fun w9 h9 => by go_simp⟩) hH2 ?_
      try simp only [Act.put, List.setIfInBounds_toArray, List.set_cons_zero, List.set_cons_succ]
      refine wpAnyH_take (i := 9) (v := .bool true) rfl (by kernel_rfl) (by kernel_rfl) (by kernel_rfl) (fun _ _ _ h => h) (Or.inl ⟨by rfl, fun w9 h9 => by go_simp⟩) hH2 ?_
      try simp only [Act.put, List.setIfInBounds_toArray, List.set_cons_zero, List.set_cons_succ]
      refine wpAnyH_ready (rs := [10]) (by kernel_rfl) (by simp) ?_
      refine AllReadyH.cons rfl (fun K hK => ?_) AllReadyH.nil
      go_simp
      refine hK.out _ _ (below_new hB3 _) (fun hH3 => ?_)
      clear hK K
      try simp only [Act.put, List.setIfInBounds_toArray, List.set_cons_zero, List.set_cons_succ]
      refine wpAnyH_ready (rs := [11]) (by kernel_rfl) (by simp) ?_
      refine AllReadyH.cons rfl (fun K hK => ?_) AllReadyH.nil
      go_simp
      refine hK.out _ _ (below_new hB3 _) (fun hH4 => ?_)
      clear hK K
      try simp only [Act.put, List.setIfInBounds_toArray, List.set_cons_zero, List.set_cons_succ]
      refine wpAnyH_ready (rs := [12]) (by kernel_rfl) (by simp) ?_
      refine AllReadyH.cons rfl (fun K hK => ?_) AllReadyH.nil
      go_simp
      refine hK.out _ _ hH4 (fun hH5 => ?_)
      clear hK K
      try simp only [Act.put, List.setIfInBounds_toArray, List.set_cons_zero, List.set_cons_succ]
      refine wpAnyH_done (by kernel_rfl) ?_ _
      go_wp2_with fail
      go_meet
      exact ⟨_, rfl, rfl, Lib.hid (ab_new w3 39 fa), Lib.hid (HG8.out.up (below_new hB3 _)), Lib.hid (HK8.out.up (below_new hB3 _)), Lib.hid (HT8.out.up (below_new hB3 _)), Lib.hid (below_new hB3 _), hB8.trans ((below_new hB3 _).mono hsz8)⟩
     ·go_simp
      refine hK.out _ _ (below_new (dc_drew (Below.refl _ _)) _) (fun hH1 => ?_)
      clear hK K
      try simp only [Act.put, List.setIfInBounds_toArray, List.set_cons_zero, List.set_cons_succ]
      refine wpAnyH_ready (rs := [6]) (by kernel_rfl) (by simp) ?_
      refine AllReadyH.cons rfl (fun K hK => ?_) AllReadyH.nil
      go_simp
      go_wp2_with (go_at_call 17; refine (H5x.out _ ((HK8.out.up hH1).hz)).mono ?_; rintro e1 w3 ⟨rfl, hb⟩; have hB3 : Below W8.heap.size W8 w3 := below_more hH1 hb; have HA0 : Hid (AB w3 W8.heap.size acc0) := Lib.hid ((ab_new W8.drew 39 acc0).up hb); clear hb)
      refine hK.out _ _ hB3 (fun hH2 => ?_)
      clear hK K
      try simp only [Act.put, List.setIfInBounds_toArray, List.set_cons_zero, List.set_cons_succ]
      refine wpAnyH_take (i := 7) (v := .tuple #[accV fa, .bool true]) rfl (by kernel_rfl) (by kernel_rfl) (by kernel_rfl) (fun _ _ _ h => h) (Or.inl ⟨by rfl, fun w9 h9 => by go_simp⟩) hH2 ?_
      try simp only [Act.put, List.setIfInBounds_toArray, List.set_cons_zero, List.set_cons_succ]
      refine wpAnyH_take (i := 8) (v := accV fa) rfl (by kernel_rfl) (by kernel_rfl) (by kernel_rfl) (fun _ _ _ h => h) (Or.inl ⟨by rfl, fun w9 h9 => by go_simp⟩) hH2 ?_
      try simp only [Act.put, List.setIfInBounds_toArray, List.set_cons_zero, List.set_cons_succ]
      refine wpAnyH_take (i := 9) (v := .bool true) rfl (by kernel_rfl) (by kernel_rfl) (by kernel_rfl) (fun _ _ _ h => h) (Or.inl ⟨by rfl, fun w9 h9 => by go_simp⟩) hH2 ?_
      try simp only [Act.put, List.setIfInBounds_toArray, List.set_cons_zero, List.set_cons_succ]
      obtain ⟨⟨z0, z1, z2, z3⟩, zlt, zf⟩ := HA0.out
      have zf0 := zf 0
      have zf1 := zf 1
      have zf2 := zf 2
      have zf3 := zf 3
      simp only [Nat.zero_add] at z1 z2 z3
      clear zf
      refine wpAnyH_ready (rs := [11]) (by kernel_rfl) (by simp) ?_
      refine AllReadyH.cons rfl (fun K hK => ?_) AllReadyH.nil
      go_simp
      refine hK.out _ _ (bset4 hB3 (Nat.le_refl _) _ _ _ _) (fun hH4 => ?_)
      clear hK K
      try simp only [Act.put, List.setIfInBounds_toArray, List.set_cons_zero, List.set_cons_succ]
      refine wpAnyH_ready (rs := [12]) (by kernel_rfl) (by simp) ?_
      refine AllReadyH.cons rfl (fun K hK => ?_) AllReadyH.nil
      go_simp
      refine hK.out _ _ hH4 (fun hH5 => ?_)
      clear hK K
      try simp only [Act.put, List.setIfInBounds_toArray, List.set_cons_zero, List.set_cons_succ]
      refine wpAnyH_done (by kernel_rfl) ?_ _
      go_wp2_with fail
      go_meet
      have hB5 := bset4 hB3 (Nat.le_refl _) (.int .i64 fa.code) (.int .i64 fa.kind) (.int .i64 fa.basis) (.int .i64 fa.par)
      exact ⟨_, rfl, rfl, Lib.hid (ab_set4 HA0.out fa), Lib.hid (HG8.out.up hB5), Lib.hid (HK8.out.up hB5), Lib.hid (HT8.out.up hB5), Lib.hid hB5, hB8.trans (hB5.mono hsz8)⟩
    case rest =>
    rename World => wc
    obtain ⟨g6, rfl, rfl, HA6, HG, HK, HT, HBW, hB⟩ := hcut
    obtain ⟨⟨z0, z1, z2, z3⟩, zlt, -⟩ := HA6.out
    simp only [Nat.zero_add] at z1 z2 z3
    obtain ⟨r0, r1, r2, r3⟩ := HROW8.out wc HBW.out
    have e1 := HF1.out
    have e2 := HF2.out
    have e3 := HF3.out
    have HBK := Lib.hid hB
    clear HG8 HK8 HT8 HROW8 HC hB8
    go_wp2_with fail
    go_quiet (fail)
    have hB4 := below_drewN HBK.out nq
    have HG4 := Lib.hid (HG.out.up (below_drewN (Below.refl _ _) nq))
    have HK4 := Lib.hid (HK.out.up (below_drewN (Below.refl _ _) nq))
    have HT4 := Lib.hid (HT.out.up (below_drewN (Below.refl _ _) nq))
    clear HG HK HT hB HBK HA6 HBW z0 z1 z2 z3 zlt r0 r1 r2 r3
    generalize World.drewN _ nq = W9 at *
    go_wp2_with fail
    go_roundg (15 - (k + 1))
    case measure => omega
    case rel => exact ⟨k + 1, by go_num, by omega, by omega, HG4, HK4, HT4, hB4⟩
  ·obtain rfl : k = 15 := by omega
   go_wp2_with fail
   go_ret
   exact ⟨rfl, hB⟩
end Go.Proofs.Ytdfnlakimacbpaa
