/- Contracts and the law of GroupAccounts, part 1: what was proved of each, callees first. -/
import Derived.Deep.RegionHeldLaw
import Derived.Test.YtdfnlakimacbpaaGK6
namespace Go.Proofs.Ytdfnlakimacbpaa
open Go.RowKit
theorem wpAnyH_takeD {P : Program} {md : Region.Mode} {ops : Array Oper} {Q : Exit → Act → World → Prop} {S : World → Prop} {i : Nat} {oi : Oper} {v : Value} {fuel : Nat} {listed : Array Bool} {a : Act} {w : World} (d : Option Tmp) (hi : ops[i]? = some oi) (hd : oi.dst = d)
  (hs : Region.noSelect ops = true) (hf : Region.free md ops listed i = true) (hr : (Region.ready md ops listed).contains i = true)
  (hQ : ∀ c a w, Q (.panic c) (a.put d v) w → Q (.panic c) a w) (hy : YieldsIf P ops S oi v a) (hS : S w)
  (h : wpAnyH P md ops Q S fuel (listed.setIfInBounds i true) (a.put d v) w) : wpAnyH P md ops Q S (fuel + 1) listed a w := by
 subst hd
 exact wpAnyH_take hi hs hf hr hQ hy hS h
def gaFa (X : Value) (fa : Acc) (nm : ByteArray) (q1 q2 q3 q4 : Bool) (code : Int) (_s0 _gp _gr : Nat) : List (Nat × AS.Fact) := [(45, AS.Fact.is (accV fa)), (46, AS.Fact.is (accV fa)), (47, AS.Fact.is (.bool true)), (48, AS.Fact.is (.bool true)), (49, AS.Fact.is (.bool q1)), (50, AS.Fact.is (.bool q1)), (51, AS.Fact.is (.bool true)), (52, AS.Fact.is (.bool true)), (53, AS.Fact.is (.bool true)), (54, AS.Fact.is (.string nm)), (55, AS.Fact.is (.string nm)), (56, AS.Fact.is (.bool true)), (57, AS.Fact.is (.bool true)), (58, AS.Fact.is (.bool true)), (59, AS.Fact.is (.bool q2)), (60, AS.Fact.is (.bool q2)), (61, AS.Fact.is (.bool true)), (62, AS.Fact.is (.bool true)), (63, AS.Fact.is (.bool true)), (64, AS.Fact.is (X)), (65, AS.Fact.is (.int .i64 code)), (66, AS.Fact.is (.bool q3)), (67, AS.Fact.is (X)), (68, AS.Fact.is (.int .i64 code)), (69, AS.Fact.is (.bool q3)), (70, AS.Fact.is (.bool true)), (71, AS.Fact.is (.bool true)), (72, AS.Fact.is (.bool true)), (73, AS.Fact.is (X)), (74, AS.Fact.is (.int .i64 code)), (75, AS.Fact.is (.bool q4)), (76, AS.Fact.is (X)), (77, AS.Fact.is (.int .i64 code)), (78, AS.Fact.is (.bool q4)), (79, AS.Fact.is (.bool true)), (80, AS.Fact.is (.bool true)), (4, AS.Fact.is (.bool true))]
set_option maxRecDepth 20000 in
set_option maxHeartbeats 3200000 in
theorem law_graccounts (g : Grp) (L : List Acc) (G : List Ent) (code : Int) (w : World) (hk : GrK w g L G) (_hw : GrW g L G) (hmx : g.m ≤ 9223372036854775807) :
  Calls Try.prog 5 #[grpV g, .int .i64 code] w fun e w' => e = .returned (.bool true) ∧ Below w.heap.size w w' := by
 have hB := below_alloc_new (w := w) (.cells #[.string g.cur, .int .i64 g.cy, .int .i64 g.cm, .int .i64 g.cp, .slice g.A g.n g.c, .int .i64 g.r0, .int .i64 g.r1, .int .i64 g.r2, .int .i64 g.r3, .int .i64 g.r4, .int .i64 g.r5, .int .i64 g.r6, .int .i64 g.r7, .int .i64 g.r8, .int .i64 g.r9, .int .i64 g.r10, .int .i64 g.r11, .int .i64 g.r12, .int .i64 g.r13, .int .i64 g.r14, .slice g.E g.m g.d] 29)
 have hG := gb_new w 29 g
 have hk2 := hk.up hB
 have h1 := fun w h => rfew10_any g G w h hk.lg hmx
 have h2 := fun (hn : g.n ≤ 1000) w h => gacct_any g L code w h hk.ln hn
 have h3 := fun (hn : g.n ≤ 1000) w h => racct_any g L code w h hk.ln hn
 have h4 := fun w => grole_any g code w
 have h5 := fun w => rrole_any g code w
 have h6 := fun (hn : g.n ≤ 1000) w h => gres_any g L code w h hk.ln hn
 have h7 := fun (hn : g.n ≤ 1000) w h => rres_any g L code w h hk.ln hn
 have h8 := fun (hn : g.n ≤ 1000) w h => geqy_any g L code w h hk.ln hn
 have h9 := fun (hn : g.n ≤ 1000) w h => reqy_any g L code w h hk.ln hn
 obtain ⟨X, hX⟩ : ∃ X : Value, X = grpV g := ⟨_, rfl⟩
 rw [← hX] at h1
 simp only [← hX] at h2 h3 h4 h5 h6 h7 h8 h9
 generalize fndA L code = fa at *
 generalize (fnd L code).isSome = q1 at *
 generalize roN g.R code = nm at *
 generalize decide (code ∈ g.R) = q2 at *
 generalize resB L code = q3 at *
 generalize eqyB L code = q4 at *
 have HE1 : Hid ((q1 == q1) = true) := Lib.hid (by simp)
 have HE2 : Hid ((q2 == q2) = true) := Lib.hid (by simp)
 have HE3 : Hid ((q3 == q3) = true) := Lib.hid (by simp)
 have HE4 : Hid ((q4 == q4) = true) := Lib.hid (by simp)
 have HE5 : Hid ((nm.toList == nm.toList) = true) := Lib.hid (beq_self_eq_true _)
 obtain ⟨s0, hs0⟩ : ∃ s0, w.heap.size = s0 := ⟨_, rfl⟩
 have hsz : s0 ≤ (w.alloc (.cells #[.string g.cur, .int .i64 g.cy, .int .i64 g.cm, .int .i64 g.cp, .slice g.A g.n g.c, .int .i64 g.r0, .int .i64 g.r1, .int .i64 g.r2, .int .i64 g.r3, .int .i64 g.r4, .int .i64 g.r5, .int .i64 g.r6, .int .i64 g.r7, .int .i64 g.r8, .int .i64 g.r9, .int .i64 g.r10, .int .i64 g.r11, .int .i64 g.r12, .int .i64 g.r13, .int .i64 g.r14, .slice g.E g.m g.d] 29)).heap.size := by simp; omega
 rw [hs0] at hB hG ⊢
 have HX := Lib.hid hX
 have HG := Lib.hid hG
 have HK := Lib.hid hk2
 have HSZ := Lib.hid hsz
 have HFW := Lib.hid h1
 have H2 := Lib.hid h2
 have H3 := Lib.hid h3
 have H4 := Lib.hid h4
 have H5 := Lib.hid h5
 have H6 := Lib.hid h6
 have H7 := Lib.hid h7
 have H8 := Lib.hid h8
 have H9 := Lib.hid h9
 clear hk hmx hG hk2 h1 hX hsz h2 h3 h4 h5 h6 h7 h8 h9
 go_enter Try.func5, Try.ntmps5
 go_upto_if 19 with (first
  | (refine wpList_load_is rfl 29 _ rfl (.pointer (some ⟨s0, 0, none⟩)) rfl X (gb_lV HG.out HX.out) ?_) | (refine wpList_load_if rfl 29 _ rfl (.pointer (some ⟨s0, 0, none⟩)) rfl X (gb_lV HG.out HX.out) ?_) | (refine wp_load_is 29 _ rfl (.pointer (some ⟨s0, 0, none⟩)) rfl X (gb_lV HG.out HX.out) ?_)
  | (go_at_call 8; refine (grawake_any _).mono ?_; rintro e1 w1 ⟨rfl, hb⟩; have hB2 := hB.trans (hb.mono HSZ.out); have HSZ2 := Lib.hid (Nat.le_trans HSZ.out hb.size); have HG2 := Lib.hid (HG.out.up hb); have HK2 := Lib.hid (HK.out.up hb); clear hb hB HSZ HG HK; have hB := hB2; have HSZ := HSZ2; have HG := HG2; have HK := HK2; clear hB2 HSZ2 HG2 HK2)
  | (go_at_call 9; (with_reducible refine (HFW.out _ HK.out.he).mono ?_); rintro e1 w2 ⟨⟨fb, rfl, hfb⟩, hb⟩; have hB2 := hB.trans (hb.mono HSZ.out); have HSZ2 := Lib.hid (Nat.le_trans HSZ.out hb.size); have HG2 := Lib.hid (HG.out.up hb); have HK2 := Lib.hid (HK.out.up hb); clear hb hB HSZ HG HK; have hB := hB2; have HSZ := HSZ2; have HG := HG2; have HK := HK2; clear hB2 HSZ2 HG2 HK2))
 cases fb
 ·go_wp2_with (go_at_call 8; refine (grawake_any _).mono ?_; rintro e1 w1 ⟨rfl, hb⟩; have hB2 := hB.trans (hb.mono HSZ.out); have HSZ2 := Lib.hid (Nat.le_trans HSZ.out hb.size); have HG2 := Lib.hid (HG.out.up hb); have HK2 := Lib.hid (HK.out.up hb); clear hb hB HSZ HG HK; have hB := hB2; have HSZ := HSZ2; have HG := HG2; have HK := HK2; clear hB2 HSZ2 HG2 HK2)
  go_ret
  exact ⟨rfl, hB⟩
 ·have hs := hfb rfl
  have hn : g.n ≤ 1000 := by have := hs.n; omega
  have G2 := Lib.hid (H2.out hn)
  have G3 := Lib.hid (H3.out hn)
  have G6 := Lib.hid (H6.out hn)
  have G7 := Lib.hid (H7.out hn)
  have G8 := Lib.hid (H8.out hn)
  have G9 := Lib.hid (H9.out hn)
  clear H2 H3 H6 H7 H8 H9 hfb hs HFW hn
  go_wp2_with (first
   | (refine wpList_load_is rfl 29 _ rfl (.pointer (some ⟨s0, 0, none⟩)) rfl X (gb_lV HG.out HX.out) ?_) | (refine wpList_load_if rfl 29 _ rfl (.pointer (some ⟨s0, 0, none⟩)) rfl X (gb_lV HG.out HX.out) ?_) | (refine wp_load_is 29 _ rfl (.pointer (some ⟨s0, 0, none⟩)) rfl X (gb_lV HG.out HX.out) ?_)
   | (go_at_call 17; (with_reducible refine (G2.out _ HK.out.hz).mono ?_); rintro e1 w3 ⟨rfl, hb⟩; have hb0 := hb; clear hb; have hb := below_more hb0 (below_alloc_new (.cells #[.int .i64 fa.code, .int .i64 fa.kind, .int .i64 fa.basis, .int .i64 fa.par] 39)); clear hb0; have hB2 := hB.trans (hb.mono HSZ.out); have HSZ2 := Lib.hid (Nat.le_trans HSZ.out hb.size); have HG2 := Lib.hid (HG.out.up hb); have HK2 := Lib.hid (HK.out.up hb); (try (have HP2 := Lib.hid (HP.out.up hb); clear HP; have HP := HP2; clear HP2)); (try (have HR2 := Lib.hid (HR.out.up hb); clear HR; have HR := HR2; clear HR2)); clear hb hB HSZ HG HK; have hB := hB2; have HSZ := HSZ2; have HG := HG2; have HK := HK2; clear hB2 HSZ2 HG2 HK2; have HP := Lib.hid (ab_new w3 39 fa))
   | (go_at_call 18; (with_reducible refine (G3.out _ HK.out.hz).mono ?_); rintro e1 w4 ⟨rfl, hb⟩; have hb0 := hb; clear hb; have hb := below_more hb0 (below_alloc_new (.cells #[.int .i64 fa.code, .int .i64 fa.kind, .int .i64 fa.basis, .int .i64 fa.par] 39)); clear hb0; have hB2 := hB.trans (hb.mono HSZ.out); have HSZ2 := Lib.hid (Nat.le_trans HSZ.out hb.size); have HG2 := Lib.hid (HG.out.up hb); have HK2 := Lib.hid (HK.out.up hb); (try (have HP2 := Lib.hid (HP.out.up hb); clear HP; have HP := HP2; clear HP2)); (try (have HR2 := Lib.hid (HR.out.up hb); clear HR; have HR := HR2; clear HR2)); clear hb hB HSZ HG HK; have hB := hB2; have HSZ := HSZ2; have HG := HG2; have HK := HK2; clear hB2 HSZ2 HG2 HK2; have HR := Lib.hid (ab_new w4 39 fa))
   | (go_at_call 19; refine (H4.out _).mono ?_; rintro e1 w5 ⟨rfl, hb⟩; have hB2 := hB.trans (hb.mono HSZ.out); have HSZ2 := Lib.hid (Nat.le_trans HSZ.out hb.size); have HG2 := Lib.hid (HG.out.up hb); have HK2 := Lib.hid (HK.out.up hb); (try (have HP2 := Lib.hid (HP.out.up hb); clear HP; have HP := HP2; clear HP2)); (try (have HR2 := Lib.hid (HR.out.up hb); clear HR; have HR := HR2; clear HR2)); clear hb hB HSZ HG HK; have hB := hB2; have HSZ := HSZ2; have HG := HG2; have HK := HK2; clear hB2 HSZ2 HG2 HK2)
   | (go_at_call 20; refine (H5.out _).mono ?_; rintro e1 w6 ⟨rfl, hb⟩; have hB2 := hB.trans (hb.mono HSZ.out); have HSZ2 := Lib.hid (Nat.le_trans HSZ.out hb.size); have HG2 := Lib.hid (HG.out.up hb); have HK2 := Lib.hid (HK.out.up hb); (try (have HP2 := Lib.hid (HP.out.up hb); clear HP; have HP := HP2; clear HP2)); (try (have HR2 := Lib.hid (HR.out.up hb); clear HR; have HR := HR2; clear HR2)); clear hb hB HSZ HG HK; have hB := hB2; have HSZ := HSZ2; have HG := HG2; have HK := HK2; clear hB2 HSZ2 HG2 HK2))
  rename World => W8
  obtain ⟨gp, hgp⟩ : ∃ gp, w3.heap.size = gp := ⟨_, rfl⟩
  obtain ⟨gr, hgr⟩ : ∃ gr, w4.heap.size = gr := ⟨_, rfl⟩
  rw [hgp] at HP ⊢
  rw [hgr] at HR ⊢
  clear hgp hgr hs0
  refine AS.region_facts (gaFa X fa nm q1 q2 q3 q4 code s0 gp gr) (HNo W8) [[], [], [45, 46], [47], [48], [48], [49, 50, 48], [48, 51], [52], [53], [53], [54, 55, 53], [53, 56], [57], [58], [58], [59, 60, 58], [58, 61], [62], [63], [63], [64, 65, 63], [63], [63], [67, 68, 63], [66, 69, 63], [63, 70], [71], [72], [72], [73, 74, 72], [72], [72], [76, 77, 72], [75, 78, 72], [72, 79], [80]] [] [[]] [0, 0, 0, 0, 0, 0, 0, 0, 0, 0, 0, 0, 0, 0, 0, 0, 0, 0, 0, 0, 0, 0, 0, 0, 0, 0, 0, 0, 0, 0, 0, 0, 0, 0, 0, 0, 0] [] (fun u => by simp only [gaFa, AS.temps, List.map_cons, List.map_nil, fillL, List.setIfInBounds_toArray, List.set_cons_zero, List.set_cons_succ]; rfl) (by kernel_rfl) (by kernel_rfl) (HNo.st W8) (dc_drew (Below.refl _ _)) ?_ ?_
  ·refine AS.sc rfl rfl rfl ?_ ?_
   ·intro k_ u w_ hk_ hJ hF K hK
    clear hF
    obtain ⟨⟨d0, d1, d2, d3⟩, dlt, -⟩ := HP.out.up (hJ : Below W8.heap.size W8 w_)
    simp only [Nat.zero_add] at d1 d2 d3
    go_simp
    exact hK.out _ _ (Below.refl _ _) (rfl) trivial
   refine AS.sc rfl rfl rfl ?_ ?_
   ·intro k_ u w_ hk_ hJ hF K hK
    clear hF
    obtain ⟨⟨d0, d1, d2, d3⟩, dlt, -⟩ := HR.out.up (hJ : Below W8.heap.size W8 w_)
    simp only [Nat.zero_add] at d1 d2 d3
    go_simp
    exact hK.out _ _ (Below.refl _ _) (rfl) trivial
   refine AS.sc rfl rfl rfl ?_ ?_
   ·intro k_ u w_ hk_ hJ hF K hK
    have h45 : u 45 = accV fa := AS.facts_get hF 45 (by simp)
    have h46 : u 46 = accV fa := AS.facts_get hF 46 (by simp)
    clear hF
    simp only [h45, h46] at hK ⊢
    clear h45 h46
    go_simp
    exact hK.out _ _ (Below.refl _ _) (rfl) trivial
   refine AS.sc rfl rfl rfl ?_ ?_
   ·intro k_ u w_ hk_ hJ hF K hK
    have h47 : u 47 = .bool true := AS.facts_get hF 47 (by simp)
    clear hF
    simp only [h47] at hK ⊢
    clear h47
    go_simp
    exact hK.out _ _ (Below.refl _ _) (rfl) trivial
   refine AS.sc rfl rfl rfl ?_ ?_
   ·intro k_ u w_ hk_ hJ hF K hK
    have h48 : u 48 = .bool true := AS.facts_get hF 48 (by simp)
    clear hF
    simp only [h48] at hK ⊢
    clear h48
    go_simp
    exact hK.out _ _ (Below.refl _ _) (rfl) trivial
   refine AS.sc rfl rfl rfl ?_ ?_
   ·intro k_ u w_ hk_ hJ hF K hK
    have h48 : u 48 = .bool true := AS.facts_get hF 48 (by simp)
    clear hF
    simp only [h48] at hK ⊢
    clear h48
    go_simp
    exact hK.out _ _ (Below.refl _ _) (rfl) trivial
   refine AS.sc rfl rfl rfl ?_ ?_
   ·intro k_ u w_ hk_ hJ hF K hK
    have h49 : u 49 = .bool q1 := AS.facts_get hF 49 (by simp)
    have h50 : u 50 = .bool q1 := AS.facts_get hF 50 (by simp)
    have h48 : u 48 = .bool true := AS.facts_get hF 48 (by simp)
    clear hF
    simp only [h49, h50, h48] at hK ⊢
    clear h49 h50 h48
    have hq9 := HE1.out
    go_simp
    exact hK.out _ _ (Below.refl _ _) (rfl) trivial
   refine AS.sc rfl rfl rfl ?_ ?_
   ·intro k_ u w_ hk_ hJ hF K hK
    have h48 : u 48 = .bool true := AS.facts_get hF 48 (by simp)
    have h51 : u 51 = .bool true := AS.facts_get hF 51 (by simp)
    clear hF
    simp only [h48, h51] at hK ⊢
    clear h48 h51
    go_simp
    exact hK.out _ _ (Below.refl _ _) (rfl) trivial
   refine AS.sc rfl rfl rfl ?_ ?_
   ·intro k_ u w_ hk_ hJ hF K hK
    have h52 : u 52 = .bool true := AS.facts_get hF 52 (by simp)
    clear hF
    simp only [h52] at hK ⊢
    clear h52
    go_simp
    exact hK.out _ _ (Below.refl _ _) (rfl) trivial
   refine AS.sc rfl rfl rfl ?_ ?_
   ·intro k_ u w_ hk_ hJ hF K hK
    have h53 : u 53 = .bool true := AS.facts_get hF 53 (by simp)
    clear hF
    simp only [h53] at hK ⊢
    clear h53
    go_simp
    exact hK.out _ _ (Below.refl _ _) (rfl) trivial
   refine AS.sc rfl rfl rfl ?_ ?_
   ·intro k_ u w_ hk_ hJ hF K hK
    have h53 : u 53 = .bool true := AS.facts_get hF 53 (by simp)
    clear hF
    simp only [h53] at hK ⊢
    clear h53
    go_simp
    exact hK.out _ _ (Below.refl _ _) (rfl) trivial
   refine AS.sc rfl rfl rfl ?_ ?_
   ·intro k_ u w_ hk_ hJ hF K hK
    have h54 : u 54 = .string nm := AS.facts_get hF 54 (by simp)
    have h55 : u 55 = .string nm := AS.facts_get hF 55 (by simp)
    have h53 : u 53 = .bool true := AS.facts_get hF 53 (by simp)
    clear hF
    simp only [h54, h55, h53] at hK ⊢
    clear h54 h55 h53
    have hq9 := HE5.out
    go_simp
    exact hK.out _ _ (Below.refl _ _) (rfl) trivial
   refine AS.sc rfl rfl rfl ?_ ?_
   ·intro k_ u w_ hk_ hJ hF K hK
    have h53 : u 53 = .bool true := AS.facts_get hF 53 (by simp)
    have h56 : u 56 = .bool true := AS.facts_get hF 56 (by simp)
    clear hF
    simp only [h53, h56] at hK ⊢
    clear h53 h56
    go_simp
    exact hK.out _ _ (Below.refl _ _) (rfl) trivial
   refine AS.sc rfl rfl rfl ?_ ?_
   ·intro k_ u w_ hk_ hJ hF K hK
    have h57 : u 57 = .bool true := AS.facts_get hF 57 (by simp)
    clear hF
    simp only [h57] at hK ⊢
    clear h57
    go_simp
    exact hK.out _ _ (Below.refl _ _) (rfl) trivial
   refine AS.sc rfl rfl rfl ?_ ?_
   ·intro k_ u w_ hk_ hJ hF K hK
    have h58 : u 58 = .bool true := AS.facts_get hF 58 (by simp)
    clear hF
    simp only [h58] at hK ⊢
    clear h58
    go_simp
    exact hK.out _ _ (Below.refl _ _) (rfl) trivial
   refine AS.sc rfl rfl rfl ?_ ?_
   ·intro k_ u w_ hk_ hJ hF K hK
    have h58 : u 58 = .bool true := AS.facts_get hF 58 (by simp)
    clear hF
    simp only [h58] at hK ⊢
    clear h58
    go_simp
    exact hK.out _ _ (Below.refl _ _) (rfl) trivial
   refine AS.sc rfl rfl rfl ?_ ?_
   ·intro k_ u w_ hk_ hJ hF K hK
    have h59 : u 59 = .bool q2 := AS.facts_get hF 59 (by simp)
    have h60 : u 60 = .bool q2 := AS.facts_get hF 60 (by simp)
    have h58 : u 58 = .bool true := AS.facts_get hF 58 (by simp)
    clear hF
    simp only [h59, h60, h58] at hK ⊢
    clear h59 h60 h58
    have hq9 := HE2.out
    go_simp
    exact hK.out _ _ (Below.refl _ _) (rfl) trivial
   refine AS.sc rfl rfl rfl ?_ ?_
   ·intro k_ u w_ hk_ hJ hF K hK
    have h58 : u 58 = .bool true := AS.facts_get hF 58 (by simp)
    have h61 : u 61 = .bool true := AS.facts_get hF 61 (by simp)
    clear hF
    simp only [h58, h61] at hK ⊢
    clear h58 h61
    go_simp
    exact hK.out _ _ (Below.refl _ _) (rfl) trivial
   refine AS.sc rfl rfl rfl ?_ ?_
   ·intro k_ u w_ hk_ hJ hF K hK
    have h62 : u 62 = .bool true := AS.facts_get hF 62 (by simp)
    clear hF
    simp only [h62] at hK ⊢
    clear h62
    go_simp
    exact hK.out _ _ (Below.refl _ _) (rfl) trivial
   refine AS.sc rfl rfl rfl ?_ ?_
   ·intro k_ u w_ hk_ hJ hF K hK
    have h63 : u 63 = .bool true := AS.facts_get hF 63 (by simp)
    clear hF
    simp only [h63] at hK ⊢
    clear h63
    refine wp_load_is 29 _ rfl (.pointer (some ⟨s0, 0, none⟩)) rfl X (gb_lV (HG.out.up (hJ : Below W8.heap.size W8 w_)) HX.out) ?_
    exact hK.out _ _ (Below.refl _ _) (rfl) trivial
   refine AS.sc rfl rfl rfl ?_ ?_
   ·intro k_ u w_ hk_ hJ hF K hK
    have h63 : u 63 = .bool true := AS.facts_get hF 63 (by simp)
    clear hF
    simp only [h63] at hK ⊢
    clear h63
    go_simp
    exact hK.out _ _ (Below.refl _ _) (rfl) trivial
   refine AS.sc rfl rfl rfl ?_ ?_
   ·intro k_ u w_ hk_ hJ hF K hK
    have h64 : u 64 = X := AS.facts_get hF 64 (by simp)
    have h65 : u 65 = .int .i64 code := AS.facts_get hF 65 (by simp)
    have h63 : u 63 = .bool true := AS.facts_get hF 63 (by simp)
    clear hF
    simp only [h64, h65, h63] at hK ⊢
    clear h64 h65 h63
    have hz9 := (HK.out.up (hJ : Below W8.heap.size W8 w_)).hz
    go_simp
    refine (G6.out _ hz9).mono ?_
    rintro e w3 ⟨rfl, hb⟩
    exact hK.out _ _ hb (rfl) trivial
   refine AS.sc rfl rfl rfl ?_ ?_
   ·intro k_ u w_ hk_ hJ hF K hK
    have h63 : u 63 = .bool true := AS.facts_get hF 63 (by simp)
    clear hF
    simp only [h63] at hK ⊢
    clear h63
    refine wp_load_is 29 _ rfl (.pointer (some ⟨s0, 0, none⟩)) rfl X (gb_lV (HG.out.up (hJ : Below W8.heap.size W8 w_)) HX.out) ?_
    exact hK.out _ _ (Below.refl _ _) (rfl) trivial
   refine AS.sc rfl rfl rfl ?_ ?_
   ·intro k_ u w_ hk_ hJ hF K hK
    have h63 : u 63 = .bool true := AS.facts_get hF 63 (by simp)
    clear hF
    simp only [h63] at hK ⊢
    clear h63
    go_simp
    exact hK.out _ _ (Below.refl _ _) (rfl) trivial
   refine AS.sc rfl rfl rfl ?_ ?_
   ·intro k_ u w_ hk_ hJ hF K hK
    have h67 : u 67 = X := AS.facts_get hF 67 (by simp)
    have h68 : u 68 = .int .i64 code := AS.facts_get hF 68 (by simp)
    have h63 : u 63 = .bool true := AS.facts_get hF 63 (by simp)
    clear hF
    simp only [h67, h68, h63] at hK ⊢
    clear h67 h68 h63
    have hz9 := (HK.out.up (hJ : Below W8.heap.size W8 w_)).hz
    go_simp
    refine (G7.out _ hz9).mono ?_
    rintro e w3 ⟨rfl, hb⟩
    exact hK.out _ _ hb (rfl) trivial
   refine AS.sc rfl rfl rfl ?_ ?_
   ·intro k_ u w_ hk_ hJ hF K hK
    have h66 : u 66 = .bool q3 := AS.facts_get hF 66 (by simp)
    have h69 : u 69 = .bool q3 := AS.facts_get hF 69 (by simp)
    have h63 : u 63 = .bool true := AS.facts_get hF 63 (by simp)
    clear hF
    simp only [h66, h69, h63] at hK ⊢
    clear h66 h69 h63
    have hq9 := HE3.out
    go_simp
    exact hK.out _ _ (Below.refl _ _) (rfl) trivial
   refine AS.sc rfl rfl rfl ?_ ?_
   ·intro k_ u w_ hk_ hJ hF K hK
    have h63 : u 63 = .bool true := AS.facts_get hF 63 (by simp)
    have h70 : u 70 = .bool true := AS.facts_get hF 70 (by simp)
    clear hF
    simp only [h63, h70] at hK ⊢
    clear h63 h70
    go_simp
    exact hK.out _ _ (Below.refl _ _) (rfl) trivial
   refine AS.sc rfl rfl rfl ?_ ?_
   ·intro k_ u w_ hk_ hJ hF K hK
    have h71 : u 71 = .bool true := AS.facts_get hF 71 (by simp)
    clear hF
    simp only [h71] at hK ⊢
    clear h71
    go_simp
    exact hK.out _ _ (Below.refl _ _) (rfl) trivial
   refine AS.sc rfl rfl rfl ?_ ?_
   ·intro k_ u w_ hk_ hJ hF K hK
    have h72 : u 72 = .bool true := AS.facts_get hF 72 (by simp)
    clear hF
    simp only [h72] at hK ⊢
    clear h72
    refine wp_load_is 29 _ rfl (.pointer (some ⟨s0, 0, none⟩)) rfl X (gb_lV (HG.out.up (hJ : Below W8.heap.size W8 w_)) HX.out) ?_
    exact hK.out _ _ (Below.refl _ _) (rfl) trivial
   refine AS.sc rfl rfl rfl ?_ ?_
   ·intro k_ u w_ hk_ hJ hF K hK
    have h72 : u 72 = .bool true := AS.facts_get hF 72 (by simp)
    clear hF
    simp only [h72] at hK ⊢
    clear h72
    go_simp
    exact hK.out _ _ (Below.refl _ _) (rfl) trivial
   refine AS.sc rfl rfl rfl ?_ ?_
   ·intro k_ u w_ hk_ hJ hF K hK
    have h73 : u 73 = X := AS.facts_get hF 73 (by simp)
    have h74 : u 74 = .int .i64 code := AS.facts_get hF 74 (by simp)
    have h72 : u 72 = .bool true := AS.facts_get hF 72 (by simp)
    clear hF
    simp only [h73, h74, h72] at hK ⊢
    clear h73 h74 h72
    have hz9 := (HK.out.up (hJ : Below W8.heap.size W8 w_)).hz
    go_simp
    refine (G8.out _ hz9).mono ?_
    rintro e w3 ⟨rfl, hb⟩
    exact hK.out _ _ hb (rfl) trivial
   refine AS.sc rfl rfl rfl ?_ ?_
   ·intro k_ u w_ hk_ hJ hF K hK
    have h72 : u 72 = .bool true := AS.facts_get hF 72 (by simp)
    clear hF
    simp only [h72] at hK ⊢
    clear h72
    refine wp_load_is 29 _ rfl (.pointer (some ⟨s0, 0, none⟩)) rfl X (gb_lV (HG.out.up (hJ : Below W8.heap.size W8 w_)) HX.out) ?_
    exact hK.out _ _ (Below.refl _ _) (rfl) trivial
   refine AS.sc rfl rfl rfl ?_ ?_
   ·intro k_ u w_ hk_ hJ hF K hK
    have h72 : u 72 = .bool true := AS.facts_get hF 72 (by simp)
    clear hF
    simp only [h72] at hK ⊢
    clear h72
    go_simp
    exact hK.out _ _ (Below.refl _ _) (rfl) trivial
   refine AS.sc rfl rfl rfl ?_ ?_
   ·intro k_ u w_ hk_ hJ hF K hK
    have h76 : u 76 = X := AS.facts_get hF 76 (by simp)
    have h77 : u 77 = .int .i64 code := AS.facts_get hF 77 (by simp)
    have h72 : u 72 = .bool true := AS.facts_get hF 72 (by simp)
    clear hF
    simp only [h76, h77, h72] at hK ⊢
    clear h76 h77 h72
    have hz9 := (HK.out.up (hJ : Below W8.heap.size W8 w_)).hz
    go_simp
    refine (G9.out _ hz9).mono ?_
    rintro e w3 ⟨rfl, hb⟩
    exact hK.out _ _ hb (rfl) trivial
   refine AS.sc rfl rfl rfl ?_ ?_
   ·intro k_ u w_ hk_ hJ hF K hK
    have h75 : u 75 = .bool q4 := AS.facts_get hF 75 (by simp)
    have h78 : u 78 = .bool q4 := AS.facts_get hF 78 (by simp)
    have h72 : u 72 = .bool true := AS.facts_get hF 72 (by simp)
    clear hF
    simp only [h75, h78, h72] at hK ⊢
    clear h75 h78 h72
    have hq9 := HE4.out
    go_simp
    exact hK.out _ _ (Below.refl _ _) (rfl) trivial
   refine AS.sc rfl rfl rfl ?_ ?_
   ·intro k_ u w_ hk_ hJ hF K hK
    have h72 : u 72 = .bool true := AS.facts_get hF 72 (by simp)
    have h79 : u 79 = .bool true := AS.facts_get hF 79 (by simp)
    clear hF
    simp only [h72, h79] at hK ⊢
    clear h72 h79
    go_simp
    exact hK.out _ _ (Below.refl _ _) (rfl) trivial
   refine AS.sc rfl rfl rfl ?_ ?_
   ·intro k_ u w_ hk_ hJ hF K hK
    have h80 : u 80 = .bool true := AS.facts_get hF 80 (by simp)
    clear hF
    simp only [h80] at hK ⊢
    clear h80
    go_simp
    exact hK.out _ _ (Below.refl _ _) (rfl) trivial
   exact AS.StepsOk.nil
  ·intro u W9 hJ9 hF
   have h4 : u 4 = .bool true := AS.facts_get hF 4 (by simp [gaFa, AS.temps])
   have hB9 : Below W8.heap.size W8 W9 := hJ9
   clear hF hJ9
   simp only [h4]
   clear h4
   go_wp2_with fail
   go_ret
   exact ⟨rfl, hB.trans (hB9.mono HSZ.out)⟩
end Go.Proofs.Ytdfnlakimacbpaa
