/- Contracts and the law of CarryKeeps, part 1: what was proved of each, callees first. -/
import Derived.Test.YtompehjecamdiaaCY7
namespace Go.Proofs.Ytompehjecamdiaa
open Go.RowKit Go.Maps
def balT (h : Int → Bool) (l : List Bal) : Int := sumI l (fun x => if h x.acct = true then x.amt else 0)
theorem balT_take {h : Int → Bool} {l : List Bal} {k : Nat} (hk : k < l.length) : balT h (l.take (k + 1)) = balT h (l.take k) + if h (l.getD k bal0).acct = true then (l.getD k bal0).amt else 0 := by
 unfold balT
 rw [take_succ_getD (d := bal0) hk, sumI_app, sumI_cons, sumI_nil]; omega
theorem balT_bound {h : Int → Bool} : ∀ {l : List Bal}, (∀ x ∈ l, amtB x.amt = true) → -(l.length * 1000000000000 : Int) ≤ balT h l ∧ balT h l ≤ l.length * 1000000000000
 | [], _ => by simp [balT, sumI]
 | x :: l, ha => by
  have ih := balT_bound (h := h) (l := l) (fun y hy => ha y (List.mem_cons_of_mem _ hy))
  have hx := amtB_is.1 (ha x (List.mem_cons_self ..))
  unfold balT at ih ⊢
  rw [sumI_cons, List.length_cons]
  split <;> omega
theorem ca_zero {g : Grp} {L : List Acc} {G : List Ent} {X : List Lnk} {p : Int} (h : caE g L G X p = 0) : cvE g L G X p = 0 ∧ lisE (plL L g.r6 (cyB g p) X) = 0 ∧ caL g L G X p = lisL (plL L g.r6 (cyB g p) X) := by
 unfold caE at h
 unfold caL
 by_cases h2 : cvE g L G X p = 0
 ·rw [if_pos h2] at h
  rw [if_pos h2]
  exact ⟨h2, h, rfl⟩
 ·rw [if_neg h2] at h; exact absurd h h2
theorem ca_bad {g : Grp} {L : List Acc} {G : List Ent} {X : List Lnk} {p : Int} (h : caE g L G X p ≠ 0) : caL g L G X p = [] := by
 unfold caE at h
 unfold caL
 by_cases h2 : cvE g L G X p = 0
 ·rw [if_pos h2] at h
  rw [if_pos h2]
  unfold lisE at h
  unfold lisL
  split at h
  ·exact absurd rfl h
  ·rename_i h3; rw [if_neg h3]
 ·rw [if_neg h2]
theorem ca_amt {g : Grp} {L : List Acc} {G : List Ent} {X : List Lnk} {p : Int} : ∀ x ∈ caL g L G X p, amtB x.amt = true := by
 intro x hx
 unfold caL at hx
 split at hx
 ·unfold lisL at hx
  split at hx
  ·rename_i h1
   unfold pick0 at hx
   exact List.all_eq_true.1 h1 x ((List.mem_filter.1 hx).1)
  ·cases hx
 ·cases hx
theorem ca_len {g : Grp} {L : List Acc} {G : List Ent} {X : List Lnk} {p : Int} : (caL g L G X p).length ≤ X.length := by
 unfold caL
 split
 ·unfold lisL
  split
  ·exact Nat.le_trans pick0_len (by have := sumsL_len (P := plL L g.r6 (cyB g p) X); rw [plL_len] at this; exact this)
  ·exact Nat.zero_le _
 ·exact Nat.zero_le _
theorem ca_balT {g : Grp} {L : List Acc} {G : List Ent} {X : List Lnk} {p : Int} (h : caE g L G X p = 0) : balT (fun _ => true) (caL g L G X p) = totS (fun _ => true) X ∧ balT (resB L) (caL g L G X p) = totS (qRes L g.r6 (cyB g p)) X := by
 obtain ⟨-, h2, h3⟩ := ca_zero h
 rw [h3]
 exact ⟨ca_sum (h := fun _ => true) h2, ca_sum (h := resB L) h2⟩
theorem to_two {S E : Int} (h : toE 0 S = E) : (E = 0 ∧ toN 0 S = S) ∨ E = 2 := by
 unfold toN
 rw [h]
 unfold toE at h
 rw [if_pos rfl] at h
 split at h
 ·exact .inl ⟨h.symm, by rw [if_pos h.symm]⟩
 ·exact .inr h.symm
def ck3F (_s0 n c : Nat) (A : Option Addr) (p E : Int) (cl : List Bal) (GV : Value) (X : List Lnk) : List (Nat × AK.Fact (Below0)) := [(30, AK.Fact.is (GV)), (31, AK.Fact.is (.slice A n c)), (32, cyTo X), (33, AK.Fact.is (.int .i64 p)), (34, cyCa E cl), (29, cyCa E cl), (35, cySl cl), (36, AK.Fact.is (.int .i64 E)), (7, cySl cl), (8, AK.Fact.is (.int .i64 E))]
def ck4F (_s0 n c : Nat) (A : Option Addr) (p v1 v2 : Int) (GV : Value) (X : List Lnk) : List (Nat × AK.Fact (Below0)) := [(38, AK.Fact.is (GV)), (39, AK.Fact.is (.slice A n c)), (40, cyTo X), (41, AK.Fact.is (.int .i64 p)), (42, AK.Fact.is (.tuple #[.int .i64 v1, .int .i64 v2])), (37, AK.Fact.is (.tuple #[.int .i64 v1, .int .i64 v2])), (43, AK.Fact.is (.int .i64 v1)), (44, AK.Fact.is (.int .i64 v2)), (9, AK.Fact.is (.int .i64 v1)), (10, AK.Fact.is (.int .i64 v2))]
def ck17F (_s0 cb co m c7 j : Nat) (y : Bal) (GV : Value) (L : List Acc) : List (Nat × AK.Fact (Below0)) := [(83, AK.Fact.is (GV)), (84, AK.Fact.is (.slice (some ⟨cb, co, none⟩) m c7)), (85, AK.Fact.is (.int .i64 (j : Int))), (86, AK.Fact.is (.pointer (some ⟨cb, co + j * 2, none⟩))), (87, AK.Fact.is (.pointer (some ⟨cb, co + j * 2, none⟩))), (88, AK.Fact.is (.int .i64 y.acct)), (89, AK.Fact.is (.bool (resB L y.acct)))]
set_option maxRecDepth 100000 in
set_option maxHeartbeats 12800000 in
theorem law_cykeeps (g : Grp) (L : List Acc) (G : List Ent) (A : Option Addr) (n c : Nat) (X : List Lnk) (p : Int) (w : World) (hk : GrK w g L G) (hw : GrW g L G) (hmx : g.m ≤ 9223372036854775807) (hn : X.length = n) (hnm : n ≤ 9223372036854775807) (hz : LnkAt w A X) (hx : ∀ l ∈ X, WfL l) :
  Calls Try.prog 5 #[grpV g, .slice A n c, .int .i64 p] w fun e w' => e = .returned (.bool true) ∧ Below w.heap.size w w' := by
 obtain ⟨GV, hGV⟩ : ∃ GV, GV = grpV g := ⟨_, rfl⟩
 obtain ⟨gs, hgs⟩ : ∃ gs, (grpC g).toArray = gs := ⟨_, rfl⟩
 obtain ⟨s0, hs0⟩ : ∃ s0, w.heap.size = s0 := ⟨_, rfl⟩
 obtain ⟨w2, hw2⟩ : ∃ w2, w.alloc (.cells gs 29) = w2 := ⟨_, rfl⟩
 have HGB : Hid (Wh 29 w2 s0 (grpC g)) := Lib.hid (by rw [← hw2, ← hgs, ← hs0]; exact (Wh.new w 29 (grpC g)))
 have HB2 : Hid (Below w.heap.size w w2) := Lib.hid (by rw [← hw2]; exact below_alloc_new _)
 have HS0 := Lib.hid hs0
 have HLG : Hid (∀ W, Below w2.heap.size w2 W → (Instr.loadAt 29 (.pointer (some ⟨s0, 0, none⟩))).run Try.prog W = .ok GV W) := Lib.hid (fun W h => by rw [hGV, grpV_is]; exact (HGB.out.up h).rg.load 0 29 (grpC g) rfl _ Try.underlying29 rfl (by kernel_rfl))
 have HBC : Hid (Below w2.heap.size w2 w2) := Lib.hid (Below.refl _ _)
 have HBW : Hid (∀ W, Below w2.heap.size w2 W → Below w.heap.size w W) := Lib.hid (fun W h => HB2.out.trans (h.mono HB2.out.size))
 have HS2 : Hid (s0 + 1 ≤ w2.heap.size) := Lib.hid (by rw [← hw2, ← hs0]; simp)
 have HAW := Lib.hid yawake_any
 have HFW := Lib.hid (fun W (hb : Below w2.heap.size w2 W) => rfew10_is g G W ((hk.up HB2.out).up hb).he hk.lg hmx)
 have HTO := Lib.hid (fun (hl : n ≤ 60) W (hb : Below w2.heap.size w2 W) => by have h9 := yto_any A c X W ((hz.up HB2.out).up hb) (by omega); rw [hn] at h9; exact h9)
 have HPL := Lib.hid (fun (hs : Sm g G) (hl : n ≤ 60) A2 c2 W (hb : Below w2.heap.size w2 W) (hz2 : LnkAt W A2 X) => ycarry_any g L G A2 c2 X p W ((hk.up HB2.out).up hb) hs hw hz2 (by omega) (fun d hd => (hx d hd).frm))
 have HQL := Lib.hid (fun (hs : Sm g G) (hl : n ≤ 60) A2 c2 W (hb : Below w2.heap.size w2 W) (hz2 : LnkAt W A2 X) => yresult_any g L G A2 c2 X p W ((hk.up HB2.out).up hb) hs hw hz2 (by omega) (fun d hd => (hx d hd).frm))
 have HRL := Lib.hid (fun (hs : Sm g G) c W (hb : Below w2.heap.size w2 W) => rres_any g L c W ((hk.up HB2.out).up hb).hz hk.ln (by have := hs.n; omega))
 have HZ : Hid (LnkAt w2 A X) := Lib.hid (hz.up HB2.out)
 have hGS : GV = .agg gs := by rw [hGV, grpV_is, hgs]
 rw [← hGV] at HFW HPL HQL HRL ⊢
 rw [hGS]
 clear hGS hGV
 have hcl := ca_len (g := g) (L := L) (G := G) (X := X) (p := p)
 have hca := ca_amt (g := g) (L := L) (G := G) (X := X) (p := p)
 have hcb := fun h => ca_bad (g := g) (L := L) (G := G) (X := X) (p := p) h
 have hcz := fun h => (ca_zero (g := g) (L := L) (G := G) (X := X) (p := p) h).1
 have hcs := fun h => ca_balT (g := g) (L := L) (G := G) (X := X) (p := p) h
 have hams := fun h => (cvE_ok (g := g) (L := L) (G := G) (X := X) (p := p) h).2.2
 generalize caE g L G X p = E at *
 generalize caL g L G X p = cl at *
 generalize totS (qRes L g.r6 (cyB g p)) X = S at *
 generalize cvE g L G X p = E1 at *
 have hto := fun h => to_two (S := S) (E := toE E1 S) h
 have htn : E1 = 0 → toE 0 S = toE E1 S ∧ toN 0 S = toN E1 S := fun h => by rw [h]; exact ⟨rfl, rfl⟩
 generalize toN E1 S = v1 at *
 generalize toE E1 S = v2 at *
 have hsm := fun h => few_sm (g := g) (G := G) h
 obtain ⟨q, hq⟩ : ∃ q, few10 g G = q := ⟨_, rfl⟩
 rw [hq] at HFW hsm
 rw [hn] at hcl
 have HN := Lib.hid hn
 have HCL := Lib.hid hcl
 have HCA := Lib.hid hca
 have HCB := Lib.hid hcb
 have HCZ := Lib.hid hcz
 have HCS := Lib.hid hcs
 have HAMS := Lib.hid hams
 have HTT := Lib.hid hto
 have HTN := Lib.hid htn
 clear hk hw hmx hq hz hx hnm hn hcl hca hcb hcz hcs hams hto htn
 have HM1 : True := trivial
 cases q
 ·clear hsm
  go_enter Try.func5, Try.ntmps5
  go_wp2_with (first
   | (clear HM1; first | (refine wpList_load_if rfl 29 _ rfl (.pointer (some ⟨s0, 0, none⟩)) rfl GV (HLG.out _ HBC.out) ?_) | (refine wpList_load_is rfl 29 _ rfl (.pointer (some ⟨s0, 0, none⟩)) rfl GV (HLG.out _ HBC.out) ?_))
   | (go_at_call 7; refine (HAW.out _).mono ?_; rintro r w3 ⟨rfl, hb⟩; have hB3 := Lib.hid (HBC.out.trans (hb.mono HBC.out.size)); clear HBC; have HBC := hB3; clear hB3; clear hb)
   | (go_at_call 8; refine (HFW.out _ HBC.out).mono ?_; rintro r w3 ⟨rfl, hb⟩; have hB3 := Lib.hid (HBC.out.trans (hb.mono HBC.out.size)); clear HBC; have HBC := hB3; clear hB3; clear hb))
  go_ret
  exact ⟨rfl, by have h9 := HBW.out _ HBC.out; first | exact h9 | (rw [← HS0.out]; exact h9)⟩
 ·by_cases hl : n ≤ 60
  ·have hd : decide ((60 : Int) < (n : Int)) = false := decide_eq_false (by omega)
   have HP := Lib.hid (HPL.out (hsm rfl) hl)
   have HQ := Lib.hid (HQL.out (hsm rfl) hl)
   have HRS := Lib.hid (HRL.out (hsm rfl))
   have HTX := Lib.hid (HTO.out hl)
   have HL := Lib.hid hl
   clear hsm HPL HQL HRL hl HTO
   have HTO := HTX
   clear HTX
   go_enter Try.func5, Try.ntmps5
   go_upto_region 3 with (first
    | (clear HM1; first | (refine wpList_load_if rfl 29 _ rfl (.pointer (some ⟨s0, 0, none⟩)) rfl GV (HLG.out _ HBC.out) ?_) | (refine wpList_load_is rfl 29 _ rfl (.pointer (some ⟨s0, 0, none⟩)) rfl GV (HLG.out _ HBC.out) ?_))
    | (go_at_call 7; refine (HAW.out _).mono ?_; rintro r w3 ⟨rfl, hb⟩; have hB3 := Lib.hid (HBC.out.trans (hb.mono HBC.out.size)); clear HBC; have HBC := hB3; clear hB3; clear hb)
    | (go_at_call 8; refine (HFW.out _ HBC.out).mono ?_; rintro r w3 ⟨rfl, hb⟩; have hB3 := Lib.hid (HBC.out.trans (hb.mono HBC.out.size)); clear HBC; have HBC := hB3; clear hB3; clear hb))
   have HWB : Hid (∀ W, Below w3.heap.size w3 W → Below w2.heap.size w2 W) := Lib.hid (fun W h => HBC.out.trans (h.mono HBC.out.size))
   refine AK.region_facts (Rp := Below0) (Kp := Below0) (ck3F s0 n c A p E cl GV X) (fun _ _ W => Below w3.heap.size w3 W) [[], [], [31], [], [30, 32, 33], [34], [29], [29], [35], [36]] [] [[]] [0, 0, 0, 0, 0, 0, 0, 0, 0, 0] [0, 0, 0, 0, 0, 0, 0, 0, 0, 0] [] (fun u => by simp only [ck3F, AK.temps, List.map_cons, List.map_nil, fillL, List.setIfInBounds_toArray, List.set_cons_zero, List.set_cons_succ]; rfl) (by kernel_rfl) (by kernel_rfl) (fun _ _ h => h.size) (fun _ _ h => h) (fun _ _ _ _ hb h => h.trans (hb.mono h.size)) (dc_drew (Below.refl _ _)) ?_ ?_
   ·refine AK.sc (lim := 0) (lo := 0) rfl rfl rfl rfl ?_ ?_
    ·intro k_ u w_ hk_ hl_ hJ hF K hK
     clear hF
     refine wp_load_is 29 _ rfl (.pointer (some ⟨s0, 0, none⟩)) rfl GV (HLG.out _ (HWB.out _ hJ)) ?_
     exact hK.out _ _ (Below.refl _ _) rfl trivial
    refine AK.sc (lim := 0) (lo := 0) rfl rfl rfl rfl ?_ ?_
    ·intro k_ u w_ hk_ hl_ hJ hF K hK
     clear hF
     go_simp
     exact hK.out _ _ (Below.refl _ _) (rfl) trivial
    refine AK.sc (lim := 0) (lo := 0) rfl rfl rfl rfl ?_ ?_
    ·intro k_ u w_ hk_ hl_ hJ hF K hK
     have h31 : u 31 = .slice A n c := AK.facts_get hF 31 (by simp)
     clear hF
     simp only [h31] at hK ⊢
     clear h31
     go_simp
     refine (HTO.out _ (HWB.out _ hJ)).mono ?_
     rintro r_ w6_ ⟨⟨v_, rfl, ht_⟩, hb6_⟩
     exact hK.out _ _ hb6_ ht_ trivial
    refine AK.sc (lim := 0) (lo := 0) rfl rfl rfl rfl ?_ ?_
    ·intro k_ u w_ hk_ hl_ hJ hF K hK
     clear hF
     go_simp
     exact hK.out _ _ (Below.refl _ _) (rfl) trivial
    refine AK.sc (lim := 0) (lo := 0) rfl rfl rfl rfl ?_ ?_
    ·intro k_ u w_ hk_ hl_ hJ hF K hK
     have h30 : u 30 = GV := AK.facts_get hF 30 (by simp)
     have h32 : toP X (u 32) w_ := AK.facts_get hF 32 (by simp)
     have h33 : u 33 = .int .i64 p := AK.facts_get hF 33 (by simp)
     clear hF
     obtain ⟨A2_, c2_, h32, hz2_⟩ := h32
     simp only [h30, h32, h33] at hK ⊢
     clear h30 h32 h33
     go_simp
     refine (HP.out _ _ _ (HWB.out _ hJ) hz2_).mono ?_
     rintro r_ w6_ ⟨⟨v9_, rfl, hs9_⟩, hb6_⟩
     exact hK.out _ _ hb6_ ⟨_, rfl, hs9_⟩ trivial
    refine AK.sc (lim := 0) (lo := 0) rfl rfl rfl rfl ?_ ?_
    ·intro k_ u w_ hk_ hl_ hJ hF K hK
     have h34 : caP E cl (u 34) w_ := AK.facts_get hF 34 (by simp)
     clear hF
     obtain ⟨v9_, h34, hs9_⟩ := h34
     simp only [h34] at hK ⊢
     clear h34
     go_simp
     exact hK.out _ _ (Below.refl _ _) ⟨_, rfl, hs9_⟩ trivial
    refine AK.sc (lim := 0) (lo := 0) rfl rfl rfl rfl ?_ ?_
    ·intro k_ u w_ hk_ hl_ hJ hF K hK
     have h29 : caP E cl (u 29) w_ := AK.facts_get hF 29 (by simp)
     clear hF
     obtain ⟨v9_, h29, hs9_⟩ := h29
     simp only [h29] at hK ⊢
     clear h29
     go_simp
     exact hK.out _ _ (Below.refl _ _) hs9_ trivial
    refine AK.sc (lim := 0) (lo := 0) rfl rfl rfl rfl ?_ ?_
    ·intro k_ u w_ hk_ hl_ hJ hF K hK
     have h29 : caP E cl (u 29) w_ := AK.facts_get hF 29 (by simp)
     clear hF
     obtain ⟨v9_, h29, hs9_⟩ := h29
     simp only [h29] at hK ⊢
     clear h29
     go_simp
     exact hK.out _ _ (Below.refl _ _) (rfl) trivial
    refine AK.sc (lim := 0) (lo := 0) rfl rfl rfl rfl ?_ ?_
    ·intro k_ u w_ hk_ hl_ hJ hF K hK
     have h35 : SlB w_ (u 35) cl := AK.facts_get hF 35 (by simp)
     clear hF
     go_simp
     exact hK.out _ _ (Below.refl _ _) h35 trivial
    refine AK.sc (lim := 0) (lo := 0) rfl rfl rfl rfl ?_ ?_
    ·intro k_ u w_ hk_ hl_ hJ hF K hK
     have h36 : u 36 = .int .i64 E := AK.facts_get hF 36 (by simp)
     clear hF
     simp only [h36] at hK ⊢
     clear h36
     go_simp
     exact hK.out _ _ (Below.refl _ _) (rfl) trivial
    exact AK.StepsOk.nil
   ·intro u W9 hJ9 hF
    have h7 : SlB W9 (u 7) cl := AK.facts_get hF 7 (by simp [ck3F, AK.temps])
    have h8 : u 8 = .int .i64 E := AK.facts_get hF 8 (by simp [ck3F, AK.temps])
    clear hF
    obtain ⟨A7, c7, h7, hz7⟩ := h7
    have HZ7 := Lib.hid hz7
    clear hz7
    have HB9 : Hid (Below w2.heap.size w2 W9) := Lib.hid (HWB.out _ hJ9)
    clear hJ9 HBC
    have HBC := HB9
    clear HB9 HWB
    simp only [h7, h8]
    clear h7 h8
    go_upto_region 4 with fail
    have HWB : Hid (∀ W, Below W9.heap.size W9 W → Below w2.heap.size w2 W) := Lib.hid (fun W h => HBC.out.trans (h.mono HBC.out.size))
    refine AK.region_facts (Rp := Below0) (Kp := Below0) (ck4F s0 n c A p v1 v2 GV X) (fun _ _ W => Below W9.heap.size W9 W) [[], [], [39], [], [38, 40, 41], [42], [37], [37], [43], [44]] [] [[]] [0, 0, 0, 0, 0, 0, 0, 0, 0, 0] [0, 0, 0, 0, 0, 0, 0, 0, 0, 0] [] (fun u => by simp only [ck4F, AK.temps, List.map_cons, List.map_nil, fillL, List.setIfInBounds_toArray, List.set_cons_zero, List.set_cons_succ]; rfl) (by kernel_rfl) (by kernel_rfl) (fun _ _ h => h.size) (fun _ _ h => h) (fun _ _ _ _ hb h => h.trans (hb.mono h.size)) (dc_drew (Below.refl _ _)) ?_ ?_
    ·refine AK.sc (lim := 0) (lo := 0) rfl rfl rfl rfl ?_ ?_
     ·intro k_ u w_ hk_ hl_ hJ hF K hK
      clear hF
      refine wp_load_is 29 _ rfl (.pointer (some ⟨s0, 0, none⟩)) rfl GV (HLG.out _ (HWB.out _ hJ)) ?_
      exact hK.out _ _ (Below.refl _ _) rfl trivial
     refine AK.sc (lim := 0) (lo := 0) rfl rfl rfl rfl ?_ ?_
     ·intro k_ u w_ hk_ hl_ hJ hF K hK
      clear hF
      go_simp
      exact hK.out _ _ (Below.refl _ _) (rfl) trivial
     refine AK.sc (lim := 0) (lo := 0) rfl rfl rfl rfl ?_ ?_
     ·intro k_ u w_ hk_ hl_ hJ hF K hK
      have h39 : u 39 = .slice A n c := AK.facts_get hF 39 (by simp)
      clear hF
      simp only [h39] at hK ⊢
      clear h39
      go_simp
      refine (HTO.out _ (HWB.out _ hJ)).mono ?_
      rintro r_ w6_ ⟨⟨v_, rfl, ht_⟩, hb6_⟩
      exact hK.out _ _ hb6_ ht_ trivial
     refine AK.sc (lim := 0) (lo := 0) rfl rfl rfl rfl ?_ ?_
     ·intro k_ u w_ hk_ hl_ hJ hF K hK
      clear hF
      go_simp
      exact hK.out _ _ (Below.refl _ _) (rfl) trivial
     refine AK.sc (lim := 0) (lo := 0) rfl rfl rfl rfl ?_ ?_
     ·intro k_ u w_ hk_ hl_ hJ hF K hK
      have h38 : u 38 = GV := AK.facts_get hF 38 (by simp)
      have h40 : toP X (u 40) w_ := AK.facts_get hF 40 (by simp)
      have h41 : u 41 = .int .i64 p := AK.facts_get hF 41 (by simp)
      clear hF
      obtain ⟨A2_, c2_, h40, hz2_⟩ := h40
      simp only [h38, h40, h41] at hK ⊢
      clear h38 h40 h41
      go_simp
      refine (HQ.out _ _ _ (HWB.out _ hJ) hz2_).mono ?_
      rintro r_ w6_ ⟨rfl, hb6_⟩
      exact hK.out _ _ hb6_ rfl trivial
     refine AK.sc (lim := 0) (lo := 0) rfl rfl rfl rfl ?_ ?_
     ·intro k_ u w_ hk_ hl_ hJ hF K hK
      have h42 : u 42 = .tuple #[.int .i64 v1, .int .i64 v2] := AK.facts_get hF 42 (by simp)
      clear hF
      simp only [h42] at hK ⊢
      clear h42
      go_simp
      exact hK.out _ _ (Below.refl _ _) (rfl) trivial
     refine AK.sc (lim := 0) (lo := 0) rfl rfl rfl rfl ?_ ?_
     ·intro k_ u w_ hk_ hl_ hJ hF K hK
      have h37 : u 37 = .tuple #[.int .i64 v1, .int .i64 v2] := AK.facts_get hF 37 (by simp)
      clear hF
      simp only [h37] at hK ⊢
      clear h37
      go_simp
      exact hK.out _ _ (Below.refl _ _) (rfl) trivial
     refine AK.sc (lim := 0) (lo := 0) rfl rfl rfl rfl ?_ ?_
     ·intro k_ u w_ hk_ hl_ hJ hF K hK
      have h37 : u 37 = .tuple #[.int .i64 v1, .int .i64 v2] := AK.facts_get hF 37 (by simp)
      clear hF
      simp only [h37] at hK ⊢
      clear h37
      go_simp
      exact hK.out _ _ (Below.refl _ _) (rfl) trivial
     refine AK.sc (lim := 0) (lo := 0) rfl rfl rfl rfl ?_ ?_
     ·intro k_ u w_ hk_ hl_ hJ hF K hK
      have h43 : u 43 = .int .i64 v1 := AK.facts_get hF 43 (by simp)
      clear hF
      simp only [h43] at hK ⊢
      clear h43
      go_simp
      exact hK.out _ _ (Below.refl _ _) (rfl) trivial
     refine AK.sc (lim := 0) (lo := 0) rfl rfl rfl rfl ?_ ?_
     ·intro k_ u w_ hk_ hl_ hJ hF K hK
      have h44 : u 44 = .int .i64 v2 := AK.facts_get hF 44 (by simp)
      clear hF
      simp only [h44] at hK ⊢
      clear h44
      go_simp
      exact hK.out _ _ (Below.refl _ _) (rfl) trivial
     exact AK.StepsOk.nil
    ·intro u W8 hJ8 hF
     have h9 : u 9 = .int .i64 v1 := AK.facts_get hF 9 (by simp [ck4F, AK.temps])
     have h10 : u 10 = .int .i64 v2 := AK.facts_get hF 10 (by simp [ck4F, AK.temps])
     clear hF
     have HZ8 := Lib.hid (HZ7.out.up hJ8)
     have HB9 : Hid (Below w2.heap.size w2 W8) := Lib.hid (HWB.out _ hJ8)
     clear hJ8 HBC HZ7
     have HBC := HB9
     clear HB9 HWB
     simp only [h9, h10]
     clear h9 h10
     obtain ⟨m, hm⟩ : ∃ m, cl.length = m := ⟨_, rfl⟩
     have HMC := Lib.hid hm
     rw [hm] at HCL ⊢
     clear hm
     by_cases hE : E = 0
     ·have HE1 := Lib.hid (HCZ.out hE)
      have HTN2 := Lib.hid (HTN.out HE1.out)
      have HT2 := Lib.hid (HTT.out (HTN2.out.1))
      have HS2 := Lib.hid (HCS.out hE)
      have HAM := Lib.hid (HAMS.out HE1.out)
      have e0 : (E != 0) = false := by simp [hE]
      clear hE
      by_cases hv : v2 = 0
      ·have HV1 : Hid (v1 = S) := Lib.hid (by
        rcases HT2.out with ⟨-, h2⟩ | h2
        ·rw [← HTN2.out.2]; exact h2
        ·omega)
       have e1 : (v2 != 0) = false := by simp [hv]
       clear hv
       have HTK := Lib.hid (fun k hk => totS_take (q := fun _ => true) (X := X) (k := k) hk)
       have HTE : Hid (totS (fun _ => true) (X.take n) = totS (fun _ => true) X) := Lib.hid (by rw [List.take_of_length_le (by rw [HN.out]; omega)])
       have HTB : Hid (∀ k, -1000000000000000 ≤ totS (fun _ => true) (X.take k) ∧ totS (fun _ => true) (X.take k) ≤ 1000000000000000) := Lib.hid (fun k => by
        have h1 : amsB (X.take k) = true := List.all_eq_true.2 (fun d hd => List.all_eq_true.1 HAM.out d (List.mem_of_mem_take hd))
        have h2 := totS_bound (q := fun _ => true) h1
        have h3 : (X.take k).length ≤ 60 := by rw [List.length_take, HN.out]; have := HL.out; omega
        omega)
       have HT0 : Hid (totS (fun _ => true) (X.take 0) = 0) := Lib.hid rfl
       generalize hTT : totS (fun _ => true) = T at *
       have HBT := Lib.hid (fun (h : Int → Bool) k hk => balT_take (h := h) (l := cl) (k := k) hk)
       have HBB : Hid (∀ (h : Int → Bool) k, -1000000000000000 ≤ balT h (cl.take k) ∧ balT h (cl.take k) ≤ 1000000000000000) := Lib.hid (fun h k => by
        have h2 := balT_bound (h := h) (l := cl.take k) (fun x hx => HCA.out x (List.mem_of_mem_take hx))
        have h3 : (cl.take k).length ≤ 60 := by rw [List.length_take, HMC.out]; have := HL.out; have := HCL.out; omega
        omega)
       have HBE : Hid (∀ h : Int → Bool, balT h (cl.take m) = balT h cl) := Lib.hid (fun h => by rw [List.take_of_length_le (by rw [HMC.out]; omega)])
       have HBZ : Hid (∀ h : Int → Bool, balT h (cl.take 0) = 0) := Lib.hid (fun h => rfl)
       generalize balT = U at *
       clear hTT HCA HCB HCZ HCS HAMS HTT HTN HTN2 HT2 HAM HE1
       have hn6 : n ≤ 60 := HL.out
       have hm6 : m ≤ 60 := Nat.le_trans HCL.out HL.out
       go_wp2_with fail
       go_loopg [11, 60] n (fun kx s11 s60 wr => ∃ (k : Nat) (S0 : Int), s60 = .int .i64 k ∧ s11 = .int .i64 S0 ∧ k ≤ n ∧ n - k ≤ kx ∧ Hid (T (X.take k) = S0) ∧ Hid (BalAt wr A7 cl) ∧ Hid (Below w2.heap.size w2 wr))
       case atStart => exact ⟨0, 0, rfl, rfl, by omega, by omega, HT0, HZ8, HBC⟩
       case round =>
        clear HBC HT0 HZ8
        obtain ⟨k, S0, rfl, rfl, hk, hkx, HS, HZ8, HBC⟩ := hrel
        by_cases hlt : k < n
        ·have hltz : (k : Int) < (n : Int) := by omega
         obtain ⟨bb, off, hA, hbw, hcs⟩ := HZ.out (by rw [HN.out]; omega)
         have HA3 := Lib.hid (hcs k (by rw [HN.out]; exact hlt))
         have htk := HTK.out k (by rw [HN.out]; exact hlt)
         rw [HS.out] at htk
         have hb0 := HTB.out (k + 1)
         rw [htk] at hb0
         simp only [if_true] at htk hb0
         obtain ⟨x, hx⟩ : ∃ x, X.getD k lnk0 = x := ⟨_, rfl⟩
         rw [hx] at HA3 htk hb0
         obtain ⟨r0, r1, r2⟩ := HA3.out.up HBC.out hbw
         obtain ⟨S1, hS1⟩ : ∃ S1, S0 + x.since = S1 := ⟨_, rfl⟩
         rw [hS1] at htk hb0
         have HT2 : Hid (T (X.take (k + 1)) = S1) := Lib.hid htk
         have hw1 : IntKind.i64.wrap (S0 + x.since) = S1 := by rw [hS1, IntKind.wrap_i64]; omega
         have hw2' : wrap64 (S0 + x.since) = S1 := by rw [hS1]; unfold wrap64; omega
         subst hA
         clear htk hb0 hS1 hcs hx hbw r0 r1
         go_wp2_with fail
         go_roundg (n - (k + 1))
         case measure => omega
         case rel => exact ⟨k + 1, S1, by go_num, by first | rfl | simp [hw1] | simp [hw2'], by omega, by omega, HT2, HZ8, HBC⟩
        ·obtain rfl : k = n := by omega
         have hltz : ¬ (k : Int) < (k : Int) := by omega
         have hSE := HS.out
         rw [HTE.out] at hSE
         have HSE := Lib.hid hSE
         have HB0 := Lib.hid (HBZ.out (fun _ => true))
         have HB1 := Lib.hid (HBZ.out (resB L))
         clear hSE HTK HTB HS
         go_wp2_with fail
         go_loopg [12, 13, 73] m (fun kx s12 s13 s73 wr => ∃ (j : Nat) (P0 Q0 : Int), s73 = .int .i64 j ∧ s12 = .int .i64 P0 ∧ s13 = .int .i64 Q0 ∧ j ≤ m ∧ m - j ≤ kx ∧ Hid (U (fun _ => true) (cl.take j) = P0) ∧ Hid (U (resB L) (cl.take j) = Q0) ∧ Hid (BalAt wr A7 cl) ∧ Hid (Below w2.heap.size w2 wr))
         case atStart => exact ⟨0, 0, 0, rfl, rfl, rfl, by omega, by omega, HB0, HB1, HZ8, HBC⟩
         case round =>
          clear HBC HB0 HB1 HZ8
          rename World => wr
          obtain ⟨j, P0, Q0, rfl, rfl, rfl, hj, hjx, HU, HW, HZ8, HBC⟩ := hrel
          by_cases hlt : j < m
          ·have hltz : (j : Int) < (m : Int) := by omega
           obtain ⟨cb, co, rfl, hcw, hcs⟩ := HZ8.out (by rw [HMC.out]; omega)
           have HA2 := Lib.hid (hcs j (by rw [HMC.out]; exact hlt))
           have HCW := Lib.hid hcw
           have ht1 := HBT.out (fun _ => true) j (by rw [HMC.out]; exact hlt)
           have ht2 := HBT.out (resB L) j (by rw [HMC.out]; exact hlt)
           rw [HU.out] at ht1
           rw [HW.out] at ht2
           have hb1 := HBB.out (fun _ => true) (j + 1)
           have hb2 := HBB.out (resB L) (j + 1)
           rw [ht1] at hb1
           rw [ht2] at hb2
           simp only [if_true] at ht1 hb1
           obtain ⟨y, hy⟩ : ∃ y, cl.getD j bal0 = y := ⟨_, rfl⟩
           rw [hy] at HA2 ht1 ht2 hb1 hb2
           obtain ⟨r0, r1⟩ := HA2.out
           obtain ⟨P1, hP1⟩ : ∃ P1, P0 + y.amt = P1 := ⟨_, rfl⟩
           rw [hP1] at ht1 hb1
           have HU2 : Hid (U (fun _ => true) (cl.take (j + 1)) = P1) := Lib.hid ht1
           have hw1 : IntKind.i64.wrap (P0 + y.amt) = P1 := by rw [hP1, IntKind.wrap_i64]; omega
           have hw2' : wrap64 (P0 + y.amt) = P1 := by rw [hP1]; unfold wrap64; omega
           clear ht1 hb1 hP1 hcs hy hcw
           go_upto_region 17 with fail
           clear r0 r1 hw1 hw2'
           generalize hw4 : wr = w4 at *
           have HWB : Hid (∀ W, Below w4.heap.size w4 W → Below w2.heap.size w2 W) := Lib.hid (fun W h => HBC.out.trans (h.mono HBC.out.size))
           have HY0 : Hid (∀ W, Below w4.heap.size w4 W → W.cell? ⟨cb, co + j * 2, none⟩ = some (.int .i64 y.acct)) := Lib.hid (fun W h => (h.cell (p := ⟨cb, co + j * 2, none⟩) HCW.out).trans HA2.out.1)
           have HY1 : Hid (∀ W, Below w4.heap.size w4 W → W.cell? ⟨cb, co + j * 2 + 1, none⟩ = some (.int .i64 y.amt)) := Lib.hid (fun W h => (h.cell (p := ⟨cb, co + j * 2 + 1, none⟩) HCW.out).trans HA2.out.2)
           clear hw4
           refine AK.region_facts (Rp := Below0) (Kp := Below0) (ck17F s0 cb co m c7 j y GV L) (fun _ _ W => Below w4.heap.size w4 W) [[], [], [], [84, 85], [86], [87], [83, 88]] [] [[]] [0, 0, 0, 0, 0, 0, 0] [0, 0, 0, 0, 0, 0, 0] [] (fun u => by simp only [ck17F, AK.temps, List.map_cons, List.map_nil, fillL, List.setIfInBounds_toArray, List.set_cons_zero, List.set_cons_succ]; rfl) (by kernel_rfl) (by kernel_rfl) (fun _ _ h => h.size) (fun _ _ h => h) (fun _ _ _ _ hb h => h.trans (hb.mono h.size)) (dc_drew (Below.refl _ _)) ?_ ?_
           ·refine AK.sc (lim := 0) (lo := 0) rfl rfl rfl rfl ?_ ?_
            ·intro k_ u w_ hk_ hl_ hJ hF K hK
             clear hF
             refine wp_load_is 29 _ rfl (.pointer (some ⟨s0, 0, none⟩)) rfl GV (HLG.out _ (HWB.out _ hJ)) ?_
             exact hK.out _ _ (Below.refl _ _) rfl trivial
            refine AK.sc (lim := 0) (lo := 0) rfl rfl rfl rfl ?_ ?_
            ·intro k_ u w_ hk_ hl_ hJ hF K hK
             clear hF
             go_simp
             exact hK.out _ _ (Below.refl _ _) (rfl) trivial
            refine AK.sc (lim := 0) (lo := 0) rfl rfl rfl rfl ?_ ?_
            ·intro k_ u w_ hk_ hl_ hJ hF K hK
             clear hF
             go_simp
             exact hK.out _ _ (Below.refl _ _) (rfl) trivial
            refine AK.sc (lim := 0) (lo := 0) rfl rfl rfl rfl ?_ ?_
            ·intro k_ u w_ hk_ hl_ hJ hF K hK
             have h84 : u 84 = .slice (some ⟨cb, co, none⟩) m c7 := AK.facts_get hF 84 (by simp)
             have h85 : u 85 = .int .i64 (j : Int) := AK.facts_get hF 85 (by simp)
             clear hF
             simp only [h84, h85] at hK ⊢
             clear h84 h85
             go_simp
             exact hK.out _ _ (Below.refl _ _) (rfl) trivial
            refine AK.sc (lim := 0) (lo := 0) rfl rfl rfl rfl ?_ ?_
            ·intro k_ u w_ hk_ hl_ hJ hF K hK
             have h86 : u 86 = .pointer (some ⟨cb, co + j * 2, none⟩) := AK.facts_get hF 86 (by simp)
             clear hF
             simp only [h86] at hK ⊢
             clear h86
             go_simp
             exact hK.out _ _ (Below.refl _ _) (rfl) trivial
            refine AK.sc (lim := 0) (lo := 0) rfl rfl rfl rfl ?_ ?_
            ·intro k_ u w_ hk_ hl_ hJ hF K hK
             have h87 : u 87 = .pointer (some ⟨cb, co + j * 2, none⟩) := AK.facts_get hF 87 (by simp)
             clear hF
             simp only [h87] at hK ⊢
             clear h87
             have c_ := HY0.out _ hJ
             go_simp
             exact hK.out _ _ (Below.refl _ _) (rfl) trivial
            refine AK.sc (lim := 0) (lo := 0) rfl rfl rfl rfl ?_ ?_
            ·intro k_ u w_ hk_ hl_ hJ hF K hK
             have h83 : u 83 = GV := AK.facts_get hF 83 (by simp)
             have h88 : u 88 = .int .i64 y.acct := AK.facts_get hF 88 (by simp)
             clear hF
             simp only [h83, h88] at hK ⊢
             clear h83 h88
             go_simp
             refine (HRS.out y.acct _ (HWB.out _ hJ)).mono ?_
             rintro r_ w6_ ⟨rfl, hb6_⟩
             exact hK.out _ _ hb6_ rfl trivial
            exact AK.StepsOk.nil
           ·intro u W6 hJ6 hF
            have h89 : u 89 = .bool (resB L y.acct) := AK.facts_get hF 89 (by simp [ck17F, AK.temps])
            clear hF
            have HB9 : Hid (Below w2.heap.size w2 W6) := Lib.hid (HWB.out _ hJ6)
            have y2 := HY1.out _ hJ6
            have HZ6 := Lib.hid (HZ8.out.up hJ6)
            clear hJ6 HBC HWB HZ8
            have HBC := HB9
            clear HB9
            obtain ⟨qx, hqx⟩ : ∃ qx, resB L y.acct = qx := ⟨_, rfl⟩
            rw [hqx] at ht2 hb2 h89
            simp only [h89]
            clear h89 hqx
            cases qx
            ·have HW2 : Hid (U (resB L) (cl.take (j + 1)) = Q0) := Lib.hid (by rw [ht2]; simp)
             clear ht2 hb2 y2
             go_wp2_with fail
             go_roundg (m - (j + 1))
             case measure => omega
             case rel => exact ⟨j + 1, P1, Q0, by go_num, rfl, rfl, by omega, by omega, HU2, HW2, HZ6, HBC⟩
            ·simp only [if_true] at ht2 hb2
             obtain ⟨Q1, hQ1⟩ : ∃ Q1, Q0 + y.amt = Q1 := ⟨_, rfl⟩
             rw [hQ1] at ht2 hb2
             have HW2 : Hid (U (resB L) (cl.take (j + 1)) = Q1) := Lib.hid ht2
             have hw1 : IntKind.i64.wrap (Q0 + y.amt) = Q1 := by rw [hQ1, IntKind.wrap_i64]; omega
             have hw2' : wrap64 (Q0 + y.amt) = Q1 := by rw [hQ1]; unfold wrap64; omega
             clear ht2 hb2 hQ1
             go_wp2_with fail
             go_roundg (m - (j + 1))
             case measure => omega
             case rel => exact ⟨j + 1, P1, Q1, by go_num, by first | rfl | simp [hw1] | simp [hw2'], by first | rfl | simp [hw1] | simp [hw2'], by omega, by omega, HU2, HW2, HZ6, HBC⟩
          ·obtain rfl : j = m := by omega
           have hltz : ¬ (j : Int) < (j : Int) := by omega
           have HPS : Hid (S0 = P0) := Lib.hid (by rw [← HSE.out, ← HU.out, HBE.out, HS2.out.1])
           have HQS : Hid (Q0 = v1) := Lib.hid (by rw [← HW.out, HBE.out, HS2.out.2, HV1.out])
           have z1 : (S0 == P0) = true := by simp [HPS.out]
           have z2 : (Q0 == v1) = true := by simp [HQS.out]
           go_wp2_with fail
           go_ret
           exact ⟨by first | rfl | simp, by have h9 := HBW.out _ HBC.out; first | exact h9 | (rw [← HS0.out]; exact h9)⟩
      ·have HV2 : Hid (v2 = 2) := Lib.hid (by
        rcases HT2.out with ⟨h2, -⟩ | h2
        ·exact absurd h2 hv
        ·exact h2)
       have e1 : (v2 != 0) = true := by simp [hv]
       have e2 : (v2 == 2) = true := by simp [HV2.out]
       clear hv
       by_cases hm0 : m = 0
       ·have e3 : ((m : Int) == 0) = true := by simp [hm0]
        clear hm0
        go_wp2_with fail
        go_ret
        exact ⟨by first | rfl | simp, by have h9 := HBW.out _ HBC.out; first | exact h9 | (rw [← HS0.out]; exact h9)⟩
       ·have e3 : ((m : Int) == 0) = false := by simp [hm0]
        clear hm0
        go_wp2_with fail
        go_ret
        exact ⟨by first | rfl | simp, by have h9 := HBW.out _ HBC.out; first | exact h9 | (rw [← HS0.out]; exact h9)⟩
     ·have HM0 : Hid (m = 0) := Lib.hid (by have h9 := HMC.out; rw [HCB.out hE] at h9; simp at h9; exact h9.symm)
      have e0 : (E != 0) = true := by simp [hE]
      have e3 : ((m : Int) == 0) = true := by simp [HM0.out]
      clear hE
      go_wp2_with fail
      go_ret
      exact ⟨by first | rfl | simp, by have h9 := HBW.out _ HBC.out; first | exact h9 | (rw [← HS0.out]; exact h9)⟩
  ·have hd : decide ((60 : Int) < (n : Int)) = true := decide_eq_true (by omega)
   clear hsm HPL HQL HRL hl HTO
   go_enter Try.func5, Try.ntmps5
   go_wp2_with (first
    | (clear HM1; first | (refine wpList_load_if rfl 29 _ rfl (.pointer (some ⟨s0, 0, none⟩)) rfl GV (HLG.out _ HBC.out) ?_) | (refine wpList_load_is rfl 29 _ rfl (.pointer (some ⟨s0, 0, none⟩)) rfl GV (HLG.out _ HBC.out) ?_))
    | (go_at_call 7; refine (HAW.out _).mono ?_; rintro r w3 ⟨rfl, hb⟩; have hB3 := Lib.hid (HBC.out.trans (hb.mono HBC.out.size)); clear HBC; have HBC := hB3; clear hB3; clear hb)
    | (go_at_call 8; refine (HFW.out _ HBC.out).mono ?_; rintro r w3 ⟨rfl, hb⟩; have hB3 := Lib.hid (HBC.out.trans (hb.mono HBC.out.size)); clear HBC; have HBC := hB3; clear hB3; clear hb))
   go_ret
   exact ⟨rfl, by have h9 := HBW.out _ HBC.out; first | exact h9 | (rw [← HS0.out]; exact h9)⟩
end Go.Proofs.Ytompehjecamdiaa
