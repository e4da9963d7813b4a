/- Contracts and the law of CarryYears, part 1: what was proved of each, callees first. -/
import Derived.Test.YtompehjecamdiaaGreatCZ7
namespace Go.Proofs.YtompehjecamdiaaGreat
theorem cv_cvN {g : Grp} {L : List Acc} {G : List Ent} {X : List Lnk} {p : Int} (h : cyE g L G p = 0) : cvE g L G X p = cvN L X := by unfold cvE; rw [if_pos h]
theorem caz_zero {g : Grp} {L : List Acc} {G : List Ent} {X : List Lnk} {p : Int} (h : caE g L G X p = 0) : cvE g L G X p = 0 := by
 unfold caE at h
 by_cases h2 : cvE g L G X p = 0
 ·exact h2
 ·rw [if_neg h2] at h; exact absurd h h2
theorem ca_year {g : Grp} {L : List Acc} {G : List Ent} {X : List Lnk} {i k : Int} (hi : cyE g L G i = 0) (hk : cyE g L G k = 0) (h : i - i % 12 = k - k % 12) : caE g L G X k = caE g L G X i ∧ caL g L G X k = caL g L G X i := by
 have hb : cyB g k = cyB g i := by
  unfold cyB
  exact (pdB_year (cyE_ok hi).2 (cyE_ok hk).2 h).symm
 unfold caE caL
 rw [cv_cvN hk, cv_cvN hi, hb]
 exact ⟨rfl, rfl⟩
theorem yr_same {g : Grp} {L : List Acc} {G : List Ent} {X : List Lnk} {y0 y1 i r r1 k : Int} (hg : grpP g L G = true) (h0 : 0 ≤ y0) (h1 : 0 ≤ y1) (hi : y0.tmod g.cp = i) (hr : i.tmod 12 = r) (hr1 : y1.tmod 12 = r1) (hk : min (g.cp - 1) (i - r + r1) = k) :
  (0 ≤ i ∧ i < g.cp) ∧ (0 ≤ r ∧ r < 12 ∧ r ≤ i) ∧ (0 ≤ r1 ∧ r1 < 12) ∧ caE g L G X k = caE g L G X i ∧ caL g L G X k = caL g L G X i := by
 have hc := (cl_k (grp_parts hg).1).1
 have a0 : 0 ≤ i := by rw [← hi]; exact Int.tmod_nonneg _ h0
 have a1 : i < g.cp := by rw [← hi]; exact Int.tmod_lt_of_pos _ (by omega)
 rw [Int.tmod_eq_emod_of_nonneg a0] at hr
 rw [Int.tmod_eq_emod_of_nonneg h1] at hr1
 refine ⟨⟨a0, a1⟩, ⟨by omega, by omega, by omega⟩, ⟨by omega, by omega⟩, ?_⟩
 exact ca_year (cyE_in hg ⟨a0, a1⟩) (cyE_in hg ⟨by omega, by omega⟩) (by omega)
theorem yr_next {g : Grp} {L : List Acc} {G : List Ent} {X : List Lnk} {i r nx : Int} (hg : grpP g L G = true) (hi : 0 ≤ i ∧ i < g.cp) (hr : i.tmod 12 = r) (hn : i - r + 12 = nx) (hc : clE g.cy g.cm g.cp nx = 0) (hE : caE g L G X i = 0) (hX : ∀ d ∈ X, d.tgt < pdF g.cy g.cm g.cp nx) :
  cvE g L G X i = 0 ∧ cvE g L G X nx = 0 ∧ totS (qRet L g.r6 (cyB g nx)) X = totS (qRet L g.r6 (cyB g i)) X + totS (qRes L g.r6 (cyB g i)) X ∧ totS (qRes L g.r6 (cyB g nx)) X = 0 := by
 have h1 := caz_zero hE
 have hci := cyE_in hg hi
 have hcn : cyE g L G nx = 0 := by unfold cyE; rw [if_pos hg]; exact hc
 rw [Int.tmod_eq_emod_of_nonneg hi.1] at hr
 have hb : pdF g.cy g.cm g.cp nx = cyB g nx := pdF_year hc (by omega)
 rw [hb] at hX
 exact ⟨h1, by rw [cv_cvN hcn, ← cv_cvN hci]; exact h1, tot_next (grp_r6 hg).2 hX⟩
theorem yr_sum {SR SS ZR : Int} (h : ZR = SR + SS) (h1 : toE 0 SR = 0) (h2 : toE 0 SS = 0) (h3 : toE 0 ZR = 0) : (-1000000000000 ≤ toN 0 SR ∧ toN 0 SR ≤ 1000000000000) ∧ (-1000000000000 ≤ toN 0 SS ∧ toN 0 SS ≤ 1000000000000) ∧ toN 0 ZR = toN 0 SR + toN 0 SS := by
 have key : ∀ S, toE 0 S = 0 → toN 0 S = S ∧ -1000000000000 ≤ S ∧ S ≤ 1000000000000 := fun S hS => by
  have h4 : toN 0 S = S := by unfold toN; rw [if_pos hS]
  refine ⟨h4, ?_⟩
  unfold toE at hS
  rw [if_pos rfl] at hS
  split at hS
  ·rename_i h5; exact amtB_is.1 h5
  ·cases hS
 obtain ⟨a1, a2⟩ := key _ h1
 obtain ⟨b1, b2⟩ := key _ h2
 obtain ⟨c1, c2⟩ := key _ h3
 rw [a1, b1, c1]
 exact ⟨a2, b2, h⟩
theorem yr_nil : toE 0 0 = 0 ∧ toN 0 0 = 0 := ⟨rfl, rfl⟩
open Go.RowKit Go.Maps
theorem cayL_len {g : Grp} {L : List Acc} {G : List Ent} {X : List Lnk} {p : Int} : (caL g L G X p).length ≤ X.length := by
 unfold caL
 split
 ·unfold lisL
  split
  ·exact Nat.le_trans pick0_len (by have := sumsL_len (P := plL L g.r6 (cyB g p) X); rw [plL_len] at this; exact this)
  ·exact Nat.zero_le _
 ·exact Nat.zero_le _
def cy6F (_s0 n c : Nat) (A : Option Addr) (i E : Int) (cl : List Bal) (GV : Value) (X : List Lnk) : List (Nat × AK.Fact (Below0)) := [(65, AK.Fact.is (GV)), (66, AK.Fact.is (.slice A n c)), (67, cyTo X), (68, AK.Fact.is (.int .i64 i)), (69, cyCa E cl), (64, cyCa E cl), (70, cySl cl), (71, AK.Fact.is (.int .i64 E)), (10, cySl cl), (11, AK.Fact.is (.int .i64 E))]
def cy7F (_s0 n c : Nat) (A : Option Addr) (k E : Int) (cl : List Bal) (GV : Value) (X : List Lnk) : List (Nat × AK.Fact (Below0)) := [(73, AK.Fact.is (GV)), (74, AK.Fact.is (.slice A n c)), (75, cyTo X), (76, AK.Fact.is (.int .i64 k)), (77, cyCa E cl), (72, cyCa E cl), (78, cySl cl), (79, AK.Fact.is (.int .i64 E)), (12, cySl cl), (13, AK.Fact.is (.int .i64 E))]
def cy20F (_s0 n c : Nat) (A : Option Addr) (i x1 s1 : Int) (GV : Value) (X : List Lnk) : List (Nat × AK.Fact (Below0)) := [(121, AK.Fact.is (GV)), (122, AK.Fact.is (.slice A n c)), (123, cyTo X), (124, AK.Fact.is (.int .i64 i)), (125, AK.Fact.is (.tuple #[.int .i64 x1, .int .i64 s1])), (120, AK.Fact.is (.tuple #[.int .i64 x1, .int .i64 s1])), (126, AK.Fact.is (.int .i64 x1)), (127, AK.Fact.is (.int .i64 s1)), (18, AK.Fact.is (.int .i64 x1)), (19, AK.Fact.is (.int .i64 s1))]
def cy21F (_s0 n c : Nat) (A : Option Addr) (i x2 s2 : Int) (GV : Value) (X : List Lnk) : List (Nat × AK.Fact (Below0)) := [(129, AK.Fact.is (GV)), (130, AK.Fact.is (.slice A n c)), (131, cyTo X), (132, AK.Fact.is (.int .i64 i)), (133, AK.Fact.is (.tuple #[.int .i64 x2, .int .i64 s2])), (128, AK.Fact.is (.tuple #[.int .i64 x2, .int .i64 s2])), (134, AK.Fact.is (.int .i64 x2)), (135, AK.Fact.is (.int .i64 s2)), (20, AK.Fact.is (.int .i64 x2)), (21, AK.Fact.is (.int .i64 s2))]
def cy22F (_s0 n c : Nat) (A : Option Addr) (nx x3 s3 : Int) (GV : Value) (X : List Lnk) : List (Nat × AK.Fact (Below0)) := [(137, AK.Fact.is (GV)), (138, AK.Fact.is (.slice A n c)), (139, cyTo X), (140, AK.Fact.is (.int .i64 nx)), (141, AK.Fact.is (.tuple #[.int .i64 x3, .int .i64 s3])), (136, AK.Fact.is (.tuple #[.int .i64 x3, .int .i64 s3])), (142, AK.Fact.is (.int .i64 x3)), (143, AK.Fact.is (.int .i64 s3)), (22, AK.Fact.is (.int .i64 x3)), (23, AK.Fact.is (.int .i64 s3))]
def cy23F (_s0 n c : Nat) (A : Option Addr) (nx : Int) (GV : Value) (X : List Lnk) : List (Nat × AK.Fact (Below0)) := [(145, AK.Fact.is (GV)), (146, AK.Fact.is (.slice A n c)), (147, cyTo X), (148, AK.Fact.is (.int .i64 nx)), (149, AK.Fact.is (.tuple #[.int .i64 0, .int .i64 0])), (144, AK.Fact.is (.tuple #[.int .i64 0, .int .i64 0])), (150, AK.Fact.is (.int .i64 0)), (151, AK.Fact.is (.int .i64 0)), (24, AK.Fact.is (.int .i64 0)), (25, AK.Fact.is (.int .i64 0))]
set_option maxRecDepth 100000 in
set_option maxHeartbeats 12800000 in
theorem law_cyyears (g : Grp) (L : List Acc) (G : List Ent) (A : Option Addr) (n c : Nat) (X : List Lnk) (y0 y1 : Int) (w : World) (hy0 : 0 ≤ y0 ∧ y0 ≤ 255) (hy1 : 0 ≤ y1 ∧ y1 ≤ 255) (hk : GrK w g L G) (hw : GrW g L G) (hmx : g.m ≤ 9223372036854775807) (hn : X.length = n) (hnm : n ≤ 9223372036854775807) (hz : LnkAt w A X) (hx : ∀ l ∈ X, WfL l) :
  Calls Tryz.prog 4 #[grpV g, .slice A n c, .agg #[.int .u8 y0, .int .u8 y1]] w fun e w' => e = .returned (.bool true) ∧ Below w.heap.size w w' := by
 obtain ⟨GV, hGV⟩ : ∃ GV, GV = grpV g := ⟨_, rfl⟩
 obtain ⟨gs, hgs⟩ : ∃ gs, (grpC g).toArray = gs := ⟨_, rfl⟩
 obtain ⟨s0, hs0⟩ : ∃ s0, w.heap.size = s0 := ⟨_, rfl⟩
 obtain ⟨w2, hw2⟩ : ∃ w2, (w.alloc (.cells gs 29)).alloc (.cells #[.int .u8 y0, .int .u8 y1] 42) = w2 := ⟨_, rfl⟩
 have HGB : Hid (Wh 29 w2 s0 (grpC g)) := Lib.hid (by rw [← hw2, ← hgs, ← hs0]; exact ((Wh.new w 29 (grpC g)).up (below_alloc_new _)))
 have HB2 : Hid (Below w.heap.size w w2) := Lib.hid (by rw [← hw2]; exact below_new (below_alloc_new _) _)
 have HV : Hid (Wh 42 w2 (s0 + 1) [.int .u8 y0, .int .u8 y1]) := Lib.hid (by
  rw [← hw2, ← hs0]
  have h9 := (Wh.new (w.alloc (.cells gs 29)) 42 [.int .u8 y0, .int .u8 y1])
  simp only [World.size_alloc] at h9
  exact h9)
 have HS0 := Lib.hid hs0
 have HLG : Hid (∀ W, Below w2.heap.size w2 W → (Instr.loadAt 29 (.pointer (some ⟨s0, 0, none⟩))).run Tryz.prog W = .ok GV W) := Lib.hid (fun W h => by rw [hGV, grpV_is]; exact (HGB.out.up h).rg.load 0 29 (grpC g) rfl _ Tryz.underlying29 rfl (by kernel_rfl))
 have HBC : Hid (Below w2.heap.size w2 w2) := Lib.hid (Below.refl _ _)
 have HBW : Hid (∀ W, Below w2.heap.size w2 W → Below w.heap.size w W) := Lib.hid (fun W h => HB2.out.trans (h.mono HB2.out.size))
 have HS2 : Hid (s0 + 2 ≤ w2.heap.size) := Lib.hid (by rw [← hw2, ← hs0]; simp)
 have HAW := Lib.hid yawake_any
 have HFW := Lib.hid (fun W (hb : Below w2.heap.size w2 W) => rfew10_is g G W ((hk.up HB2.out).up hb).he hk.lg hmx)
 have HTL := Lib.hid (fun (hl : n ≤ 60) W (hb : Below w2.heap.size w2 W) => by have h9 := yto_any A c X W ((hz.up HB2.out).up hb) (by omega); rw [hn] at h9; exact h9)
 have HPL := Lib.hid (fun (hs : Sm g G) (hl : n ≤ 60) p A2 c2 W (hb : Below w2.heap.size w2 W) (hz2 : LnkAt W A2 X) => ycarry_any g L G A2 c2 X p W ((hk.up HB2.out).up hb) hs hw hz2 (by omega) (fun d hd => (hx d hd).frm))
 have HQL := Lib.hid (fun (hs : Sm g G) (hl : n ≤ 60) p A2 c2 W (hb : Below w2.heap.size w2 W) (hz2 : LnkAt W A2 X) => yresult_any g L G A2 c2 X p W ((hk.up HB2.out).up hb) hs hw hz2 (by omega) (fun d hd => (hx d hd).frm))
 have HUL := Lib.hid (fun (hs : Sm g G) (hl : n ≤ 60) p A2 c2 W (hb : Below w2.heap.size w2 W) (hz2 : LnkAt W A2 X) => yretained_any g L G A2 c2 X p W ((hk.up HB2.out).up hb) hs hw hz2 (by omega) (fun d hd => (hx d hd).frm))
 have HVL := Lib.hid (fun (hs : Sm g G) W (hb : Below w2.heap.size w2 W) => by have h9 := rvalid10_any g L G W ((hk.up HB2.out).up hb) hs hw; rw [← grp_eq] at h9; exact h9)
 have HZ : Hid (LnkAt w2 A X) := Lib.hid (hz.up HB2.out)
 have HAT : Hid (∀ W, Below w2.heap.size w2 W → W.cell? ⟨s0 + 1, 0, none⟩ = some (.int .u8 y0) ∧ W.cell? ⟨s0 + 1, 1, none⟩ = some (.int .u8 y1)) := Lib.hid (fun W h => ⟨(HV.out.up h).at 0 _ rfl, (HV.out.up h).at 1 _ rfl⟩)
 have HC3 : Hid (∀ W, Below w2.heap.size w2 W → W.cell? ⟨s0, 3, none⟩ = some (.int .i64 g.cp)) := Lib.hid (fun W hb => (HGB.out.up hb).at 3 _ rfl)
 have HLC : Hid (∀ W, Below w2.heap.size w2 W → (Instr.loadAt 23 (.pointer (some ⟨s0, 1, none⟩))).run Tryz.prog W = .ok (calV g.cy g.cm g.cp) W) := Lib.hid (fun W h => (HGB.out.up h).rg.load 1 23 [.int .i64 g.cy, .int .i64 g.cm, .int .i64 g.cp] rfl _ Tryz.underlying23 rfl (by kernel_rfl))
 have HFI := Lib.hid (fun p W => rfirst7_any g.cy g.cm g.cp p W)
 have hGS : GV = .agg gs := by rw [hGV, grpV_is, hgs]
 rw [← hGV] at HFW HPL HQL HUL HVL ⊢
 rw [hGS]
 clear hGS hGV
 have hsm := fun h => few_sm (g := g) (G := G) h
 obtain ⟨q, hq⟩ : ∃ q, few10 g G = q := ⟨_, rfl⟩
 rw [hq] at HFW hsm
 have HN := Lib.hid hn
 obtain ⟨CV, hCV⟩ : ∃ CV, calV g.cy g.cm g.cp = CV := ⟨_, rfl⟩
 rw [hCV] at HLC HFI
 clear hk hw hmx hq hz hx hnm hn hCV
 have HM1 : True := trivial
 have HM2 : True := trivial
 cases q
 ·clear hsm
  go_enter Tryz.func4, Tryz.ntmps4
  go_wp2_with (first
   | (clear HM1; first | (refine wpList_load_if rfl 29 _ rfl (.pointer (some ⟨s0, 0, none⟩)) rfl GV (HLG.out _ HBC.out) ?_) | (refine wpList_load_is rfl 29 _ rfl (.pointer (some ⟨s0, 0, none⟩)) rfl GV (HLG.out _ HBC.out) ?_))
   | (go_at_call 5; refine (HAW.out _).mono ?_; rintro r w3 ⟨rfl, hb⟩; have hB3 := Lib.hid (HBC.out.trans (hb.mono HBC.out.size)); clear HBC; have HBC := hB3; clear hB3; clear hb)
   | (go_at_call 6; refine (HFW.out _ HBC.out).mono ?_; rintro r w3 ⟨rfl, hb⟩; have hB3 := Lib.hid (HBC.out.trans (hb.mono HBC.out.size)); clear HBC; have HBC := hB3; clear hB3; clear hb))
  go_ret
  exact ⟨rfl, by have h9 := HBW.out _ HBC.out; first | exact h9 | (rw [← HS0.out]; exact h9)⟩
 ·by_cases hl : n ≤ 60
  ·have hd : decide ((60 : Int) < (n : Int)) = false := decide_eq_false (by omega)
   have HVX := Lib.hid (HVL.out (hsm rfl))
   have HTO := Lib.hid (HTL.out hl)
   have HPP := Lib.hid (HPL.out (hsm rfl) hl)
   have HQQ := Lib.hid (HQL.out (hsm rfl) hl)
   have HUU := Lib.hid (HUL.out (hsm rfl) hl)
   have HL := Lib.hid hl
   clear hsm HVL HTL HPL HQL HUL hl
   obtain ⟨qv, hqv⟩ : ∃ qv, grpP g L G = qv := ⟨_, rfl⟩
   rw [hqv] at HVX
   cases qv
   ·clear hqv
    go_enter Tryz.func4, Tryz.ntmps4
    go_wp2_with (first
     | (clear HM1; first | (refine wpList_load_if rfl 29 _ rfl (.pointer (some ⟨s0, 0, none⟩)) rfl GV (HLG.out _ HBC.out) ?_) | (refine wpList_load_is rfl 29 _ rfl (.pointer (some ⟨s0, 0, none⟩)) rfl GV (HLG.out _ HBC.out) ?_))
     | (clear HM2; first | (refine wpList_load_if rfl 29 _ rfl (.pointer (some ⟨s0, 0, none⟩)) rfl GV (HLG.out _ HBC.out) ?_) | (refine wpList_load_is rfl 29 _ rfl (.pointer (some ⟨s0, 0, none⟩)) rfl GV (HLG.out _ HBC.out) ?_))
     | (go_at_call 5; refine (HAW.out _).mono ?_; rintro r w3 ⟨rfl, hb⟩; have hB3 := Lib.hid (HBC.out.trans (hb.mono HBC.out.size)); clear HBC; have HBC := hB3; clear hB3; clear hb)
     | (go_at_call 6; refine (HFW.out _ HBC.out).mono ?_; rintro r w3 ⟨rfl, hb⟩; have hB3 := Lib.hid (HBC.out.trans (hb.mono HBC.out.size)); clear HBC; have HBC := hB3; clear hB3; clear hb)
     | (go_at_call 11; refine (HVX.out _ HBC.out).mono ?_; rintro r w3 ⟨rfl, hb⟩; have hB3 := Lib.hid (HBC.out.trans (hb.mono HBC.out.size)); clear HBC; have HBC := hB3; clear hB3; clear hb))
    go_ret
    exact ⟨rfl, by have h9 := HBW.out _ HBC.out; first | exact h9 | (rw [← HS0.out]; exact h9)⟩
   ·obtain ⟨cp, hcp⟩ : ∃ cp, g.cp = cp := ⟨_, rfl⟩
    have hcpb := cl_k (grp_parts hqv).1
    obtain ⟨i, hi⟩ : ∃ i, y0.tmod g.cp = i := ⟨_, rfl⟩
    obtain ⟨r, hr⟩ : ∃ r, i.tmod 12 = r := ⟨_, rfl⟩
    obtain ⟨r1, hr1⟩ : ∃ r1, y1.tmod 12 = r1 := ⟨_, rfl⟩
    obtain ⟨k, hk⟩ : ∃ k, min (g.cp - 1) (i - r + r1) = k := ⟨_, rfl⟩
    obtain ⟨hib, hrb, hr1b, hce, hcl⟩ := yr_same (X := X) hqv hy0.1 hy1.1 hi hr hr1 hk
    obtain ⟨nx, hnx⟩ : ∃ nx, i - r + 12 = nx := ⟨_, rfl⟩
    have HNXT := Lib.hid (fun hc hE hX => yr_next (X := X) hqv hib hr hnx hc hE hX)
    have HPI := Lib.hid (HPP.out i)
    have HPK := Lib.hid (HPP.out k)
    rw [hce, hcl] at HPK
    have hcn := cayL_len (g := g) (L := L) (G := G) (X := X) (p := i)
    have HQ1 := Lib.hid (HQQ.out i)
    have HQ2 := Lib.hid (HQQ.out nx)
    have HU1 := Lib.hid (HUU.out i)
    have HU2 := Lib.hid (HUU.out nx)
    have HFN := Lib.hid (HFI.out nx)
    generalize caE g L G X i = E at *
    generalize caL g L G X i = cl at *
    generalize totS (qRet L g.r6 (cyB g i)) X = SR at *
    generalize totS (qRes L g.r6 (cyB g i)) X = SS at *
    generalize totS (qRet L g.r6 (cyB g nx)) X = ZR at *
    generalize totS (qRes L g.r6 (cyB g nx)) X = ZS at *
    generalize cvE g L G X i = CI at *
    generalize cvE g L G X nx = CN at *
    generalize pdF g.cy g.cm g.cp nx = F at *
    generalize clE g.cy g.cm g.cp nx = CE at *
    rw [hcp] at HC3 hi hk hib hcpb
    obtain ⟨c1, hc1⟩ : ∃ c1, cp - 1 = c1 := ⟨_, rfl⟩
    obtain ⟨b0, hb0⟩ : ∃ b0, i - r = b0 := ⟨_, rfl⟩
    obtain ⟨t0, ht0⟩ : ∃ t0, b0 + r1 = t0 := ⟨_, rfl⟩
    rw [hb0] at hk hnx
    rw [hc1, ht0] at hk
    have a1 : IntKind.i64.wrap y0 = y0 := by rw [IntKind.wrap_i64]; omega
    have a2 : wrap64 y0 = y0 := by unfold wrap64; omega
    have a3 : IntKind.i64.wrap y1 = y1 := by rw [IntKind.wrap_i64]; omega
    have a4 : wrap64 y1 = y1 := by unfold wrap64; omega
    have a5 : IntKind.i64.wrap (cp - 1) = c1 := by rw [IntKind.wrap_i64]; omega
    have a6 : wrap64 (cp - 1) = c1 := by unfold wrap64; omega
    have a7 : IntKind.i64.wrap (i - r) = b0 := by rw [IntKind.wrap_i64]; omega
    have a8 : wrap64 (i - r) = b0 := by unfold wrap64; omega
    have a9 : IntKind.i64.wrap (b0 + r1) = t0 := by rw [IntKind.wrap_i64]; omega
    have a10 : wrap64 (b0 + r1) = t0 := by unfold wrap64; omega
    have A11 : Hid (IntKind.i64.wrap (b0 + 12) = nx) := Lib.hid (by rw [IntKind.wrap_i64]; omega)
    have A12 : Hid (wrap64 (b0 + 12) = nx) := Lib.hid (by unfold wrap64; omega)
    have A7 := Lib.hid a7
    have A8 := Lib.hid a8
    have HRR := Lib.hid hr
    have hnz : ¬ cp = 0 := by omega
    have HCM : Hid (cl.length ≤ 100000) := Lib.hid (by have := HL.out; have := HN.out; omega)
    have HSA := Lib.hid (fun A B c d W hz hy => rsameb_any A B c d cl cl W hz hy HCM.out HCM.out)
    rw [decide_eq_true (show cl = cl from rfl)] at HSA
    clear hcp hcpb hib hrb hr1b hce hcl hnx hcn hc1 hb0 ht0 hqv HPP HQQ HUU HFI
    go_enter Tryz.func4, Tryz.ntmps4
    go_upto_region 6 with (first
     | (clear HM1; first | (refine wpList_load_if rfl 29 _ rfl (.pointer (some ⟨s0, 0, none⟩)) rfl GV (HLG.out _ HBC.out) ?_) | (refine wpList_load_is rfl 29 _ rfl (.pointer (some ⟨s0, 0, none⟩)) rfl GV (HLG.out _ HBC.out) ?_))
     | (clear HM2; first | (refine wpList_load_if rfl 29 _ rfl (.pointer (some ⟨s0, 0, none⟩)) rfl GV (HLG.out _ HBC.out) ?_) | (refine wpList_load_is rfl 29 _ rfl (.pointer (some ⟨s0, 0, none⟩)) rfl GV (HLG.out _ HBC.out) ?_))
     | (go_at_call 5; refine (HAW.out _).mono ?_; rintro r w3 ⟨rfl, hb⟩; have hB3 := Lib.hid (HBC.out.trans (hb.mono HBC.out.size)); clear HBC; have HBC := hB3; clear hB3; clear hb)
     | (go_at_call 6; refine (HFW.out _ HBC.out).mono ?_; rintro r w3 ⟨rfl, hb⟩; have hB3 := Lib.hid (HBC.out.trans (hb.mono HBC.out.size)); clear HBC; have HBC := hB3; clear hB3; clear hb)
     | (go_at_call 11; refine (HVX.out _ HBC.out).mono ?_; rintro r w3 ⟨rfl, hb⟩; have hB3 := Lib.hid (HBC.out.trans (hb.mono HBC.out.size)); clear HBC; have HBC := hB3; clear hB3; obtain ⟨q0, q1⟩ := HAT.out _ HBC.out; have q3 := HC3.out _ HBC.out; clear hb))
    clear q0 q1 q3 a1 a2 a3 a4 a5 a6 a7 a8 a9 a10 hi hr hr1 hk hnz
    have HWB : Hid (∀ W, Below w3.heap.size w3 W → Below w2.heap.size w2 W) := Lib.hid (fun W h => HBC.out.trans (h.mono HBC.out.size))
    refine AK.region_facts (Rp := Below0) (Kp := Below0) (cy6F s0 n c A i E cl GV X) (fun _ _ W => Below w3.heap.size w3 W) [[], [], [66], [], [65, 67, 68], [69], [64], [64], [70], [71]] [] [[]] [0, 0, 0, 0, 0, 0, 0, 0, 0, 0] [0, 0, 0, 0, 0, 0, 0, 0, 0, 0] [] (fun u => by simp only [cy6F, AK.temps, List.map_cons, List.map_nil, fillL, List.setIfInBounds_toArray, List.set_cons_zero, List.set_cons_succ]; rfl) (by kernel_rfl) (by kernel_rfl) (fun _ _ h => h.size) (fun _ _ h => h) (fun _ _ _ _ hb h => h.trans (hb.mono h.size)) (dc_drew (Below.refl _ _)) ?_ ?_
    ·refine AK.sc (lim := 0) (lo := 0) rfl rfl rfl rfl ?_ ?_
     ·intro k_ u w_ hk_ hl_ hJ hF K hK
      clear hF
      refine wp_load_is 29 _ rfl (.pointer (some ⟨s0, 0, none⟩)) rfl GV (HLG.out _ (HWB.out _ hJ)) ?_
      exact hK.out _ _ (Below.refl _ _) rfl trivial
     refine AK.sc (lim := 0) (lo := 0) rfl rfl rfl rfl ?_ ?_
     ·intro k_ u w_ hk_ hl_ hJ hF K hK
      clear hF
      go_simp
      exact hK.out _ _ (Below.refl _ _) (rfl) trivial
     refine AK.sc (lim := 0) (lo := 0) rfl rfl rfl rfl ?_ ?_
     ·intro k_ u w_ hk_ hl_ hJ hF K hK
      have h66 : u 66 = .slice A n c := AK.facts_get hF 66 (by simp)
      clear hF
      simp only [h66] at hK ⊢
      clear h66
      go_simp
      refine (HTO.out _ (HWB.out _ hJ)).mono ?_
      rintro r_ w6_ ⟨⟨v_, rfl, ht_⟩, hb6_⟩
      exact hK.out _ _ hb6_ ht_ trivial
     refine AK.sc (lim := 0) (lo := 0) rfl rfl rfl rfl ?_ ?_
     ·intro k_ u w_ hk_ hl_ hJ hF K hK
      clear hF
      go_simp
      exact hK.out _ _ (Below.refl _ _) (rfl) trivial
     refine AK.sc (lim := 0) (lo := 0) rfl rfl rfl rfl ?_ ?_
     ·intro k_ u w_ hk_ hl_ hJ hF K hK
      have h65 : u 65 = GV := AK.facts_get hF 65 (by simp)
      have h67 : toP X (u 67) w_ := AK.facts_get hF 67 (by simp)
      have h68 : u 68 = .int .i64 i := AK.facts_get hF 68 (by simp)
      clear hF
      obtain ⟨A2_, c2_, h67, hz2_⟩ := h67
      simp only [h65, h67, h68] at hK ⊢
      clear h65 h67 h68
      go_simp
      refine (HPI.out _ _ _ (HWB.out _ hJ) hz2_).mono ?_
      rintro r_ w6_ ⟨⟨v9_, rfl, hs9_⟩, hb6_⟩
      exact hK.out _ _ hb6_ ⟨_, rfl, hs9_⟩ trivial
     refine AK.sc (lim := 0) (lo := 0) rfl rfl rfl rfl ?_ ?_
     ·intro k_ u w_ hk_ hl_ hJ hF K hK
      have h69 : caP E cl (u 69) w_ := AK.facts_get hF 69 (by simp)
      clear hF
      obtain ⟨v9_, h69, hs9_⟩ := h69
      simp only [h69] at hK ⊢
      clear h69
      go_simp
      exact hK.out _ _ (Below.refl _ _) ⟨_, rfl, hs9_⟩ trivial
     refine AK.sc (lim := 0) (lo := 0) rfl rfl rfl rfl ?_ ?_
     ·intro k_ u w_ hk_ hl_ hJ hF K hK
      have h64 : caP E cl (u 64) w_ := AK.facts_get hF 64 (by simp)
      clear hF
      obtain ⟨v9_, h64, hs9_⟩ := h64
      simp only [h64] at hK ⊢
      clear h64
      go_simp
      exact hK.out _ _ (Below.refl _ _) hs9_ trivial
     refine AK.sc (lim := 0) (lo := 0) rfl rfl rfl rfl ?_ ?_
     ·intro k_ u w_ hk_ hl_ hJ hF K hK
      have h64 : caP E cl (u 64) w_ := AK.facts_get hF 64 (by simp)
      clear hF
      obtain ⟨v9_, h64, hs9_⟩ := h64
      simp only [h64] at hK ⊢
      clear h64
      go_simp
      exact hK.out _ _ (Below.refl _ _) (rfl) trivial
     refine AK.sc (lim := 0) (lo := 0) rfl rfl rfl rfl ?_ ?_
     ·intro k_ u w_ hk_ hl_ hJ hF K hK
      have h70 : SlB w_ (u 70) cl := AK.facts_get hF 70 (by simp)
      clear hF
      go_simp
      exact hK.out _ _ (Below.refl _ _) h70 trivial
     refine AK.sc (lim := 0) (lo := 0) rfl rfl rfl rfl ?_ ?_
     ·intro k_ u w_ hk_ hl_ hJ hF K hK
      have h71 : u 71 = .int .i64 E := AK.facts_get hF 71 (by simp)
      clear hF
      simp only [h71] at hK ⊢
      clear h71
      go_simp
      exact hK.out _ _ (Below.refl _ _) (rfl) trivial
     exact AK.StepsOk.nil
    ·intro u W9 hJ9 hF
     have h10 : SlB W9 (u 10) cl := AK.facts_get hF 10 (by simp [cy6F, AK.temps])
     have h11 : u 11 = .int .i64 E := AK.facts_get hF 11 (by simp [cy6F, AK.temps])
     clear hF
     obtain ⟨A7_, c7, h10, hz7⟩ := h10
     have HZ7 := Lib.hid hz7
     clear hz7
     have HB9 : Hid (Below w2.heap.size w2 W9) := Lib.hid (HWB.out _ hJ9)
     clear hJ9 HBC
     have HBC := HB9
     clear HB9 HWB
     simp only [h10, h11]
     clear h10 h11
     go_upto_region 7 with fail
     have HWB : Hid (∀ W, Below W9.heap.size W9 W → Below w2.heap.size w2 W) := Lib.hid (fun W h => HBC.out.trans (h.mono HBC.out.size))
     refine AK.region_facts (Rp := Below0) (Kp := Below0) (cy7F s0 n c A k E cl GV X) (fun _ _ W => Below W9.heap.size W9 W) [[], [], [74], [], [73, 75, 76], [77], [72], [72], [78], [79]] [] [[]] [0, 0, 0, 0, 0, 0, 0, 0, 0, 0] [0, 0, 0, 0, 0, 0, 0, 0, 0, 0] [] (fun u => by simp only [cy7F, AK.temps, List.map_cons, List.map_nil, fillL, List.setIfInBounds_toArray, List.set_cons_zero, List.set_cons_succ]; rfl) (by kernel_rfl) (by kernel_rfl) (fun _ _ h => h.size) (fun _ _ h => h) (fun _ _ _ _ hb h => h.trans (hb.mono h.size)) (dc_drew (Below.refl _ _)) ?_ ?_
     ·refine AK.sc (lim := 0) (lo := 0) rfl rfl rfl rfl ?_ ?_
      ·intro k_ u w_ hk_ hl_ hJ hF K hK
       clear hF
       refine wp_load_is 29 _ rfl (.pointer (some ⟨s0, 0, none⟩)) rfl GV (HLG.out _ (HWB.out _ hJ)) ?_
       exact hK.out _ _ (Below.refl _ _) rfl trivial
      refine AK.sc (lim := 0) (lo := 0) rfl rfl rfl rfl ?_ ?_
      ·intro k_ u w_ hk_ hl_ hJ hF K hK
       clear hF
       go_simp
       exact hK.out _ _ (Below.refl _ _) (rfl) trivial
      refine AK.sc (lim := 0) (lo := 0) rfl rfl rfl rfl ?_ ?_
      ·intro k_ u w_ hk_ hl_ hJ hF K hK
       have h74 : u 74 = .slice A n c := AK.facts_get hF 74 (by simp)
       clear hF
       simp only [h74] at hK ⊢
       clear h74
       go_simp
       refine (HTO.out _ (HWB.out _ hJ)).mono ?_
       rintro r_ w6_ ⟨⟨v_, rfl, ht_⟩, hb6_⟩
       exact hK.out _ _ hb6_ ht_ trivial
      refine AK.sc (lim := 0) (lo := 0) rfl rfl rfl rfl ?_ ?_
      ·intro k_ u w_ hk_ hl_ hJ hF K hK
       clear hF
       go_simp
       exact hK.out _ _ (Below.refl _ _) (rfl) trivial
      refine AK.sc (lim := 0) (lo := 0) rfl rfl rfl rfl ?_ ?_
      ·intro k_ u w_ hk_ hl_ hJ hF K hK
       have h73 : u 73 = GV := AK.facts_get hF 73 (by simp)
       have h75 : toP X (u 75) w_ := AK.facts_get hF 75 (by simp)
       have h76 : u 76 = .int .i64 k := AK.facts_get hF 76 (by simp)
       clear hF
       obtain ⟨A2_, c2_, h75, hz2_⟩ := h75
       simp only [h73, h75, h76] at hK ⊢
       clear h73 h75 h76
       go_simp
       refine (HPK.out _ _ _ (HWB.out _ hJ) hz2_).mono ?_
       rintro r_ w6_ ⟨⟨v9_, rfl, hs9_⟩, hb6_⟩
       exact hK.out _ _ hb6_ ⟨_, rfl, hs9_⟩ trivial
      refine AK.sc (lim := 0) (lo := 0) rfl rfl rfl rfl ?_ ?_
      ·intro k_ u w_ hk_ hl_ hJ hF K hK
       have h77 : caP E cl (u 77) w_ := AK.facts_get hF 77 (by simp)
       clear hF
       obtain ⟨v9_, h77, hs9_⟩ := h77
       simp only [h77] at hK ⊢
       clear h77
       go_simp
       exact hK.out _ _ (Below.refl _ _) ⟨_, rfl, hs9_⟩ trivial
      refine AK.sc (lim := 0) (lo := 0) rfl rfl rfl rfl ?_ ?_
      ·intro k_ u w_ hk_ hl_ hJ hF K hK
       have h72 : caP E cl (u 72) w_ := AK.facts_get hF 72 (by simp)
       clear hF
       obtain ⟨v9_, h72, hs9_⟩ := h72
       simp only [h72] at hK ⊢
       clear h72
       go_simp
       exact hK.out _ _ (Below.refl _ _) hs9_ trivial
      refine AK.sc (lim := 0) (lo := 0) rfl rfl rfl rfl ?_ ?_
      ·intro k_ u w_ hk_ hl_ hJ hF K hK
       have h72 : caP E cl (u 72) w_ := AK.facts_get hF 72 (by simp)
       clear hF
       obtain ⟨v9_, h72, hs9_⟩ := h72
       simp only [h72] at hK ⊢
       clear h72
       go_simp
       exact hK.out _ _ (Below.refl _ _) (rfl) trivial
      refine AK.sc (lim := 0) (lo := 0) rfl rfl rfl rfl ?_ ?_
      ·intro k_ u w_ hk_ hl_ hJ hF K hK
       have h78 : SlB w_ (u 78) cl := AK.facts_get hF 78 (by simp)
       clear hF
       go_simp
       exact hK.out _ _ (Below.refl _ _) h78 trivial
      refine AK.sc (lim := 0) (lo := 0) rfl rfl rfl rfl ?_ ?_
      ·intro k_ u w_ hk_ hl_ hJ hF K hK
       have h79 : u 79 = .int .i64 E := AK.facts_get hF 79 (by simp)
       clear hF
       simp only [h79] at hK ⊢
       clear h79
       go_simp
       exact hK.out _ _ (Below.refl _ _) (rfl) trivial
      exact AK.StepsOk.nil
     ·intro u W8 hJ8 hF
      have h12 : SlB W8 (u 12) cl := AK.facts_get hF 12 (by simp [cy7F, AK.temps])
      have h13 : u 13 = .int .i64 E := AK.facts_get hF 13 (by simp [cy7F, AK.temps])
      clear hF
      obtain ⟨A8_, c8, h12, hz8⟩ := h12
      have HZ8 := Lib.hid hz8
      have HZ9 := Lib.hid (HZ7.out.up hJ8)
      clear hz8
      have HB9 : Hid (Below w2.heap.size w2 W8) := Lib.hid (HWB.out _ hJ8)
      clear hJ8 HBC
      have HBC := HB9
      clear HB9 HWB
      simp only [h12, h13]
      clear h12 h13
      have z1 : (E != E) = false := by simp
      have a11 := A11.out
      have a12 := A12.out
      have a7 := A7.out
      have a8 := A8.out
      have hr := HRR.out
      have HM3 : True := trivial
      by_cases hCE : CE = 0
      ·have y1_ : (CE != 0) = false := by simp [hCE]
       by_cases hE : E = 0
       ·have y2_ : (E != 0) = false := by simp [hE]
        have HCC := Lib.hid hCE
        have HEE := Lib.hid hE
        clear hCE hE
        go_wp2_with (first
         | (go_at_call 10; refine (HSA.out _ _ _ _ _ HZ9.out HZ8.out).mono ?_; rintro r w5 ⟨rfl, hb⟩; have hB3 := Lib.hid (HBC.out.trans (hb.mono HBC.out.size)); clear HBC; have HBC := hB3; clear hB3; clear hb)
         | (clear HM3; refine wpList_load_is rfl 23 _ rfl (.pointer (some ⟨s0, 1, none⟩)) rfl CV (HLC.out _ HBC.out) ?_)
         | (go_at_call 12; refine (HFN.out _).mono ?_; rintro r w6 ⟨rfl, hb⟩; have hB3 := Lib.hid (HBC.out.trans (hb.mono HBC.out.size)); clear HBC; have HBC := hB3; clear hB3; clear hb))
        have hn6 : n ≤ 60 := HL.out
        clear a11 a12 a7 a8 hr
        go_loopg [109] n (fun kx s109 wr => ∃ j : Nat, s109 = .int .i64 j ∧ j ≤ n ∧ n - j ≤ kx ∧ Hid (∀ t, t < j → (X.getD t lnk0).tgt < F) ∧ Hid (Below w2.heap.size w2 wr))
        case atStart => exact ⟨0, rfl, by omega, by omega, Lib.hid (fun t h => absurd h (by omega)), HBC⟩
        case round =>
         clear HBC HZ8 HZ9
         obtain ⟨j, rfl, hj, hjx, HK, HBC⟩ := hrel
         by_cases hlt : j < n
         ·have hltz : (j : Int) < (n : Int) := by omega
          obtain ⟨bb, off, hA, hbw, hcs⟩ := HZ.out (by rw [HN.out]; omega)
          obtain ⟨p0, p1, p2⟩ := (hcs j (by rw [HN.out]; exact hlt)).up HBC.out hbw
          have HKS : Hid ((X.getD j lnk0).tgt < F → ∀ t, t < j + 1 → (X.getD t lnk0).tgt < F) := Lib.hid (fun h t ht => by
           rcases Nat.lt_or_ge t j with h9 | h9
           ·exact HK.out t h9
           ·obtain rfl : t = j := by omega
            exact h)
          generalize X.getD j lnk0 = x at *
          subst hA
          clear hcs
          by_cases hd2 : F ≤ x.tgt
          ·have hd3 : decide (F ≤ x.tgt) = true := decide_eq_true hd2
           have hd4 : decide (x.tgt ≥ F) = true := decide_eq_true hd2
           clear hd2
           go_wp2_with fail
           go_ret
           exact ⟨by first | rfl | simp, by have h9 := HBW.out _ HBC.out; first | exact h9 | (rw [← HS0.out]; exact h9)⟩
          ·have hd3 : decide (F ≤ x.tgt) = false := decide_eq_false hd2
           have hd4 : decide (x.tgt ≥ F) = false := decide_eq_false hd2
           have HK2 := Lib.hid (HKS.out (by omega))
           clear hd2
           go_wp2_with fail
           go_roundg (n - (j + 1))
           case measure => omega
           case rel => exact ⟨j + 1, by go_num, by omega, by omega, HK2, HBC⟩
         ·obtain rfl : j = n := by omega
          have hltz : ¬ (j : Int) < (j : Int) := by omega
          have hXT : ∀ d ∈ X, d.tgt < F := fun d hd => by
           obtain ⟨t, ht, rfl⟩ := mem_getD_acc (d := lnk0) hd
           exact HK.out t (by rw [← HN.out]; exact ht)
          obtain ⟨e1, e2, e3, e4⟩ := HNXT.out HCC.out HEE.out hXT
          subst e1 e2 e4
          have HSUM := Lib.hid (fun h1 h2 h3 => yr_sum e3 h1 h2 h3)
          have HR4 := HQ2
          rw [yr_nil.1, yr_nil.2] at HR4
          generalize toN 0 SR = x1 at *
          generalize toE 0 SR = s1 at *
          generalize toN 0 SS = x2 at *
          generalize toE 0 SS = s2 at *
          generalize toN 0 ZR = x3 at *
          generalize toE 0 ZR = s3 at *
          have HR1 := HU1
          have HR2 := HQ1
          have HR3 := HU2
          clear hXT e3 HNXT HK HQ2 HU1 HQ1 HU2
          go_upto_region 20 with fail
          have HWB : Hid (∀ W, Below wr.heap.size wr W → Below w2.heap.size w2 W) := Lib.hid (fun W h => HBC.out.trans (h.mono HBC.out.size))
          refine AK.region_facts (Rp := Below0) (Kp := Below0) (cy20F s0 j c A i x1 s1 GV X) (fun _ _ W => Below wr.heap.size wr W) [[], [], [122], [], [121, 123, 124], [125], [120], [120], [126], [127]] [] [[]] [0, 0, 0, 0, 0, 0, 0, 0, 0, 0] [0, 0, 0, 0, 0, 0, 0, 0, 0, 0] [] (fun u => by simp only [cy20F, AK.temps, List.map_cons, List.map_nil, fillL, List.setIfInBounds_toArray, List.set_cons_zero, List.set_cons_succ]; rfl) (by kernel_rfl) (by kernel_rfl) (fun _ _ h => h.size) (fun _ _ h => h) (fun _ _ _ _ hb h => h.trans (hb.mono h.size)) (dc_drew (Below.refl _ _)) ?_ ?_
          ·refine AK.sc (lim := 0) (lo := 0) rfl rfl rfl rfl ?_ ?_
           ·intro k_ u w_ hk_ hl_ hJ hF K hK
            clear hF
            refine wp_load_is 29 _ rfl (.pointer (some ⟨s0, 0, none⟩)) rfl GV (HLG.out _ (HWB.out _ hJ)) ?_
            exact hK.out _ _ (Below.refl _ _) rfl trivial
           refine AK.sc (lim := 0) (lo := 0) rfl rfl rfl rfl ?_ ?_
           ·intro k_ u w_ hk_ hl_ hJ hF K hK
            clear hF
            go_simp
            exact hK.out _ _ (Below.refl _ _) (rfl) trivial
           refine AK.sc (lim := 0) (lo := 0) rfl rfl rfl rfl ?_ ?_
           ·intro k_ u w_ hk_ hl_ hJ hF K hK
            have h122 : u 122 = .slice A j c := AK.facts_get hF 122 (by simp)
            clear hF
            simp only [h122] at hK ⊢
            clear h122
            go_simp
            refine (HTO.out _ (HWB.out _ hJ)).mono ?_
            rintro r_ w6_ ⟨⟨v_, rfl, ht_⟩, hb6_⟩
            exact hK.out _ _ hb6_ ht_ trivial
           refine AK.sc (lim := 0) (lo := 0) rfl rfl rfl rfl ?_ ?_
           ·intro k_ u w_ hk_ hl_ hJ hF K hK
            clear hF
            go_simp
            exact hK.out _ _ (Below.refl _ _) (rfl) trivial
           refine AK.sc (lim := 0) (lo := 0) rfl rfl rfl rfl ?_ ?_
           ·intro k_ u w_ hk_ hl_ hJ hF K hK
            have h121 : u 121 = GV := AK.facts_get hF 121 (by simp)
            have h123 : toP X (u 123) w_ := AK.facts_get hF 123 (by simp)
            have h124 : u 124 = .int .i64 i := AK.facts_get hF 124 (by simp)
            clear hF
            obtain ⟨A2_, c2_, h123, hz2_⟩ := h123
            simp only [h121, h123, h124] at hK ⊢
            clear h121 h123 h124
            go_simp
            refine (HR1.out _ _ _ (HWB.out _ hJ) hz2_).mono ?_
            rintro r_ w6_ ⟨rfl, hb6_⟩
            exact hK.out _ _ hb6_ rfl trivial
           refine AK.sc (lim := 0) (lo := 0) rfl rfl rfl rfl ?_ ?_
           ·intro k_ u w_ hk_ hl_ hJ hF K hK
            have h125 : u 125 = .tuple #[.int .i64 x1, .int .i64 s1] := AK.facts_get hF 125 (by simp)
            clear hF
            simp only [h125] at hK ⊢
            clear h125
            go_simp
            exact hK.out _ _ (Below.refl _ _) (rfl) trivial
           refine AK.sc (lim := 0) (lo := 0) rfl rfl rfl rfl ?_ ?_
           ·intro k_ u w_ hk_ hl_ hJ hF K hK
            have h120 : u 120 = .tuple #[.int .i64 x1, .int .i64 s1] := AK.facts_get hF 120 (by simp)
            clear hF
            simp only [h120] at hK ⊢
            clear h120
            go_simp
            exact hK.out _ _ (Below.refl _ _) (rfl) trivial
           refine AK.sc (lim := 0) (lo := 0) rfl rfl rfl rfl ?_ ?_
           ·intro k_ u w_ hk_ hl_ hJ hF K hK
            have h120 : u 120 = .tuple #[.int .i64 x1, .int .i64 s1] := AK.facts_get hF 120 (by simp)
            clear hF
            simp only [h120] at hK ⊢
            clear h120
            go_simp
            exact hK.out _ _ (Below.refl _ _) (rfl) trivial
           refine AK.sc (lim := 0) (lo := 0) rfl rfl rfl rfl ?_ ?_
           ·intro k_ u w_ hk_ hl_ hJ hF K hK
            have h126 : u 126 = .int .i64 x1 := AK.facts_get hF 126 (by simp)
            clear hF
            simp only [h126] at hK ⊢
            clear h126
            go_simp
            exact hK.out _ _ (Below.refl _ _) (rfl) trivial
           refine AK.sc (lim := 0) (lo := 0) rfl rfl rfl rfl ?_ ?_
           ·intro k_ u w_ hk_ hl_ hJ hF K hK
            have h127 : u 127 = .int .i64 s1 := AK.facts_get hF 127 (by simp)
            clear hF
            simp only [h127] at hK ⊢
            clear h127
            go_simp
            exact hK.out _ _ (Below.refl _ _) (rfl) trivial
           exact AK.StepsOk.nil
          ·intro u W9 hJ9 hF
           have h18 : u 18 = .int .i64 x1 := AK.facts_get hF 18 (by simp [cy20F, AK.temps])
           have h19 : u 19 = .int .i64 s1 := AK.facts_get hF 19 (by simp [cy20F, AK.temps])
           clear hF
           have HB9 : Hid (Below w2.heap.size w2 W9) := Lib.hid (HWB.out _ hJ9)
           clear hJ9 HBC
           have HBC := HB9
           clear HB9 HWB
           simp only [h18, h19]
           clear h18 h19
           go_upto_region 21 with fail
           have HWB : Hid (∀ W, Below W9.heap.size W9 W → Below w2.heap.size w2 W) := Lib.hid (fun W h => HBC.out.trans (h.mono HBC.out.size))
           refine AK.region_facts (Rp := Below0) (Kp := Below0) (cy21F s0 j c A i x2 s2 GV X) (fun _ _ W => Below W9.heap.size W9 W) [[], [], [130], [], [129, 131, 132], [133], [128], [128], [134], [135]] [] [[]] [0, 0, 0, 0, 0, 0, 0, 0, 0, 0] [0, 0, 0, 0, 0, 0, 0, 0, 0, 0] [] (fun u => by simp only [cy21F, AK.temps, List.map_cons, List.map_nil, fillL, List.setIfInBounds_toArray, List.set_cons_zero, List.set_cons_succ]; rfl) (by kernel_rfl) (by kernel_rfl) (fun _ _ h => h.size) (fun _ _ h => h) (fun _ _ _ _ hb h => h.trans (hb.mono h.size)) (dc_drew (Below.refl _ _)) ?_ ?_
           ·refine AK.sc (lim := 0) (lo := 0) rfl rfl rfl rfl ?_ ?_
            ·intro k_ u w_ hk_ hl_ hJ hF K hK
             clear hF
             refine wp_load_is 29 _ rfl (.pointer (some ⟨s0, 0, none⟩)) rfl GV (HLG.out _ (HWB.out _ hJ)) ?_
             exact hK.out _ _ (Below.refl _ _) rfl trivial
            refine AK.sc (lim := 0) (lo := 0) rfl rfl rfl rfl ?_ ?_
            ·intro k_ u w_ hk_ hl_ hJ hF K hK
             clear hF
             go_simp
             exact hK.out _ _ (Below.refl _ _) (rfl) trivial
            refine AK.sc (lim := 0) (lo := 0) rfl rfl rfl rfl ?_ ?_
            ·intro k_ u w_ hk_ hl_ hJ hF K hK
             have h130 : u 130 = .slice A j c := AK.facts_get hF 130 (by simp)
             clear hF
             simp only [h130] at hK ⊢
             clear h130
             go_simp
             refine (HTO.out _ (HWB.out _ hJ)).mono ?_
             rintro r_ w6_ ⟨⟨v_, rfl, ht_⟩, hb6_⟩
             exact hK.out _ _ hb6_ ht_ trivial
            refine AK.sc (lim := 0) (lo := 0) rfl rfl rfl rfl ?_ ?_
            ·intro k_ u w_ hk_ hl_ hJ hF K hK
             clear hF
             go_simp
             exact hK.out _ _ (Below.refl _ _) (rfl) trivial
            refine AK.sc (lim := 0) (lo := 0) rfl rfl rfl rfl ?_ ?_
            ·intro k_ u w_ hk_ hl_ hJ hF K hK
             have h129 : u 129 = GV := AK.facts_get hF 129 (by simp)
             have h131 : toP X (u 131) w_ := AK.facts_get hF 131 (by simp)
             have h132 : u 132 = .int .i64 i := AK.facts_get hF 132 (by simp)
             clear hF
             obtain ⟨A2_, c2_, h131, hz2_⟩ := h131
             simp only [h129, h131, h132] at hK ⊢
             clear h129 h131 h132
             go_simp
             refine (HR2.out _ _ _ (HWB.out _ hJ) hz2_).mono ?_
             rintro r_ w6_ ⟨rfl, hb6_⟩
             exact hK.out _ _ hb6_ rfl trivial
            refine AK.sc (lim := 0) (lo := 0) rfl rfl rfl rfl ?_ ?_
            ·intro k_ u w_ hk_ hl_ hJ hF K hK
             have h133 : u 133 = .tuple #[.int .i64 x2, .int .i64 s2] := AK.facts_get hF 133 (by simp)
             clear hF
             simp only [h133] at hK ⊢
             clear h133
             go_simp
             exact hK.out _ _ (Below.refl _ _) (rfl) trivial
            refine AK.sc (lim := 0) (lo := 0) rfl rfl rfl rfl ?_ ?_
            ·intro k_ u w_ hk_ hl_ hJ hF K hK
             have h128 : u 128 = .tuple #[.int .i64 x2, .int .i64 s2] := AK.facts_get hF 128 (by simp)
             clear hF
             simp only [h128] at hK ⊢
             clear h128
             go_simp
             exact hK.out _ _ (Below.refl _ _) (rfl) trivial
            refine AK.sc (lim := 0) (lo := 0) rfl rfl rfl rfl ?_ ?_
            ·intro k_ u w_ hk_ hl_ hJ hF K hK
             have h128 : u 128 = .tuple #[.int .i64 x2, .int .i64 s2] := AK.facts_get hF 128 (by simp)
             clear hF
             simp only [h128] at hK ⊢
             clear h128
             go_simp
             exact hK.out _ _ (Below.refl _ _) (rfl) trivial
            refine AK.sc (lim := 0) (lo := 0) rfl rfl rfl rfl ?_ ?_
            ·intro k_ u w_ hk_ hl_ hJ hF K hK
             have h134 : u 134 = .int .i64 x2 := AK.facts_get hF 134 (by simp)
             clear hF
             simp only [h134] at hK ⊢
             clear h134
             go_simp
             exact hK.out _ _ (Below.refl _ _) (rfl) trivial
            refine AK.sc (lim := 0) (lo := 0) rfl rfl rfl rfl ?_ ?_
            ·intro k_ u w_ hk_ hl_ hJ hF K hK
             have h135 : u 135 = .int .i64 s2 := AK.facts_get hF 135 (by simp)
             clear hF
             simp only [h135] at hK ⊢
             clear h135
             go_simp
             exact hK.out _ _ (Below.refl _ _) (rfl) trivial
            exact AK.StepsOk.nil
           ·intro u W8 hJ8 hF
            have h20 : u 20 = .int .i64 x2 := AK.facts_get hF 20 (by simp [cy21F, AK.temps])
            have h21 : u 21 = .int .i64 s2 := AK.facts_get hF 21 (by simp [cy21F, AK.temps])
            clear hF
            have HB9 : Hid (Below w2.heap.size w2 W8) := Lib.hid (HWB.out _ hJ8)
            clear hJ8 HBC
            have HBC := HB9
            clear HB9 HWB
            simp only [h20, h21]
            clear h20 h21
            go_upto_region 22 with fail
            have HWB : Hid (∀ W, Below W8.heap.size W8 W → Below w2.heap.size w2 W) := Lib.hid (fun W h => HBC.out.trans (h.mono HBC.out.size))
            refine AK.region_facts (Rp := Below0) (Kp := Below0) (cy22F s0 j c A nx x3 s3 GV X) (fun _ _ W => Below W8.heap.size W8 W) [[], [], [138], [], [137, 139, 140], [141], [136], [136], [142], [143]] [] [[]] [0, 0, 0, 0, 0, 0, 0, 0, 0, 0] [0, 0, 0, 0, 0, 0, 0, 0, 0, 0] [] (fun u => by simp only [cy22F, AK.temps, List.map_cons, List.map_nil, fillL, List.setIfInBounds_toArray, List.set_cons_zero, List.set_cons_succ]; rfl) (by kernel_rfl) (by kernel_rfl) (fun _ _ h => h.size) (fun _ _ h => h) (fun _ _ _ _ hb h => h.trans (hb.mono h.size)) (dc_drew (Below.refl _ _)) ?_ ?_
            ·refine AK.sc (lim := 0) (lo := 0) rfl rfl rfl rfl ?_ ?_
             ·intro k_ u w_ hk_ hl_ hJ hF K hK
              clear hF
              refine wp_load_is 29 _ rfl (.pointer (some ⟨s0, 0, none⟩)) rfl GV (HLG.out _ (HWB.out _ hJ)) ?_
              exact hK.out _ _ (Below.refl _ _) rfl trivial
             refine AK.sc (lim := 0) (lo := 0) rfl rfl rfl rfl ?_ ?_
             ·intro k_ u w_ hk_ hl_ hJ hF K hK
              clear hF
              go_simp
              exact hK.out _ _ (Below.refl _ _) (rfl) trivial
             refine AK.sc (lim := 0) (lo := 0) rfl rfl rfl rfl ?_ ?_
             ·intro k_ u w_ hk_ hl_ hJ hF K hK
              have h138 : u 138 = .slice A j c := AK.facts_get hF 138 (by simp)
              clear hF
              simp only [h138] at hK ⊢
              clear h138
              go_simp
              refine (HTO.out _ (HWB.out _ hJ)).mono ?_
              rintro r_ w6_ ⟨⟨v_, rfl, ht_⟩, hb6_⟩
              exact hK.out _ _ hb6_ ht_ trivial
             refine AK.sc (lim := 0) (lo := 0) rfl rfl rfl rfl ?_ ?_
             ·intro k_ u w_ hk_ hl_ hJ hF K hK
              clear hF
              go_simp
              exact hK.out _ _ (Below.refl _ _) (rfl) trivial
             refine AK.sc (lim := 0) (lo := 0) rfl rfl rfl rfl ?_ ?_
             ·intro k_ u w_ hk_ hl_ hJ hF K hK
              have h137 : u 137 = GV := AK.facts_get hF 137 (by simp)
              have h139 : toP X (u 139) w_ := AK.facts_get hF 139 (by simp)
              have h140 : u 140 = .int .i64 nx := AK.facts_get hF 140 (by simp)
              clear hF
              obtain ⟨A2_, c2_, h139, hz2_⟩ := h139
              simp only [h137, h139, h140] at hK ⊢
              clear h137 h139 h140
              go_simp
              refine (HR3.out _ _ _ (HWB.out _ hJ) hz2_).mono ?_
              rintro r_ w6_ ⟨rfl, hb6_⟩
              exact hK.out _ _ hb6_ rfl trivial
             refine AK.sc (lim := 0) (lo := 0) rfl rfl rfl rfl ?_ ?_
             ·intro k_ u w_ hk_ hl_ hJ hF K hK
              have h141 : u 141 = .tuple #[.int .i64 x3, .int .i64 s3] := AK.facts_get hF 141 (by simp)
              clear hF
              simp only [h141] at hK ⊢
              clear h141
              go_simp
              exact hK.out _ _ (Below.refl _ _) (rfl) trivial
             refine AK.sc (lim := 0) (lo := 0) rfl rfl rfl rfl ?_ ?_
             ·intro k_ u w_ hk_ hl_ hJ hF K hK
              have h136 : u 136 = .tuple #[.int .i64 x3, .int .i64 s3] := AK.facts_get hF 136 (by simp)
              clear hF
              simp only [h136] at hK ⊢
              clear h136
              go_simp
              exact hK.out _ _ (Below.refl _ _) (rfl) trivial
             refine AK.sc (lim := 0) (lo := 0) rfl rfl rfl rfl ?_ ?_
             ·intro k_ u w_ hk_ hl_ hJ hF K hK
              have h136 : u 136 = .tuple #[.int .i64 x3, .int .i64 s3] := AK.facts_get hF 136 (by simp)
              clear hF
              simp only [h136] at hK ⊢
              clear h136
              go_simp
              exact hK.out _ _ (Below.refl _ _) (rfl) trivial
             refine AK.sc (lim := 0) (lo := 0) rfl rfl rfl rfl ?_ ?_
             ·intro k_ u w_ hk_ hl_ hJ hF K hK
              have h142 : u 142 = .int .i64 x3 := AK.facts_get hF 142 (by simp)
              clear hF
              simp only [h142] at hK ⊢
              clear h142
              go_simp
              exact hK.out _ _ (Below.refl _ _) (rfl) trivial
             refine AK.sc (lim := 0) (lo := 0) rfl rfl rfl rfl ?_ ?_
             ·intro k_ u w_ hk_ hl_ hJ hF K hK
              have h143 : u 143 = .int .i64 s3 := AK.facts_get hF 143 (by simp)
              clear hF
              simp only [h143] at hK ⊢
              clear h143
              go_simp
              exact hK.out _ _ (Below.refl _ _) (rfl) trivial
             exact AK.StepsOk.nil
            ·intro u W7 hJ7 hF
             have h22 : u 22 = .int .i64 x3 := AK.facts_get hF 22 (by simp [cy22F, AK.temps])
             have h23 : u 23 = .int .i64 s3 := AK.facts_get hF 23 (by simp [cy22F, AK.temps])
             clear hF
             have HB9 : Hid (Below w2.heap.size w2 W7) := Lib.hid (HWB.out _ hJ7)
             clear hJ7 HBC
             have HBC := HB9
             clear HB9 HWB
             simp only [h22, h23]
             clear h22 h23
             go_upto_region 23 with fail
             have HWB : Hid (∀ W, Below W7.heap.size W7 W → Below w2.heap.size w2 W) := Lib.hid (fun W h => HBC.out.trans (h.mono HBC.out.size))
             refine AK.region_facts (Rp := Below0) (Kp := Below0) (cy23F s0 j c A nx GV X) (fun _ _ W => Below W7.heap.size W7 W) [[], [], [146], [], [145, 147, 148], [149], [144], [144], [150], [151]] [] [[]] [0, 0, 0, 0, 0, 0, 0, 0, 0, 0] [0, 0, 0, 0, 0, 0, 0, 0, 0, 0] [] (fun u => by simp only [cy23F, AK.temps, List.map_cons, List.map_nil, fillL, List.setIfInBounds_toArray, List.set_cons_zero, List.set_cons_succ]; rfl) (by kernel_rfl) (by kernel_rfl) (fun _ _ h => h.size) (fun _ _ h => h) (fun _ _ _ _ hb h => h.trans (hb.mono h.size)) (dc_drew (Below.refl _ _)) ?_ ?_
             ·refine AK.sc (lim := 0) (lo := 0) rfl rfl rfl rfl ?_ ?_
              ·intro k_ u w_ hk_ hl_ hJ hF K hK
               clear hF
               refine wp_load_is 29 _ rfl (.pointer (some ⟨s0, 0, none⟩)) rfl GV (HLG.out _ (HWB.out _ hJ)) ?_
               exact hK.out _ _ (Below.refl _ _) rfl trivial
              refine AK.sc (lim := 0) (lo := 0) rfl rfl rfl rfl ?_ ?_
              ·intro k_ u w_ hk_ hl_ hJ hF K hK
               clear hF
               go_simp
               exact hK.out _ _ (Below.refl _ _) (rfl) trivial
              refine AK.sc (lim := 0) (lo := 0) rfl rfl rfl rfl ?_ ?_
              ·intro k_ u w_ hk_ hl_ hJ hF K hK
               have h146 : u 146 = .slice A j c := AK.facts_get hF 146 (by simp)
               clear hF
               simp only [h146] at hK ⊢
               clear h146
               go_simp
               refine (HTO.out _ (HWB.out _ hJ)).mono ?_
               rintro r_ w6_ ⟨⟨v_, rfl, ht_⟩, hb6_⟩
               exact hK.out _ _ hb6_ ht_ trivial
              refine AK.sc (lim := 0) (lo := 0) rfl rfl rfl rfl ?_ ?_
              ·intro k_ u w_ hk_ hl_ hJ hF K hK
               clear hF
               go_simp
               exact hK.out _ _ (Below.refl _ _) (rfl) trivial
              refine AK.sc (lim := 0) (lo := 0) rfl rfl rfl rfl ?_ ?_
              ·intro k_ u w_ hk_ hl_ hJ hF K hK
               have h145 : u 145 = GV := AK.facts_get hF 145 (by simp)
               have h147 : toP X (u 147) w_ := AK.facts_get hF 147 (by simp)
               have h148 : u 148 = .int .i64 nx := AK.facts_get hF 148 (by simp)
               clear hF
               obtain ⟨A2_, c2_, h147, hz2_⟩ := h147
               simp only [h145, h147, h148] at hK ⊢
               clear h145 h147 h148
               go_simp
               refine (HR4.out _ _ _ (HWB.out _ hJ) hz2_).mono ?_
               rintro r_ w6_ ⟨rfl, hb6_⟩
               exact hK.out _ _ hb6_ rfl trivial
              refine AK.sc (lim := 0) (lo := 0) rfl rfl rfl rfl ?_ ?_
              ·intro k_ u w_ hk_ hl_ hJ hF K hK
               have h149 : u 149 = .tuple #[.int .i64 0, .int .i64 0] := AK.facts_get hF 149 (by simp)
               clear hF
               simp only [h149] at hK ⊢
               clear h149
               go_simp
               exact hK.out _ _ (Below.refl _ _) (rfl) trivial
              refine AK.sc (lim := 0) (lo := 0) rfl rfl rfl rfl ?_ ?_
              ·intro k_ u w_ hk_ hl_ hJ hF K hK
               have h144 : u 144 = .tuple #[.int .i64 0, .int .i64 0] := AK.facts_get hF 144 (by simp)
               clear hF
               simp only [h144] at hK ⊢
               clear h144
               go_simp
               exact hK.out _ _ (Below.refl _ _) (rfl) trivial
              refine AK.sc (lim := 0) (lo := 0) rfl rfl rfl rfl ?_ ?_
              ·intro k_ u w_ hk_ hl_ hJ hF K hK
               have h144 : u 144 = .tuple #[.int .i64 0, .int .i64 0] := AK.facts_get hF 144 (by simp)
               clear hF
               simp only [h144] at hK ⊢
               clear h144
               go_simp
               exact hK.out _ _ (Below.refl _ _) (rfl) trivial
              refine AK.sc (lim := 0) (lo := 0) rfl rfl rfl rfl ?_ ?_
              ·intro k_ u w_ hk_ hl_ hJ hF K hK
               have h150 : u 150 = .int .i64 0 := AK.facts_get hF 150 (by simp)
               clear hF
               simp only [h150] at hK ⊢
               clear h150
               go_simp
               exact hK.out _ _ (Below.refl _ _) (rfl) trivial
              refine AK.sc (lim := 0) (lo := 0) rfl rfl rfl rfl ?_ ?_
              ·intro k_ u w_ hk_ hl_ hJ hF K hK
               have h151 : u 151 = .int .i64 0 := AK.facts_get hF 151 (by simp)
               clear hF
               simp only [h151] at hK ⊢
               clear h151
               go_simp
               exact hK.out _ _ (Below.refl _ _) (rfl) trivial
              exact AK.StepsOk.nil
             ·intro u W6 hJ6 hF
              have h24 : u 24 = .int .i64 0 := AK.facts_get hF 24 (by simp [cy23F, AK.temps])
              have h25 : u 25 = .int .i64 0 := AK.facts_get hF 25 (by simp [cy23F, AK.temps])
              clear hF
              have HB9 : Hid (Below w2.heap.size w2 W6) := Lib.hid (HWB.out _ hJ6)
              clear hJ6 HBC
              have HBC := HB9
              clear HB9 HWB
              simp only [h24, h25]
              clear h24 h25
              by_cases g1 : s1 = 0
              ·have f1 : (s1 != 0) = false := by simp [g1]
               by_cases g2 : s2 = 0
               ·have f2 : (s2 != 0) = false := by simp [g2]
                by_cases g3 : s3 = 0
                ·have f3 : (s3 != 0) = false := by simp [g3]
                 obtain ⟨k1, k2, k3⟩ := HSUM.out g1 g2 g3
                 have f4 : IntKind.i64.wrap (x1 + x2) = x3 := by rw [IntKind.wrap_i64]; omega
                 have f5 : wrap64 (x1 + x2) = x3 := by unfold wrap64; omega
                 have f6 : (x3 == x3) = true := by simp
                 clear g1 g2 g3 k1 k2 k3
                 go_wp2_with fail
                 go_ret
                 exact ⟨by first | rfl | simp, by have h9 := HBW.out _ HBC.out; first | exact h9 | (rw [← HS0.out]; exact h9)⟩
                ·have f3 : (s3 != 0) = true := by simp [g3]
                 clear g1 g2 g3
                 go_wp2_with fail
                 go_ret
                 exact ⟨by first | rfl | simp, by have h9 := HBW.out _ HBC.out; first | exact h9 | (rw [← HS0.out]; exact h9)⟩
               ·have f2 : (s2 != 0) = true := by simp [g2]
                clear g1 g2
                go_wp2_with fail
                go_ret
                exact ⟨by first | rfl | simp, by have h9 := HBW.out _ HBC.out; first | exact h9 | (rw [← HS0.out]; exact h9)⟩
              ·have f1 : (s1 != 0) = true := by simp [g1]
               clear g1
               go_wp2_with fail
               go_ret
               exact ⟨by first | rfl | simp, by have h9 := HBW.out _ HBC.out; first | exact h9 | (rw [← HS0.out]; exact h9)⟩
       ·have y2_ : (E != 0) = true := by simp [hE]
        clear hE hCE
        go_wp2_with (first
         | (go_at_call 10; refine (HSA.out _ _ _ _ _ HZ9.out HZ8.out).mono ?_; rintro r w5 ⟨rfl, hb⟩; have hB3 := Lib.hid (HBC.out.trans (hb.mono HBC.out.size)); clear HBC; have HBC := hB3; clear hB3; clear hb)
         | (clear HM3; refine wpList_load_is rfl 23 _ rfl (.pointer (some ⟨s0, 1, none⟩)) rfl CV (HLC.out _ HBC.out) ?_)
         | (go_at_call 12; refine (HFN.out _).mono ?_; rintro r w6 ⟨rfl, hb⟩; have hB3 := Lib.hid (HBC.out.trans (hb.mono HBC.out.size)); clear HBC; have HBC := hB3; clear hB3; clear hb))
        go_ret
        exact ⟨by first | rfl | simp, by have h9 := HBW.out _ HBC.out; first | exact h9 | (rw [← HS0.out]; exact h9)⟩
      ·have y1_ : (CE != 0) = true := by simp [hCE]
       clear hCE
       go_wp2_with (first
        | (go_at_call 10; refine (HSA.out _ _ _ _ _ HZ9.out HZ8.out).mono ?_; rintro r w5 ⟨rfl, hb⟩; have hB3 := Lib.hid (HBC.out.trans (hb.mono HBC.out.size)); clear HBC; have HBC := hB3; clear hB3; clear hb)
        | (clear HM3; refine wpList_load_is rfl 23 _ rfl (.pointer (some ⟨s0, 1, none⟩)) rfl CV (HLC.out _ HBC.out) ?_)
        | (go_at_call 12; refine (HFN.out _).mono ?_; rintro r w6 ⟨rfl, hb⟩; have hB3 := Lib.hid (HBC.out.trans (hb.mono HBC.out.size)); clear HBC; have HBC := hB3; clear hB3; clear hb))
       go_ret
       exact ⟨by first | rfl | simp, by have h9 := HBW.out _ HBC.out; first | exact h9 | (rw [← HS0.out]; exact h9)⟩
  ·have hd : decide ((60 : Int) < (n : Int)) = true := decide_eq_true (by omega)
   clear hsm HPL HQL HUL HVL HTL hl
   go_enter Tryz.func4, Tryz.ntmps4
   go_wp2_with (first
    | (clear HM1; first | (refine wpList_load_if rfl 29 _ rfl (.pointer (some ⟨s0, 0, none⟩)) rfl GV (HLG.out _ HBC.out) ?_) | (refine wpList_load_is rfl 29 _ rfl (.pointer (some ⟨s0, 0, none⟩)) rfl GV (HLG.out _ HBC.out) ?_))
    | (go_at_call 5; refine (HAW.out _).mono ?_; rintro r w3 ⟨rfl, hb⟩; have hB3 := Lib.hid (HBC.out.trans (hb.mono HBC.out.size)); clear HBC; have HBC := hB3; clear hB3; clear hb)
    | (go_at_call 6; refine (HFW.out _ HBC.out).mono ?_; rintro r w3 ⟨rfl, hb⟩; have hB3 := Lib.hid (HBC.out.trans (hb.mono HBC.out.size)); clear HBC; have HBC := hB3; clear hB3; clear hb))
   go_ret
   exact ⟨rfl, by have h9 := HBW.out _ HBC.out; first | exact h9 | (rw [← HS0.out]; exact h9)⟩
end Go.Proofs.YtompehjecamdiaaGreat
