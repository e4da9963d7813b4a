/- Contracts of the functions that the statements reach, part 10: what was proved of each, callees first. -/
import Derived.Test.YtacmccijnkojeaaGreatJC9
namespace Go.Proofs.YtacmccijnkojeaaGreat
open Go.RowKit
def rpFE (x y : Ety) (bb off n c k s0 : Nat) (_ob : Bool) : List (Nat × AK.Fact (Below0)) := [(45, AK.Fact.is (.slice (some ⟨bb, off, none⟩) n c)), (46, AK.Fact.is (.int .i64 (k : Int))), (47, AK.Fact.is (.pointer (some ⟨bb, off + k * 7, none⟩))), (48, AK.Fact.is (.pointer (some ⟨bb, off + k * 7 + 1, none⟩))), (49, AK.Fact.is (.int .i64 y.ent)), (50, AK.Fact.is (.pointer (some ⟨s0 + 1, 1, none⟩))), (51, AK.Fact.is (.int .i64 x.ent)), (52, AK.Fact.is (.bool true)), (53, AK.Fact.is (.bool true)), (54, AK.Fact.is (undef)), (55, AK.Fact.is (undef)), (56, AK.Fact.is (undef)), (57, AK.Fact.is (undef)), (58, AK.Fact.is (undef)), (59, AK.Fact.is (undef)), (60, AK.Fact.is (undef)), (61, AK.Fact.is (undef)), (62, AK.Fact.is (.bool true)), (63, AK.Fact.is (.bool true)), (64, AK.Fact.is (undef)), (65, AK.Fact.is (undef)), (66, AK.Fact.is (undef)), (67, AK.Fact.is (undef)), (68, AK.Fact.is (undef)), (69, AK.Fact.is (undef)), (70, AK.Fact.is (undef)), (71, AK.Fact.is (undef)), (72, AK.Fact.is (undef)), (73, AK.Fact.is (.bool true)), (44, AK.Fact.is (.bool true))]
def rpFD (x y : Ety) (bb off n c k s0 : Nat) (_ob : Bool) : List (Nat × AK.Fact (Below0)) := [(45, AK.Fact.is (.slice (some ⟨bb, off, none⟩) n c)), (46, AK.Fact.is (.int .i64 (k : Int))), (47, AK.Fact.is (.pointer (some ⟨bb, off + k * 7, none⟩))), (48, AK.Fact.is (.pointer (some ⟨bb, off + k * 7 + 1, none⟩))), (49, AK.Fact.is (.int .i64 y.ent)), (50, AK.Fact.is (.pointer (some ⟨s0 + 1, 1, none⟩))), (51, AK.Fact.is (.int .i64 x.ent)), (52, AK.Fact.is (.bool false)), (53, AK.Fact.is (.bool false)), (54, AK.Fact.is (.slice (some ⟨bb, off, none⟩) n c)), (55, AK.Fact.is (.int .i64 (k : Int))), (56, AK.Fact.is (.pointer (some ⟨bb, off + k * 7, none⟩))), (57, AK.Fact.is (.pointer (some ⟨bb, off + k * 7 + 2, none⟩))), (58, AK.Fact.is (.int .i64 y.day)), (59, AK.Fact.is (.pointer (some ⟨s0 + 1, 2, none⟩))), (60, AK.Fact.is (.int .i64 x.day)), (61, AK.Fact.is (.bool true)), (62, AK.Fact.is (.bool true)), (63, AK.Fact.is (.bool true)), (64, AK.Fact.is (undef)), (65, AK.Fact.is (undef)), (66, AK.Fact.is (undef)), (67, AK.Fact.is (undef)), (68, AK.Fact.is (undef)), (69, AK.Fact.is (undef)), (70, AK.Fact.is (undef)), (71, AK.Fact.is (undef)), (72, AK.Fact.is (undef)), (73, AK.Fact.is (.bool true)), (44, AK.Fact.is (.bool true))]
def rpFO (x y : Ety) (bb off n c k s0 : Nat) (ob : Bool) : List (Nat × AK.Fact (Below0)) := [(45, AK.Fact.is (.slice (some ⟨bb, off, none⟩) n c)), (46, AK.Fact.is (.int .i64 (k : Int))), (47, AK.Fact.is (.pointer (some ⟨bb, off + k * 7, none⟩))), (48, AK.Fact.is (.pointer (some ⟨bb, off + k * 7 + 1, none⟩))), (49, AK.Fact.is (.int .i64 y.ent)), (50, AK.Fact.is (.pointer (some ⟨s0 + 1, 1, none⟩))), (51, AK.Fact.is (.int .i64 x.ent)), (52, AK.Fact.is (.bool false)), (53, AK.Fact.is (.bool false)), (54, AK.Fact.is (.slice (some ⟨bb, off, none⟩) n c)), (55, AK.Fact.is (.int .i64 (k : Int))), (56, AK.Fact.is (.pointer (some ⟨bb, off + k * 7, none⟩))), (57, AK.Fact.is (.pointer (some ⟨bb, off + k * 7 + 2, none⟩))), (58, AK.Fact.is (.int .i64 y.day)), (59, AK.Fact.is (.pointer (some ⟨s0 + 1, 2, none⟩))), (60, AK.Fact.is (.int .i64 x.day)), (61, AK.Fact.is (.bool false)), (62, AK.Fact.is (.bool false)), (63, AK.Fact.is (.bool false)), (64, AK.Fact.is (.pointer (some ⟨s0 + 1, 6, none⟩))), (65, AK.Fact.is (.slice x.A x.n x.c)), (66, AK.Fact.is (.slice (some ⟨bb, off, none⟩) n c)), (67, AK.Fact.is (.int .i64 (k : Int))), (68, AK.Fact.is (.pointer (some ⟨bb, off + k * 7, none⟩))), (69, AK.Fact.is (.pointer (some ⟨bb, off + k * 7 + 6, none⟩))), (70, AK.Fact.is (.slice y.A y.n y.c)), (71, AK.Fact.is (.bool ob)), (72, AK.Fact.is (.bool (!ob))), (73, AK.Fact.is (.bool (!ob))), (44, AK.Fact.is (.bool (!ob)))]
theorem getP_neg {Es : List PE} {id : Int} (h : getP Es id < 0) : ¬ idxP Es id < Es.length := fun h1 => by unfold getP at h; rw [if_pos h1] at h; omega
theorem getP_pos {Es : List PE} {id : Int} (h : ¬ getP Es id < 0) : idxP Es id < Es.length ∧ getP Es id = (idxP Es id : Nat) := by
 unfold getP at h ⊢
 by_cases h1 : idxP Es id < Es.length
 ·rw [if_pos h1]; exact ⟨h1, rfl⟩
 ·rw [if_neg h1] at h; exact absurd (by omega) h
theorem rvE_at {Es : List PE} {x e : PE} (h : x.kind = 3) (he : Es[idxP Es x.of_]? = some e) : rvE Es x = if (decide (e.kind = 3) || decide (revP Es x.of_ ≠ 0)) = true then 7 else if (decide (e.ent ≠ x.ent) || (decide (x.day < e.day) || !oppB x.ls e.ls)) = true then 18 else 0 := by
 unfold rvE
 rw [if_pos h, he]
theorem rvE_at0 {Es : List PE} {x : PE} (h : x.kind = 3) (he : ¬ idxP Es x.of_ < Es.length) : rvE Es x = 8 := by
 unfold rvE
 rw [if_pos h, List.getElem?_eq_none (by omega)]
set_option maxRecDepth 100000 in
set_option maxHeartbeats 12800000 in
theorem r12post_any (g : Grp) (L : List Acc) (G : List Ent) (A : Option Addr) (c : Nat) (Xs : List Etl) (x : Ety) (X : List Lnk) (w : World) (hk : GrK w g L G) (hs : Sm g G) (hw : GrW g L G) (hz : RowAt lyX w A (Xs.map (·.1))) (hzs : EtysK w Xs) (hzn : ∀ p ∈ Xs, p.2.length ≤ 1000) (hl : Xs.length ≤ 100000) (hx : EtyK w x X) (hxn : x.n ≤ 1000) (ht : x.txt.size ≤ maxLen) :
  Calls Tryz.prog 11 #[grpV g, .slice A Xs.length c, etyV x] w fun e w' => e = .returned (.int .i64 (postE (rchkN (shpB (grpR g L G) g x X) (acB (G.getD x.ent.toNat ent0).L X) (rtlN g x X)) (Xs.map pe) (pe (x, X)))) ∧ Below w.heap.size w w' := by
 obtain ⟨GV, hGV⟩ : ∃ GV, GV = grpV g := ⟨_, rfl⟩
 obtain ⟨XV, hXV⟩ : ∃ XV, XV = etyV x := ⟨_, rfl⟩
 have HCK := Lib.hid (fun W (h : GrK W g L G) (h2 : EtyK W x X) => ercheck_any g x X L G W h hs hw h2 hxn ht)
 rw [← hGV, ← hXV] at HCK
 generalize rchkN (shpB (grpR g L G) g x X) (acB (G.getD x.ent.toNat ent0).L X) (rtlN g x X) = cc at *
 have HG1 := Lib.hid (fun W (h : RowAt lyX W A (Xs.map (·.1))) => r12get_any A c Xs x.id W h hl)
 have HG2 := Lib.hid (fun W (h : RowAt lyX W A (Xs.map (·.1))) => r12get_any A c Xs x.of_ W h hl)
 have HRV := Lib.hid (fun W (h : RowAt lyX W A (Xs.map (·.1))) => r12rev_any A c Xs x.of_ W h hl)
 obtain ⟨n, hn⟩ : ∃ n, Xs.length = n := ⟨_, rfl⟩
 have hEn : (Xs.map pe).length = n := by rw [List.length_map]; exact hn
 rw [hn] at HG1 HG2 HRV hl ⊢
 rw [grpV_is]
 obtain ⟨gs, hgs⟩ : ∃ gs, (grpC g).toArray = gs := ⟨_, rfl⟩
 obtain ⟨xs, hxs⟩ : ∃ xs, (etyC x).toArray = xs := ⟨_, rfl⟩
 have hxV : etyV x = .agg xs := by rw [etyV_is, hxs]
 rw [hgs, hxV]
 obtain ⟨s0, hs0⟩ : ∃ s0, w.heap.size = s0 := ⟨_, rfl⟩
 obtain ⟨w2, hw2⟩ : ∃ w2, (w.alloc (.cells gs 29)).alloc (.cells xs 42) = w2 := ⟨_, rfl⟩
 have HGB : Hid (Wh 29 w2 s0 (grpC g)) := Lib.hid (by rw [← hw2, ← hgs, ← hs0]; exact (Wh.new w _ _).up (below_alloc_new _))
 have HXB : Hid (Wh 42 w2 (s0 + 1) (etyC x)) := Lib.hid (by
  rw [← hw2, ← hxs, ← hs0]
  have h9 := Wh.new (w.alloc (.cells gs 29)) 42 (etyC x)
  rw [World.size_alloc] at h9
  exact h9)
 have HB2 : Hid (Below w.heap.size w w2) := Lib.hid (by rw [← hw2]; exact below_new (below_alloc_new _) _)
 have HS0 := Lib.hid hs0
 have HK2 := Lib.hid (hk.up HB2.out)
 have HX2 := Lib.hid (hx.up HB2.out)
 have HZ2 := Lib.hid (hz.up HB2.out)
 have HZS2 := Lib.hid (hzs.up HB2.out)
 have HLG : Hid ((Instr.loadAt 29 (.pointer (some ⟨s0, 0, none⟩))).run Tryz.prog w2 = .ok GV w2) := Lib.hid (by rw [hGV, grpV_is]; exact HGB.out.rg.load 0 29 (grpC g) rfl _ Tryz.underlying29 rfl (by kernel_rfl))
 have HLX : Hid ((Instr.loadAt 42 (.pointer (some ⟨s0 + 1, 0, none⟩))).run Tryz.prog w2 = .ok XV w2) := Lib.hid (by rw [hXV, etyV_is]; exact HXB.out.rg.load 0 42 (etyC x) rfl _ Tryz.underlying42 rfl (by kernel_rfl))
 have HXN := Lib.hid hxn
 have HEN := Lib.hid hEn
 have HNN := Lib.hid hn
 have HZN := Lib.hid hzn
 have hpid : (pe (x, X)).id = x.id := rfl
 have hpof : (pe (x, X)).of_ = x.of_ := rfl
 have hpk : (pe (x, X)).kind = x.kind := rfl
 obtain ⟨p, hp⟩ : ∃ p, pe (x, X) = p := ⟨_, rfl⟩
 have HP := Lib.hid hp
 rw [hp] at hpid hpof hpk ⊢
 have hPE : postE cc (Xs.map pe) p = fst4 cc (if getP (Xs.map pe) x.id < 0 then 0 else 9) (rvE (Xs.map pe) p) (if 2000 ≤ n then 6 else 0) := by
  unfold postE
  rw [hEn, hpid]
  congr 1
  unfold getP
  rw [hEn]
  by_cases h : idxP (Xs.map pe) x.id < n
  ·rw [if_pos h, if_pos h, if_neg (by omega)]
  ·rw [if_neg h, if_neg h, if_pos (by omega)]
 rw [hPE]
 have HPK := Lib.hid hpk
 have HPO := Lib.hid hpof
 clear hPE hk hx hz hzs hxV hgs hxs hGV hXV hs hw hp hn hEn
 generalize hg1 : getP (Xs.map pe) x.id = k1 at *
 generalize hg2 : getP (Xs.map pe) x.of_ = k2 at *
 generalize hrv : revP (Xs.map pe) x.of_ = k3 at *
 have HK2V := Lib.hid hg2
 have HRVV := Lib.hid hrv
 clear hg1 hg2 hrv
 have HM1 : True := trivial
 have HM2 : True := trivial
 have HM3 : True := trivial
 have HM4 : True := trivial
 by_cases hc : cc = 0
 ·subst hc
  by_cases h1 : k1 < 0
  ·have h1' : ¬ (0 : Int) ≤ k1 := by omega
   rw [if_pos h1]
   have hf : ∀ a b : Int, fst4 0 0 a b = if a = 0 then b else a := fun a b => by unfold fst4; rw [if_pos rfl, if_pos rfl]
   rw [hf]
   clear hf
   by_cases hkd : x.kind = 3
   ·by_cases h2 : k2 < 0
    ·rw [rvE_at0 (HPK.out.trans hkd) (by rw [HPO.out]; exact getP_neg (by rw [HK2V.out]; exact h2)), if_neg (by decide)]
     go_enter Tryz.func11, Tryz.ntmps11
     go_wp2_with (first
      | (clear HM1; refine wpList_load_is rfl 29 _ rfl (.pointer (some ⟨s0, 0, none⟩)) rfl GV HLG.out ?_)
      | (clear HM2; refine wpList_load_is rfl 42 _ rfl (.pointer (some ⟨s0 + 1, 0, none⟩)) rfl XV HLX.out ?_)
      | (go_at_call 33; refine (HCK.out _ HK2.out HX2.out).mono ?_; rintro e w3 ⟨rfl, hb⟩; have HB3 := Lib.hid hb; clear hb; have HX3 := Lib.hid (HXB.out.up HB3.out); have p0 := HX3.out.at 0 _ rfl; have p3 := HX3.out.at 3 _ rfl; have p4 := HX3.out.at 4 _ rfl; rw [hkd] at p3)
      | (go_at_call 20; first
        | (clear HM3; refine (HG1.out _ (HZ2.out.up HB3.out)).mono ?_; rintro e w4 ⟨rfl, rfl⟩)
        | (clear HM4; refine (HG2.out _ (HZ2.out.up HB3.out)).mono ?_; rintro e w4 ⟨rfl, rfl⟩; skip))
      | (go_at_call 25; refine (HRV.out _ (HZ2.out.up HB3.out)).mono ?_; rintro e w4 ⟨rfl, rfl⟩))
     go_ret
     exact ⟨by first | rfl | (simp), (by have h9 := HB2.out.trans (HB3.out.mono HB2.out.size); first | exact h9 | (rw [← HS0.out]; exact h9))⟩
    ·have h2' : (0 : Int) ≤ k2 := by omega
     obtain ⟨h3, h4⟩ := getP_pos (Es := Xs.map pe) (id := x.of_) (by rw [HK2V.out]; exact h2)
     obtain ⟨k, hkk⟩ : ∃ k, idxP (Xs.map pe) x.of_ = k := ⟨_, rfl⟩
     rw [hkk] at h3 h4
     have hk2 : k2 = (k : Int) := by rw [← HK2V.out]; exact h4
     subst hk2
     have hkn : k < n := by rw [← HEN.out]; exact h3
     obtain ⟨q, hq⟩ : ∃ q, Xs[k]? = some q := ⟨_, List.getElem?_eq_getElem (by rw [HNN.out]; exact hkn)⟩
     obtain ⟨y, Y⟩ := q
     have hqe : (Xs.map pe)[idxP (Xs.map pe) p.of_]? = some (pe (y, Y)) := by rw [HPO.out, hkk, List.getElem?_map, hq]; rfl
     have hrr := rvE_at (HPK.out.trans hkd) hqe
     rw [HPO.out, HRVV.out, ← HP.out] at hrr
     have hrr2 : rvE (Xs.map pe) p = if (decide (y.kind = 3) || decide (k3 ≠ 0)) = true then 7 else if (decide (y.ent ≠ x.ent) || (decide (x.day < y.day) || !oppB X Y)) = true then 18 else 0 := by rw [← HP.out]; exact hrr
     have HRR := Lib.hid hrr2
     have hmem : (y, Y) ∈ Xs := List.mem_of_getElem? hq
     have hYK := HZS2.out _ hmem
     have hYn := HZN.out _ hmem
     have hYln : Y.length = y.n := hYK.ln
     have hYn2 : Y.length ≤ 1000 := hYn
     obtain ⟨bb, off, hA, hbl, hrg⟩ := HZ2.out.at (i := k) (a := y) (by rw [List.getElem?_map, hq]; rfl)
     subst hA
     have HYC : ∀ jj v, (etyC y)[jj]? = some v → Hid (∀ W, Below w2.heap.size w2 W → W.cell? ⟨bb, off + k * 7 + jj, none⟩ = some v) := fun jj v hv => Lib.hid (fun W hW => (hW.cell (p := ⟨bb, off + k * 7 + jj, none⟩) hbl).trans (hrg jj v hv))
     have HY1 := HYC 1 _ rfl
     have HY2 := HYC 2 _ rfl
     have HY3 := HYC 3 _ rfl
     have HY6 := HYC 6 _ rfl
     have HYK := Lib.hid hYK
     have HOP := Lib.hid (fun W (h : LnkAt W x.A X) (h2 : LnkAt W y.A Y) => ropp_any x.A y.A x.c y.c X Y W h h2 (by have := HX2.out.ln; have := HXN.out; omega) (by omega))
     rw [HX2.out.ln, hYln] at HOP
     generalize oppB X Y = ob at *
     have hknz : (k : Int) < (n : Int) := by omega
     clear hrr hrr2 hqe hq hmem hYK hYn hYln hYn2 hbl hrg HYC hkk h3 h4 h2 HZS2 HZN
     by_cases hy3 : y.kind = 3
     ·rw [show rvE (Xs.map pe) p = 7 by rw [HRR.out]; simp [hy3]]
      rw [if_neg (by decide)]
      go_enter Tryz.func11, Tryz.ntmps11
      go_wp2_with (first
       | (clear HM1; refine wpList_load_is rfl 29 _ rfl (.pointer (some ⟨s0, 0, none⟩)) rfl GV HLG.out ?_)
       | (clear HM2; refine wpList_load_is rfl 42 _ rfl (.pointer (some ⟨s0 + 1, 0, none⟩)) rfl XV HLX.out ?_)
       | (go_at_call 33; refine (HCK.out _ HK2.out HX2.out).mono ?_; rintro e w3 ⟨rfl, hb⟩; have HB3 := Lib.hid hb; clear hb; have HX3 := Lib.hid (HXB.out.up HB3.out); have p0 := HX3.out.at 0 _ rfl; have p3 := HX3.out.at 3 _ rfl; have p4 := HX3.out.at 4 _ rfl; rw [hkd] at p3)
       | (go_at_call 20; first
         | (clear HM3; refine (HG1.out _ (HZ2.out.up HB3.out)).mono ?_; rintro e w4 ⟨rfl, rfl⟩)
         | (clear HM4; refine (HG2.out _ (HZ2.out.up HB3.out)).mono ?_; rintro e w4 ⟨rfl, rfl⟩; have q3 := HY3.out _ HB3.out; rw [hy3] at q3))
       | (go_at_call 25; refine (HRV.out _ (HZ2.out.up HB3.out)).mono ?_; rintro e w4 ⟨rfl, rfl⟩))
      go_ret
      exact ⟨by first | rfl | (simp), (by have h9 := HB2.out.trans (HB3.out.mono HB2.out.size); first | exact h9 | (rw [← HS0.out]; exact h9))⟩
     ·have hyq : (y.kind == 3) = false := by simp [hy3]
      by_cases hk3 : k3 = 0
      ·subst hk3
       by_cases he : y.ent = x.ent
       ·by_cases hd : x.day < y.day
        ·rw [show rvE (Xs.map pe) p = 18 by rw [HRR.out]; simp [hy3, hd]]
         rw [if_neg (by decide)]
         have HE1 : Hid ((y.ent != x.ent) = false) := Lib.hid (by simp [he])
         have HE2 : Hid (x.day < y.day) := Lib.hid hd
         clear he
         clear hd
         go_enter Tryz.func11, Tryz.ntmps11
         go_wp2_with (first
          | (clear HM1; refine wpList_load_is rfl 29 _ rfl (.pointer (some ⟨s0, 0, none⟩)) rfl GV HLG.out ?_)
          | (clear HM2; refine wpList_load_is rfl 42 _ rfl (.pointer (some ⟨s0 + 1, 0, none⟩)) rfl XV HLX.out ?_)
          | (go_at_call 33; refine (HCK.out _ HK2.out HX2.out).mono ?_; rintro e w3 ⟨rfl, hb⟩; have HB3 := Lib.hid hb; clear hb; have HX3 := Lib.hid (HXB.out.up HB3.out); have p0 := HX3.out.at 0 _ rfl; have p3 := HX3.out.at 3 _ rfl; have p4 := HX3.out.at 4 _ rfl; rw [hkd] at p3)
          | (go_at_call 20; first
            | (clear HM3; refine (HG1.out _ (HZ2.out.up HB3.out)).mono ?_; rintro e w4 ⟨rfl, rfl⟩)
            | (clear HM4; refine (HG2.out _ (HZ2.out.up HB3.out)).mono ?_; rintro e w4 ⟨rfl, rfl⟩; have q3 := HY3.out _ HB3.out; skip))
          | (go_at_call 25; refine (HRV.out _ (HZ2.out.up HB3.out)).mono ?_; rintro e w4 ⟨rfl, rfl⟩))
         have HY1_ := Lib.hid (fun W (h : Below w3.heap.size w3 W) => HY1.out W (HB3.out.trans (h.mono HB3.out.size)))
         have HY2_ := Lib.hid (fun W (h : Below w3.heap.size w3 W) => HY2.out W (HB3.out.trans (h.mono HB3.out.size)))
         have HY6_ := Lib.hid (fun W (h : Below w3.heap.size w3 W) => HY6.out W (HB3.out.trans (h.mono HB3.out.size)))
         have HXK_ := Lib.hid (HX2.out.up HB3.out)
         have HYK_ := Lib.hid (HYK.out.up HB3.out)
         clear HY1 HY2 HY6 HYK
         have HY1 := HY1_
         have HY2 := HY2_
         have HY6 := HY6_
         have HXK := HXK_
         have HYK := HYK_
         refine AK.region_facts (Rp := Below0) (Kp := Below0) (rpFD x y bb off n c k s0 ob) (fun _ _ W => Below w3.heap.size w3 W) [[], [], [45, 46], [47], [48], [], [50], [49, 51], [52], [53], [53], [54, 55, 53], [56, 53], [57, 53], [53], [59, 53], [58, 60, 53], [53, 61], [62], [63], [63], [63], [63], [63], [63], [63], [63], [63], [63, 72], [73]] [] [[]] [0, 0, 0, 0, 0, 0, 0, 0, 0, 0, 0, 0, 0, 0, 0, 0, 0, 0, 0, 0, 0, 0, 0, 0, 0, 0, 0, 0, 0, 0] [0, 0, 0, 0, 0, 0, 0, 0, 0, 0, 0, 0, 0, 0, 0, 0, 0, 0, 0, 0, 0, 0, 0, 0, 0, 0, 0, 0, 0, 0] [] (fun u => by simp only [rpFD, AK.temps, List.map_cons, List.map_nil, fillL, List.setIfInBounds_toArray, List.set_cons_zero, List.set_cons_succ]; rfl) (by kernel_rfl) (by kernel_rfl) (fun _ _ h => h.size) (fun _ _ h => h) (fun _ _ _ _ hb h => h.trans (hb.mono h.size)) (dc_drew (Below.refl _ _)) ?_ ?_
         ·refine AK.sc (lim := 0) (lo := 0) rfl rfl rfl rfl ?_ ?_
          ·intro k_ u w_ hk_ hl_ hJ hF K hK
           clear hF
           go_simp
           exact hK.out _ _ bR (rfl) trivial
          refine AK.sc (lim := 0) (lo := 0) rfl rfl rfl rfl ?_ ?_
          ·intro k_ u w_ hk_ hl_ hJ hF K hK
           clear hF
           go_simp
           exact hK.out _ _ bR (rfl) trivial
          refine AK.sc (lim := 0) (lo := 0) rfl rfl rfl rfl ?_ ?_
          ·intro k_ u w_ hk_ hl_ hJ hF K hK
           have h45 : u 45 = .slice (some ⟨bb, off, none⟩) n c := AK.facts_get hF 45 (by simp)
           have h46 : u 46 = .int .i64 (k : Int) := AK.facts_get hF 46 (by simp)
           clear hF
           simp only [h45, h46] at hK ⊢
           clear h45 h46
           go_simp
           exact hK.out _ _ bR (rfl) trivial
          refine AK.sc (lim := 0) (lo := 0) rfl rfl rfl rfl ?_ ?_
          ·intro k_ u w_ hk_ hl_ hJ hF K hK
           have h47 : u 47 = .pointer (some ⟨bb, off + k * 7, none⟩) := AK.facts_get hF 47 (by simp)
           clear hF
           simp only [h47] at hK ⊢
           clear h47
           go_simp
           exact hK.out _ _ bR (rfl) trivial
          refine AK.sc (lim := 0) (lo := 0) rfl rfl rfl rfl ?_ ?_
          ·intro k_ u w_ hk_ hl_ hJ hF K hK
           have h48 : u 48 = .pointer (some ⟨bb, off + k * 7 + 1, none⟩) := AK.facts_get hF 48 (by simp)
           clear hF
           simp only [h48] at hK ⊢
           clear h48
           have c_ := HY1.out _ hJ
           go_simp
           exact hK.out _ _ bR (rfl) trivial
          refine AK.sc (lim := 0) (lo := 0) rfl rfl rfl rfl ?_ ?_
          ·intro k_ u w_ hk_ hl_ hJ hF K hK
           clear hF
           go_simp
           exact hK.out _ _ bR (rfl) trivial
          refine AK.sc (lim := 0) (lo := 0) rfl rfl rfl rfl ?_ ?_
          ·intro k_ u w_ hk_ hl_ hJ hF K hK
           have h50 : u 50 = .pointer (some ⟨s0 + 1, 1, none⟩) := AK.facts_get hF 50 (by simp)
           clear hF
           simp only [h50] at hK ⊢
           clear h50
           have c_ := (HX3.out.up hJ).at 1 _ rfl
           go_simp
           exact hK.out _ _ bR (rfl) trivial
          refine AK.sc (lim := 0) (lo := 0) rfl rfl rfl rfl ?_ ?_
          ·intro k_ u w_ hk_ hl_ hJ hF K hK
           have h49 : u 49 = .int .i64 y.ent := AK.facts_get hF 49 (by simp)
           have h51 : u 51 = .int .i64 x.ent := AK.facts_get hF 51 (by simp)
           clear hF
           simp only [h49, h51] at hK ⊢
           clear h49 h51
           have e_ := HE1.out
           go_simp
           exact hK.out _ _ bR (rfl) trivial
          refine AK.sc (lim := 0) (lo := 0) rfl rfl rfl rfl ?_ ?_
          ·intro k_ u w_ hk_ hl_ hJ hF K hK
           have h52 : u 52 = .bool false := AK.facts_get hF 52 (by simp)
           clear hF
           simp only [h52] at hK ⊢
           clear h52
           go_simp
           exact hK.out _ _ bR (rfl) trivial
          refine AK.sc (lim := 0) (lo := 0) rfl rfl rfl rfl ?_ ?_
          ·intro k_ u w_ hk_ hl_ hJ hF K hK
           have h53 : u 53 = .bool false := AK.facts_get hF 53 (by simp)
           clear hF
           simp only [h53] at hK ⊢
           clear h53
           go_simp
           exact hK.out _ _ bR (rfl) trivial
          refine AK.sc (lim := 0) (lo := 0) rfl rfl rfl rfl ?_ ?_
          ·intro k_ u w_ hk_ hl_ hJ hF K hK
           have h53 : u 53 = .bool false := AK.facts_get hF 53 (by simp)
           clear hF
           simp only [h53] at hK ⊢
           clear h53
           go_simp
           exact hK.out _ _ bR (rfl) trivial
          refine AK.sc (lim := 0) (lo := 0) rfl rfl rfl rfl ?_ ?_
          ·intro k_ u w_ hk_ hl_ hJ hF K hK
           have h54 : u 54 = .slice (some ⟨bb, off, none⟩) n c := AK.facts_get hF 54 (by simp)
           have h55 : u 55 = .int .i64 (k : Int) := AK.facts_get hF 55 (by simp)
           have h53 : u 53 = .bool false := AK.facts_get hF 53 (by simp)
           clear hF
           simp only [h54, h55, h53] at hK ⊢
           clear h54 h55 h53
           go_simp
           exact hK.out _ _ bR (rfl) trivial
          refine AK.sc (lim := 0) (lo := 0) rfl rfl rfl rfl ?_ ?_
          ·intro k_ u w_ hk_ hl_ hJ hF K hK
           have h56 : u 56 = .pointer (some ⟨bb, off + k * 7, none⟩) := AK.facts_get hF 56 (by simp)
           have h53 : u 53 = .bool false := AK.facts_get hF 53 (by simp)
           clear hF
           simp only [h56, h53] at hK ⊢
           clear h56 h53
           go_simp
           exact hK.out _ _ bR (rfl) trivial
          refine AK.sc (lim := 0) (lo := 0) rfl rfl rfl rfl ?_ ?_
          ·intro k_ u w_ hk_ hl_ hJ hF K hK
           have h57 : u 57 = .pointer (some ⟨bb, off + k * 7 + 2, none⟩) := AK.facts_get hF 57 (by simp)
           have h53 : u 53 = .bool false := AK.facts_get hF 53 (by simp)
           clear hF
           simp only [h57, h53] at hK ⊢
           clear h57 h53
           have c_ := HY2.out _ hJ
           go_simp
           exact hK.out _ _ bR (rfl) trivial
          refine AK.sc (lim := 0) (lo := 0) rfl rfl rfl rfl ?_ ?_
          ·intro k_ u w_ hk_ hl_ hJ hF K hK
           have h53 : u 53 = .bool false := AK.facts_get hF 53 (by simp)
           clear hF
           simp only [h53] at hK ⊢
           clear h53
           go_simp
           exact hK.out _ _ bR (rfl) trivial
          refine AK.sc (lim := 0) (lo := 0) rfl rfl rfl rfl ?_ ?_
          ·intro k_ u w_ hk_ hl_ hJ hF K hK
           have h59 : u 59 = .pointer (some ⟨s0 + 1, 2, none⟩) := AK.facts_get hF 59 (by simp)
           have h53 : u 53 = .bool false := AK.facts_get hF 53 (by simp)
           clear hF
           simp only [h59, h53] at hK ⊢
           clear h59 h53
           have c_ := (HX3.out.up hJ).at 2 _ rfl
           go_simp
           exact hK.out _ _ bR (rfl) trivial
          refine AK.sc (lim := 0) (lo := 0) rfl rfl rfl rfl ?_ ?_
          ·intro k_ u w_ hk_ hl_ hJ hF K hK
           have h58 : u 58 = .int .i64 y.day := AK.facts_get hF 58 (by simp)
           have h60 : u 60 = .int .i64 x.day := AK.facts_get hF 60 (by simp)
           have h53 : u 53 = .bool false := AK.facts_get hF 53 (by simp)
           clear hF
           simp only [h58, h60, h53] at hK ⊢
           clear h58 h60 h53
           have e_ := HE2.out
           go_simp
           exact hK.out _ _ bR (rfl) trivial
          refine AK.sc (lim := 0) (lo := 0) rfl rfl rfl rfl ?_ ?_
          ·intro k_ u w_ hk_ hl_ hJ hF K hK
           have h53 : u 53 = .bool false := AK.facts_get hF 53 (by simp)
           have h61 : u 61 = .bool true := AK.facts_get hF 61 (by simp)
           clear hF
           simp only [h53, h61] at hK ⊢
           clear h53 h61
           go_simp
           exact hK.out _ _ bR (rfl) trivial
          refine AK.sc (lim := 0) (lo := 0) rfl rfl rfl rfl ?_ ?_
          ·intro k_ u w_ hk_ hl_ hJ hF K hK
           have h62 : u 62 = .bool true := AK.facts_get hF 62 (by simp)
           clear hF
           simp only [h62] at hK ⊢
           clear h62
           go_simp
           exact hK.out _ _ bR (rfl) trivial
          refine AK.sc (lim := 0) (lo := 0) rfl rfl rfl rfl ?_ ?_
          ·intro k_ u w_ hk_ hl_ hJ hF K hK
           have h63 : u 63 = .bool true := AK.facts_get hF 63 (by simp)
           clear hF
           simp only [h63] at hK ⊢
           clear h63
           go_simp
           exact hK.out _ _ bR (rfl) trivial
          refine AK.sc (lim := 0) (lo := 0) rfl rfl rfl rfl ?_ ?_
          ·intro k_ u w_ hk_ hl_ hJ hF K hK
           have h63 : u 63 = .bool true := AK.facts_get hF 63 (by simp)
           clear hF
           simp only [h63] at hK ⊢
           clear h63
           go_simp
           exact hK.out _ _ bR (rfl) trivial
          refine AK.sc (lim := 0) (lo := 0) rfl rfl rfl rfl ?_ ?_
          ·intro k_ u w_ hk_ hl_ hJ hF K hK
           have h63 : u 63 = .bool true := AK.facts_get hF 63 (by simp)
           clear hF
           simp only [h63] at hK ⊢
           clear h63
           go_simp
           exact hK.out _ _ bR (rfl) trivial
          refine AK.sc (lim := 0) (lo := 0) rfl rfl rfl rfl ?_ ?_
          ·intro k_ u w_ hk_ hl_ hJ hF K hK
           have h63 : u 63 = .bool true := AK.facts_get hF 63 (by simp)
           clear hF
           simp only [h63] at hK ⊢
           clear h63
           go_simp
           exact hK.out _ _ bR (rfl) trivial
          refine AK.sc (lim := 0) (lo := 0) rfl rfl rfl rfl ?_ ?_
          ·intro k_ u w_ hk_ hl_ hJ hF K hK
           have h63 : u 63 = .bool true := AK.facts_get hF 63 (by simp)
           clear hF
           simp only [h63] at hK ⊢
           clear h63
           go_simp
           exact hK.out _ _ bR (rfl) trivial
          refine AK.sc (lim := 0) (lo := 0) rfl rfl rfl rfl ?_ ?_
          ·intro k_ u w_ hk_ hl_ hJ hF K hK
           have h63 : u 63 = .bool true := AK.facts_get hF 63 (by simp)
           clear hF
           simp only [h63] at hK ⊢
           clear h63
           go_simp
           exact hK.out _ _ bR (rfl) trivial
          refine AK.sc (lim := 0) (lo := 0) rfl rfl rfl rfl ?_ ?_
          ·intro k_ u w_ hk_ hl_ hJ hF K hK
           have h63 : u 63 = .bool true := AK.facts_get hF 63 (by simp)
           clear hF
           simp only [h63] at hK ⊢
           clear h63
           go_simp
           exact hK.out _ _ bR (rfl) trivial
          refine AK.sc (lim := 0) (lo := 0) rfl rfl rfl rfl ?_ ?_
          ·intro k_ u w_ hk_ hl_ hJ hF K hK
           have h63 : u 63 = .bool true := AK.facts_get hF 63 (by simp)
           clear hF
           simp only [h63] at hK ⊢
           clear h63
           go_simp
           exact hK.out _ _ bR (rfl) trivial
          refine AK.sc (lim := 0) (lo := 0) rfl rfl rfl rfl ?_ ?_
          ·intro k_ u w_ hk_ hl_ hJ hF K hK
           have h63 : u 63 = .bool true := AK.facts_get hF 63 (by simp)
           clear hF
           simp only [h63] at hK ⊢
           clear h63
           go_simp
           exact hK.out _ _ bR (rfl) trivial
          refine AK.sc (lim := 0) (lo := 0) rfl rfl rfl rfl ?_ ?_
          ·intro k_ u w_ hk_ hl_ hJ hF K hK
           have h63 : u 63 = .bool true := AK.facts_get hF 63 (by simp)
           have h72 : u 72 = undef := AK.facts_get hF 72 (by simp)
           clear hF
           simp only [h63, h72] at hK ⊢
           clear h63 h72
           go_simp
           exact hK.out _ _ bR (rfl) trivial
          refine AK.sc (lim := 0) (lo := 0) rfl rfl rfl rfl ?_ ?_
          ·intro k_ u w_ hk_ hl_ hJ hF K hK
           have h73 : u 73 = .bool true := AK.facts_get hF 73 (by simp)
           clear hF
           simp only [h73] at hK ⊢
           clear h73
           go_simp
           exact hK.out _ _ bR (rfl) trivial
          exact AK.StepsOk.nil
         ·intro u W9 hJ9 hF
          have h44 : u 44 = .bool true := AK.facts_get hF 44 (by simp [rpFD, AK.temps])
          clear hF
          simp only [h44]
          clear h44
          go_wp2_with fail
          go_ret
          exact ⟨by first | rfl | simp, (by have h9 := HB2.out.trans ((HB3.out.trans (hJ9.mono HB3.out.size)).mono HB2.out.size); first | exact h9 | (rw [← HS0.out]; exact h9))⟩
        ·have HE1 : Hid ((y.ent != x.ent) = false) := Lib.hid (by simp [he])
         have HE2 : Hid (¬ x.day < y.day) := Lib.hid hd
         cases ob
         ·rw [show rvE (Xs.map pe) p = 18 by rw [HRR.out]; simp [hy3]]
          rw [if_neg (by decide)]
          clear he
          clear hd
          go_enter Tryz.func11, Tryz.ntmps11
          go_wp2_with (first
           | (clear HM1; refine wpList_load_is rfl 29 _ rfl (.pointer (some ⟨s0, 0, none⟩)) rfl GV HLG.out ?_)
           | (clear HM2; refine wpList_load_is rfl 42 _ rfl (.pointer (some ⟨s0 + 1, 0, none⟩)) rfl XV HLX.out ?_)
           | (go_at_call 33; refine (HCK.out _ HK2.out HX2.out).mono ?_; rintro e w3 ⟨rfl, hb⟩; have HB3 := Lib.hid hb; clear hb; have HX3 := Lib.hid (HXB.out.up HB3.out); have p0 := HX3.out.at 0 _ rfl; have p3 := HX3.out.at 3 _ rfl; have p4 := HX3.out.at 4 _ rfl; rw [hkd] at p3)
           | (go_at_call 20; first
             | (clear HM3; refine (HG1.out _ (HZ2.out.up HB3.out)).mono ?_; rintro e w4 ⟨rfl, rfl⟩)
             | (clear HM4; refine (HG2.out _ (HZ2.out.up HB3.out)).mono ?_; rintro e w4 ⟨rfl, rfl⟩; have q3 := HY3.out _ HB3.out; skip))
           | (go_at_call 25; refine (HRV.out _ (HZ2.out.up HB3.out)).mono ?_; rintro e w4 ⟨rfl, rfl⟩))
          have HY1_ := Lib.hid (fun W (h : Below w3.heap.size w3 W) => HY1.out W (HB3.out.trans (h.mono HB3.out.size)))
          have HY2_ := Lib.hid (fun W (h : Below w3.heap.size w3 W) => HY2.out W (HB3.out.trans (h.mono HB3.out.size)))
          have HY6_ := Lib.hid (fun W (h : Below w3.heap.size w3 W) => HY6.out W (HB3.out.trans (h.mono HB3.out.size)))
          have HXK_ := Lib.hid (HX2.out.up HB3.out)
          have HYK_ := Lib.hid (HYK.out.up HB3.out)
          clear HY1 HY2 HY6 HYK
          have HY1 := HY1_
          have HY2 := HY2_
          have HY6 := HY6_
          have HXK := HXK_
          have HYK := HYK_
          refine AK.region_facts (Rp := Below0) (Kp := Below0) (rpFO x y bb off n c k s0 false) (fun _ _ W => Below w3.heap.size w3 W) [[], [], [45, 46], [47], [48], [], [50], [49, 51], [52], [53], [53], [54, 55, 53], [56, 53], [57, 53], [53], [59, 53], [58, 60, 53], [53, 61], [62], [63], [64, 63], [63], [63], [66, 67, 63], [68, 63], [69, 63], [65, 70, 63], [71, 63], [63, 72], [73]] [] [[]] [0, 0, 0, 0, 0, 0, 0, 0, 0, 0, 0, 0, 0, 0, 0, 0, 0, 0, 0, 0, 0, 0, 0, 0, 0, 0, 0, 0, 0, 0] [0, 0, 0, 0, 0, 0, 0, 0, 0, 0, 0, 0, 0, 0, 0, 0, 0, 0, 0, 0, 0, 0, 0, 0, 0, 0, 0, 0, 0, 0] [] (fun u => by simp only [rpFO, AK.temps, List.map_cons, List.map_nil, fillL, List.setIfInBounds_toArray, List.set_cons_zero, List.set_cons_succ]; rfl) (by kernel_rfl) (by kernel_rfl) (fun _ _ h => h.size) (fun _ _ h => h) (fun _ _ _ _ hb h => h.trans (hb.mono h.size)) (dc_drew (Below.refl _ _)) ?_ ?_
          ·refine AK.sc (lim := 0) (lo := 0) rfl rfl rfl rfl ?_ ?_
           ·intro k_ u w_ hk_ hl_ hJ hF K hK
            clear hF
            go_simp
            exact hK.out _ _ bR (rfl) trivial
           refine AK.sc (lim := 0) (lo := 0) rfl rfl rfl rfl ?_ ?_
           ·intro k_ u w_ hk_ hl_ hJ hF K hK
            clear hF
            go_simp
            exact hK.out _ _ bR (rfl) trivial
           refine AK.sc (lim := 0) (lo := 0) rfl rfl rfl rfl ?_ ?_
           ·intro k_ u w_ hk_ hl_ hJ hF K hK
            have h45 : u 45 = .slice (some ⟨bb, off, none⟩) n c := AK.facts_get hF 45 (by simp)
            have h46 : u 46 = .int .i64 (k : Int) := AK.facts_get hF 46 (by simp)
            clear hF
            simp only [h45, h46] at hK ⊢
            clear h45 h46
            go_simp
            exact hK.out _ _ bR (rfl) trivial
           refine AK.sc (lim := 0) (lo := 0) rfl rfl rfl rfl ?_ ?_
           ·intro k_ u w_ hk_ hl_ hJ hF K hK
            have h47 : u 47 = .pointer (some ⟨bb, off + k * 7, none⟩) := AK.facts_get hF 47 (by simp)
            clear hF
            simp only [h47] at hK ⊢
            clear h47
            go_simp
            exact hK.out _ _ bR (rfl) trivial
           refine AK.sc (lim := 0) (lo := 0) rfl rfl rfl rfl ?_ ?_
           ·intro k_ u w_ hk_ hl_ hJ hF K hK
            have h48 : u 48 = .pointer (some ⟨bb, off + k * 7 + 1, none⟩) := AK.facts_get hF 48 (by simp)
            clear hF
            simp only [h48] at hK ⊢
            clear h48
            have c_ := HY1.out _ hJ
            go_simp
            exact hK.out _ _ bR (rfl) trivial
           refine AK.sc (lim := 0) (lo := 0) rfl rfl rfl rfl ?_ ?_
           ·intro k_ u w_ hk_ hl_ hJ hF K hK
            clear hF
            go_simp
            exact hK.out _ _ bR (rfl) trivial
           refine AK.sc (lim := 0) (lo := 0) rfl rfl rfl rfl ?_ ?_
           ·intro k_ u w_ hk_ hl_ hJ hF K hK
            have h50 : u 50 = .pointer (some ⟨s0 + 1, 1, none⟩) := AK.facts_get hF 50 (by simp)
            clear hF
            simp only [h50] at hK ⊢
            clear h50
            have c_ := (HX3.out.up hJ).at 1 _ rfl
            go_simp
            exact hK.out _ _ bR (rfl) trivial
           refine AK.sc (lim := 0) (lo := 0) rfl rfl rfl rfl ?_ ?_
           ·intro k_ u w_ hk_ hl_ hJ hF K hK
            have h49 : u 49 = .int .i64 y.ent := AK.facts_get hF 49 (by simp)
            have h51 : u 51 = .int .i64 x.ent := AK.facts_get hF 51 (by simp)
            clear hF
            simp only [h49, h51] at hK ⊢
            clear h49 h51
            have e_ := HE1.out
            go_simp
            exact hK.out _ _ bR (rfl) trivial
           refine AK.sc (lim := 0) (lo := 0) rfl rfl rfl rfl ?_ ?_
           ·intro k_ u w_ hk_ hl_ hJ hF K hK
            have h52 : u 52 = .bool false := AK.facts_get hF 52 (by simp)
            clear hF
            simp only [h52] at hK ⊢
            clear h52
            go_simp
            exact hK.out _ _ bR (rfl) trivial
           refine AK.sc (lim := 0) (lo := 0) rfl rfl rfl rfl ?_ ?_
           ·intro k_ u w_ hk_ hl_ hJ hF K hK
            have h53 : u 53 = .bool false := AK.facts_get hF 53 (by simp)
            clear hF
            simp only [h53] at hK ⊢
            clear h53
            go_simp
            exact hK.out _ _ bR (rfl) trivial
           refine AK.sc (lim := 0) (lo := 0) rfl rfl rfl rfl ?_ ?_
           ·intro k_ u w_ hk_ hl_ hJ hF K hK
            have h53 : u 53 = .bool false := AK.facts_get hF 53 (by simp)
            clear hF
            simp only [h53] at hK ⊢
            clear h53
            go_simp
            exact hK.out _ _ bR (rfl) trivial
           refine AK.sc (lim := 0) (lo := 0) rfl rfl rfl rfl ?_ ?_
           ·intro k_ u w_ hk_ hl_ hJ hF K hK
            have h54 : u 54 = .slice (some ⟨bb, off, none⟩) n c := AK.facts_get hF 54 (by simp)
            have h55 : u 55 = .int .i64 (k : Int) := AK.facts_get hF 55 (by simp)
            have h53 : u 53 = .bool false := AK.facts_get hF 53 (by simp)
            clear hF
            simp only [h54, h55, h53] at hK ⊢
            clear h54 h55 h53
            go_simp
            exact hK.out _ _ bR (rfl) trivial
           refine AK.sc (lim := 0) (lo := 0) rfl rfl rfl rfl ?_ ?_
           ·intro k_ u w_ hk_ hl_ hJ hF K hK
            have h56 : u 56 = .pointer (some ⟨bb, off + k * 7, none⟩) := AK.facts_get hF 56 (by simp)
            have h53 : u 53 = .bool false := AK.facts_get hF 53 (by simp)
            clear hF
            simp only [h56, h53] at hK ⊢
            clear h56 h53
            go_simp
            exact hK.out _ _ bR (rfl) trivial
           refine AK.sc (lim := 0) (lo := 0) rfl rfl rfl rfl ?_ ?_
           ·intro k_ u w_ hk_ hl_ hJ hF K hK
            have h57 : u 57 = .pointer (some ⟨bb, off + k * 7 + 2, none⟩) := AK.facts_get hF 57 (by simp)
            have h53 : u 53 = .bool false := AK.facts_get hF 53 (by simp)
            clear hF
            simp only [h57, h53] at hK ⊢
            clear h57 h53
            have c_ := HY2.out _ hJ
            go_simp
            exact hK.out _ _ bR (rfl) trivial
           refine AK.sc (lim := 0) (lo := 0) rfl rfl rfl rfl ?_ ?_
           ·intro k_ u w_ hk_ hl_ hJ hF K hK
            have h53 : u 53 = .bool false := AK.facts_get hF 53 (by simp)
            clear hF
            simp only [h53] at hK ⊢
            clear h53
            go_simp
            exact hK.out _ _ bR (rfl) trivial
           refine AK.sc (lim := 0) (lo := 0) rfl rfl rfl rfl ?_ ?_
           ·intro k_ u w_ hk_ hl_ hJ hF K hK
            have h59 : u 59 = .pointer (some ⟨s0 + 1, 2, none⟩) := AK.facts_get hF 59 (by simp)
            have h53 : u 53 = .bool false := AK.facts_get hF 53 (by simp)
            clear hF
            simp only [h59, h53] at hK ⊢
            clear h59 h53
            have c_ := (HX3.out.up hJ).at 2 _ rfl
            go_simp
            exact hK.out _ _ bR (rfl) trivial
           refine AK.sc (lim := 0) (lo := 0) rfl rfl rfl rfl ?_ ?_
           ·intro k_ u w_ hk_ hl_ hJ hF K hK
            have h58 : u 58 = .int .i64 y.day := AK.facts_get hF 58 (by simp)
            have h60 : u 60 = .int .i64 x.day := AK.facts_get hF 60 (by simp)
            have h53 : u 53 = .bool false := AK.facts_get hF 53 (by simp)
            clear hF
            simp only [h58, h60, h53] at hK ⊢
            clear h58 h60 h53
            go_simp
            exact hK.out _ _ bR (congrArg Value.bool (decide_eq_false (Int.not_lt.2 HE2.out))) trivial
           refine AK.sc (lim := 0) (lo := 0) rfl rfl rfl rfl ?_ ?_
           ·intro k_ u w_ hk_ hl_ hJ hF K hK
            have h53 : u 53 = .bool false := AK.facts_get hF 53 (by simp)
            have h61 : u 61 = .bool false := AK.facts_get hF 61 (by simp)
            clear hF
            simp only [h53, h61] at hK ⊢
            clear h53 h61
            go_simp
            exact hK.out _ _ bR (rfl) trivial
           refine AK.sc (lim := 0) (lo := 0) rfl rfl rfl rfl ?_ ?_
           ·intro k_ u w_ hk_ hl_ hJ hF K hK
            have h62 : u 62 = .bool false := AK.facts_get hF 62 (by simp)
            clear hF
            simp only [h62] at hK ⊢
            clear h62
            go_simp
            exact hK.out _ _ bR (rfl) trivial
           refine AK.sc (lim := 0) (lo := 0) rfl rfl rfl rfl ?_ ?_
           ·intro k_ u w_ hk_ hl_ hJ hF K hK
            have h63 : u 63 = .bool false := AK.facts_get hF 63 (by simp)
            clear hF
            simp only [h63] at hK ⊢
            clear h63
            go_simp
            exact hK.out _ _ bR (rfl) trivial
           refine AK.sc (lim := 0) (lo := 0) rfl rfl rfl rfl ?_ ?_
           ·intro k_ u w_ hk_ hl_ hJ hF K hK
            have h64 : u 64 = .pointer (some ⟨s0 + 1, 6, none⟩) := AK.facts_get hF 64 (by simp)
            have h63 : u 63 = .bool false := AK.facts_get hF 63 (by simp)
            clear hF
            simp only [h64, h63] at hK ⊢
            clear h64 h63
            have c_ := (HX3.out.up hJ).at 6 _ rfl
            go_simp
            exact hK.out _ _ bR (rfl) trivial
           refine AK.sc (lim := 0) (lo := 0) rfl rfl rfl rfl ?_ ?_
           ·intro k_ u w_ hk_ hl_ hJ hF K hK
            have h63 : u 63 = .bool false := AK.facts_get hF 63 (by simp)
            clear hF
            simp only [h63] at hK ⊢
            clear h63
            go_simp
            exact hK.out _ _ bR (rfl) trivial
           refine AK.sc (lim := 0) (lo := 0) rfl rfl rfl rfl ?_ ?_
           ·intro k_ u w_ hk_ hl_ hJ hF K hK
            have h63 : u 63 = .bool false := AK.facts_get hF 63 (by simp)
            clear hF
            simp only [h63] at hK ⊢
            clear h63
            go_simp
            exact hK.out _ _ bR (rfl) trivial
           refine AK.sc (lim := 0) (lo := 0) rfl rfl rfl rfl ?_ ?_
           ·intro k_ u w_ hk_ hl_ hJ hF K hK
            have h66 : u 66 = .slice (some ⟨bb, off, none⟩) n c := AK.facts_get hF 66 (by simp)
            have h67 : u 67 = .int .i64 (k : Int) := AK.facts_get hF 67 (by simp)
            have h63 : u 63 = .bool false := AK.facts_get hF 63 (by simp)
            clear hF
            simp only [h66, h67, h63] at hK ⊢
            clear h66 h67 h63
            go_simp
            exact hK.out _ _ bR (rfl) trivial
           refine AK.sc (lim := 0) (lo := 0) rfl rfl rfl rfl ?_ ?_
           ·intro k_ u w_ hk_ hl_ hJ hF K hK
            have h68 : u 68 = .pointer (some ⟨bb, off + k * 7, none⟩) := AK.facts_get hF 68 (by simp)
            have h63 : u 63 = .bool false := AK.facts_get hF 63 (by simp)
            clear hF
            simp only [h68, h63] at hK ⊢
            clear h68 h63
            go_simp
            exact hK.out _ _ bR (rfl) trivial
           refine AK.sc (lim := 0) (lo := 0) rfl rfl rfl rfl ?_ ?_
           ·intro k_ u w_ hk_ hl_ hJ hF K hK
            have h69 : u 69 = .pointer (some ⟨bb, off + k * 7 + 6, none⟩) := AK.facts_get hF 69 (by simp)
            have h63 : u 63 = .bool false := AK.facts_get hF 63 (by simp)
            clear hF
            simp only [h69, h63] at hK ⊢
            clear h69 h63
            have c_ := HY6.out _ hJ
            go_simp
            exact hK.out _ _ bR (rfl) trivial
           refine AK.sc (lim := 0) (lo := 0) rfl rfl rfl rfl ?_ ?_
           ·intro k_ u w_ hk_ hl_ hJ hF K hK
            have h65 : u 65 = .slice x.A x.n x.c := AK.facts_get hF 65 (by simp)
            have h70 : u 70 = .slice y.A y.n y.c := AK.facts_get hF 70 (by simp)
            have h63 : u 63 = .bool false := AK.facts_get hF 63 (by simp)
            clear hF
            simp only [h65, h70, h63] at hK ⊢
            clear h65 h70 h63
            go_simp
            refine (HOP.out _ (HXK.out.up hJ).hz (HYK.out.up hJ).hz).mono ?_
            rintro e w3 ⟨rfl, hb⟩
            exact hK.out _ _ hb (rfl) trivial
           refine AK.sc (lim := 0) (lo := 0) rfl rfl rfl rfl ?_ ?_
           ·intro k_ u w_ hk_ hl_ hJ hF K hK
            have h71 : u 71 = .bool false := AK.facts_get hF 71 (by simp)
            have h63 : u 63 = .bool false := AK.facts_get hF 63 (by simp)
            clear hF
            simp only [h71, h63] at hK ⊢
            clear h71 h63
            go_simp
            exact hK.out _ _ bR (rfl) trivial
           refine AK.sc (lim := 0) (lo := 0) rfl rfl rfl rfl ?_ ?_
           ·intro k_ u w_ hk_ hl_ hJ hF K hK
            have h63 : u 63 = .bool false := AK.facts_get hF 63 (by simp)
            have h72 : u 72 = .bool true := AK.facts_get hF 72 (by simp)
            clear hF
            simp only [h63, h72] at hK ⊢
            clear h63 h72
            go_simp
            exact hK.out _ _ bR (rfl) trivial
           refine AK.sc (lim := 0) (lo := 0) rfl rfl rfl rfl ?_ ?_
           ·intro k_ u w_ hk_ hl_ hJ hF K hK
            have h73 : u 73 = .bool true := AK.facts_get hF 73 (by simp)
            clear hF
            simp only [h73] at hK ⊢
            clear h73
            go_simp
            exact hK.out _ _ bR (rfl) trivial
           exact AK.StepsOk.nil
          ·intro u W9 hJ9 hF
           have h44 : u 44 = .bool true := AK.facts_get hF 44 (by simp [rpFO, AK.temps])
           clear hF
           simp only [h44]
           clear h44
           go_wp2_with fail
           go_ret
           exact ⟨by first | rfl | simp, (by have h9 := HB2.out.trans ((HB3.out.trans (hJ9.mono HB3.out.size)).mono HB2.out.size); first | exact h9 | (rw [← HS0.out]; exact h9))⟩
         ·rw [show rvE (Xs.map pe) p = 0 by rw [HRR.out]; simp [hy3, he, hd]]
          rw [if_pos rfl]
          by_cases hn2 : 2000 ≤ n
          ·have hnz : (2000 : Int) ≤ (n : Int) := by omega
           rw [if_pos hn2]
           clear he
           clear hd
           go_enter Tryz.func11, Tryz.ntmps11
           go_wp2_with (first
            | (clear HM1; refine wpList_load_is rfl 29 _ rfl (.pointer (some ⟨s0, 0, none⟩)) rfl GV HLG.out ?_)
            | (clear HM2; refine wpList_load_is rfl 42 _ rfl (.pointer (some ⟨s0 + 1, 0, none⟩)) rfl XV HLX.out ?_)
            | (go_at_call 33; refine (HCK.out _ HK2.out HX2.out).mono ?_; rintro e w3 ⟨rfl, hb⟩; have HB3 := Lib.hid hb; clear hb; have HX3 := Lib.hid (HXB.out.up HB3.out); have p0 := HX3.out.at 0 _ rfl; have p3 := HX3.out.at 3 _ rfl; have p4 := HX3.out.at 4 _ rfl; rw [hkd] at p3)
            | (go_at_call 20; first
              | (clear HM3; refine (HG1.out _ (HZ2.out.up HB3.out)).mono ?_; rintro e w4 ⟨rfl, rfl⟩)
              | (clear HM4; refine (HG2.out _ (HZ2.out.up HB3.out)).mono ?_; rintro e w4 ⟨rfl, rfl⟩; have q3 := HY3.out _ HB3.out; skip))
            | (go_at_call 25; refine (HRV.out _ (HZ2.out.up HB3.out)).mono ?_; rintro e w4 ⟨rfl, rfl⟩))
           have HY1_ := Lib.hid (fun W (h : Below w3.heap.size w3 W) => HY1.out W (HB3.out.trans (h.mono HB3.out.size)))
           have HY2_ := Lib.hid (fun W (h : Below w3.heap.size w3 W) => HY2.out W (HB3.out.trans (h.mono HB3.out.size)))
           have HY6_ := Lib.hid (fun W (h : Below w3.heap.size w3 W) => HY6.out W (HB3.out.trans (h.mono HB3.out.size)))
           have HXK_ := Lib.hid (HX2.out.up HB3.out)
           have HYK_ := Lib.hid (HYK.out.up HB3.out)
           clear HY1 HY2 HY6 HYK
           have HY1 := HY1_
           have HY2 := HY2_
           have HY6 := HY6_
           have HXK := HXK_
           have HYK := HYK_
           refine AK.region_facts (Rp := Below0) (Kp := Below0) (rpFO x y bb off n c k s0 true) (fun _ _ W => Below w3.heap.size w3 W) [[], [], [45, 46], [47], [48], [], [50], [49, 51], [52], [53], [53], [54, 55, 53], [56, 53], [57, 53], [53], [59, 53], [58, 60, 53], [53, 61], [62], [63], [64, 63], [63], [63], [66, 67, 63], [68, 63], [69, 63], [65, 70, 63], [71, 63], [63, 72], [73]] [] [[]] [0, 0, 0, 0, 0, 0, 0, 0, 0, 0, 0, 0, 0, 0, 0, 0, 0, 0, 0, 0, 0, 0, 0, 0, 0, 0, 0, 0, 0, 0] [0, 0, 0, 0, 0, 0, 0, 0, 0, 0, 0, 0, 0, 0, 0, 0, 0, 0, 0, 0, 0, 0, 0, 0, 0, 0, 0, 0, 0, 0] [] (fun u => by simp only [rpFO, AK.temps, List.map_cons, List.map_nil, fillL, List.setIfInBounds_toArray, List.set_cons_zero, List.set_cons_succ]; rfl) (by kernel_rfl) (by kernel_rfl) (fun _ _ h => h.size) (fun _ _ h => h) (fun _ _ _ _ hb h => h.trans (hb.mono h.size)) (dc_drew (Below.refl _ _)) ?_ ?_
           ·refine AK.sc (lim := 0) (lo := 0) rfl rfl rfl rfl ?_ ?_
            ·intro k_ u w_ hk_ hl_ hJ hF K hK
             clear hF
             go_simp
             exact hK.out _ _ bR (rfl) trivial
            refine AK.sc (lim := 0) (lo := 0) rfl rfl rfl rfl ?_ ?_
            ·intro k_ u w_ hk_ hl_ hJ hF K hK
             clear hF
             go_simp
             exact hK.out _ _ bR (rfl) trivial
            refine AK.sc (lim := 0) (lo := 0) rfl rfl rfl rfl ?_ ?_
            ·intro k_ u w_ hk_ hl_ hJ hF K hK
             have h45 : u 45 = .slice (some ⟨bb, off, none⟩) n c := AK.facts_get hF 45 (by simp)
             have h46 : u 46 = .int .i64 (k : Int) := AK.facts_get hF 46 (by simp)
             clear hF
             simp only [h45, h46] at hK ⊢
             clear h45 h46
             go_simp
             exact hK.out _ _ bR (rfl) trivial
            refine AK.sc (lim := 0) (lo := 0) rfl rfl rfl rfl ?_ ?_
            ·intro k_ u w_ hk_ hl_ hJ hF K hK
             have h47 : u 47 = .pointer (some ⟨bb, off + k * 7, none⟩) := AK.facts_get hF 47 (by simp)
             clear hF
             simp only [h47] at hK ⊢
             clear h47
             go_simp
             exact hK.out _ _ bR (rfl) trivial
            refine AK.sc (lim := 0) (lo := 0) rfl rfl rfl rfl ?_ ?_
            ·intro k_ u w_ hk_ hl_ hJ hF K hK
             have h48 : u 48 = .pointer (some ⟨bb, off + k * 7 + 1, none⟩) := AK.facts_get hF 48 (by simp)
             clear hF
             simp only [h48] at hK ⊢
             clear h48
             have c_ := HY1.out _ hJ
             go_simp
             exact hK.out _ _ bR (rfl) trivial
            refine AK.sc (lim := 0) (lo := 0) rfl rfl rfl rfl ?_ ?_
            ·intro k_ u w_ hk_ hl_ hJ hF K hK
             clear hF
             go_simp
             exact hK.out _ _ bR (rfl) trivial
            refine AK.sc (lim := 0) (lo := 0) rfl rfl rfl rfl ?_ ?_
            ·intro k_ u w_ hk_ hl_ hJ hF K hK
             have h50 : u 50 = .pointer (some ⟨s0 + 1, 1, none⟩) := AK.facts_get hF 50 (by simp)
             clear hF
             simp only [h50] at hK ⊢
             clear h50
             have c_ := (HX3.out.up hJ).at 1 _ rfl
             go_simp
             exact hK.out _ _ bR (rfl) trivial
            refine AK.sc (lim := 0) (lo := 0) rfl rfl rfl rfl ?_ ?_
            ·intro k_ u w_ hk_ hl_ hJ hF K hK
             have h49 : u 49 = .int .i64 y.ent := AK.facts_get hF 49 (by simp)
             have h51 : u 51 = .int .i64 x.ent := AK.facts_get hF 51 (by simp)
             clear hF
             simp only [h49, h51] at hK ⊢
             clear h49 h51
             have e_ := HE1.out
             go_simp
             exact hK.out _ _ bR (rfl) trivial
            refine AK.sc (lim := 0) (lo := 0) rfl rfl rfl rfl ?_ ?_
            ·intro k_ u w_ hk_ hl_ hJ hF K hK
             have h52 : u 52 = .bool false := AK.facts_get hF 52 (by simp)
             clear hF
             simp only [h52] at hK ⊢
             clear h52
             go_simp
             exact hK.out _ _ bR (rfl) trivial
            refine AK.sc (lim := 0) (lo := 0) rfl rfl rfl rfl ?_ ?_
            ·intro k_ u w_ hk_ hl_ hJ hF K hK
             have h53 : u 53 = .bool false := AK.facts_get hF 53 (by simp)
             clear hF
             simp only [h53] at hK ⊢
             clear h53
             go_simp
             exact hK.out _ _ bR (rfl) trivial
            refine AK.sc (lim := 0) (lo := 0) rfl rfl rfl rfl ?_ ?_
            ·intro k_ u w_ hk_ hl_ hJ hF K hK
             have h53 : u 53 = .bool false := AK.facts_get hF 53 (by simp)
             clear hF
             simp only [h53] at hK ⊢
             clear h53
             go_simp
             exact hK.out _ _ bR (rfl) trivial
            refine AK.sc (lim := 0) (lo := 0) rfl rfl rfl rfl ?_ ?_
            ·intro k_ u w_ hk_ hl_ hJ hF K hK
             have h54 : u 54 = .slice (some ⟨bb, off, none⟩) n c := AK.facts_get hF 54 (by simp)
             have h55 : u 55 = .int .i64 (k : Int) := AK.facts_get hF 55 (by simp)
             have h53 : u 53 = .bool false := AK.facts_get hF 53 (by simp)
             clear hF
             simp only [h54, h55, h53] at hK ⊢
             clear h54 h55 h53
             go_simp
             exact hK.out _ _ bR (rfl) trivial
            refine AK.sc (lim := 0) (lo := 0) rfl rfl rfl rfl ?_ ?_
            ·intro k_ u w_ hk_ hl_ hJ hF K hK
             have h56 : u 56 = .pointer (some ⟨bb, off + k * 7, none⟩) := AK.facts_get hF 56 (by simp)
             have h53 : u 53 = .bool false := AK.facts_get hF 53 (by simp)
             clear hF
             simp only [h56, h53] at hK ⊢
             clear h56 h53
             go_simp
             exact hK.out _ _ bR (rfl) trivial
            refine AK.sc (lim := 0) (lo := 0) rfl rfl rfl rfl ?_ ?_
            ·intro k_ u w_ hk_ hl_ hJ hF K hK
             have h57 : u 57 = .pointer (some ⟨bb, off + k * 7 + 2, none⟩) := AK.facts_get hF 57 (by simp)
             have h53 : u 53 = .bool false := AK.facts_get hF 53 (by simp)
             clear hF
             simp only [h57, h53] at hK ⊢
             clear h57 h53
             have c_ := HY2.out _ hJ
             go_simp
             exact hK.out _ _ bR (rfl) trivial
            refine AK.sc (lim := 0) (lo := 0) rfl rfl rfl rfl ?_ ?_
            ·intro k_ u w_ hk_ hl_ hJ hF K hK
             have h53 : u 53 = .bool false := AK.facts_get hF 53 (by simp)
             clear hF
             simp only [h53] at hK ⊢
             clear h53
             go_simp
             exact hK.out _ _ bR (rfl) trivial
            refine AK.sc (lim := 0) (lo := 0) rfl rfl rfl rfl ?_ ?_
            ·intro k_ u w_ hk_ hl_ hJ hF K hK
             have h59 : u 59 = .pointer (some ⟨s0 + 1, 2, none⟩) := AK.facts_get hF 59 (by simp)
             have h53 : u 53 = .bool false := AK.facts_get hF 53 (by simp)
             clear hF
             simp only [h59, h53] at hK ⊢
             clear h59 h53
             have c_ := (HX3.out.up hJ).at 2 _ rfl
             go_simp
             exact hK.out _ _ bR (rfl) trivial
            refine AK.sc (lim := 0) (lo := 0) rfl rfl rfl rfl ?_ ?_
            ·intro k_ u w_ hk_ hl_ hJ hF K hK
             have h58 : u 58 = .int .i64 y.day := AK.facts_get hF 58 (by simp)
             have h60 : u 60 = .int .i64 x.day := AK.facts_get hF 60 (by simp)
             have h53 : u 53 = .bool false := AK.facts_get hF 53 (by simp)
             clear hF
             simp only [h58, h60, h53] at hK ⊢
             clear h58 h60 h53
             go_simp
             exact hK.out _ _ bR (congrArg Value.bool (decide_eq_false (Int.not_lt.2 HE2.out))) trivial
            refine AK.sc (lim := 0) (lo := 0) rfl rfl rfl rfl ?_ ?_
            ·intro k_ u w_ hk_ hl_ hJ hF K hK
             have h53 : u 53 = .bool false := AK.facts_get hF 53 (by simp)
             have h61 : u 61 = .bool false := AK.facts_get hF 61 (by simp)
             clear hF
             simp only [h53, h61] at hK ⊢
             clear h53 h61
             go_simp
             exact hK.out _ _ bR (rfl) trivial
            refine AK.sc (lim := 0) (lo := 0) rfl rfl rfl rfl ?_ ?_
            ·intro k_ u w_ hk_ hl_ hJ hF K hK
             have h62 : u 62 = .bool false := AK.facts_get hF 62 (by simp)
             clear hF
             simp only [h62] at hK ⊢
             clear h62
             go_simp
             exact hK.out _ _ bR (rfl) trivial
            refine AK.sc (lim := 0) (lo := 0) rfl rfl rfl rfl ?_ ?_
            ·intro k_ u w_ hk_ hl_ hJ hF K hK
             have h63 : u 63 = .bool false := AK.facts_get hF 63 (by simp)
             clear hF
             simp only [h63] at hK ⊢
             clear h63
             go_simp
             exact hK.out _ _ bR (rfl) trivial
            refine AK.sc (lim := 0) (lo := 0) rfl rfl rfl rfl ?_ ?_
            ·intro k_ u w_ hk_ hl_ hJ hF K hK
             have h64 : u 64 = .pointer (some ⟨s0 + 1, 6, none⟩) := AK.facts_get hF 64 (by simp)
             have h63 : u 63 = .bool false := AK.facts_get hF 63 (by simp)
             clear hF
             simp only [h64, h63] at hK ⊢
             clear h64 h63
             have c_ := (HX3.out.up hJ).at 6 _ rfl
             go_simp
             exact hK.out _ _ bR (rfl) trivial
            refine AK.sc (lim := 0) (lo := 0) rfl rfl rfl rfl ?_ ?_
            ·intro k_ u w_ hk_ hl_ hJ hF K hK
             have h63 : u 63 = .bool false := AK.facts_get hF 63 (by simp)
             clear hF
             simp only [h63] at hK ⊢
             clear h63
             go_simp
             exact hK.out _ _ bR (rfl) trivial
            refine AK.sc (lim := 0) (lo := 0) rfl rfl rfl rfl ?_ ?_
            ·intro k_ u w_ hk_ hl_ hJ hF K hK
             have h63 : u 63 = .bool false := AK.facts_get hF 63 (by simp)
             clear hF
             simp only [h63] at hK ⊢
             clear h63
             go_simp
             exact hK.out _ _ bR (rfl) trivial
            refine AK.sc (lim := 0) (lo := 0) rfl rfl rfl rfl ?_ ?_
            ·intro k_ u w_ hk_ hl_ hJ hF K hK
             have h66 : u 66 = .slice (some ⟨bb, off, none⟩) n c := AK.facts_get hF 66 (by simp)
             have h67 : u 67 = .int .i64 (k : Int) := AK.facts_get hF 67 (by simp)
             have h63 : u 63 = .bool false := AK.facts_get hF 63 (by simp)
             clear hF
             simp only [h66, h67, h63] at hK ⊢
             clear h66 h67 h63
             go_simp
             exact hK.out _ _ bR (rfl) trivial
            refine AK.sc (lim := 0) (lo := 0) rfl rfl rfl rfl ?_ ?_
            ·intro k_ u w_ hk_ hl_ hJ hF K hK
             have h68 : u 68 = .pointer (some ⟨bb, off + k * 7, none⟩) := AK.facts_get hF 68 (by simp)
             have h63 : u 63 = .bool false := AK.facts_get hF 63 (by simp)
             clear hF
             simp only [h68, h63] at hK ⊢
             clear h68 h63
             go_simp
             exact hK.out _ _ bR (rfl) trivial
            refine AK.sc (lim := 0) (lo := 0) rfl rfl rfl rfl ?_ ?_
            ·intro k_ u w_ hk_ hl_ hJ hF K hK
             have h69 : u 69 = .pointer (some ⟨bb, off + k * 7 + 6, none⟩) := AK.facts_get hF 69 (by simp)
             have h63 : u 63 = .bool false := AK.facts_get hF 63 (by simp)
             clear hF
             simp only [h69, h63] at hK ⊢
             clear h69 h63
             have c_ := HY6.out _ hJ
             go_simp
             exact hK.out _ _ bR (rfl) trivial
            refine AK.sc (lim := 0) (lo := 0) rfl rfl rfl rfl ?_ ?_
            ·intro k_ u w_ hk_ hl_ hJ hF K hK
             have h65 : u 65 = .slice x.A x.n x.c := AK.facts_get hF 65 (by simp)
             have h70 : u 70 = .slice y.A y.n y.c := AK.facts_get hF 70 (by simp)
             have h63 : u 63 = .bool false := AK.facts_get hF 63 (by simp)
             clear hF
             simp only [h65, h70, h63] at hK ⊢
             clear h65 h70 h63
             go_simp
             refine (HOP.out _ (HXK.out.up hJ).hz (HYK.out.up hJ).hz).mono ?_
             rintro e w3 ⟨rfl, hb⟩
             exact hK.out _ _ hb (rfl) trivial
            refine AK.sc (lim := 0) (lo := 0) rfl rfl rfl rfl ?_ ?_
            ·intro k_ u w_ hk_ hl_ hJ hF K hK
             have h71 : u 71 = .bool true := AK.facts_get hF 71 (by simp)
             have h63 : u 63 = .bool false := AK.facts_get hF 63 (by simp)
             clear hF
             simp only [h71, h63] at hK ⊢
             clear h71 h63
             go_simp
             exact hK.out _ _ bR (rfl) trivial
            refine AK.sc (lim := 0) (lo := 0) rfl rfl rfl rfl ?_ ?_
            ·intro k_ u w_ hk_ hl_ hJ hF K hK
             have h63 : u 63 = .bool false := AK.facts_get hF 63 (by simp)
             have h72 : u 72 = .bool false := AK.facts_get hF 72 (by simp)
             clear hF
             simp only [h63, h72] at hK ⊢
             clear h63 h72
             go_simp
             exact hK.out _ _ bR (rfl) trivial
            refine AK.sc (lim := 0) (lo := 0) rfl rfl rfl rfl ?_ ?_
            ·intro k_ u w_ hk_ hl_ hJ hF K hK
             have h73 : u 73 = .bool false := AK.facts_get hF 73 (by simp)
             clear hF
             simp only [h73] at hK ⊢
             clear h73
             go_simp
             exact hK.out _ _ bR (rfl) trivial
            exact AK.StepsOk.nil
           ·intro u W9 hJ9 hF
            have h44 : u 44 = .bool false := AK.facts_get hF 44 (by simp [rpFO, AK.temps])
            clear hF
            simp only [h44]
            clear h44
            go_wp2_with fail
            go_ret
            exact ⟨by first | rfl | simp, (by have h9 := HB2.out.trans ((HB3.out.trans (hJ9.mono HB3.out.size)).mono HB2.out.size); first | exact h9 | (rw [← HS0.out]; exact h9))⟩
          ·have hnz : ¬ (2000 : Int) ≤ (n : Int) := by omega
           rw [if_neg hn2]
           clear he
           clear hd
           go_enter Tryz.func11, Tryz.ntmps11
           go_wp2_with (first
            | (clear HM1; refine wpList_load_is rfl 29 _ rfl (.pointer (some ⟨s0, 0, none⟩)) rfl GV HLG.out ?_)
            | (clear HM2; refine wpList_load_is rfl 42 _ rfl (.pointer (some ⟨s0 + 1, 0, none⟩)) rfl XV HLX.out ?_)
            | (go_at_call 33; refine (HCK.out _ HK2.out HX2.out).mono ?_; rintro e w3 ⟨rfl, hb⟩; have HB3 := Lib.hid hb; clear hb; have HX3 := Lib.hid (HXB.out.up HB3.out); have p0 := HX3.out.at 0 _ rfl; have p3 := HX3.out.at 3 _ rfl; have p4 := HX3.out.at 4 _ rfl; rw [hkd] at p3)
            | (go_at_call 20; first
              | (clear HM3; refine (HG1.out _ (HZ2.out.up HB3.out)).mono ?_; rintro e w4 ⟨rfl, rfl⟩)
              | (clear HM4; refine (HG2.out _ (HZ2.out.up HB3.out)).mono ?_; rintro e w4 ⟨rfl, rfl⟩; have q3 := HY3.out _ HB3.out; skip))
            | (go_at_call 25; refine (HRV.out _ (HZ2.out.up HB3.out)).mono ?_; rintro e w4 ⟨rfl, rfl⟩))
           have HY1_ := Lib.hid (fun W (h : Below w3.heap.size w3 W) => HY1.out W (HB3.out.trans (h.mono HB3.out.size)))
           have HY2_ := Lib.hid (fun W (h : Below w3.heap.size w3 W) => HY2.out W (HB3.out.trans (h.mono HB3.out.size)))
           have HY6_ := Lib.hid (fun W (h : Below w3.heap.size w3 W) => HY6.out W (HB3.out.trans (h.mono HB3.out.size)))
           have HXK_ := Lib.hid (HX2.out.up HB3.out)
           have HYK_ := Lib.hid (HYK.out.up HB3.out)
           clear HY1 HY2 HY6 HYK
           have HY1 := HY1_
           have HY2 := HY2_
           have HY6 := HY6_
           have HXK := HXK_
           have HYK := HYK_
           refine AK.region_facts (Rp := Below0) (Kp := Below0) (rpFO x y bb off n c k s0 true) (fun _ _ W => Below w3.heap.size w3 W) [[], [], [45, 46], [47], [48], [], [50], [49, 51], [52], [53], [53], [54, 55, 53], [56, 53], [57, 53], [53], [59, 53], [58, 60, 53], [53, 61], [62], [63], [64, 63], [63], [63], [66, 67, 63], [68, 63], [69, 63], [65, 70, 63], [71, 63], [63, 72], [73]] [] [[]] [0, 0, 0, 0, 0, 0, 0, 0, 0, 0, 0, 0, 0, 0, 0, 0, 0, 0, 0, 0, 0, 0, 0, 0, 0, 0, 0, 0, 0, 0] [0, 0, 0, 0, 0, 0, 0, 0, 0, 0, 0, 0, 0, 0, 0, 0, 0, 0, 0, 0, 0, 0, 0, 0, 0, 0, 0, 0, 0, 0] [] (fun u => by simp only [rpFO, AK.temps, List.map_cons, List.map_nil, fillL, List.setIfInBounds_toArray, List.set_cons_zero, List.set_cons_succ]; rfl) (by kernel_rfl) (by kernel_rfl) (fun _ _ h => h.size) (fun _ _ h => h) (fun _ _ _ _ hb h => h.trans (hb.mono h.size)) (dc_drew (Below.refl _ _)) ?_ ?_
           ·refine AK.sc (lim := 0) (lo := 0) rfl rfl rfl rfl ?_ ?_
            ·intro k_ u w_ hk_ hl_ hJ hF K hK
             clear hF
             go_simp
             exact hK.out _ _ bR (rfl) trivial
            refine AK.sc (lim := 0) (lo := 0) rfl rfl rfl rfl ?_ ?_
            ·intro k_ u w_ hk_ hl_ hJ hF K hK
             clear hF
             go_simp
             exact hK.out _ _ bR (rfl) trivial
            refine AK.sc (lim := 0) (lo := 0) rfl rfl rfl rfl ?_ ?_
            ·intro k_ u w_ hk_ hl_ hJ hF K hK
             have h45 : u 45 = .slice (some ⟨bb, off, none⟩) n c := AK.facts_get hF 45 (by simp)
             have h46 : u 46 = .int .i64 (k : Int) := AK.facts_get hF 46 (by simp)
             clear hF
             simp only [h45, h46] at hK ⊢
             clear h45 h46
             go_simp
             exact hK.out _ _ bR (rfl) trivial
            refine AK.sc (lim := 0) (lo := 0) rfl rfl rfl rfl ?_ ?_
            ·intro k_ u w_ hk_ hl_ hJ hF K hK
             have h47 : u 47 = .pointer (some ⟨bb, off + k * 7, none⟩) := AK.facts_get hF 47 (by simp)
             clear hF
             simp only [h47] at hK ⊢
             clear h47
             go_simp
             exact hK.out _ _ bR (rfl) trivial
            refine AK.sc (lim := 0) (lo := 0) rfl rfl rfl rfl ?_ ?_
            ·intro k_ u w_ hk_ hl_ hJ hF K hK
             have h48 : u 48 = .pointer (some ⟨bb, off + k * 7 + 1, none⟩) := AK.facts_get hF 48 (by simp)
             clear hF
             simp only [h48] at hK ⊢
             clear h48
             have c_ := HY1.out _ hJ
             go_simp
             exact hK.out _ _ bR (rfl) trivial
            refine AK.sc (lim := 0) (lo := 0) rfl rfl rfl rfl ?_ ?_
            ·intro k_ u w_ hk_ hl_ hJ hF K hK
             clear hF
             go_simp
             exact hK.out _ _ bR (rfl) trivial
            refine AK.sc (lim := 0) (lo := 0) rfl rfl rfl rfl ?_ ?_
            ·intro k_ u w_ hk_ hl_ hJ hF K hK
             have h50 : u 50 = .pointer (some ⟨s0 + 1, 1, none⟩) := AK.facts_get hF 50 (by simp)
             clear hF
             simp only [h50] at hK ⊢
             clear h50
             have c_ := (HX3.out.up hJ).at 1 _ rfl
             go_simp
             exact hK.out _ _ bR (rfl) trivial
            refine AK.sc (lim := 0) (lo := 0) rfl rfl rfl rfl ?_ ?_
            ·intro k_ u w_ hk_ hl_ hJ hF K hK
             have h49 : u 49 = .int .i64 y.ent := AK.facts_get hF 49 (by simp)
             have h51 : u 51 = .int .i64 x.ent := AK.facts_get hF 51 (by simp)
             clear hF
             simp only [h49, h51] at hK ⊢
             clear h49 h51
             have e_ := HE1.out
             go_simp
             exact hK.out _ _ bR (rfl) trivial
            refine AK.sc (lim := 0) (lo := 0) rfl rfl rfl rfl ?_ ?_
            ·intro k_ u w_ hk_ hl_ hJ hF K hK
             have h52 : u 52 = .bool false := AK.facts_get hF 52 (by simp)
             clear hF
             simp only [h52] at hK ⊢
             clear h52
             go_simp
             exact hK.out _ _ bR (rfl) trivial
            refine AK.sc (lim := 0) (lo := 0) rfl rfl rfl rfl ?_ ?_
            ·intro k_ u w_ hk_ hl_ hJ hF K hK
             have h53 : u 53 = .bool false := AK.facts_get hF 53 (by simp)
             clear hF
             simp only [h53] at hK ⊢
             clear h53
             go_simp
             exact hK.out _ _ bR (rfl) trivial
            refine AK.sc (lim := 0) (lo := 0) rfl rfl rfl rfl ?_ ?_
            ·intro k_ u w_ hk_ hl_ hJ hF K hK
             have h53 : u 53 = .bool false := AK.facts_get hF 53 (by simp)
             clear hF
             simp only [h53] at hK ⊢
             clear h53
             go_simp
             exact hK.out _ _ bR (rfl) trivial
            refine AK.sc (lim := 0) (lo := 0) rfl rfl rfl rfl ?_ ?_
            ·intro k_ u w_ hk_ hl_ hJ hF K hK
             have h54 : u 54 = .slice (some ⟨bb, off, none⟩) n c := AK.facts_get hF 54 (by simp)
             have h55 : u 55 = .int .i64 (k : Int) := AK.facts_get hF 55 (by simp)
             have h53 : u 53 = .bool false := AK.facts_get hF 53 (by simp)
             clear hF
             simp only [h54, h55, h53] at hK ⊢
             clear h54 h55 h53
             go_simp
             exact hK.out _ _ bR (rfl) trivial
            refine AK.sc (lim := 0) (lo := 0) rfl rfl rfl rfl ?_ ?_
            ·intro k_ u w_ hk_ hl_ hJ hF K hK
             have h56 : u 56 = .pointer (some ⟨bb, off + k * 7, none⟩) := AK.facts_get hF 56 (by simp)
             have h53 : u 53 = .bool false := AK.facts_get hF 53 (by simp)
             clear hF
             simp only [h56, h53] at hK ⊢
             clear h56 h53
             go_simp
             exact hK.out _ _ bR (rfl) trivial
            refine AK.sc (lim := 0) (lo := 0) rfl rfl rfl rfl ?_ ?_
            ·intro k_ u w_ hk_ hl_ hJ hF K hK
             have h57 : u 57 = .pointer (some ⟨bb, off + k * 7 + 2, none⟩) := AK.facts_get hF 57 (by simp)
             have h53 : u 53 = .bool false := AK.facts_get hF 53 (by simp)
             clear hF
             simp only [h57, h53] at hK ⊢
             clear h57 h53
             have c_ := HY2.out _ hJ
             go_simp
             exact hK.out _ _ bR (rfl) trivial
            refine AK.sc (lim := 0) (lo := 0) rfl rfl rfl rfl ?_ ?_
            ·intro k_ u w_ hk_ hl_ hJ hF K hK
             have h53 : u 53 = .bool false := AK.facts_get hF 53 (by simp)
             clear hF
             simp only [h53] at hK ⊢
             clear h53
             go_simp
             exact hK.out _ _ bR (rfl) trivial
            refine AK.sc (lim := 0) (lo := 0) rfl rfl rfl rfl ?_ ?_
            ·intro k_ u w_ hk_ hl_ hJ hF K hK
             have h59 : u 59 = .pointer (some ⟨s0 + 1, 2, none⟩) := AK.facts_get hF 59 (by simp)
             have h53 : u 53 = .bool false := AK.facts_get hF 53 (by simp)
             clear hF
             simp only [h59, h53] at hK ⊢
             clear h59 h53
             have c_ := (HX3.out.up hJ).at 2 _ rfl
             go_simp
             exact hK.out _ _ bR (rfl) trivial
            refine AK.sc (lim := 0) (lo := 0) rfl rfl rfl rfl ?_ ?_
            ·intro k_ u w_ hk_ hl_ hJ hF K hK
             have h58 : u 58 = .int .i64 y.day := AK.facts_get hF 58 (by simp)
             have h60 : u 60 = .int .i64 x.day := AK.facts_get hF 60 (by simp)
             have h53 : u 53 = .bool false := AK.facts_get hF 53 (by simp)
             clear hF
             simp only [h58, h60, h53] at hK ⊢
             clear h58 h60 h53
             go_simp
             exact hK.out _ _ bR (congrArg Value.bool (decide_eq_false (Int.not_lt.2 HE2.out))) trivial
            refine AK.sc (lim := 0) (lo := 0) rfl rfl rfl rfl ?_ ?_
            ·intro k_ u w_ hk_ hl_ hJ hF K hK
             have h53 : u 53 = .bool false := AK.facts_get hF 53 (by simp)
             have h61 : u 61 = .bool false := AK.facts_get hF 61 (by simp)
             clear hF
             simp only [h53, h61] at hK ⊢
             clear h53 h61
             go_simp
             exact hK.out _ _ bR (rfl) trivial
            refine AK.sc (lim := 0) (lo := 0) rfl rfl rfl rfl ?_ ?_
            ·intro k_ u w_ hk_ hl_ hJ hF K hK
             have h62 : u 62 = .bool false := AK.facts_get hF 62 (by simp)
             clear hF
             simp only [h62] at hK ⊢
             clear h62
             go_simp
             exact hK.out _ _ bR (rfl) trivial
            refine AK.sc (lim := 0) (lo := 0) rfl rfl rfl rfl ?_ ?_
            ·intro k_ u w_ hk_ hl_ hJ hF K hK
             have h63 : u 63 = .bool false := AK.facts_get hF 63 (by simp)
             clear hF
             simp only [h63] at hK ⊢
             clear h63
             go_simp
             exact hK.out _ _ bR (rfl) trivial
            refine AK.sc (lim := 0) (lo := 0) rfl rfl rfl rfl ?_ ?_
            ·intro k_ u w_ hk_ hl_ hJ hF K hK
             have h64 : u 64 = .pointer (some ⟨s0 + 1, 6, none⟩) := AK.facts_get hF 64 (by simp)
             have h63 : u 63 = .bool false := AK.facts_get hF 63 (by simp)
             clear hF
             simp only [h64, h63] at hK ⊢
             clear h64 h63
             have c_ := (HX3.out.up hJ).at 6 _ rfl
             go_simp
             exact hK.out _ _ bR (rfl) trivial
            refine AK.sc (lim := 0) (lo := 0) rfl rfl rfl rfl ?_ ?_
            ·intro k_ u w_ hk_ hl_ hJ hF K hK
             have h63 : u 63 = .bool false := AK.facts_get hF 63 (by simp)
             clear hF
             simp only [h63] at hK ⊢
             clear h63
             go_simp
             exact hK.out _ _ bR (rfl) trivial
            refine AK.sc (lim := 0) (lo := 0) rfl rfl rfl rfl ?_ ?_
            ·intro k_ u w_ hk_ hl_ hJ hF K hK
             have h63 : u 63 = .bool false := AK.facts_get hF 63 (by simp)
             clear hF
             simp only [h63] at hK ⊢
             clear h63
             go_simp
             exact hK.out _ _ bR (rfl) trivial
            refine AK.sc (lim := 0) (lo := 0) rfl rfl rfl rfl ?_ ?_
            ·intro k_ u w_ hk_ hl_ hJ hF K hK
             have h66 : u 66 = .slice (some ⟨bb, off, none⟩) n c := AK.facts_get hF 66 (by simp)
             have h67 : u 67 = .int .i64 (k : Int) := AK.facts_get hF 67 (by simp)
             have h63 : u 63 = .bool false := AK.facts_get hF 63 (by simp)
             clear hF
             simp only [h66, h67, h63] at hK ⊢
             clear h66 h67 h63
             go_simp
             exact hK.out _ _ bR (rfl) trivial
            refine AK.sc (lim := 0) (lo := 0) rfl rfl rfl rfl ?_ ?_
            ·intro k_ u w_ hk_ hl_ hJ hF K hK
             have h68 : u 68 = .pointer (some ⟨bb, off + k * 7, none⟩) := AK.facts_get hF 68 (by simp)
             have h63 : u 63 = .bool false := AK.facts_get hF 63 (by simp)
             clear hF
             simp only [h68, h63] at hK ⊢
             clear h68 h63
             go_simp
             exact hK.out _ _ bR (rfl) trivial
            refine AK.sc (lim := 0) (lo := 0) rfl rfl rfl rfl ?_ ?_
            ·intro k_ u w_ hk_ hl_ hJ hF K hK
             have h69 : u 69 = .pointer (some ⟨bb, off + k * 7 + 6, none⟩) := AK.facts_get hF 69 (by simp)
             have h63 : u 63 = .bool false := AK.facts_get hF 63 (by simp)
             clear hF
             simp only [h69, h63] at hK ⊢
             clear h69 h63
             have c_ := HY6.out _ hJ
             go_simp
             exact hK.out _ _ bR (rfl) trivial
            refine AK.sc (lim := 0) (lo := 0) rfl rfl rfl rfl ?_ ?_
            ·intro k_ u w_ hk_ hl_ hJ hF K hK
             have h65 : u 65 = .slice x.A x.n x.c := AK.facts_get hF 65 (by simp)
             have h70 : u 70 = .slice y.A y.n y.c := AK.facts_get hF 70 (by simp)
             have h63 : u 63 = .bool false := AK.facts_get hF 63 (by simp)
             clear hF
             simp only [h65, h70, h63] at hK ⊢
             clear h65 h70 h63
             go_simp
             refine (HOP.out _ (HXK.out.up hJ).hz (HYK.out.up hJ).hz).mono ?_
             rintro e w3 ⟨rfl, hb⟩
             exact hK.out _ _ hb (rfl) trivial
            refine AK.sc (lim := 0) (lo := 0) rfl rfl rfl rfl ?_ ?_
            ·intro k_ u w_ hk_ hl_ hJ hF K hK
             have h71 : u 71 = .bool true := AK.facts_get hF 71 (by simp)
             have h63 : u 63 = .bool false := AK.facts_get hF 63 (by simp)
             clear hF
             simp only [h71, h63] at hK ⊢
             clear h71 h63
             go_simp
             exact hK.out _ _ bR (rfl) trivial
            refine AK.sc (lim := 0) (lo := 0) rfl rfl rfl rfl ?_ ?_
            ·intro k_ u w_ hk_ hl_ hJ hF K hK
             have h63 : u 63 = .bool false := AK.facts_get hF 63 (by simp)
             have h72 : u 72 = .bool false := AK.facts_get hF 72 (by simp)
             clear hF
             simp only [h63, h72] at hK ⊢
             clear h63 h72
             go_simp
             exact hK.out _ _ bR (rfl) trivial
            refine AK.sc (lim := 0) (lo := 0) rfl rfl rfl rfl ?_ ?_
            ·intro k_ u w_ hk_ hl_ hJ hF K hK
             have h73 : u 73 = .bool false := AK.facts_get hF 73 (by simp)
             clear hF
             simp only [h73] at hK ⊢
             clear h73
             go_simp
             exact hK.out _ _ bR (rfl) trivial
            exact AK.StepsOk.nil
           ·intro u W9 hJ9 hF
            have h44 : u 44 = .bool false := AK.facts_get hF 44 (by simp [rpFO, AK.temps])
            clear hF
            simp only [h44]
            clear h44
            go_wp2_with fail
            go_ret
            exact ⟨by first | rfl | simp, (by have h9 := HB2.out.trans ((HB3.out.trans (hJ9.mono HB3.out.size)).mono HB2.out.size); first | exact h9 | (rw [← HS0.out]; exact h9))⟩
       ·rw [show rvE (Xs.map pe) p = 18 by rw [HRR.out]; simp [hy3, he]]
        rw [if_neg (by decide)]
        have HE1 : Hid ((y.ent != x.ent) = true) := Lib.hid (by simp [he])
        clear he
        go_enter Tryz.func11, Tryz.ntmps11
        go_wp2_with (first
         | (clear HM1; refine wpList_load_is rfl 29 _ rfl (.pointer (some ⟨s0, 0, none⟩)) rfl GV HLG.out ?_)
         | (clear HM2; refine wpList_load_is rfl 42 _ rfl (.pointer (some ⟨s0 + 1, 0, none⟩)) rfl XV HLX.out ?_)
         | (go_at_call 33; refine (HCK.out _ HK2.out HX2.out).mono ?_; rintro e w3 ⟨rfl, hb⟩; have HB3 := Lib.hid hb; clear hb; have HX3 := Lib.hid (HXB.out.up HB3.out); have p0 := HX3.out.at 0 _ rfl; have p3 := HX3.out.at 3 _ rfl; have p4 := HX3.out.at 4 _ rfl; rw [hkd] at p3)
         | (go_at_call 20; first
           | (clear HM3; refine (HG1.out _ (HZ2.out.up HB3.out)).mono ?_; rintro e w4 ⟨rfl, rfl⟩)
           | (clear HM4; refine (HG2.out _ (HZ2.out.up HB3.out)).mono ?_; rintro e w4 ⟨rfl, rfl⟩; have q3 := HY3.out _ HB3.out; skip))
         | (go_at_call 25; refine (HRV.out _ (HZ2.out.up HB3.out)).mono ?_; rintro e w4 ⟨rfl, rfl⟩))
        have HY1_ := Lib.hid (fun W (h : Below w3.heap.size w3 W) => HY1.out W (HB3.out.trans (h.mono HB3.out.size)))
        have HY2_ := Lib.hid (fun W (h : Below w3.heap.size w3 W) => HY2.out W (HB3.out.trans (h.mono HB3.out.size)))
        have HY6_ := Lib.hid (fun W (h : Below w3.heap.size w3 W) => HY6.out W (HB3.out.trans (h.mono HB3.out.size)))
        have HXK_ := Lib.hid (HX2.out.up HB3.out)
        have HYK_ := Lib.hid (HYK.out.up HB3.out)
        clear HY1 HY2 HY6 HYK
        have HY1 := HY1_
        have HY2 := HY2_
        have HY6 := HY6_
        have HXK := HXK_
        have HYK := HYK_
        refine AK.region_facts (Rp := Below0) (Kp := Below0) (rpFE x y bb off n c k s0 ob) (fun _ _ W => Below w3.heap.size w3 W) [[], [], [45, 46], [47], [48], [], [50], [49, 51], [52], [53], [53], [53], [53], [53], [53], [53], [53], [53, 61], [62], [63], [63], [63], [63], [63], [63], [63], [63], [63], [63, 72], [73]] [] [[]] [0, 0, 0, 0, 0, 0, 0, 0, 0, 0, 0, 0, 0, 0, 0, 0, 0, 0, 0, 0, 0, 0, 0, 0, 0, 0, 0, 0, 0, 0] [0, 0, 0, 0, 0, 0, 0, 0, 0, 0, 0, 0, 0, 0, 0, 0, 0, 0, 0, 0, 0, 0, 0, 0, 0, 0, 0, 0, 0, 0] [] (fun u => by simp only [rpFE, AK.temps, List.map_cons, List.map_nil, fillL, List.setIfInBounds_toArray, List.set_cons_zero, List.set_cons_succ]; rfl) (by kernel_rfl) (by kernel_rfl) (fun _ _ h => h.size) (fun _ _ h => h) (fun _ _ _ _ hb h => h.trans (hb.mono h.size)) (dc_drew (Below.refl _ _)) ?_ ?_
        ·refine AK.sc (lim := 0) (lo := 0) rfl rfl rfl rfl ?_ ?_
         ·intro k_ u w_ hk_ hl_ hJ hF K hK
          clear hF
          go_simp
          exact hK.out _ _ bR (rfl) trivial
         refine AK.sc (lim := 0) (lo := 0) rfl rfl rfl rfl ?_ ?_
         ·intro k_ u w_ hk_ hl_ hJ hF K hK
          clear hF
          go_simp
          exact hK.out _ _ bR (rfl) trivial
         refine AK.sc (lim := 0) (lo := 0) rfl rfl rfl rfl ?_ ?_
         ·intro k_ u w_ hk_ hl_ hJ hF K hK
          have h45 : u 45 = .slice (some ⟨bb, off, none⟩) n c := AK.facts_get hF 45 (by simp)
          have h46 : u 46 = .int .i64 (k : Int) := AK.facts_get hF 46 (by simp)
          clear hF
          simp only [h45, h46] at hK ⊢
          clear h45 h46
          go_simp
          exact hK.out _ _ bR (rfl) trivial
         refine AK.sc (lim := 0) (lo := 0) rfl rfl rfl rfl ?_ ?_
         ·intro k_ u w_ hk_ hl_ hJ hF K hK
          have h47 : u 47 = .pointer (some ⟨bb, off + k * 7, none⟩) := AK.facts_get hF 47 (by simp)
          clear hF
          simp only [h47] at hK ⊢
          clear h47
          go_simp
          exact hK.out _ _ bR (rfl) trivial
         refine AK.sc (lim := 0) (lo := 0) rfl rfl rfl rfl ?_ ?_
         ·intro k_ u w_ hk_ hl_ hJ hF K hK
          have h48 : u 48 = .pointer (some ⟨bb, off + k * 7 + 1, none⟩) := AK.facts_get hF 48 (by simp)
          clear hF
          simp only [h48] at hK ⊢
          clear h48
          have c_ := HY1.out _ hJ
          go_simp
          exact hK.out _ _ bR (rfl) trivial
         refine AK.sc (lim := 0) (lo := 0) rfl rfl rfl rfl ?_ ?_
         ·intro k_ u w_ hk_ hl_ hJ hF K hK
          clear hF
          go_simp
          exact hK.out _ _ bR (rfl) trivial
         refine AK.sc (lim := 0) (lo := 0) rfl rfl rfl rfl ?_ ?_
         ·intro k_ u w_ hk_ hl_ hJ hF K hK
          have h50 : u 50 = .pointer (some ⟨s0 + 1, 1, none⟩) := AK.facts_get hF 50 (by simp)
          clear hF
          simp only [h50] at hK ⊢
          clear h50
          have c_ := (HX3.out.up hJ).at 1 _ rfl
          go_simp
          exact hK.out _ _ bR (rfl) trivial
         refine AK.sc (lim := 0) (lo := 0) rfl rfl rfl rfl ?_ ?_
         ·intro k_ u w_ hk_ hl_ hJ hF K hK
          have h49 : u 49 = .int .i64 y.ent := AK.facts_get hF 49 (by simp)
          have h51 : u 51 = .int .i64 x.ent := AK.facts_get hF 51 (by simp)
          clear hF
          simp only [h49, h51] at hK ⊢
          clear h49 h51
          have e_ := HE1.out
          go_simp
          exact hK.out _ _ bR (rfl) trivial
         refine AK.sc (lim := 0) (lo := 0) rfl rfl rfl rfl ?_ ?_
         ·intro k_ u w_ hk_ hl_ hJ hF K hK
          have h52 : u 52 = .bool true := AK.facts_get hF 52 (by simp)
          clear hF
          simp only [h52] at hK ⊢
          clear h52
          go_simp
          exact hK.out _ _ bR (rfl) trivial
         refine AK.sc (lim := 0) (lo := 0) rfl rfl rfl rfl ?_ ?_
         ·intro k_ u w_ hk_ hl_ hJ hF K hK
          have h53 : u 53 = .bool true := AK.facts_get hF 53 (by simp)
          clear hF
          simp only [h53] at hK ⊢
          clear h53
          go_simp
          exact hK.out _ _ bR (rfl) trivial
         refine AK.sc (lim := 0) (lo := 0) rfl rfl rfl rfl ?_ ?_
         ·intro k_ u w_ hk_ hl_ hJ hF K hK
          have h53 : u 53 = .bool true := AK.facts_get hF 53 (by simp)
          clear hF
          simp only [h53] at hK ⊢
          clear h53
          go_simp
          exact hK.out _ _ bR (rfl) trivial
         refine AK.sc (lim := 0) (lo := 0) rfl rfl rfl rfl ?_ ?_
         ·intro k_ u w_ hk_ hl_ hJ hF K hK
          have h53 : u 53 = .bool true := AK.facts_get hF 53 (by simp)
          clear hF
          simp only [h53] at hK ⊢
          clear h53
          go_simp
          exact hK.out _ _ bR (rfl) trivial
         refine AK.sc (lim := 0) (lo := 0) rfl rfl rfl rfl ?_ ?_
         ·intro k_ u w_ hk_ hl_ hJ hF K hK
          have h53 : u 53 = .bool true := AK.facts_get hF 53 (by simp)
          clear hF
          simp only [h53] at hK ⊢
          clear h53
          go_simp
          exact hK.out _ _ bR (rfl) trivial
         refine AK.sc (lim := 0) (lo := 0) rfl rfl rfl rfl ?_ ?_
         ·intro k_ u w_ hk_ hl_ hJ hF K hK
          have h53 : u 53 = .bool true := AK.facts_get hF 53 (by simp)
          clear hF
          simp only [h53] at hK ⊢
          clear h53
          go_simp
          exact hK.out _ _ bR (rfl) trivial
         refine AK.sc (lim := 0) (lo := 0) rfl rfl rfl rfl ?_ ?_
         ·intro k_ u w_ hk_ hl_ hJ hF K hK
          have h53 : u 53 = .bool true := AK.facts_get hF 53 (by simp)
          clear hF
          simp only [h53] at hK ⊢
          clear h53
          go_simp
          exact hK.out _ _ bR (rfl) trivial
         refine AK.sc (lim := 0) (lo := 0) rfl rfl rfl rfl ?_ ?_
         ·intro k_ u w_ hk_ hl_ hJ hF K hK
          have h53 : u 53 = .bool true := AK.facts_get hF 53 (by simp)
          clear hF
          simp only [h53] at hK ⊢
          clear h53
          go_simp
          exact hK.out _ _ bR (rfl) trivial
         refine AK.sc (lim := 0) (lo := 0) rfl rfl rfl rfl ?_ ?_
         ·intro k_ u w_ hk_ hl_ hJ hF K hK
          have h53 : u 53 = .bool true := AK.facts_get hF 53 (by simp)
          clear hF
          simp only [h53] at hK ⊢
          clear h53
          go_simp
          exact hK.out _ _ bR (rfl) trivial
         refine AK.sc (lim := 0) (lo := 0) rfl rfl rfl rfl ?_ ?_
         ·intro k_ u w_ hk_ hl_ hJ hF K hK
          have h53 : u 53 = .bool true := AK.facts_get hF 53 (by simp)
          have h61 : u 61 = undef := AK.facts_get hF 61 (by simp)
          clear hF
          simp only [h53, h61] at hK ⊢
          clear h53 h61
          go_simp
          exact hK.out _ _ bR (rfl) trivial
         refine AK.sc (lim := 0) (lo := 0) rfl rfl rfl rfl ?_ ?_
         ·intro k_ u w_ hk_ hl_ hJ hF K hK
          have h62 : u 62 = .bool true := AK.facts_get hF 62 (by simp)
          clear hF
          simp only [h62] at hK ⊢
          clear h62
          go_simp
          exact hK.out _ _ bR (rfl) trivial
         refine AK.sc (lim := 0) (lo := 0) rfl rfl rfl rfl ?_ ?_
         ·intro k_ u w_ hk_ hl_ hJ hF K hK
          have h63 : u 63 = .bool true := AK.facts_get hF 63 (by simp)
          clear hF
          simp only [h63] at hK ⊢
          clear h63
          go_simp
          exact hK.out _ _ bR (rfl) trivial
         refine AK.sc (lim := 0) (lo := 0) rfl rfl rfl rfl ?_ ?_
         ·intro k_ u w_ hk_ hl_ hJ hF K hK
          have h63 : u 63 = .bool true := AK.facts_get hF 63 (by simp)
          clear hF
          simp only [h63] at hK ⊢
          clear h63
          go_simp
          exact hK.out _ _ bR (rfl) trivial
         refine AK.sc (lim := 0) (lo := 0) rfl rfl rfl rfl ?_ ?_
         ·intro k_ u w_ hk_ hl_ hJ hF K hK
          have h63 : u 63 = .bool true := AK.facts_get hF 63 (by simp)
          clear hF
          simp only [h63] at hK ⊢
          clear h63
          go_simp
          exact hK.out _ _ bR (rfl) trivial
         refine AK.sc (lim := 0) (lo := 0) rfl rfl rfl rfl ?_ ?_
         ·intro k_ u w_ hk_ hl_ hJ hF K hK
          have h63 : u 63 = .bool true := AK.facts_get hF 63 (by simp)
          clear hF
          simp only [h63] at hK ⊢
          clear h63
          go_simp
          exact hK.out _ _ bR (rfl) trivial
         refine AK.sc (lim := 0) (lo := 0) rfl rfl rfl rfl ?_ ?_
         ·intro k_ u w_ hk_ hl_ hJ hF K hK
          have h63 : u 63 = .bool true := AK.facts_get hF 63 (by simp)
          clear hF
          simp only [h63] at hK ⊢
          clear h63
          go_simp
          exact hK.out _ _ bR (rfl) trivial
         refine AK.sc (lim := 0) (lo := 0) rfl rfl rfl rfl ?_ ?_
         ·intro k_ u w_ hk_ hl_ hJ hF K hK
          have h63 : u 63 = .bool true := AK.facts_get hF 63 (by simp)
          clear hF
          simp only [h63] at hK ⊢
          clear h63
          go_simp
          exact hK.out _ _ bR (rfl) trivial
         refine AK.sc (lim := 0) (lo := 0) rfl rfl rfl rfl ?_ ?_
         ·intro k_ u w_ hk_ hl_ hJ hF K hK
          have h63 : u 63 = .bool true := AK.facts_get hF 63 (by simp)
          clear hF
          simp only [h63] at hK ⊢
          clear h63
          go_simp
          exact hK.out _ _ bR (rfl) trivial
         refine AK.sc (lim := 0) (lo := 0) rfl rfl rfl rfl ?_ ?_
         ·intro k_ u w_ hk_ hl_ hJ hF K hK
          have h63 : u 63 = .bool true := AK.facts_get hF 63 (by simp)
          clear hF
          simp only [h63] at hK ⊢
          clear h63
          go_simp
          exact hK.out _ _ bR (rfl) trivial
         refine AK.sc (lim := 0) (lo := 0) rfl rfl rfl rfl ?_ ?_
         ·intro k_ u w_ hk_ hl_ hJ hF K hK
          have h63 : u 63 = .bool true := AK.facts_get hF 63 (by simp)
          clear hF
          simp only [h63] at hK ⊢
          clear h63
          go_simp
          exact hK.out _ _ bR (rfl) trivial
         refine AK.sc (lim := 0) (lo := 0) rfl rfl rfl rfl ?_ ?_
         ·intro k_ u w_ hk_ hl_ hJ hF K hK
          have h63 : u 63 = .bool true := AK.facts_get hF 63 (by simp)
          have h72 : u 72 = undef := AK.facts_get hF 72 (by simp)
          clear hF
          simp only [h63, h72] at hK ⊢
          clear h63 h72
          go_simp
          exact hK.out _ _ bR (rfl) trivial
         refine AK.sc (lim := 0) (lo := 0) rfl rfl rfl rfl ?_ ?_
         ·intro k_ u w_ hk_ hl_ hJ hF K hK
          have h73 : u 73 = .bool true := AK.facts_get hF 73 (by simp)
          clear hF
          simp only [h73] at hK ⊢
          clear h73
          go_simp
          exact hK.out _ _ bR (rfl) trivial
         exact AK.StepsOk.nil
        ·intro u W9 hJ9 hF
         have h44 : u 44 = .bool true := AK.facts_get hF 44 (by simp [rpFE, AK.temps])
         clear hF
         simp only [h44]
         clear h44
         go_wp2_with fail
         go_ret
         exact ⟨by first | rfl | simp, (by have h9 := HB2.out.trans ((HB3.out.trans (hJ9.mono HB3.out.size)).mono HB2.out.size); first | exact h9 | (rw [← HS0.out]; exact h9))⟩
      ·have hk3q : (k3 != 0) = true := by simp [hk3]
       rw [show rvE (Xs.map pe) p = 7 by rw [HRR.out]; simp [hk3]]
       rw [if_neg (by decide)]
       go_enter Tryz.func11, Tryz.ntmps11
       go_wp2_with (first
        | (clear HM1; refine wpList_load_is rfl 29 _ rfl (.pointer (some ⟨s0, 0, none⟩)) rfl GV HLG.out ?_)
        | (clear HM2; refine wpList_load_is rfl 42 _ rfl (.pointer (some ⟨s0 + 1, 0, none⟩)) rfl XV HLX.out ?_)
        | (go_at_call 33; refine (HCK.out _ HK2.out HX2.out).mono ?_; rintro e w3 ⟨rfl, hb⟩; have HB3 := Lib.hid hb; clear hb; have HX3 := Lib.hid (HXB.out.up HB3.out); have p0 := HX3.out.at 0 _ rfl; have p3 := HX3.out.at 3 _ rfl; have p4 := HX3.out.at 4 _ rfl; rw [hkd] at p3)
        | (go_at_call 20; first
          | (clear HM3; refine (HG1.out _ (HZ2.out.up HB3.out)).mono ?_; rintro e w4 ⟨rfl, rfl⟩)
          | (clear HM4; refine (HG2.out _ (HZ2.out.up HB3.out)).mono ?_; rintro e w4 ⟨rfl, rfl⟩; have q3 := HY3.out _ HB3.out))
        | (go_at_call 25; refine (HRV.out _ (HZ2.out.up HB3.out)).mono ?_; rintro e w4 ⟨rfl, rfl⟩))
       go_ret
       exact ⟨by first | rfl | (simp), (by have h9 := HB2.out.trans (HB3.out.mono HB2.out.size); first | exact h9 | (rw [← HS0.out]; exact h9))⟩
   ·rw [show rvE (Xs.map pe) p = 0 by unfold rvE; rw [if_neg (by rw [HPK.out]; exact hkd)], if_pos rfl]
    have hkq : (x.kind == 3) = false := by simp [hkd]
    by_cases hn2 : 2000 ≤ n
    ·have hnz : (2000 : Int) ≤ (n : Int) := by omega
     rw [if_pos hn2]
     go_enter Tryz.func11, Tryz.ntmps11
     go_wp2_with (first
      | (clear HM1; refine wpList_load_is rfl 29 _ rfl (.pointer (some ⟨s0, 0, none⟩)) rfl GV HLG.out ?_)
      | (clear HM2; refine wpList_load_is rfl 42 _ rfl (.pointer (some ⟨s0 + 1, 0, none⟩)) rfl XV HLX.out ?_)
      | (go_at_call 33; refine (HCK.out _ HK2.out HX2.out).mono ?_; rintro e w3 ⟨rfl, hb⟩; have HB3 := Lib.hid hb; clear hb; have HX3 := Lib.hid (HXB.out.up HB3.out); have p0 := HX3.out.at 0 _ rfl; have p3 := HX3.out.at 3 _ rfl; have p4 := HX3.out.at 4 _ rfl; skip)
      | (go_at_call 20; first
        | (clear HM3; refine (HG1.out _ (HZ2.out.up HB3.out)).mono ?_; rintro e w4 ⟨rfl, rfl⟩)
        | (clear HM4; refine (HG2.out _ (HZ2.out.up HB3.out)).mono ?_; rintro e w4 ⟨rfl, rfl⟩; skip))
      | (go_at_call 25; refine (HRV.out _ (HZ2.out.up HB3.out)).mono ?_; rintro e w4 ⟨rfl, rfl⟩))
     go_ret
     exact ⟨by first | rfl | (simp), (by have h9 := HB2.out.trans (HB3.out.mono HB2.out.size); first | exact h9 | (rw [← HS0.out]; exact h9))⟩
    ·have hnz : ¬ (2000 : Int) ≤ (n : Int) := by omega
     rw [if_neg hn2]
     go_enter Tryz.func11, Tryz.ntmps11
     go_wp2_with (first
      | (clear HM1; refine wpList_load_is rfl 29 _ rfl (.pointer (some ⟨s0, 0, none⟩)) rfl GV HLG.out ?_)
      | (clear HM2; refine wpList_load_is rfl 42 _ rfl (.pointer (some ⟨s0 + 1, 0, none⟩)) rfl XV HLX.out ?_)
      | (go_at_call 33; refine (HCK.out _ HK2.out HX2.out).mono ?_; rintro e w3 ⟨rfl, hb⟩; have HB3 := Lib.hid hb; clear hb; have HX3 := Lib.hid (HXB.out.up HB3.out); have p0 := HX3.out.at 0 _ rfl; have p3 := HX3.out.at 3 _ rfl; have p4 := HX3.out.at 4 _ rfl; skip)
      | (go_at_call 20; first
        | (clear HM3; refine (HG1.out _ (HZ2.out.up HB3.out)).mono ?_; rintro e w4 ⟨rfl, rfl⟩)
        | (clear HM4; refine (HG2.out _ (HZ2.out.up HB3.out)).mono ?_; rintro e w4 ⟨rfl, rfl⟩; skip))
      | (go_at_call 25; refine (HRV.out _ (HZ2.out.up HB3.out)).mono ?_; rintro e w4 ⟨rfl, rfl⟩))
     go_ret
     exact ⟨by first | rfl | (simp), (by have h9 := HB2.out.trans (HB3.out.mono HB2.out.size); first | exact h9 | (rw [← HS0.out]; exact h9))⟩
  ·have h1' : (0 : Int) ≤ k1 := by omega
   rw [if_neg h1]
   have hf : ∀ a b : Int, fst4 0 9 a b = 9 := fun a b => rfl
   rw [hf]
   go_enter Tryz.func11, Tryz.ntmps11
   go_wp2_with (first
    | (clear HM1; refine wpList_load_is rfl 29 _ rfl (.pointer (some ⟨s0, 0, none⟩)) rfl GV HLG.out ?_)
    | (clear HM2; refine wpList_load_is rfl 42 _ rfl (.pointer (some ⟨s0 + 1, 0, none⟩)) rfl XV HLX.out ?_)
    | (go_at_call 33; refine (HCK.out _ HK2.out HX2.out).mono ?_; rintro e w3 ⟨rfl, hb⟩; have HB3 := Lib.hid hb; clear hb; have HX3 := Lib.hid (HXB.out.up HB3.out); have p0 := HX3.out.at 0 _ rfl; have p3 := HX3.out.at 3 _ rfl; have p4 := HX3.out.at 4 _ rfl; skip)
    | (go_at_call 20; first
      | (clear HM3; refine (HG1.out _ (HZ2.out.up HB3.out)).mono ?_; rintro e w4 ⟨rfl, rfl⟩)
      | (clear HM4; refine (HG2.out _ (HZ2.out.up HB3.out)).mono ?_; rintro e w4 ⟨rfl, rfl⟩; skip))
    | (go_at_call 25; refine (HRV.out _ (HZ2.out.up HB3.out)).mono ?_; rintro e w4 ⟨rfl, rfl⟩))
   go_ret
   exact ⟨by first | rfl | (simp), (by have h9 := HB2.out.trans (HB3.out.mono HB2.out.size); first | exact h9 | (rw [← HS0.out]; exact h9))⟩
 ·have hf : ∀ a b d : Int, fst4 cc a b d = cc := fun a b d => by unfold fst4; rw [if_neg hc]
  rw [hf]
  have hcq : (cc != 0) = true := by simp [hc]
  clear hf
  go_enter Tryz.func11, Tryz.ntmps11
  go_wp2_with (first
   | (clear HM1; refine wpList_load_is rfl 29 _ rfl (.pointer (some ⟨s0, 0, none⟩)) rfl GV HLG.out ?_)
   | (clear HM2; refine wpList_load_is rfl 42 _ rfl (.pointer (some ⟨s0 + 1, 0, none⟩)) rfl XV HLX.out ?_)
   | (go_at_call 33; refine (HCK.out _ HK2.out HX2.out).mono ?_; rintro e w3 ⟨rfl, hb⟩; have HB3 := Lib.hid hb; clear hb; have HX3 := Lib.hid (HXB.out.up HB3.out); have p0 := HX3.out.at 0 _ rfl; have p3 := HX3.out.at 3 _ rfl; have p4 := HX3.out.at 4 _ rfl; skip)
   | (go_at_call 20; first
     | (clear HM3; refine (HG1.out _ (HZ2.out.up HB3.out)).mono ?_; rintro e w4 ⟨rfl, rfl⟩)
     | (clear HM4; refine (HG2.out _ (HZ2.out.up HB3.out)).mono ?_; rintro e w4 ⟨rfl, rfl⟩; skip))
   | (go_at_call 25; refine (HRV.out _ (HZ2.out.up HB3.out)).mono ?_; rintro e w4 ⟨rfl, rfl⟩))
  go_ret
  exact ⟨by first | rfl | (simp), (by have h9 := HB2.out.trans (HB3.out.mono HB2.out.size); first | exact h9 | (rw [← HS0.out]; exact h9))⟩
theorem fnd_noPar (L : List Acc) (c : Int) : fnd (L.map noPar) c = (fnd L c).map noPar := by
 unfold fnd
 rw [List.find?_map]
 rfl
theorem getD_noPar (L : List Acc) (k : Nat) : (L.map noPar).getD k acc0 = noPar (L.getD k acc0) := by
 rw [List.getD_eq_getElem?_getD, List.getD_eq_getElem?_getD, List.getElem?_map]
 cases L[k]? <;> rfl
theorem lastC_noPar (L : List Acc) (k : Nat) : lastC (L.map noPar) k = lastC L k := by
 cases k with
 | zero => rfl
 | succ k => rw [lastC_succ, lastC_succ, getD_noPar]; rfl
theorem codesTo_noPar (L : List Acc) (k : Nat) : codesTo (L.map noPar) k = codesTo L k := by
 induction k with
 | zero => rfl
 | succ k ih => rw [codes_succ, codes_succ, ih, lastC_noPar, getD_noPar]; rfl
theorem lastC_nn {L : List Acc} : ∀ {k : Nat}, codesTo L k = true → 0 ≤ lastC L k ∧ ∀ i, i < k → 0 < (L.getD i acc0).code
 | 0, _ => ⟨Int.le_refl _, fun i h => by omega⟩
 | k + 1, h => by
  rw [codes_succ, Bool.and_eq_true, decide_eq_true_eq] at h
  obtain ⟨h1, h2⟩ := lastC_nn h.1
  have h3 := h.2
  refine ⟨by rw [lastC_succ]; omega, fun i hi => ?_⟩
  rcases Nat.lt_or_ge i k with h4 | h4
  ·exact h2 i h4
  ·obtain rfl : i = k := by omega
   omega
theorem fnd_zero {L : List Acc} (h : codesTo L L.length = true) : fnd L 0 = none := by
 cases h1 : fnd L 0 with
 | none => rfl
 | some a =>
  obtain ⟨h2, h3⟩ := fnd_some h1
  obtain ⟨i, hi, e⟩ := List.getElem_of_mem h2
  have h4 := (lastC_nn h).2 i hi
  rw [List.getD_eq_getElem?_getD, List.getElem?_eq_getElem hi] at h4
  simp only [Option.getD_some] at h4
  rw [e, h3] at h4
  omega
theorem vB_noPar {L : List Acc} {g : Bool} (h : vB L g = true) : vB (L.map noPar) g = true := by
 unfold vB at h ⊢
 simp only [Bool.and_eq_true, decide_eq_true_eq] at h ⊢
 obtain ⟨⟨⟨⟨h1, h2⟩, h3⟩, h4⟩, h5⟩ := h
 have h2' := h2
 unfold codesB at h2
 simp only [Bool.and_eq_true] at h2
 have hc : codesTo (L.map noPar) (L.map noPar).length = true := by rw [codesTo_noPar, List.length_map]; exact h2.1
 refine ⟨⟨⟨⟨by rw [List.length_map]; exact h1, ?_⟩, ?_⟩, ?_⟩, ?_⟩
 ·unfold codesB
  simp only [Bool.and_eq_true]
  exact ⟨hc, by rw [lastC_noPar, List.length_map]; exact h2.2⟩
 ·unfold kindsB at h3 ⊢
  rw [List.all_map]
  exact h3
 ·unfold parentsB
  rw [List.all_map]
  exact List.all_eq_true.2 fun a _ => by simp [parB, noPar]
 ·unfold topsB
  rw [List.all_map]
  refine List.all_eq_true.2 fun a ha => ?_
  show topB (L.map noPar) (noPar a) = true
  unfold topB
  rw [decide_eq_true_eq]
  have hpos : 0 < (L.map noPar).length := by rw [List.length_map]; exact List.length_pos_of_mem ha
  unfold climb
  cases hf : fnd (L.map noPar) (noPar a).code with
  | none => rw [climbN_none hf]; simp
  | some b =>
   rw [climbN_some hf]
   have hb : b.par = 0 := by
    rw [fnd_noPar] at hf
    cases h6 : fnd L (noPar a).code with
    | none => rw [h6] at hf; cases hf
    | some d => rw [h6] at hf; injection hf with hf; rw [← hf]; rfl
   rw [hb, climbN_none (fnd_zero hc)]
   rw [List.length_singleton]
   exact hpos
theorem fndA_noPar (L : List Acc) (c : Int) : fndA (L.map noPar) c = noPar (fndA L c) := by
 unfold fndA
 rw [fnd_noPar]
 cases fnd L c <;> rfl
theorem chaB_noPar {L : List Acc} (h : chaB L = true) : chaB (L.map noPar) = true := by
 unfold chaB at h ⊢
 rw [Bool.and_eq_true] at h ⊢
 refine ⟨vB_noPar h.1, ?_⟩
 rw [List.all_map]
 exact h.2
theorem allTo_same {p q : Nat → Bool} : ∀ {n : Nat}, (∀ i, i < n → p i = q i) → allTo p n = allTo q n
 | 0, _ => rfl
 | n + 1, h => by
  show (allTo p n && p n) = (allTo q n && q n)
  rw [allTo_same fun i hi => h i (by omega), h n (by omega)]
theorem rlsB_noPar (L : List Acc) (R : List Int) : rlsB (L.map noPar) R = rlsB L R := by
 unfold rlsB
 congr 1
 refine allTo_same fun i _ => ?_
 unfold chkR
 rw [fndA_noPar, fnd_noPar]
 cases fnd L (R.getD i 0) <;> rfl
theorem bar_at {P G : List Ent} (h : Bar P G) (i : Nat) (hi : i < G.length) : (P.getD i ent0).nm = (G.getD i ent0).nm ∧ (P.getD i ent0).cur = (G.getD i ent0).cur ∧ (P.getD i ent0).L = (G.getD i ent0).L.map noPar ∧ (P.getD i ent0).K = [] ∧ (P.getD i ent0).jt = (G.getD i ent0).jt := by
 have hl := h.len
 have h1 : (P.map strE)[i]? = (G.map fun e => strE (bareE e none 0))[i]? := by rw [show P.map strE = G.map fun e => strE (bareE e none 0) from h]
 rw [List.getElem?_map, List.getElem?_map, List.getElem?_eq_getElem hi, List.getElem?_eq_getElem (by omega)] at h1
 simp only [Option.map_some, Option.some.injEq] at h1
 rw [List.getD_eq_getElem?_getD, List.getD_eq_getElem?_getD, List.getElem?_eq_getElem hi, List.getElem?_eq_getElem (by omega : i < P.length)]
 simp only [Option.getD_some]
 unfold strE bareE at h1
 injection h1 with e1 e2 e3 e4 e5 e6 e7 e8 e9 e10 e11
 exact ⟨e1, e2, e10, e11, e9⟩
theorem ensP_bar {L : List Acc} {R : List Int} {P G : List Ent} (hc : vB (L.map noPar) true = true) (hb : Bar P G) (h : ensP L R G = true) : ensP (L.map noPar) R P = true := by
 unfold ensP at h ⊢
 simp only [Bool.and_eq_true, decide_eq_true_eq, Bool.not_eq_true'] at h ⊢
 obtain ⟨h1, h2, h3, h4⟩ := h
 have hl := hb.len
 refine ⟨by omega, by omega, by rw [(bar_at hb 0 (by omega)).2.2.2.2]; exact h3, ?_⟩
 rw [hl]
 rw [← h4]
 refine allTo_same fun i hi => ?_
 have h5 : rowP L R G i = true := by
  have h6 := allTo_le (k := i + 1) (by omega) h4
  have h7 : (allTo (rowP L R G) i && rowP L R G i) = true := h6
  rw [Bool.and_eq_true] at h7
  exact h7.2
 rw [h5]
 unfold rowP at h5 ⊢
 rw [Bool.and_eq_true] at h5 ⊢
 obtain ⟨b1, b2, b3, b4, b5⟩ := bar_at hb i hi
 refine ⟨?_, ?_⟩
 ·rw [← h5.1]
  unfold dsN
  exact allTo_same fun k hk => by rw [(bar_at hb k (by omega)).1, b1]
 ·have h8 := h5.2
  unfold enpB at h8 ⊢
  simp only [Bool.and_eq_true] at h8 ⊢
  rw [b1, b2, b3, b4]
  refine ⟨h8.1, h8.2.1, ?_, rfl⟩
  have h9 := h8.2.2.1
  unfold mvB at h9 ⊢
  simp only [Bool.and_eq_true] at h9 ⊢
  exact ⟨hc, vB_noPar h9.2.1, by decide, rfl, rfl⟩
theorem grpP_bare {g : Grp} {L : List Acc} {G : List Ent} {j : JD} (hb : BareD g L G j) (h : grpP g L G = true) : grpP j.g j.L j.G = true := by
 obtain ⟨A, c, E, d, e1, e2, e3⟩ := hb
 unfold grpP at h ⊢
 rw [e1, e2]
 simp only [Bool.and_eq_true] at h ⊢
 obtain ⟨h1, h2, h3, h4, h5⟩ := h
 have hc := chaB_noPar h3
 refine ⟨h1, h2, hc, ?_, ?_⟩
 ·rw [rlsB_noPar]; exact h4
 ·have hv := hc
  unfold chaB at hv
  rw [Bool.and_eq_true] at hv
  exact ensP_bar hv.1 e3 h5
theorem acB_noPar (L : List Acc) (X : List Lnk) : acB (L.map noPar) X = acB L X := by
 unfold acB
 congr 1
 funext l
 rw [fnd_noPar]
 cases fnd L l.frm <;> rfl
theorem chk_bare {g : Grp} {L : List Acc} {G : List Ent} {j : JD} (hb : BareD g L G j) (h : grpP g L G = true) (hlg : G.length = g.m) (x : Ety) (X : List Lnk) (hx : X.length = x.n) : chkN j.g x X j.L j.G = rchkN (shpB (grpR g L G) g x X) (acB (G.getD x.ent.toNat ent0).L X) (rtlN g x X) := by
 rw [← chk_eq g x X L G hx]
 have hv := grpP_bare hb h
 obtain ⟨A, c, E, d, e1, e2, e3⟩ := hb
 unfold chkN hdN
 rw [hv, h]
 rw [e1]
 show fst6 (if (true && (decide (1 ≤ x.id) && (entIn g x.ent && orgB x.kind x.of_))) = true then 0 else 1) (erB (txtB x.txt)) (erB (lsB g x.ent X)) (er17 (acB (j.G.getD x.ent.toNat ent0).L X)) (prE g.cy g.cm g.cp x.day) (blN X) = _
 cases hE : entIn g x.ent with
 | false => rw [if_neg (by simp)]; rfl
 | true =>
  have hi : x.ent.toNat < G.length := by
   unfold entIn at hE
   simp only [Bool.and_eq_true, decide_eq_true_eq] at hE
   omega
  rw [(bar_at e3 _ hi).2.2.1, acB_noPar]
def fewR (e : Ent) : Bool := decide (e.n ≤ 40) && (decide (e.m ≤ 60) && !decide ((60 : Int) < wrap64 ((e.nm.size : Int) + (e.cur.size : Int))))
def few10 (g : Grp) (G : List Ent) : Bool := allTo (fun i => fewR (G.getD i ent0)) G.length && (decide (g.n ≤ 60) && (decide (g.m ≤ 14) && decide ((g.cur.size : Int) ≤ 20)))
theorem few_sm {g : Grp} {G : List Ent} (h : few10 g G = true) : Sm g G := by
 unfold few10 at h
 simp only [Bool.and_eq_true, decide_eq_true_eq] at h
 obtain ⟨h1, h2, h3, -⟩ := h
 refine ⟨h2, h3, fun e he => ?_⟩
 obtain ⟨i, hi, rfl⟩ := mem_getD_acc (d := ent0) he
 have h4 := allTo_is.1 h1 i hi
 unfold fewR at h4
 simp only [Bool.and_eq_true, decide_eq_true_eq] at h4
 exact ⟨by omega, h4.2.1⟩
set_option maxRecDepth 20000 in
set_option maxHeartbeats 1600000 in
theorem rfew10_is (g : Grp) (G : List Ent) (w : World) (he : EntsAt w g.E G) (lg : G.length = g.m) (hmx : g.m ≤ 9223372036854775807) :
  Calls Tryz.prog 15 #[grpV g] w fun e w' => e = .returned (.bool (few10 g G)) ∧ Below w.heap.size w w' := by
 have hB := below_alloc_new (w := w) (.cells #[.string g.cur, .int .i64 g.cy, .int .i64 g.cm, .int .i64 g.cp, .slice g.A g.n g.c, .int .i64 g.r0, .int .i64 g.r1, .int .i64 g.r2, .int .i64 g.r3, .int .i64 g.r4, .int .i64 g.r5, .int .i64 g.r6, .int .i64 g.r7, .int .i64 g.r8, .int .i64 g.r9, .int .i64 g.r10, .int .i64 g.r11, .int .i64 g.r12, .int .i64 g.r13, .int .i64 g.r14, .slice g.E g.m g.d] 29)
 have hG := gb_new w 29 g
 have hv : few10 g G = (allTo (fun i => fewR (G.getD i ent0)) G.length && (decide (g.n ≤ 60) && (decide (g.m ≤ 14) && decide ((g.cur.size : Int) ≤ 20)))) := rfl
 rw [lg] at hv
 generalize few10 g G = r at *
 obtain ⟨P, hP⟩ : ∃ P : Nat → Bool, (fun i => fewR (G.getD i ent0)) = P := ⟨_, rfl⟩
 have hpk : ∀ k, P k = fewR (G.getD k ent0) := fun k => by rw [← hP]
 rw [hP] at hv
 have HV := Lib.hid hv
 have HPK := Lib.hid hpk
 clear hv hpk hP
 obtain ⟨s0, hs0⟩ : ∃ s0, w.heap.size = s0 := ⟨_, rfl⟩
 rw [hs0] at hB hG ⊢
 have HM := Lib.hid lg
 have HZ := Lib.hid he
 have HS0 := Lib.hid hs0
 have HG := Lib.hid hG
 clear he lg hG
 go_enter Tryz.func15, Tryz.ntmps15
 go_wp2_with fail
 clear hs0
 go_loopg [3] g.m (fun kx s3 wr => ∃ k : Nat, s3 = .int .i64 k ∧ k ≤ g.m ∧ g.m - k ≤ kx ∧ Hid (allTo P k = true) ∧ Hid (GB wr s0 g) ∧ Below s0 w wr)
 case atStart => exact ⟨0, rfl, by omega, by omega, Lib.hid rfl, HG, hB⟩
 case round =>
  clear hB HG
  obtain ⟨k, rfl, hk, hkx, HN, HG, hB⟩ := hrel
  have c20 := HG.out.c20
  have hsz : s0 ≤ wr.heap.size := by have := hB.size; have := HS0.out; omega
  by_cases hlt : k < g.m
  ·have hltz : (k : Int) < (g.m : Int) := by omega
   obtain ⟨b, off, eE, hbw, hcs⟩ := ent_at HZ.out (k := k) (by rw [HM.out]; omega)
   obtain ⟨c0, c1, c2, c3, c4⟩ := hcs.up hB (by have := HS0.out; omega)
   have hno : P k = false → r = false := fun h => by rw [HV.out, allTo_no hlt h]; rfl
   have hnx : P k = true → Hid (allTo P (k + 1) = true) := fun h => Lib.hid (by show (allTo P k && P k) = true; rw [HN.out, h]; rfl)
   have hpk := HPK.out k
   obtain ⟨x, hx⟩ : ∃ x, G.getD k ent0 = x := ⟨_, rfl⟩
   rw [hx] at c0 c1 c2 c3 c4 hpk
   have hfr : fewR x = (decide (x.n ≤ 40) && (decide (x.m ≤ 60) && !decide ((60 : Int) < wrap64 ((x.nm.size : Int) + (x.cur.size : Int))))) := rfl
   rw [hfr] at hpk
   generalize P k = pk at *
   obtain ⟨z0, z1, z2, z3, z4, zlt⟩ := eb_new wr 82 x.nm x.cur x.A x.n x.c x.B x.m x.d x.jt
   have hB1 : Below s0 w (wr.alloc (.cells #[.string x.nm, .string x.cur, .slice x.A x.n x.c, .slice x.B x.m x.d, .bool x.jt] 82)) := hB.alloc hsz _
   have HG1 := Lib.hid (HG.out.up (below_alloc_new (w := wr) (.cells #[.string x.nm, .string x.cur, .slice x.A x.n x.c, .slice x.B x.m x.d, .bool x.jt] 82)))
   clear hcs hx HN HG hfr
   rcases Nat.lt_or_ge 40 x.n with h1 | h1
   ·have e1 : decide ((40 : Int) < (x.n : Int)) = true := decide_eq_true (by omega)
    have HR := Lib.hid (hno (by rw [hpk, decide_eq_false (show ¬ x.n ≤ 40 by omega)]; rfl))
    clear hnx h1 hno hpk
    go_wp2_with fail
    go_ret
    exact ⟨by rw [HR.out]; rfl, hB1⟩
   have e1 : decide ((40 : Int) < (x.n : Int)) = false := decide_eq_false (by omega)
   rcases Nat.lt_or_ge 60 x.m with h2 | h2
   ·have e2 : decide ((60 : Int) < (x.m : Int)) = true := decide_eq_true (by omega)
    have HR := Lib.hid (hno (by rw [hpk, decide_eq_false (show ¬ x.m ≤ 60 by omega)]; simp))
    clear hnx h1 h2 hno hpk
    go_wp2_with fail
    go_ret
    exact ⟨by rw [HR.out]; rfl, hB1⟩
   have e2 : decide ((60 : Int) < (x.m : Int)) = false := decide_eq_false (by omega)
   rw [decide_eq_true h1, decide_eq_true h2] at hpk
   clear h1 h2
   cases e3 : decide ((60 : Int) < wrap64 ((x.nm.size : Int) + (x.cur.size : Int)))
   ·have HN2 := hnx (by rw [hpk, e3]; rfl)
    clear hnx hno hpk
    go_wp2_with fail
    go_roundg (g.m - (k + 1))
    case measure => omega
    case rel => exact ⟨k + 1, by go_num, by omega, by omega, HN2, HG1, hB1⟩
   ·have HR := Lib.hid (hno (by rw [hpk, e3]; rfl))
    clear hnx hno hpk
    go_wp2_with fail
    go_ret
    exact ⟨by rw [HR.out]; rfl, hB1⟩
  ·have hke : k = g.m := by omega
   have hltz : ¬ (k : Int) < (g.m : Int) := by omega
   have hv2 := HV.out
   rw [← hke, HN.out, Bool.true_and] at hv2
   have hm9 : decide (k ≤ 14) = decide (g.m ≤ 14) := by rw [hke]
   have c4 := HG.out.c4
   have c0 := HG.out.c0
   clear hke
   rcases Nat.lt_or_ge 60 g.n with h1 | h1
   ·have e1 : decide ((g.n : Int) ≤ 60) = false := decide_eq_false (by omega)
    have HR : Hid (r = false) := Lib.hid (by rw [hv2, decide_eq_false (show ¬ g.n ≤ 60 by omega)]; rfl)
    clear h1 hv2
    go_wp2_with fail
    go_ret
    exact ⟨by rw [HR.out]; rfl, hB⟩
   have e1 : decide ((g.n : Int) ≤ 60) = true := decide_eq_true (by omega)
   rcases Nat.lt_or_ge 14 g.m with h2 | h2
   ·have e2 : decide ((g.m : Int) ≤ 14) = false := decide_eq_false (by omega)
    have HR : Hid (r = false) := Lib.hid (by rw [hv2, hm9, decide_eq_false (show ¬ g.m ≤ 14 by omega)]; simp)
    clear h1 h2 hv2 hm9
    go_wp2_with fail
    go_ret
    exact ⟨by rw [HR.out]; rfl, hB⟩
   have e2 : decide ((g.m : Int) ≤ 14) = true := decide_eq_true (by omega)
   have HR : Hid (r = decide ((g.cur.size : Int) ≤ 20)) := Lib.hid (by rw [hv2, hm9, decide_eq_true h1, decide_eq_true h2]; rfl)
   clear h1 h2 hv2 hm9
   go_wp2_with fail
   go_ret
   exact ⟨by rw [HR.out]; rfl, hB⟩
def bigA (l : Lnk) : Bool := decide (l.tgt > 1125899906842624) || decide (l.tgt < -1125899906842624)
def fewE (p : Etl) : Bool := !(decide (60 < p.1.n) || decide (200 < p.1.txt.size)) && p.2.all fun l => !bigA l
def fewX (Xs : List Etl) : Bool := Xs.all fewE && decide (Xs.length ≤ 61)
theorem fewX_no {Xs : List Etl} {i : Nat} {p : Etl} (h : Xs[i]? = some p) (hp : fewE p = false) : fewX Xs = false := by
 unfold fewX
 have h1 : Xs.all fewE = false := by
  cases h2 : Xs.all fewE with
  | false => rfl
  | true => rw [List.all_eq_true.1 h2 p (List.mem_of_getElem? h)] at hp; cases hp
 rw [h1]; rfl
theorem fewX_long {Xs : List Etl} {i : Nat} {p : Etl} (h : Xs[i]? = some p) (hi : 60 < i) : fewX Xs = false := by
 unfold fewX
 have h1 : i < Xs.length := (List.getElem?_eq_some_iff.1 h).1
 rw [decide_eq_false (by omega : ¬ Xs.length ≤ 61), Bool.and_false]
theorem fewX_yes {Xs : List Etl} {n : Nat} (hn : Xs.length = n) (h : ∀ t, t < n → ∀ p, Xs[t]? = some p → fewE p = true) (h1 : n ≤ 61) : fewX Xs = true := by
 unfold fewX
 rw [decide_eq_true (by omega), Bool.and_true]
 refine List.all_eq_true.2 fun p hp => ?_
 obtain ⟨t, ht, e⟩ := List.getElem_of_mem hp
 exact h t (by omega) p (by rw [List.getElem?_eq_getElem ht, e])
theorem fewE_big {p : Etl} {k : Nat} {l : Lnk} (h : p.2[k]? = some l) (hl : bigA l = true) : fewE p = false := by
 unfold fewE
 have h1 : (p.2.all fun l => !bigA l) = false := by
  cases h2 : (p.2.all fun l => !bigA l) with
  | false => rfl
  | true => have := List.all_eq_true.1 h2 l (List.mem_of_getElem? h); rw [hl] at this; cases this
 rw [h1, Bool.and_false]
theorem fewE_yes {p : Etl} {m : Nat} (hm : p.2.length = m) (h1 : ¬ 60 < p.1.n) (h2 : ¬ 200 < p.1.txt.size) (h : ∀ t, t < m → ∀ l, p.2[t]? = some l → bigA l = false) : fewE p = true := by
 unfold fewE
 rw [decide_eq_false h1, decide_eq_false h2]
 simp only [Bool.or_self, Bool.not_false, Bool.true_and]
 refine List.all_eq_true.2 fun l hl => ?_
 obtain ⟨t, ht, e⟩ := List.getElem_of_mem hl
 rw [h t (by omega) l (by rw [List.getElem?_eq_getElem ht, e])]; rfl
set_option maxRecDepth 100000 in
set_option maxHeartbeats 12800000 in
theorem r12few_any (g : Grp) (G : List Ent) (A : Option Addr) (c : Nat) (Xs : List Etl) (w : World) (hE : EntsAt w g.E G) (hlg : G.length = g.m) (hmx : g.m ≤ 9223372036854775807) (hz : RowAt lyX w A (Xs.map (·.1))) (hzs : EtysK w Xs) (hl : Xs.length ≤ 9223372036854775807) (hn : ∀ p ∈ Xs, p.1.n ≤ 9223372036854775807 ∧ p.1.txt.size ≤ maxLen) :
  Calls Tryz.prog 5 #[grpV g, .slice A Xs.length c] w fun e w' => e = .returned (.bool (fewX Xs && few10 g G)) ∧ Below w.heap.size w w' := by
 have HFW := Lib.hid (fun W (h : EntsAt W g.E G) => rfew10_is g G W h hlg hmx)
 obtain ⟨n, hnn⟩ : ∃ n, Xs.length = n := ⟨_, rfl⟩
 rw [hnn] at hl ⊢
 obtain ⟨GV, hGV⟩ : ∃ GV, GV = grpV g := ⟨_, rfl⟩
 rw [← hGV] at HFW
 obtain ⟨gs, hgs⟩ : ∃ gs, (grpC g).toArray = gs := ⟨_, rfl⟩
 rw [show grpV g = .agg gs by rw [grpV_is, hgs]]
 obtain ⟨s0, hs0⟩ : ∃ s0, w.heap.size = s0 := ⟨_, rfl⟩
 obtain ⟨w2, hw2⟩ : ∃ w2, w.alloc (.cells gs 29) = w2 := ⟨_, rfl⟩
 have HGB : Hid (Wh 29 w2 s0 (grpC g)) := Lib.hid (by rw [← hw2, ← hgs, ← hs0]; exact Wh.new w _ _)
 have HB2 : Hid (Below w.heap.size w w2) := Lib.hid (by rw [← hw2]; exact below_alloc_new _)
 have HE2 := Lib.hid (hE.up HB2.out)
 have HZ2 := Lib.hid (hz.up HB2.out)
 have HZS := Lib.hid (hzs.up HB2.out)
 have HS0 := Lib.hid hs0
 have HNN := Lib.hid hnn
 have HLL := Lib.hid hl
 have HPN := Lib.hid hn
 have HLG : Hid ((Instr.loadAt 29 (.pointer (some ⟨s0, 0, none⟩))).run Tryz.prog w2 = .ok GV w2) := Lib.hid (by rw [hGV, grpV_is]; exact HGB.out.rg.load 0 29 (grpC g) rfl _ Tryz.underlying29 rfl (by kernel_rfl))
 clear hE hz hzs hnn hn hgs hGV hl
 go_enter Tryz.func5, Tryz.ntmps5
 go_wp2_with fail
 go_loopg [5] n (fun kx s5 wr => ∃ (i : Nat), s5 = .int .i64 (i : Int) ∧ i ≤ n ∧ n - i ≤ kx ∧ i ≤ 61 ∧ Hid (∀ t, t < i → ∀ p, Xs[t]? = some p → fewE p = true) ∧ wr = w2)
 case atStart => exact ⟨0, rfl, by omega, by omega, by omega, Lib.hid (fun t h => by omega), rfl⟩
 case round =>
  obtain ⟨i, rfl, hi, hkx, hi61, HALL, hW⟩ := hrel
  have hW2 := hW.symm
  subst hW2
  clear hW
  by_cases hlt : i < n
  ·have hltz : (i : Int) < (n : Int) := by omega
   obtain ⟨p, hp⟩ : ∃ p, Xs[i]? = some p := ⟨_, List.getElem?_eq_getElem (by rw [HNN.out]; exact hlt)⟩
   have hym : (Xs.map (·.1))[i]? = some p.1 := by rw [List.getElem?_map, hp]; rfl
   have hkk := HZS.out p (List.mem_of_getElem? hp)
   obtain ⟨hp1, hp2⟩ := HPN.out p (List.mem_of_getElem? hp)
   obtain ⟨bb, off, hA, hbl, hrg⟩ := HZ2.out.at hym
   subst hA
   obtain ⟨y, Y⟩ := p
   have c5 : w2.cell? ⟨bb, off + i * 7 + 5, none⟩ = some (.string y.txt) := hrg 5 _ rfl
   have c6 : w2.cell? ⟨bb, off + i * 7 + 6, none⟩ = some (.slice y.A y.n y.c) := hrg 6 _ rfl
   have HP := Lib.hid hp
   have HYL : Hid (Y.length = y.n) := Lib.hid hkk.ln
   have HYZ := Lib.hid hkk.hz
   have HY1 : Hid (y.n ≤ 9223372036854775807) := Lib.hid hp1
   have HY2 : Hid (y.txt.size ≤ maxLen) := Lib.hid hp2
   clear hp hym hkk hrg hbl hp1 hp2
   by_cases g1 : 60 < y.n
   ·have d1 : decide ((y.n : Int) > 60) = true := decide_eq_true (by omega)
    have d2 : decide ((60 : Int) < (y.n : Int)) = true := decide_eq_true (by omega)
    have HR : Hid (fewX Xs = false) := Lib.hid (fewX_no HP.out (by unfold fewE; rw [decide_eq_true g1]; rfl))
    clear g1
    go_wp2_with fail
    go_ret
    exact ⟨by rw [HR.out]; rfl, by have h9 := HB2.out; first | exact h9 | (rw [← HS0.out]; exact h9)⟩
   ·have d1 : decide ((y.n : Int) > 60) = false := decide_eq_false (by omega)
    have d2 : decide ((60 : Int) < (y.n : Int)) = false := decide_eq_false (by omega)
    by_cases g2 : 200 < y.txt.size
    ·have e1 : decide ((y.txt.size : Int) > 200) = true := decide_eq_true (by omega)
     have e2 : decide ((200 : Int) < (y.txt.size : Int)) = true := decide_eq_true (by omega)
     have HR : Hid (fewX Xs = false) := Lib.hid (fewX_no HP.out (by unfold fewE; rw [decide_eq_true g2, Bool.or_true]; rfl))
     clear g1 g2
     go_wp2_with fail
     go_ret
     exact ⟨by rw [HR.out]; rfl, by have h9 := HB2.out; first | exact h9 | (rw [← HS0.out]; exact h9)⟩
    ·have e1 : decide ((y.txt.size : Int) > 200) = false := decide_eq_false (by omega)
     have e2 : decide ((200 : Int) < (y.txt.size : Int)) = false := decide_eq_false (by omega)
     by_cases g3 : 60 < i
     ·have f1 : decide ((i : Int) > 60) = true := decide_eq_true (by omega)
      have f2 : decide ((60 : Int) < (i : Int)) = true := decide_eq_true (by omega)
      have HR : Hid (fewX Xs = false) := Lib.hid (fewX_long HP.out g3)
      clear g1 g2 g3
      go_wp2_with fail
      go_ret
      exact ⟨by rw [HR.out]; rfl, by have h9 := HB2.out; first | exact h9 | (rw [← HS0.out]; exact h9)⟩
     ·have f1 : decide ((i : Int) > 60) = false := decide_eq_false (by omega)
      have f2 : decide ((60 : Int) < (i : Int)) = false := decide_eq_false (by omega)
      obtain ⟨m, hm⟩ : ∃ m, y.n = m := ⟨_, rfl⟩
      rw [hm] at c6 d1 d2 HYL
      have HM := Lib.hid hm
      have HG1 : Hid (¬ 60 < y.n) := Lib.hid g1
      have HG2 : Hid (¬ 200 < y.txt.size) := Lib.hid g2
      clear g1 g2 hm
      go_wp2_with fail
      go_loopg [6] m (fun kz s6 wz => ∃ (k : Nat), s6 = .int .i64 (k : Int) ∧ k ≤ m ∧ m - k ≤ kz ∧ Hid (∀ t, t < k → ∀ l, Y[t]? = some l → bigA l = false) ∧ wz = w2)
      case atStart => exact ⟨0, rfl, by omega, by omega, Lib.hid (fun t h => by omega), rfl⟩
      case round =>
       obtain ⟨k, rfl, hk, hkz, HBG, hV⟩ := hrel
       have hV2 := hV.symm
       subst hV2
       clear hV
       have hm60 : m ≤ 60 := by have := HG1.out; have := HM.out; omega
       by_cases hkt : k < m
       ·have hktz : (k : Int) < (m : Int) := by omega
        obtain ⟨l, hl⟩ : ∃ l, Y[k]? = some l := ⟨_, List.getElem?_eq_getElem (by rw [HYL.out]; exact hkt)⟩
        obtain ⟨gb, go, hB, hgl, hrg2⟩ := (lnk_row.2 HYZ.out).at hl
        have q1 : w2.cell? ⟨gb, go + k * 3 + 1, none⟩ = some (.int .i64 l.tgt) := hrg2 1 _ rfl
        rw [hB] at c6
        have HK := Lib.hid hl
        clear hl hrg2 hgl hB
        by_cases b1 : l.tgt > 1125899906842624
        ·have t1 : decide (l.tgt > 1125899906842624) = true := decide_eq_true b1
         have t2 : decide (1125899906842624 < l.tgt) = true := decide_eq_true b1
         have HR : Hid (fewX Xs = false) := Lib.hid (fewX_no HP.out (fewE_big (p := (y, Y)) HK.out (by unfold bigA; rw [t1]; rfl)))
         clear b1
         go_wp2_with fail
         go_ret
         exact ⟨by rw [HR.out]; rfl, by have h9 := HB2.out; first | exact h9 | (rw [← HS0.out]; exact h9)⟩
        ·have t1 : decide (l.tgt > 1125899906842624) = false := decide_eq_false b1
         have t2 : decide (1125899906842624 < l.tgt) = false := decide_eq_false b1
         by_cases b2 : l.tgt < -1125899906842624
         ·have t3 : decide (l.tgt < -1125899906842624) = true := decide_eq_true b2
          have HR : Hid (fewX Xs = false) := Lib.hid (fewX_no HP.out (fewE_big (p := (y, Y)) HK.out (by unfold bigA; rw [t3, Bool.or_true])))
          clear b1 b2
          go_wp2_with fail
          go_ret
          exact ⟨by rw [HR.out]; rfl, by have h9 := HB2.out; first | exact h9 | (rw [← HS0.out]; exact h9)⟩
         ·have t3 : decide (l.tgt < -1125899906842624) = false := decide_eq_false b2
          have HN2 : Hid (∀ t, t < k + 1 → ∀ l, Y[t]? = some l → bigA l = false) := Lib.hid (fun t ht l2 h2 => by
           rcases Nat.lt_or_ge t k with h3 | h3
           ·exact HBG.out t h3 l2 h2
           ·obtain rfl : t = k := by omega
            rw [HK.out] at h2
            injection h2 with h2
            rw [← h2]
            unfold bigA
            rw [t1, t3]; rfl)
          clear b1 b2
          go_wp2_with fail
          go_roundg (m - (k + 1))
          case measure => omega
          case rel => exact ⟨k + 1, by go_num, by omega, by omega, HN2, rfl⟩
       ·obtain rfl : m = k := by omega
        have hktz : ¬ (m : Int) < (m : Int) := by omega
        have HA2 : Hid (∀ t, t < i + 1 → ∀ p, Xs[t]? = some p → fewE p = true) := Lib.hid (fun t ht p2 h2 => by
         rcases Nat.lt_or_ge t i with h3 | h3
         ·exact HALL.out t h3 p2 h2
         ·obtain rfl : t = i := by omega
          rw [HP.out] at h2
          injection h2 with h2
          rw [← h2]
          exact fewE_yes (p := (y, Y)) HYL.out HG1.out HG2.out HBG.out)
        go_wp2_with fail
        go_roundg (n - (i + 1))
        case measure => omega
        case rel => exact ⟨i + 1, by go_num, by omega, by omega, by omega, HA2, rfl⟩
  ·obtain rfl : n = i := by omega
   have hltz : ¬ (n : Int) < (n : Int) := by omega
   have HR : Hid (fewX Xs = true) := Lib.hid (fewX_yes HNN.out HALL.out hi61)
   go_wp2_with (first
    | (refine wpList_load_is rfl 29 _ rfl (.pointer (some ⟨s0, 0, none⟩)) rfl GV HLG.out ?_)
    | (go_at_call 15; refine (HFW.out _ HE2.out).mono ?_; rintro e w3 ⟨rfl, hb⟩; have HB3 := Lib.hid hb; clear hb))
   go_ret
   exact ⟨by rw [HR.out]; rfl, by have h9 := HB2.out.trans (HB3.out.mono HB2.out.size); first | exact h9 | (rw [← HS0.out]; exact h9)⟩
end Go.Proofs.YtacmccijnkojeaaGreat
