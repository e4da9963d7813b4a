/- Contracts of the functions that the statements reach, part 4: what was proved of each, callees first. -/
import Derived.Laws.Tables
import Derived.Shelf.SlSortCmp.NoneTotal
import Derived.Ground.SlsfProg
import Derived.Shelf.SlGeneric
import Derived.Test.YtbcphcheomojdaaGreatProg
import Derived.BigQuiet
import Derived.Shelf.SlIter.Nil
import Derived.RangeFuncBound
import Derived.Sort.OwnSorted
import Derived.Lib.AppendIntMem
import Derived.Laws.Rows
import Derived.Deep.RegionHeldLaw
import Derived.Test.YtbcphcheomojdaaGreatER3
namespace Go.Proofs.YtbcphcheomojdaaGreat
open Go.RowKit
set_option maxRecDepth 100000 in
set_option maxHeartbeats 1600000 in
theorem cd_build (g : Grp) (x : Ety) (w : World) : (Instr.build 74 #[(0, grpV g), (1, etyV x)]).run Tryz.prog w = .ok (cdV g x) w := by
 exact run_build w 74 _ _ (by kernel_rfl)
def fst6 (r0 r1 r2 r3 r4 r5 : Int) : Int := if r0 = 0 then (if r1 = 0 then (if r2 = 0 then (if r3 = 0 then (if r4 = 0 then (r5) else r4) else r3) else r2) else r1) else r0
def hdN (g : Grp) (x : Ety) (L : List Acc) (G : List Ent) : Int := if (grpP g L G && (decide (1 ≤ x.id) && (entIn g x.ent && orgB x.kind x.of_))) = true then 0 else 1
def blN (X : List Lnk) : Int := if wr (sumT X) = 0 then 0 else 11
def chkN (g : Grp) (x : Ety) (X : List Lnk) (L : List Acc) (G : List Ent) : Int := fst6 (hdN g x L G) (erB (txtB x.txt)) (erB (lsB g x.ent X)) (er17 (acB (G.getD x.ent.toNat ent0).L X)) (prE g.cy g.cm g.cp x.day) (blN X)
theorem hdN_ent {g : Grp} {x : Ety} {L : List Acc} {G : List Ent} (h : hdN g x L G = 0) : entIn g x.ent = true := by
 unfold hdN at h
 split at h
 ·rename_i h1
  simp only [Bool.and_eq_true] at h1
  exact h1.2.2.1
 ·cases h
theorem echecks_any (w : World) : Calls Tryz.prog 33 #[] w fun e w' => e = .returned (.slice (some ⟨w.heap.size, 0, none⟩) 6 6) ∧ w' = w.alloc (.cells #[.func (.func 64) #[] #[], .func (.func 65) #[] #[], .func (.func 66) #[] #[], .func (.func 67) #[] #[], .func (.func 68) #[] #[], .func (.func 69) #[] #[]] 72) := by
 go_enter Tryz.func33, Tryz.ntmps33
 go_wp2_with fail
 go_ret
 exact ⟨rfl, rfl⟩
set_option maxRecDepth 100000 in
set_option maxHeartbeats 6400000 in
theorem gcheck_any (g : Grp) (x : Ety) (X : List Lnk) (L : List Acc) (G : List Ent) (w : World) (hk : GrK w g L G) (hs : Sm g G) (hw : GrW g L G) (hx : EtyK w x X) (hn : x.n ≤ 1000) : Calls Tryz.prog 11 #[grpV g, etyV x] w fun e w' => e = .returned (.int .i64 (chkN g x X L G)) ∧ Below w.heap.size w w' := by
 obtain ⟨V, hV⟩ : ∃ V, V = cdV g x := ⟨_, rfl⟩
 have H0 := Lib.hid (fun W (h : Below w.heap.size w W) => ghead_any g x L G V hV W (hk.up h) hs hw)
 have H1 := Lib.hid (fun W (_ : Below w.heap.size w W) => gtext_any g x V hV W)
 have H2 := Lib.hid (fun W (h : Below w.heap.size w W) => glines_any g x X V hV W (hx.up h) hn)
 have H3 := Lib.hid (fun he W (h : Below w.heap.size w W) => gaccs_any g x X L G V hV W (hk.up h) hs (hx.up h) hn he)
 have H4 := Lib.hid (fun W (_ : Below w.heap.size w W) => gdate_any g x V hV W)
 have H5 := Lib.hid (fun W (h : Below w.heap.size w W) => gbal_any g x X V hV W (hx.up h) hn)
 have HE := Lib.hid (hdN_ent (g := g) (x := x) (L := L) (G := G))
 have e0 : (if (grpP g L G && (decide (1 ≤ x.id) && (entIn g x.ent && orgB x.kind x.of_))) = true then 0 else 1 : Int) = hdN g x L G := rfl
 have e5 : (if wr (sumT X) = 0 then 0 else 11 : Int) = blN X := rfl
 rw [e0] at H0
 rw [e5] at H5
 have hc : chkN g x X L G = fst6 (hdN g x L G) (erB (txtB x.txt)) (erB (lsB g x.ent X)) (er17 (acB (G.getD x.ent.toNat ent0).L X)) (prE g.cy g.cm g.cp x.day) (blN X) := rfl
 rw [hc]
 clear e0 e5 hc
 generalize hdN g x L G = r0 at *
 generalize erB (txtB x.txt) = r1 at *
 generalize erB (lsB g x.ent X) = r2 at *
 generalize er17 (acB (G.getD x.ent.toNat ent0).L X) = r3 at *
 generalize prE g.cy g.cm g.cp x.day = r4 at *
 generalize blN X = r5 at *
 generalize entIn g x.ent = en at *
 obtain ⟨GV, hGV⟩ : ∃ GV, GV = grpV g := ⟨_, rfl⟩
 obtain ⟨XV, hXV⟩ : ∃ XV, XV = etyV x := ⟨_, rfl⟩
 have HBD := Lib.hid (fun W => cd_build g x W)
 rw [← hGV, ← hXV, ← hV] at HBD
 have HGV := Lib.hid hGV
 have HXV := Lib.hid hXV
 have HV := Lib.hid hV
 rw [grpV_is]
 obtain ⟨gs, hgs⟩ : ∃ gs, (grpC g).toArray = gs := ⟨_, rfl⟩
 obtain ⟨xs, hxs⟩ : ∃ xs, (etyC x).toArray = xs := ⟨_, rfl⟩
 have hxV : etyV x = .agg xs := by rw [etyV_is, hxs]
 rw [hgs, hxV]
 obtain ⟨w2, hw2⟩ : ∃ w2, (w.alloc (.cells gs 29)).alloc (.cells xs 32) = w2 := ⟨_, rfl⟩
 have HG2 : Hid (Rg w2 w.heap.size (grpC g)) := Lib.hid (by rw [← hw2, ← hgs]; exact (rg_new w _ _).up (below_alloc_new _))
 have HX2 : Hid (Rg w2 (w.heap.size + 1) (etyC x)) := Lib.hid (by
  rw [← hw2, ← hxs]
  have h9 := rg_new (w.alloc (.cells gs 29)) 32 (etyC x)
  rw [World.size_alloc] at h9
  exact h9)
 have HB2 : Hid (Below w.heap.size w w2) := Lib.hid (by rw [← hw2]; exact below_new (below_alloc_new _) _)
 have hs2 : w2.heap.size = w.heap.size + 2 := by rw [← hw2]; simp
 have HS2 := Lib.hid hs2
 clear hV hGV hXV hgs hxs hxV hs2 hk hx hs hw
 go_enter Tryz.func11, Tryz.ntmps11
 go_wp2_with (go_at_call 33; refine (echecks_any _).mono ?_; rintro e w3 ⟨rfl, hw3⟩; have HW3 := Lib.hid hw3; clear hw3)
 have HF3 : Hid (Rg w3 w2.heap.size [.func (.func 64) #[] #[], .func (.func 65) #[] #[], .func (.func 66) #[] #[], .func (.func 67) #[] #[], .func (.func 68) #[] #[], .func (.func 69) #[] #[]]) := Lib.hid (by rw [HW3.out]; exact rg_new w2 _ _)
 have hB3 : Below w2.heap.size w2 w3 := by rw [HW3.out]; exact below_alloc_new _
 have HB3 := Lib.hid (HB2.out.trans (hB3.mono HB2.out.size))
 have HG3 := Lib.hid (HG2.out.up hB3)
 have HX3 := Lib.hid (HX2.out.up hB3)
 clear hB3 HG2 HX2 HB2 HW3
 go_loopg [10] 6 (fun kx s10 wr => ∃ k : Nat, s10 = .int .i64 k ∧ k ≤ 6 ∧ 6 - k ≤ kx ∧ (0 < k → r0 = 0) ∧ (1 < k → r1 = 0) ∧ (2 < k → r2 = 0) ∧ (3 < k → r3 = 0) ∧ (4 < k → r4 = 0) ∧ (5 < k → r5 = 0) ∧ Below w3.heap.size w3 wr)
 case atStart => exact ⟨0, rfl, by omega, by omega, fun h => absurd h (by omega), fun h => absurd h (by omega), fun h => absurd h (by omega), fun h => absurd h (by omega), fun h => absurd h (by omega), fun h => absurd h (by omega), Below.refl _ _⟩
 case round =>
  obtain ⟨k, rfl, hk, hkx, q0, q1, q2, q3, q4, q5, hBi⟩ := hrel
  have hF := HF3.out.up hBi
  have HG := Lib.hid (HG3.out.up hBi)
  have HX := Lib.hid (HX3.out.up hBi)
  have HBW := Lib.hid (HB3.out.trans (hBi.mono HB3.out.size))
  have HBI := Lib.hid hBi
  have HLG : Hid ((Instr.loadAt 29 (.pointer (some ⟨w.heap.size, 0, none⟩))).run Tryz.prog wr = .ok GV wr) := Lib.hid (by rw [HGV.out, grpV_is]; exact HG.out.load 0 29 (grpC g) rfl _ Tryz.underlying29 rfl (by kernel_rfl))
  have HLX : Hid ((Instr.loadAt 32 (.pointer (some ⟨w.heap.size + 1, 0, none⟩))).run Tryz.prog wr = .ok XV wr) := Lib.hid (by rw [HXV.out, etyV_is]; exact HX.out.load 0 32 (etyC x) rfl _ Tryz.underlying32 rfl (by kernel_rfl))
  clear hBi
  have hk6 : k = 0 ∨ k = 1 ∨ k = 2 ∨ k = 3 ∨ k = 4 ∨ k = 5 ∨ k = 6 := by omega
  rcases hk6 with rfl | rfl | rfl | rfl | rfl | rfl | rfl
  ·have c0 := hF.cell 0 _ rfl
   have HJ := H0
   by_cases hr : r0 = 0
   ·have HR := Lib.hid hr
    have e0 : (r0 != 0) = false := by simp [hr]
    clear hr hF
    go_wp2_with (first
     | (refine wpList_load_is rfl 29 _ rfl (.pointer (some ⟨w.heap.size, 0, none⟩)) rfl GV HLG.out ?_)
     | (refine wpList_load_is rfl 32 _ rfl (.pointer (some ⟨w.heap.size + 1, 0, none⟩)) rfl XV HLX.out ?_)
     | (refine wpList_build_is rfl 74 _ rfl [(0, GV), (1, XV)] rfl V (HBD.out _) ?_)
     | (go_at_call 64; refine (HJ.out _ HBW.out).mono ?_; rintro e w5 ⟨rfl, hb5⟩; have HB5 := Lib.hid (HBI.out.trans (hb5.mono HBI.out.size)); clear hb5))
    go_roundg 5
    case measure => omega
    case rel => exact ⟨1, by first | rfl | go_num, by omega, by omega, fun _ => HR.out, fun h => absurd h (by omega), fun h => absurd h (by omega), fun h => absurd h (by omega), fun h => absurd h (by omega), fun h => absurd h (by omega), HB5.out⟩
   ·have E : Hid (fst6 r0 r1 r2 r3 r4 r5 = r0) := Lib.hid (by unfold fst6; rw [if_neg hr])
    have e0 : (r0 != 0) = true := by simp [hr]
    clear hr hF q0 q1 q2 q3 q4 q5
    go_wp2_with (first
     | (refine wpList_load_is rfl 29 _ rfl (.pointer (some ⟨w.heap.size, 0, none⟩)) rfl GV HLG.out ?_)
     | (refine wpList_load_is rfl 32 _ rfl (.pointer (some ⟨w.heap.size + 1, 0, none⟩)) rfl XV HLX.out ?_)
     | (refine wpList_build_is rfl 74 _ rfl [(0, GV), (1, XV)] rfl V (HBD.out _) ?_)
     | (go_at_call 64; refine (HJ.out _ HBW.out).mono ?_; rintro e w5 ⟨rfl, hb5⟩; have HB5 := Lib.hid (HBI.out.trans (hb5.mono HBI.out.size)); clear hb5))
    go_ret
    exact ⟨by rw [E.out]; rfl, HB3.out.trans (HB5.out.mono HB3.out.size)⟩
  ·have c0 := hF.cell 1 _ rfl
   have HJ := H1
   by_cases hr : r1 = 0
   ·have HR := Lib.hid hr
    have e0 : (r1 != 0) = false := by simp [hr]
    clear hr hF
    go_wp2_with (first
     | (refine wpList_load_is rfl 29 _ rfl (.pointer (some ⟨w.heap.size, 0, none⟩)) rfl GV HLG.out ?_)
     | (refine wpList_load_is rfl 32 _ rfl (.pointer (some ⟨w.heap.size + 1, 0, none⟩)) rfl XV HLX.out ?_)
     | (refine wpList_build_is rfl 74 _ rfl [(0, GV), (1, XV)] rfl V (HBD.out _) ?_)
     | (go_at_call 65; refine (HJ.out _ HBW.out).mono ?_; rintro e w5 ⟨rfl, hb5⟩; have HB5 := Lib.hid (HBI.out.trans (hb5.mono HBI.out.size)); clear hb5))
    go_roundg 4
    case measure => omega
    case rel => exact ⟨2, by first | rfl | go_num, by omega, by omega, fun _ => q0 (by omega), fun _ => HR.out, fun h => absurd h (by omega), fun h => absurd h (by omega), fun h => absurd h (by omega), fun h => absurd h (by omega), HB5.out⟩
   ·have E : Hid (fst6 r0 r1 r2 r3 r4 r5 = r1) := Lib.hid (by unfold fst6; rw [if_pos (q0 (by omega)), if_neg hr])
    have e0 : (r1 != 0) = true := by simp [hr]
    clear hr hF q0 q1 q2 q3 q4 q5
    go_wp2_with (first
     | (refine wpList_load_is rfl 29 _ rfl (.pointer (some ⟨w.heap.size, 0, none⟩)) rfl GV HLG.out ?_)
     | (refine wpList_load_is rfl 32 _ rfl (.pointer (some ⟨w.heap.size + 1, 0, none⟩)) rfl XV HLX.out ?_)
     | (refine wpList_build_is rfl 74 _ rfl [(0, GV), (1, XV)] rfl V (HBD.out _) ?_)
     | (go_at_call 65; refine (HJ.out _ HBW.out).mono ?_; rintro e w5 ⟨rfl, hb5⟩; have HB5 := Lib.hid (HBI.out.trans (hb5.mono HBI.out.size)); clear hb5))
    go_ret
    exact ⟨by rw [E.out]; rfl, HB3.out.trans (HB5.out.mono HB3.out.size)⟩
  ·have c0 := hF.cell 2 _ rfl
   have HJ := H2
   by_cases hr : r2 = 0
   ·have HR := Lib.hid hr
    have e0 : (r2 != 0) = false := by simp [hr]
    clear hr hF
    go_wp2_with (first
     | (refine wpList_load_is rfl 29 _ rfl (.pointer (some ⟨w.heap.size, 0, none⟩)) rfl GV HLG.out ?_)
     | (refine wpList_load_is rfl 32 _ rfl (.pointer (some ⟨w.heap.size + 1, 0, none⟩)) rfl XV HLX.out ?_)
     | (refine wpList_build_is rfl 74 _ rfl [(0, GV), (1, XV)] rfl V (HBD.out _) ?_)
     | (go_at_call 66; refine (HJ.out _ HBW.out).mono ?_; rintro e w5 ⟨rfl, hb5⟩; have HB5 := Lib.hid (HBI.out.trans (hb5.mono HBI.out.size)); clear hb5))
    go_roundg 3
    case measure => omega
    case rel => exact ⟨3, by first | rfl | go_num, by omega, by omega, fun _ => q0 (by omega), fun _ => q1 (by omega), fun _ => HR.out, fun h => absurd h (by omega), fun h => absurd h (by omega), fun h => absurd h (by omega), HB5.out⟩
   ·have E : Hid (fst6 r0 r1 r2 r3 r4 r5 = r2) := Lib.hid (by unfold fst6; rw [if_pos (q0 (by omega)), if_pos (q1 (by omega)), if_neg hr])
    have e0 : (r2 != 0) = true := by simp [hr]
    clear hr hF q0 q1 q2 q3 q4 q5
    go_wp2_with (first
     | (refine wpList_load_is rfl 29 _ rfl (.pointer (some ⟨w.heap.size, 0, none⟩)) rfl GV HLG.out ?_)
     | (refine wpList_load_is rfl 32 _ rfl (.pointer (some ⟨w.heap.size + 1, 0, none⟩)) rfl XV HLX.out ?_)
     | (refine wpList_build_is rfl 74 _ rfl [(0, GV), (1, XV)] rfl V (HBD.out _) ?_)
     | (go_at_call 66; refine (HJ.out _ HBW.out).mono ?_; rintro e w5 ⟨rfl, hb5⟩; have HB5 := Lib.hid (HBI.out.trans (hb5.mono HBI.out.size)); clear hb5))
    go_ret
    exact ⟨by rw [E.out]; rfl, HB3.out.trans (HB5.out.mono HB3.out.size)⟩
  ·have c0 := hF.cell 3 _ rfl
   have HJ := Lib.hid (H3.out (HE.out (q0 (by omega))))
   by_cases hr : r3 = 0
   ·have HR := Lib.hid hr
    have e0 : (r3 != 0) = false := by simp [hr]
    clear hr hF
    go_wp2_with (first
     | (refine wpList_load_is rfl 29 _ rfl (.pointer (some ⟨w.heap.size, 0, none⟩)) rfl GV HLG.out ?_)
     | (refine wpList_load_is rfl 32 _ rfl (.pointer (some ⟨w.heap.size + 1, 0, none⟩)) rfl XV HLX.out ?_)
     | (refine wpList_build_is rfl 74 _ rfl [(0, GV), (1, XV)] rfl V (HBD.out _) ?_)
     | (go_at_call 67; refine (HJ.out _ HBW.out).mono ?_; rintro e w5 ⟨rfl, hb5⟩; have HB5 := Lib.hid (HBI.out.trans (hb5.mono HBI.out.size)); clear hb5))
    go_roundg 2
    case measure => omega
    case rel => exact ⟨4, by first | rfl | go_num, by omega, by omega, fun _ => q0 (by omega), fun _ => q1 (by omega), fun _ => q2 (by omega), fun _ => HR.out, fun h => absurd h (by omega), fun h => absurd h (by omega), HB5.out⟩
   ·have E : Hid (fst6 r0 r1 r2 r3 r4 r5 = r3) := Lib.hid (by unfold fst6; rw [if_pos (q0 (by omega)), if_pos (q1 (by omega)), if_pos (q2 (by omega)), if_neg hr])
    have e0 : (r3 != 0) = true := by simp [hr]
    clear hr hF q0 q1 q2 q3 q4 q5
    go_wp2_with (first
     | (refine wpList_load_is rfl 29 _ rfl (.pointer (some ⟨w.heap.size, 0, none⟩)) rfl GV HLG.out ?_)
     | (refine wpList_load_is rfl 32 _ rfl (.pointer (some ⟨w.heap.size + 1, 0, none⟩)) rfl XV HLX.out ?_)
     | (refine wpList_build_is rfl 74 _ rfl [(0, GV), (1, XV)] rfl V (HBD.out _) ?_)
     | (go_at_call 67; refine (HJ.out _ HBW.out).mono ?_; rintro e w5 ⟨rfl, hb5⟩; have HB5 := Lib.hid (HBI.out.trans (hb5.mono HBI.out.size)); clear hb5))
    go_ret
    exact ⟨by rw [E.out]; rfl, HB3.out.trans (HB5.out.mono HB3.out.size)⟩
  ·have c0 := hF.cell 4 _ rfl
   have HJ := H4
   by_cases hr : r4 = 0
   ·have HR := Lib.hid hr
    have e0 : (r4 != 0) = false := by simp [hr]
    clear hr hF
    go_wp2_with (first
     | (refine wpList_load_is rfl 29 _ rfl (.pointer (some ⟨w.heap.size, 0, none⟩)) rfl GV HLG.out ?_)
     | (refine wpList_load_is rfl 32 _ rfl (.pointer (some ⟨w.heap.size + 1, 0, none⟩)) rfl XV HLX.out ?_)
     | (refine wpList_build_is rfl 74 _ rfl [(0, GV), (1, XV)] rfl V (HBD.out _) ?_)
     | (go_at_call 68; refine (HJ.out _ HBW.out).mono ?_; rintro e w5 ⟨rfl, hb5⟩; have HB5 := Lib.hid (HBI.out.trans (hb5.mono HBI.out.size)); clear hb5))
    go_roundg 1
    case measure => omega
    case rel => exact ⟨5, by first | rfl | go_num, by omega, by omega, fun _ => q0 (by omega), fun _ => q1 (by omega), fun _ => q2 (by omega), fun _ => q3 (by omega), fun _ => HR.out, fun h => absurd h (by omega), HB5.out⟩
   ·have E : Hid (fst6 r0 r1 r2 r3 r4 r5 = r4) := Lib.hid (by unfold fst6; rw [if_pos (q0 (by omega)), if_pos (q1 (by omega)), if_pos (q2 (by omega)), if_pos (q3 (by omega)), if_neg hr])
    have e0 : (r4 != 0) = true := by simp [hr]
    clear hr hF q0 q1 q2 q3 q4 q5
    go_wp2_with (first
     | (refine wpList_load_is rfl 29 _ rfl (.pointer (some ⟨w.heap.size, 0, none⟩)) rfl GV HLG.out ?_)
     | (refine wpList_load_is rfl 32 _ rfl (.pointer (some ⟨w.heap.size + 1, 0, none⟩)) rfl XV HLX.out ?_)
     | (refine wpList_build_is rfl 74 _ rfl [(0, GV), (1, XV)] rfl V (HBD.out _) ?_)
     | (go_at_call 68; refine (HJ.out _ HBW.out).mono ?_; rintro e w5 ⟨rfl, hb5⟩; have HB5 := Lib.hid (HBI.out.trans (hb5.mono HBI.out.size)); clear hb5))
    go_ret
    exact ⟨by rw [E.out]; rfl, HB3.out.trans (HB5.out.mono HB3.out.size)⟩
  ·have c0 := hF.cell 5 _ rfl
   have HJ := H5
   by_cases hr : r5 = 0
   ·have HR := Lib.hid hr
    have e0 : (r5 != 0) = false := by simp [hr]
    clear hr hF
    go_wp2_with (first
     | (refine wpList_load_is rfl 29 _ rfl (.pointer (some ⟨w.heap.size, 0, none⟩)) rfl GV HLG.out ?_)
     | (refine wpList_load_is rfl 32 _ rfl (.pointer (some ⟨w.heap.size + 1, 0, none⟩)) rfl XV HLX.out ?_)
     | (refine wpList_build_is rfl 74 _ rfl [(0, GV), (1, XV)] rfl V (HBD.out _) ?_)
     | (go_at_call 69; refine (HJ.out _ HBW.out).mono ?_; rintro e w5 ⟨rfl, hb5⟩; have HB5 := Lib.hid (HBI.out.trans (hb5.mono HBI.out.size)); clear hb5))
    go_roundg 0
    case measure => omega
    case rel => exact ⟨6, by first | rfl | go_num, by omega, by omega, fun _ => q0 (by omega), fun _ => q1 (by omega), fun _ => q2 (by omega), fun _ => q3 (by omega), fun _ => q4 (by omega), fun _ => HR.out, HB5.out⟩
   ·have E : Hid (fst6 r0 r1 r2 r3 r4 r5 = r5) := Lib.hid (by unfold fst6; rw [if_pos (q0 (by omega)), if_pos (q1 (by omega)), if_pos (q2 (by omega)), if_pos (q3 (by omega)), if_pos (q4 (by omega))])
    have e0 : (r5 != 0) = true := by simp [hr]
    clear hr hF q0 q1 q2 q3 q4 q5
    go_wp2_with (first
     | (refine wpList_load_is rfl 29 _ rfl (.pointer (some ⟨w.heap.size, 0, none⟩)) rfl GV HLG.out ?_)
     | (refine wpList_load_is rfl 32 _ rfl (.pointer (some ⟨w.heap.size + 1, 0, none⟩)) rfl XV HLX.out ?_)
     | (refine wpList_build_is rfl 74 _ rfl [(0, GV), (1, XV)] rfl V (HBD.out _) ?_)
     | (go_at_call 69; refine (HJ.out _ HBW.out).mono ?_; rintro e w5 ⟨rfl, hb5⟩; have HB5 := Lib.hid (HBI.out.trans (hb5.mono HBI.out.size)); clear hb5))
    go_ret
    exact ⟨by rw [E.out]; rfl, HB3.out.trans (HB5.out.mono HB3.out.size)⟩
  ·have E : Hid (fst6 r0 r1 r2 r3 r4 r5 = 0) := Lib.hid (by unfold fst6; rw [if_pos (q0 (by omega)), if_pos (q1 (by omega)), if_pos (q2 (by omega)), if_pos (q3 (by omega)), if_pos (q4 (by omega))]; exact q5 (by omega))
   clear hF q0 q1 q2 q3 q4 q5
   go_wp2_with fail
   go_ret
   exact ⟨by rw [E.out]; rfl, HBW.out⟩
theorem in_is {y m k n : Int} (h : clV y m k = true) : inB y m k n = inP y m k n := by
 have h1 := clV_iff.1 h
 have e : mno y m = 12 * y + m - 1 := rfl
 have f : pdF y m k 0 = mfst (mno y m) := by
  unfold pdF
  rw [clE_in h (by omega), if_pos rfl, Int.add_zero]
 have l : pdL y m k (k - 1) = mfst (mno y m + k) - 1 := by
  unfold pdL
  rw [clE_in h (by omega), if_pos rfl, show mno y m + (k - 1) + 1 = mno y m + k by omega]
 have b0 := mfst_bd (T := mno y m) (by omega) (by omega)
 have b1 := mfst_bd (T := mno y m + k) (by omega) (by omega)
 rw [Bool.eq_iff_iff]
 constructor
 ·intro q
  unfold inB at q
  rw [Bool.and_eq_true, decide_eq_true_eq, decide_eq_true_eq, f, l] at q
  have hv : vdB n = true := vdB_iff.2 ⟨by omega, by omega⟩
  obtain ⟨t0, t1, t2, t3⟩ := mth_is hv
  refine inP_iff.2 ⟨hv, ?_, ?_⟩
  ·rcases Int.lt_or_le (mth n) (mno y m) with c | c
   ·have := mfst_mono (S := mth n + 1) (T := mno y m) (by omega) (by omega)
    omega
   ·omega
  ·rcases Int.lt_or_le (mth n - mno y m) k with c | c
   ·exact c
   ·have := mfst_mono (S := mno y m + k) (T := mth n) (by omega) (by omega)
    omega
 ·intro q
  obtain ⟨hp, p1, p2⟩ := per_at q
  have m1 := mfst_mono (S := mno y m) (T := mno y m + (mth n - mno y m)) (by omega) (by omega)
  have m2 := mfst_mono (S := mno y m + (mth n - mno y m) + 1) (T := mno y m + k) (by omega) (by omega)
  unfold inB
  rw [Bool.and_eq_true, decide_eq_true_eq, decide_eq_true_eq, f, l]
  omega
end Go.Proofs.YtbcphcheomojdaaGreat
namespace Go.Proofs
open Go.Shelf
def Tryz.sortf75_ren : Go.Shelf.Ren := ⟨fun | 6 => 75 | 15 => 109 | 14 => 108 | 28 => 138 | 29 => 139 | 20 => 130 | 21 => 131 | 22 => 132 | 23 => 133 | 24 => 134 | 25 => 135 | 26 => 136 | 27 => 137 | 46 => 156 | 47 => 157 | 48 => 158 | 49 => 159 | 50 => 160 | 57 => 171 | n => n, fun | 22 => 82 | 24 => 33 | 25 => 87 | 3 => 3 | 39 => 142 | 0 => 0 | 53 => 171 | 55 => 173 | 4 => 4 | 46 => 165 | 45 => 164 | 50 => 60 | 5 => 5 | 9 => 9 | 66 => 185 | 70 => 189 | 76 => 193 | 77 => 175 | n => n, fun | n => n⟩
theorem Tryz.sortf75 : Go.Proofs.SlLaysF0.n6 Tryz.prog Tryz.sortf75_ren := {
 mixed := by kernel_rfl
 f6 := ⟨Tryz.f75.name, by decide, Tryz.func75.trans (congrArg some (by kernel_rfl))⟩
 f14 := ⟨Tryz.f108.name, by decide, Tryz.func108.trans (congrArg some (by kernel_rfl))⟩
 f15 := Tryz.func109.trans (congrArg some (by kernel_rfl))
 f20 := ⟨Tryz.f130.name, by decide, Tryz.func130.trans (congrArg some (by kernel_rfl))⟩
 f21 := ⟨Tryz.f131.name, by decide, Tryz.func131.trans (congrArg some (by kernel_rfl))⟩
 f22 := ⟨Tryz.f132.name, by decide, Tryz.func132.trans (congrArg some (by kernel_rfl))⟩
 f23 := ⟨Tryz.f133.name, by decide, Tryz.func133.trans (congrArg some (by kernel_rfl))⟩
 f24 := ⟨Tryz.f134.name, by decide, Tryz.func134.trans (congrArg some (by kernel_rfl))⟩
 f25 := ⟨Tryz.f135.name, by decide, Tryz.func135.trans (congrArg some (by kernel_rfl))⟩
 f26 := ⟨Tryz.f136.name, by decide, Tryz.func136.trans (congrArg some (by kernel_rfl))⟩
 f27 := ⟨Tryz.f137.name, by decide, Tryz.func137.trans (congrArg some (by kernel_rfl))⟩
 f28 := Tryz.func138.trans (congrArg some (by kernel_rfl))
 f29 := Tryz.func139.trans (congrArg some (by kernel_rfl))
 f46 := ⟨Tryz.f156.name, by decide, Tryz.func156.trans (congrArg some (by kernel_rfl))⟩
 f47 := Tryz.func157.trans (congrArg some (by kernel_rfl))
 f48 := Tryz.func158.trans (congrArg some (by kernel_rfl))
 f49 := ⟨Tryz.f159.name, by decide, Tryz.func159.trans (congrArg some (by kernel_rfl))⟩
 f50 := ⟨Tryz.f160.name, by decide, Tryz.func160.trans (congrArg some (by kernel_rfl))⟩
 f57 := ⟨Tryz.f171.name, by decide, Tryz.func171.trans (congrArg some (by kernel_rfl))⟩
 t0 := Tryz.underlying0
 a0 := Tryz.isAgg0
 z0 := Tryz.sizeOf0
 v0 := Tryz.zeroValue0
 t3 := Tryz.underlying3
 a3 := Tryz.isAgg3
 z3 := Tryz.sizeOf3
 v3 := Tryz.zeroValue3
 t4 := Tryz.underlying4
 a4 := Tryz.isAgg4
 z4 := Tryz.sizeOf4
 v4 := Tryz.zeroValue4
 t5 := Tryz.underlying5
 a5 := Tryz.isAgg5
 z5 := Tryz.sizeOf5
 v5 := Tryz.zeroValue5
 t9 := Tryz.underlying9
 a9 := Tryz.isAgg9
 z9 := Tryz.sizeOf9
 v9 := Tryz.zeroValue9
 t22 := Tryz.underlying82
 a22 := Tryz.isAgg82
 z22 := Tryz.sizeOf82
 v22 := Tryz.zeroValue82
 t25 := Tryz.underlying87
 a25 := Tryz.isAgg87
 z25 := Tryz.sizeOf87
 v25 := Tryz.zeroValue87
 t39 := Tryz.underlying142
 a39 := Tryz.isAgg142
 z39 := Tryz.sizeOf142
 v39 := Tryz.zeroValue142
 t45 := Tryz.underlying164
 a45 := Tryz.isAgg164
 z45 := Tryz.sizeOf164
 v45 := Tryz.zeroValue164
 t46 := Tryz.underlying165
 a46 := Tryz.isAgg165
 z46 := Tryz.sizeOf165
 v46 := Tryz.zeroValue165
 t50 := Tryz.underlying60
 a50 := Tryz.isAgg60
 z50 := Tryz.sizeOf60
 v50 := Tryz.zeroValue60
 t53 := Tryz.underlying171
 a53 := Tryz.isAgg171
 z53 := Tryz.sizeOf171
 v53 := Tryz.zeroValue171
 t55 := Tryz.underlying173
 a55 := Tryz.isAgg173
 z55 := Tryz.sizeOf173
 v55 := Tryz.zeroValue173
 t66 := Tryz.underlying185
 a66 := Tryz.isAgg185
 z66 := Tryz.sizeOf185
 v66 := Tryz.zeroValue185
 t70 := Tryz.underlying189
 a70 := Tryz.isAgg189
 z70 := Tryz.sizeOf189
 v70 := Tryz.zeroValue189
 t76 := Tryz.underlying193
 a76 := Tryz.isAgg193
 z76 := Tryz.sizeOf193
 v76 := Tryz.zeroValue193
 t77 := Tryz.underlying175
 a77 := Tryz.isAgg175
 z77 := Tryz.sizeOf175
 v77 := Tryz.zeroValue175 }
end Go.Proofs
namespace Go.Proofs.YtbcphcheomojdaaGreat
open Go.RowKit Go.Sort Go.Shelf
def cmK (x y : Int × Int) : Int := if cmI x.1 y.1 = 0 then cmI x.2 y.2 else cmI x.1 y.1
theorem cmI_ltx {x y : Int} : cmI x y < 0 ↔ x < y := by unfold cmI; split <;> (try split) <;> omega
theorem cmI_eqx {x y : Int} : cmI x y = 0 ↔ x = y := by unfold cmI; split <;> (try split) <;> omega
theorem ltOf_cmK (x y : Int × Int) : ltOf cmK x y = decide (ltK x y) := by
 unfold ltOf cmK ltK
 by_cases h : cmI x.1 y.1 = 0
 ·rw [if_pos h]
  have h2 := cmI_eqx.1 h
  have h3 := cmI_ltx (x := x.2) (y := y.2)
  refine decide_eq_decide.2 ?_
  rw [h3]; omega
 ·rw [if_neg h]
  have h2 := mt cmI_eqx.2 h
  have h3 := cmI_ltx (x := x.1) (y := y.1)
  refine decide_eq_decide.2 ?_
  rw [h3]; omega
theorem cmK_swo : SWO (ltOf cmK) where
 irrefl x := by rw [ltOf_cmK]; simpa using ltK_irrefl x
 trans x y z h1 h2 := by rw [ltOf_cmK] at *; simp only [decide_eq_true_eq] at *; exact ltK_trans h1 h2
 ntrans x y z h1 h2 := by rw [ltOf_cmK] at *; simp only [decide_eq_false_iff_not] at *; unfold ltK at *; omega
theorem cmK_tot (x y : Int × Int) (h1 : ltOf cmK x y = false) (h2 : ltOf cmK y x = false) : x = y := by
 rw [ltOf_cmK] at h1 h2
 exact ltK_tri (of_decide_eq_false h1) (of_decide_eq_false h2)
structure P2 (w : World) (b : Nat) (k : Int × Int) : Prop where
 c0 : w.cell? ⟨b, 0, none⟩ = some (.int .i64 k.1)
 c1 : w.cell? ⟨b, 1, none⟩ = some (.int .i64 k.2)
 lt : b < w.heap.size
theorem P2.up {w w' : World} {b : Nat} {k : Int × Int} (h : P2 w b k) (hb : Below w.heap.size w w') : P2 w' b k :=
 ⟨(hb.cell (p := ⟨b, 0, none⟩) h.lt).trans h.c0, (hb.cell (p := ⟨b, 1, none⟩) h.lt).trans h.c1, Nat.lt_of_lt_of_le h.lt hb.size⟩
theorem p2_new (w : World) (t : TypeId) (k : Int × Int) : P2 (w.alloc (.cells #[.int .i64 k.1, .int .i64 k.2] t)) w.heap.size k := by
 refine ⟨?_, ?_, by simp⟩ <;> (simp only [World.cell?]; rw [heap_alloc_new]; rfl)
set_option maxRecDepth 20000 in
set_option maxHeartbeats 1600000 in
theorem scmp_any (p q : Nat) (x y : Int × Int) (w : World) (hx : P2 w p x) (hy : P2 w q y) :
  Calls Tryz.prog 77 #[.slice (some ⟨p, 0, none⟩) 2 2, .slice (some ⟨q, 0, none⟩) 2 2] w fun e w' => e = .returned (.int .i64 (cmK x y)) ∧ w = w' := by
 obtain ⟨a0, a1, -⟩ := hx
 obtain ⟨b0, b1, -⟩ := hy
 obtain ⟨x1, x2⟩ := x
 obtain ⟨y1, y2⟩ := y
 dsimp only at a0 a1 b0 b1
 have HC := Lib.hid (ccmp_any x1 y1)
 have HD := Lib.hid (ccmp_any x2 y2)
 have hE : cmK (x1, x2) (y1, y2) = if cmI x1 y1 = 0 then cmI x2 y2 else cmI x1 y1 := rfl
 rw [hE]
 clear hE
 generalize cmI x1 y1 = c at *
 generalize cmI x2 y2 = d at *
 go_enter Tryz.func77, Tryz.ntmps77
 go_wp2_with fail
 go_loopg [11] 2 (fun kx s11 W => w = W ∧ ((s11 = .int .i64 0 ∧ 2 ≤ kx) ∨ (s11 = .int .i64 1 ∧ 1 ≤ kx ∧ c = 0) ∨ (s11 = .int .i64 2 ∧ c = 0 ∧ d = 0)))
 case atStart => exact ⟨rfl, .inl ⟨rfl, by omega⟩⟩
 case round =>
  obtain ⟨rfl, hrel⟩ := hrel
  rcases hrel with ⟨rfl, hk⟩ | ⟨rfl, hk, rfl⟩ | ⟨rfl, rfl, rfl⟩
  ·by_cases hc : c = 0
   ·subst hc
    go_wp2_with (go_at_call 110; refine (HC.out _).mono ?_; rintro e w' ⟨rfl, rfl⟩)
    go_roundg 1
    case measure => omega
    case rel => exact ⟨by first | trivial | rfl, .inr (.inl ⟨rfl, by omega, by first | rfl | trivial⟩)⟩
   ·go_wp2_with (go_at_call 110; refine (HC.out _).mono ?_; rintro e w' ⟨rfl, rfl⟩)
    go_ret
    exact ⟨by first | rfl | (rw [if_neg hc]; rfl), rfl⟩
  ·by_cases hd : d = 0
   ·subst hd
    go_wp2_with (go_at_call 110; refine (HD.out _).mono ?_; rintro e w' ⟨rfl, rfl⟩)
    go_roundg 0
    case measure => omega
    case rel => exact ⟨by first | trivial | rfl, .inr (.inr ⟨rfl, by first | rfl | trivial, by first | rfl | trivial⟩)⟩
   ·go_wp2_with (go_at_call 110; refine (HD.out _).mono ?_; rintro e w' ⟨rfl, rfl⟩)
    go_ret
    exact ⟨by first | rfl | (rw [if_pos rfl]; rfl), rfl⟩
  ·go_wp2_with fail
   go_ret
   exact ⟨by first | rfl | (rw [if_pos rfl]; rfl), rfl⟩
set_option maxRecDepth 20000 in
set_option maxHeartbeats 1600000 in
theorem ecmp_any (x y : Int × Int) (w : World) :
  Calls Tryz.prog 43 #[.agg #[.int .i64 x.1, .int .i64 x.2], .agg #[.int .i64 y.1, .int .i64 y.2]] w fun e w' => e = .returned (.int .i64 (cmK x y)) ∧ ∃ q os, w' = grow (w.drewN q) os := by
 have HC := Lib.hid (fun W h1 h2 => scmp_any w.heap.size (w.heap.size + 1) x y W h1 h2)
 have hx := p2_new w 33 x
 have hy := p2_new (w.alloc (.cells #[.int .i64 x.1, .int .i64 x.2] 33)) 33 y
 rw [World.size_alloc] at hy
 have hx2 := hx.up (below_alloc_new (.cells #[.int .i64 y.1, .int .i64 y.2] 33))
 have HX : Hid (∀ n, P2 (((w.alloc (.cells #[.int .i64 x.1, .int .i64 x.2] 33)).alloc (.cells #[.int .i64 y.1, .int .i64 y.2] 33)).drewN n) w.heap.size x) := Lib.hid fun n => ⟨hx2.c0, hx2.c1, hx2.lt⟩
 have HY : Hid (∀ n, P2 (((w.alloc (.cells #[.int .i64 x.1, .int .i64 x.2] 33)).alloc (.cells #[.int .i64 y.1, .int .i64 y.2] 33)).drewN n) (w.heap.size + 1) y) := Lib.hid fun n => ⟨hy.c0, hy.c1, hy.lt⟩
 clear hx hy hx2
 generalize cmK x y = r at *
 go_enter Tryz.func43, Tryz.ntmps43
 go_wp2_with fail
 obtain ⟨W1, hW1⟩ : ∃ W1, (w.alloc (.cells #[.int .i64 x.1, .int .i64 x.2] 33)).alloc (.cells #[.int .i64 y.1, .int .i64 y.2] 33) = W1 := ⟨_, rfl⟩
 rw [hW1] at HX HY ⊢
 have HW1 := Lib.hid hW1
 clear hW1
 go_quiet ((go_at_call 77; exact (HC.out _ (HX.out _) (HY.out _)).mono (fun _ _ h => ⟨h.1, _, h.2.symm⟩)))
 go_wp2_with fail
 go_ret
 exact ⟨rfl, _, _, by rw [← HW1.out, alloc_eq_grow, alloc_eq_grow, grow_grow]; rfl⟩
open Go.RowKit Go.Maps Go.Sort Go.Shelf
def celP (k : Int × Int) : List Value := [.int .i64 k.1, .int .i64 k.2]
theorem cells_two_new (w : World) (t : TypeId) (a b : Value) : ∀ (j : Nat) (u : Value), [a, b][j]? = some u → (w.alloc (.cells #[a, b] t)).cell? ((⟨w.heap.size, 0, none⟩ : Addr).add j) = some u := by
 intro j u hj
 match j, hj with
 | 0, hj =>
  simp at hj; subst hj
  unfold World.cell? Addr.add
  rw [if_pos rfl]
  dsimp only
  rw [heap_alloc_new]
  rfl
 | 1, hj =>
  simp at hj; subst hj
  unfold World.cell? Addr.add
  rw [if_neg (by decide)]
  dsimp only
  rw [heap_alloc_new]
  rfl
 | j + 2, hj => simp at hj
theorem infoP : (Tryz.prog.info? 33).map (fun i => (i.zero, i.size, i.bytes)) = some (some (.agg #[.int .i64 0, .int .i64 0]), 2, 16) := by kernel_rfl
def CollP (D0 : DataW Value) (left : Lit → Bool) (ss : List (Int × Int)) : Prop := ss.Nodup ∧ ∀ k, k ∈ ss ↔ okK k ∧ Maps.has D0 (klit k) = true ∧ left (klit k) = false
section
variable {D0 : DataW Value} {left : Lit → Bool} {ss : List (Int × Int)}
theorem CollP.start (D0 : DataW Value) : CollP D0 (Maps.has D0) [] := ⟨List.nodup_nil, fun k => by cases Maps.has D0 (klit k) <;> simp⟩
theorem CollP.step (h : CollP D0 left ss) {x : Int × Int} (hx : okK x) {y : DataW Value} (hlk : left (klit x) = true) (hat : ∀ zd, D0.atKey (klit x) zd = y) : CollP D0 (fun z => left z && !z.sameKey (klit x)) (ss ++ [x]) := by
 have hhas : Maps.has D0 (klit x) = true := has_true_of_atKey hat
 have hno : x ∉ ss := fun hm => by
  have := ((h.2 x).1 hm).2.2
  rw [hlk] at this; cases this
 refine ⟨List.nodup_append.2 ⟨h.1, by simp, fun a ha b hb e => ?_⟩, fun q => ?_⟩
 ·rw [List.mem_singleton] at hb
  subst hb; subst e; exact hno ha
 ·rw [List.mem_append, List.mem_singleton, h.2 q]
  by_cases hq : q = x
  ·subst hq
   have : (klit q).sameKey (klit q) = true := WideAt.sameKey_self (pk_keyed.key (pair_key hx))
   simp [this, hhas, hx]
  ·constructor
   ·rintro (⟨h1, h2, h3⟩ | rfl)
    ·exact ⟨h1, h2, by simp [h3]⟩
    ·exact absurd rfl hq
   ·rintro ⟨h1, h2, h3⟩
    have hne : (klit q).sameKey (klit x) = false := by
     cases hs : (klit q).sameKey (klit x)
     ·rfl
     ·exact absurd (klit_inj h1 hx (WideAt.sameKey_eq hs)) hq
    simp only [hne] at h3
    exact .inl ⟨h1, h2, by simpa using h3⟩
end
set_option maxRecDepth 100000 in
set_option maxHeartbeats 1600000 in
theorem pkeys1_in (n : Nat) (hn : 1 ≤ n) (l Bm b nn : Nat) (D0 : DataW Value) (J : List (Int × Int) → World → Prop)
  (hY : ∀ pre x W, J pre W → pre.length < Maps.size D0 → YieldAt Fence.wide (n - 1) Tryz.prog l #[pairV x] W fun e W' => e = .returned (.bool true) ∧ J (pre ++ [x]) W' ∧ KeepsWalks W W')
  (W : World) (hJ : AbidesFrom W.heap.size J) (hm : W.cell? ⟨Bm, 0, none⟩ = some (.map (some b))) (hown : W.ownsMap Tryz.prog 33 heldP b nn D0) (h0 : J [] W) :
  CallsIn Fence.wide n Tryz.prog 76 #[.func (.yield l) #[] #[], .pointer (some ⟨Bm, 0, none⟩)] W fun e W' => (∃ v, e = .returned v) ∧ ∃ ss : List (Int × Int), CollP D0 (fun _ => false) ss ∧ J ss W' := by
 refine callsIn_of_wp Tryz.func76 rfl trivial ?_ rfl
 simp only [Tryz.ntmps76, List.size_toArray, List.length_cons, List.length_nil, Nat.reduceAdd, Nat.reduceSub, Array.replicate_succ, Array.replicate_zero, List.push_toArray, List.append_toArray, List.nil_append, List.cons_append]
 gi_wp2_with (first
  | (gi_at_range; refine wpListIn_range_own _ rfl _ 80 rfl 33 3 pk_keyed Tryz.underlying80 _ b nn _ rfl hown ?_; intro w0 hrg0 hg0 hs0)
  | gi_in)
 go_frame
 gi_loopw [3] (fun _ wr => ∃ (left : Lit → Bool) (cnt : Nat) (ss : List (Int × Int)), wr.ranges Tryz.prog 33 heldP b W.heap.size nn D0 left cnt ∧ ss.length + cnt ≤ Maps.size D0 ∧ CollP D0 left ss ∧ J ss wr ∧ W.heap.size ≤ wr.heap.size)
  (fun _ wr => wr.rangeLeft b W.heap.size)
 case atStart =>
  exact ⟨_, _, [], hrg0, by simp, CollP.start D0, hJ [] W w0 none h0 hg0 (fun r e => by cases e), by omega⟩
 case round =>
  obtain ⟨left, cnt, ss, hrg, hcs, hC, hJs, hsz⟩ := hrel
  gi_wp2_with (first
   | (gi_at_next; refine wpListIn_next_ranges _ rfl _ rfl 33 pk_keyed heldP pairV id (fun key kl hk => by obtain ⟨x, hx, _⟩ := pair_of_key hk; exact ⟨x, hx⟩) (fun v _ _ => ⟨v, rfl⟩) b W.heap.size nn _ _ _ rfl hrg ?_ ?_)
   | gi_in)
  ·intro hc0 hl0
   gi_wp2
   go_end0
   obtain rfl : left = fun _ => false := funext hl0
   exact ⟨⟨_, rfl⟩, ss, hC, hJs⟩
  ·intro x1 x2 c kl yd yp w2 cnt2 hkey hlk hv hv2 hat hrg2 hlt hg2 hs2 hen
   obtain ⟨x', ex, rfl, hok⟩ := pair_of_key hkey
   obtain rfl : (x1, x2) = x' := by
    simp only [pairV, Value.agg.injEq, Array.mk.injEq, List.cons.injEq, Value.int.injEq, true_and, and_true] at ex
    exact Prod.ext ex.1 ex.2
   have hJ2 : J ss w2 := hJ ss wr w2 (some W.heap.size) hJs hg2 (fun r e => by cases e; exact ⟨Nat.le_refl _, hrg.iter_walk⟩)
   obtain ⟨w3, hw3⟩ : ∃ w3, w2.alloc (.cells #[.int .i64 x1, .int .i64 x2] 33) = w3 := ⟨_, rfl⟩
   have hJ3 : J ss w3 := hJ ss w2 w3 none hJ2 (by rw [← hw3]; exact World.grownBy_alloc _ _ none) (fun r e => by cases e)
   have hp3 : P2 w3 w2.heap.size (x1, x2) := by rw [← hw3]; exact p2_new w2 _ (x1, x2)
   obtain ⟨d0, d1, -⟩ := hp3
   dsimp only at d0 d1
   have hrg3 := hrg2.of_walks (by rw [← hw3]; exact KeepsWalks.alloc _ _ : KeepsWalks w2 w3)
   have hs3 : w3.heap.size = w2.heap.size + 1 := by rw [← hw3]; simp
   obtain ⟨fn, tmps, assign, body, hy, hR⟩ := hY ss (x1, x2) w3 hJ3 (by omega)
   have HS2 := Lib.hid hs2
   clear hs2
   gi_wp2
   refine hR.mono ?_
   rintro e W3 ⟨rfl, hJ4, hk3⟩
   gi_wp2
   have hrg4 := hrg3.of_walks hk3
   go_roundw
   case rel => exact ⟨_, cnt2, ss ++ [(x1, x2)], hrg4, by simp; omega, hC.step hok hlk hat, hJ4, by have := hk3.size; have := HS2.out; omega⟩
   case measure => rw [hrg4.left_eq, hrg.left_eq]; exact hlt
theorem pkeys_gives (n : Nat) (hn : 1 ≤ n) (Bm b nn : Nat) (D0 : DataW Value) (w : World) (hBm : Bm < w.heap.size) (hm : w.cell? ⟨Bm, 0, none⟩ = some (.map (some b))) (hown : w.ownsMap Tryz.prog 33 heldP b nn D0) :
  SeqGives Fence.wide n Tryz.prog 76 #[.pointer (some ⟨Bm, 0, none⟩)] pairV (fun ss => CollP D0 (fun _ => false) ss) (Maps.size D0) w := fun l J W hW hJ hY h0 => by
 have hown' : W.ownsMap Tryz.prog 33 heldP b nn D0 := by
  have hbl := hown.lt
  obtain ⟨es, clock, hb, Ft, hs, hD⟩ := hown
  exact ⟨es, clock, (hW.block b hbl).trans hb, Ft, hs, hD⟩
 exact pkeys1_in n hn l Bm b nn D0 J hY W hJ ((hW.cell (p := ⟨Bm, 0, none⟩) hBm).trans hm) hown' h0

/-! What a round of the collecting loop does. -/
def epAssign : Code := .region 2 #[{ dst := some 5, op := .alloc 33, type := 0, pos := "iter.go:51", after := #[], guard := none }, { dst := none, op := .store 33 (.tmp 5) (.tmp 7), type := 0, pos := "iter.go:51", after := #[{ on := 0, ground := .data }, { on := 0, ground := .phase }], guard := none }] false
def epBody : Code := .block 1 (.region 3 #[{ dst := some 8, op := .load 82 (.tmp 2), type := 82, pos := "iter.go:52", after := #[], guard := none }, { dst := some 9, op := .load 33 (.tmp 5), type := 33, pos := "iter.go:52", after := #[], guard := none }, { dst := some 10, op := .buildSlice 82 1 #[(0, .tmp 9)], type := 82, pos := "iter.go:52", after := #[{ on := 1, ground := .data }], guard := none }, { dst := some 11, op := .call { callee := .builtin .append, args := #[.tmp 8, .tmp 10], argTypes := #[82, 82] }, type := 82, pos := "iter.go:52", after := #[{ on := 0, ground := .data }, { on := 2, ground := .data }], guard := none }, { dst := none, op := .store 82 (.tmp 2) (.tmp 11), type := 0, pos := "iter.go:52", after := #[{ on := 3, ground := .data }, { on := 3, ground := .chain }, { on := 0, ground := .phase }, { on := 1, ground := .phase }, { on := 2, ground := .phase }, { on := 3, ground := .phase }], guard := none }] false)
def epRec (fn : FuncId) (sv : Value) (Bs D : Nat) (st : LoopState) (pend : Option Code) : Loop :=
 { state := st, pending := pend, fn, tmps := #[.slice none 0 0, sv, .pointer (some ⟨Bs, 0, none⟩), undef, .slice none 0 0, undef, sv, undef, undef, undef, undef, undef, undef], params := #[7], assign := epAssign, body := epBody, defers := D }
structure EpAt (w0 : World) (fn : FuncId) (sv : Value) (Bs l D : Nat) (ss : List (Int × Int)) (W : World) : Prop where
 box : ∃ v, W.heap[Bs]? = some (.cells #[v] 82 (0, 0)) ∧ W.ownsRow w0.heap.size 33 2 v ss.length (ss.flatMap celP)
 L : W.heap[l]? = some (.loop (epRec fn sv Bs D .ready none))
 K : W.heap[D]? = some (.deferred (some []))
 below : Below w0.heap.size w0 W
theorem ep_abides (w0 : World) (fn : FuncId) (sv : Value) (Bs l D B : Nat) (hB : w0.heap.size ≤ B) : AbidesFrom B (EpAt w0 fn sv Bs l D) := fun s W W' row h hg hrow => by
 have hrow' : ∀ r, row = some r → ∃ o : Obj, W.heap[r]? = some o ∧ o.isWalk = true := fun r e => (hrow r e).2
 obtain ⟨v, hv, hr⟩ := h.box
 exact ⟨⟨v, (grownBy_keeps hg hrow' hv rfl).trans hv, ownsRow_abides_a hr hg hrow'⟩, (grownBy_keeps hg hrow' h.L rfl).trans h.L, (grownBy_keeps hg hrow' h.K rfl).trans h.K,
  h.below.grown hg h.below.size (fun k e => Nat.le_trans hB (hrow k e).1)⟩
set_option maxRecDepth 100000 in
set_option maxHeartbeats 4000000 in
theorem epYield (m : Nat) (w0 : World) (fn : FuncId) (sv : Value) (Bs l D : Nat) (hBl : Bs ≠ l) (hDl : D ≠ l) (hDB : D ≠ Bs) (h0B : w0.heap.size ≤ Bs) (h0l : w0.heap.size ≤ l)
    (N : Nat) (hN : N ≤ 1000000) (ss : List (Int × Int)) (x : Int × Int) (W : World) (h : EpAt w0 fn sv Bs l D ss W) (hlen : ss.length < N) :
    YieldAt Fence.wide m Tryz.prog l #[pairV x] W fun e W' => e = .returned (.bool true) ∧ EpAt w0 fn sv Bs l D (ss ++ [x]) W' ∧ KeepsWalks W W' := by
  have hne : ∀ {t : TypeId} {c d : Array Value} {o o' : Nat × Nat}, t ≠ 33 → Obj.cells c t o ≠ Obj.cells d 33 o' := fun ht e => ht (Obj.cells.inj e).2.1
  obtain ⟨i0, hi, hz0, hz1, hz2⟩ := info_parts infoP
  obtain ⟨v, hv, hrow⟩ := h.box
  refine ⟨fn, #[.slice none 0 0, sv, .pointer (some ⟨Bs, 0, none⟩), undef, .slice none 0 0, undef, sv, pairV x, undef, undef, undef, undef, undef], epAssign, epBody, by simpa [epRec] using run_yield (P := Tryz.prog) (args := #[pairV x]) h.L rfl, roundIn_of_wpIn trivial ?_⟩
  have hl : l < W.heap.size := (Array.getElem?_eq_some_iff.1 h.L).1
  have hBlt0 : Bs < W.heap.size := (Array.getElem?_eq_some_iff.1 hv).1
  have hDlt0 : D < W.heap.size := (Array.getElem?_eq_some_iff.1 h.K).1
  obtain ⟨B1, hB1⟩ : ∃ B1, W.heap.size = B1 := ⟨_, rfl⟩
  obtain ⟨W2, hW2⟩ : ∃ W2, W.alloc (.cells #[.int .i64 x.1, .int .i64 x.2] 33) = W2 := ⟨_, rfl⟩
  have hv2 : W2.heap[Bs]? = some (.cells #[v] 82 (0, 0)) := by rw [← hW2]; exact (Below.heap_alloc _ _ Bs hBlt0).trans hv
  have hK2 : W2.heap[D]? = some (.deferred (some [])) := by rw [← hW2]; exact (Below.heap_alloc _ _ D hDlt0).trans h.K
  have hL2 : W2.heap[l]? = some (.loop (epRec fn sv Bs D .ready none)) := by rw [← hW2]; exact (Below.heap_alloc _ _ l hl).trans h.L
  have hrow2 : W2.ownsRow w0.heap.size 33 2 v ss.length (ss.flatMap celP) := by rw [← hW2]; exact World.ownsRow.alloc hrow _
  have hb2 : Below w0.heap.size w0 W2 := by rw [← hW2]; exact h.below.alloc h.below.size _
  have hk2 : KeepsWalks W W2 := by rw [← hW2]; exact KeepsWalks.alloc _ _
  obtain ⟨d0, d1, hBn⟩ : P2 W2 B1 x := by rw [← hW2, ← hB1]; exact p2_new W _ x
  have hl2 : l < W2.heap.size := (Array.getElem?_eq_some_iff.1 hL2).1
  have hlB : l ≠ B1 := by omega
  have hbr := run_beginRound (P := Tryz.prog) hL2 rfl
  obtain ⟨W3, hW3⟩ : ∃ W3, W2.putObj l (.loop { epRec fn sv Bs D .ready none with state := .busy }) = W3 := ⟨_, rfl⟩
  rw [hW3] at hbr
  have hg3 : W2.grownBy W3 (some l) := by rw [← hW3]; exact grownBy_putObj_a _ _ _
  have hv3 : W3.heap[Bs]? = some (.cells #[v] 82 (0, 0)) := by rw [← hW3]; exact (World.putObj_heap_other hBl).trans hv2
  have hK3 : W3.heap[D]? = some (.deferred (some [])) := by rw [← hW3]; exact (World.putObj_heap_other hDl).trans hK2
  have hL3 : W3.heap[l]? = some (.loop { epRec fn sv Bs D .ready none with state := .busy }) := by rw [← hW3]; exact World.putObj_heap_same hl2
  have hrow3 : W3.ownsRow w0.heap.size 33 2 v ss.length (ss.flatMap celP) := hrow2.kept hg3 (ownsRow_ne_a hrow2 hL2 (fun cur e => by cases e))
  have hb3 : Below w0.heap.size w0 W3 := hb2.grown hg3 hb2.size (fun k e => by cases e; exact h0l)
  have hk3 : KeepsWalks W W3 := by rw [← hW3]; exact hk2.trans (KeepsWalks.putObj _ hL2 rfl)
  replace d0 : W3.cell? ⟨B1, 0, none⟩ = some (.int .i64 x.1) := by rw [← d0]; exact World.cell?_of_block (hg3.block B1 hBn (fun e => hlB (by cases e; rfl)))
  replace d1 : W3.cell? ⟨B1, 1, none⟩ = some (.int .i64 x.2) := by rw [← d1]; exact World.cell?_of_block (hg3.block B1 hBn (fun e => hlB (by cases e; rfl)))
  have hBlt : Bs < W3.heap.size := (Array.getElem?_eq_some_iff.1 hv3).1
  have hl3 : l < W3.heap.size := (Array.getElem?_eq_some_iff.1 hL3).1
  have hDlt : D < W3.heap.size := (Array.getElem?_eq_some_iff.1 hK3).1
  obtain ⟨hc3, hf3⟩ := cell_of_box_a hv3
  have ne_of : ∀ {j : Nat} {o : Obj}, W3.heap[j]? = some o → (∀ cur, o ≠ .cells cur 33 (0, 0)) → some j ≠ v.ownBlock := fun hj hno => by
    rcases ownsRow_ne_a hrow3 hj hno with e | e
    · rw [e]; simp
    · exact fun e' => e e'.symm
  clear hv2 hK2 hL2 hrow2 hb2 hk2 hg3 hW3
  unfold epAssign
  gi_wp2_with gi_round_op_a
  unfold epBody
  gi_wp2_with (first
    | (gi_at_builtin; refine wpListIn_append_own _ rfl _ _ 82 rfl w0.heap.size 33 i0 (.agg #[.int .i64 0, .int .i64 0]) 2 16 Tryz.underlying82 hi hz0 hz1 hz2 rfl (by decide) _ _ _ rfl (World.ownsRow.alloc hrow3 _) ⟨W3.heap.size, 0, none⟩ 1 1 [.int .i64 x.1, .int .i64 x.2] rfl rfl (cells_two_new _ _ _ _) (by simp [Value.oneCell']) (by unfold maxLen; omega) (by omega) (by have := hb3.size; simp; omega) ?_; intro v' w5 hown' hg5 hnil5
       have hv5 : w5.heap[Bs]? = some (.cells #[v] 82 (0, 0)) := (hg5.block Bs (by simp; omega) (ne_of hv3 (fun cur => hne (by decide)))).trans ((Below.heap_alloc _ _ Bs hBlt).trans hv3)
       obtain ⟨hc5, hf5⟩ := cell_of_box_a hv5
       obtain ⟨g', cap', cur', rfl, hbase', hgb', hr1, hr2, hr3, hr4⟩ : ∃ g' cap' cur', v' = .slice (some ⟨g', 0, none⟩) (ss.length + 1) cap' ∧ w0.heap.size ≤ g' ∧ w5.heap[g']? = some (.cells cur' 33 (0, 0)) ∧ ss.length + 1 ≤ cap' ∧ cap' ≤ maxLen ∧ cur'.size = cap' * 2 ∧ cur'.toList.take ((ss.length + 1) * 2) = ss.flatMap celP ++ [.int .i64 x.1, .int .i64 x.2] := by
         rcases hown'.2 with ⟨_, h0⟩ | h'
         · exact absurd h0 (by omega)
         · exact h'
       go_frame)
    | gi_round_op_a)
  have hg5' : (W3.alloc (.cells #[.int .i64 x.1, .int .i64 x.2] 33)).grownBy w5 v.ownBlock := hg5
  have hL5 : w5.heap[l]? = some (.loop { epRec fn sv Bs D .ready none with state := .busy }) := (hg5'.block l (by simp; omega) (ne_of hL3 (fun cur e => by cases e))).trans ((Below.heap_alloc _ _ l hl3).trans hL3)
  have hK5 : w5.heap[D]? = some (.deferred (some [])) := (hg5'.block D (by simp; omega) (ne_of hK3 (fun cur e => by cases e))).trans ((Below.heap_alloc _ _ D hDlt).trans hK3)
  obtain ⟨w4, hw4⟩ : ∃ w4, w5.setCell ⟨Bs, 0, none⟩ (.slice (some ⟨g', 0, none⟩) (ss.length + 1) cap') = w4 := ⟨_, rfl⟩
  rw [hw4]
  have hg4 : w5.grownBy w4 (some Bs) := by rw [← hw4]; exact grownBy_setCell0_a _ _ _
  have hv4 : w4.heap[Bs]? = some (.cells #[.slice (some ⟨g', 0, none⟩) (ss.length + 1) cap'] 82 (0, 0)) := by rw [← hw4]; exact heap_setCell_box_a _ hv5
  have hL4 : w4.heap[l]? = some (.loop { epRec fn sv Bs D .ready none with state := .busy }) := (hg4.block l (Array.getElem?_eq_some_iff.1 hL5).1 (fun e => hBl (by cases e; rfl))).trans hL5
  have hK4 : w4.heap[D]? = some (.deferred (some [])) := (hg4.block D (Array.getElem?_eq_some_iff.1 hK5).1 (fun e => hDB (by cases e; rfl))).trans hK5
  have hrow4 := hown'.kept hg4 (ownsRow_ne_a hown' hv5 (fun cur => hne (by decide)))
  have hl4 : l < w4.heap.size := (Array.getElem?_eq_some_iff.1 hL4).1
  have hb5 : Below w0.heap.size w0 w5 := (hb3.alloc hb3.size _).grown hg5' (by have := hb3.size; simp; omega) (fun k e => (World.ownsRow.lt hrow3 k e).1)
  have hb4 : Below w0.heap.size w0 w4 := hb5.grown hg4 hb5.size (fun k e => by cases e; exact h0B)
  have hk4 : KeepsWalks W w4 := ((hk3.trans (KeepsWalks.alloc _ _)).trans (KeepsWalks.of_grownBy hg5' (ownsRow_not_walk_a (World.ownsRow.alloc hrow3 _)))).trans (by rw [← hw4]; exact KeepsWalks.setCell _ _ _)
  clear hw4
  refine ⟨_, _, run_endRound none hL4, rfl, ⟨⟨_, (World.putObj_heap_other hBl).trans hv4, ?_⟩, World.putObj_heap_same hl4, (World.putObj_heap_other hDl).trans hK4, hb4.grown (grownBy_putObj_a _ _ _) hb4.size (fun k e => by cases e; exact h0l)⟩, hk4.trans (KeepsWalks.putObj _ hL4 rfl)⟩
  have := hrow4.kept (grownBy_putObj_a w4 l (.loop { { epRec fn sv Bs D .ready none with state := .busy } with state := if (none : Option Code).isNone then .ready else .done, pending := none })) (ownsRow_ne_a hrow4 hL4 (fun cur e => by cases e))
  rw [List.length_append, List.flatMap_append]
  simpa [celP] using this
open Go.RowKit Go.Maps Go.Sort Go.Shelf
def PairAt (w : World) (A : Option Addr) (L : List (Int × Int)) : Prop := 0 < L.length → ∃ b off, A = some ⟨b, off, none⟩ ∧ b < w.heap.size ∧ ∀ i, i < L.length → w.cell? ⟨b, off + i * 2, none⟩ = some (.int .i64 (L.getD i (0, 0)).1) ∧ w.cell? ⟨b, off + i * 2 + 1, none⟩ = some (.int .i64 (L.getD i (0, 0)).2)
set_option maxRecDepth 100000 in
set_option maxHeartbeats 4000000 in
theorem pAppendSeq (n : Nat) (hn : 2 ≤ n) (g : Nat) (lb : Array Value) (eg : ∀ args w, (callFunc g args).run Tryz.prog w = .ok (.enter g args) w)
    (S : List (Int × Int) → Prop) (N : Nat) (hN : N ≤ 1000000) (w : World) (hseq : SeqGives Fence.wide (n - 1) Tryz.prog g lb pairV S N w) :
    CallsIn Fence.wide n Tryz.prog 107 #[.slice none 0 0, .func (.func g) #[] lb] w fun e w' => ∃ (v : Value) (ss : List (Int × Int)), e = .returned v ∧ S ss ∧ w'.ownsRow w.heap.size 33 2 v ss.length (ss.flatMap celP) ∧ Below w.heap.size w w' := by
  have h1 : 1 ≤ n := by omega
  refine callsIn_of_wp_marks Tryz.func107 rfl trivial ?_ rfl
  simp only [Tryz.ntmps107, List.size_toArray, List.length_cons, List.length_nil, Nat.reduceAdd, Nat.reduceSub, Array.replicate_succ, Array.replicate_zero, List.push_toArray, List.append_toArray, List.nil_append, List.cons_append]
  gi_wp2
  refine wpIn_rangeFunc ?_
  intro fn hfn
  obtain ⟨W0, hW0⟩ : ∃ W0, w.alloc (.cells #[.slice none 0 0] 82) = W0 := ⟨_, rfl⟩
  have hs0 : W0.heap.size = w.heap.size + 1 := by rw [← hW0]; simp
  have hv0 : W0.heap[w.heap.size]? = some (.cells #[.slice none 0 0] 82 (0, 0)) := by rw [← hW0]; exact World.alloc_heap_new w _
  have hb0 : Below w.heap.size w W0 := by rw [← hW0]; exact (Below.refl _ w).alloc (Nat.le_refl _) _
  rw [hW0]
  obtain ⟨W1, hW1⟩ : ∃ W1, (W0.alloc (.deferred (some []))).alloc (.loop (epRec fn (.func (.func g) #[] lb) w.heap.size W0.heap.size .ready none)) = W1 := ⟨_, rfl⟩
  have hold : ∀ k, k < W0.heap.size → W1.heap[k]? = W0.heap[k]? := fun k hk => by
    rw [← hW1]; exact (Below.heap_alloc _ _ k (by simp; omega)).trans (Below.heap_alloc _ _ k hk)
  have hb1 : Below w.heap.size w W1 := by rw [← hW1]; exact (hb0.alloc hb0.size _).alloc (by have := hb0.size; simp; omega) _
  have hs1 : W1.heap.size = W0.heap.size + 2 := by rw [← hW1]; simp
  have hM : EpAt w fn (.func (.func g) #[] lb) w.heap.size (W0.heap.size + 1) W0.heap.size [] W1 :=
    ⟨⟨_, (hold w.heap.size (by omega)).trans hv0, ⟨rfl, .inl ⟨rfl, rfl⟩⟩⟩,
     by rw [← hW1]; have := World.alloc_heap_new (W0.alloc (.deferred (some []))) (.loop (epRec fn (.func (.func g) #[] lb) w.heap.size W0.heap.size .ready none)); rwa [World.size_alloc] at this,
     by rw [← hW1]; exact (Below.heap_alloc _ _ _ (by simp)).trans (World.alloc_heap_new W0 _), hb1⟩
  refine ⟨W0.heap.size + 1, [{ target := .collected W0.heap.size, args := #[] }], W1, { target := .fn (.func g) lb, args := #[.func (.yield (W0.heap.size + 1)) #[] #[]] }, W1, g,
    #[.func (.yield (W0.heap.size + 1)) #[] #[]] ++ lb, W1, ?_, ?_, ?_, ?_, fun _ => h1, ?_⟩
  · rw [← hW1]; exact run_enterLoop_outer _ _ _ _ _
  · simp [resolve, go_sem]
  · intro f' hf'; trivial
  · simp [invoke, go_sem, eg]
  · refine (hseq (W0.heap.size + 1) (EpAt w fn (.func (.func g) #[] lb) w.heap.size (W0.heap.size + 1) W0.heap.size) W1 hb1 (ep_abides _ _ _ _ _ _ _ hb1.size)
      (fun pre x W hJ hl => epYield (n - 1 - 1) w fn _ w.heap.size (W0.heap.size + 1) W0.heap.size (by omega) (by omega) (by omega) (Nat.le_refl _) (by omega) N hN pre x W hJ hl) hM).mono ?_
    rintro e W2 ⟨⟨v0, rfl⟩, ss, hS, h2⟩
    obtain ⟨v, hv, hrow⟩ := h2.box
    have hend := run_endLoop (P := Tryz.prog) h2.L (by simp [epRec])
    obtain ⟨W3, hW3⟩ : ∃ W3, W2.putObj (W0.heap.size + 1) (.loop { epRec fn (.func (.func g) #[] lb) w.heap.size W0.heap.size .ready none with state := .exhausted }) = W3 := ⟨_, rfl⟩
    rw [hW3] at hend
    have hg3 : W2.grownBy W3 (some (W0.heap.size + 1)) := by rw [← hW3]; exact grownBy_putObj_a _ _ _
    have hv3 : W3.heap[w.heap.size]? = some (.cells #[v] 82 (0, 0)) := by rw [← hW3]; exact (World.putObj_heap_other (by omega)).trans hv
    have hK3 : W3.heap[W0.heap.size]? = some (.deferred (some [])) := by rw [← hW3]; exact (World.putObj_heap_other (by omega)).trans h2.K
    have hrow3 := hrow.kept hg3 (ownsRow_ne_a hrow h2.L (fun cur e => by cases e))
    have hb3 : Below w.heap.size w W3 := h2.below.grown hg3 h2.below.size (fun k e => by cases e; omega)
    obtain ⟨hc3, hf3⟩ := cell_of_box_a hv3
    clear hW3
    refine ⟨none, W3, hend, ?_⟩
    gi_wp2
    rw [← hs0]
    refine ⟨by simp, .inl ⟨_, _, rfl, run_takeDeferred hK3, ?_⟩⟩
    exact ⟨_, results_tmp rfl _ _ _, v, ss, rfl, hS, hrow3.kept (grownBy_putObj_a _ _ _) (ownsRow_ne_a hrow3 hK3 (fun cur e => by cases e)), hb3.grown (grownBy_putObj_a _ _ _) hb3.size (fun k e => by cases e; omega)⟩
set_option maxHeartbeats 1000000 in
theorem pCollect (n : Nat) (hn : 3 ≤ n) (g : Nat) (lb : Array Value) (eg : ∀ args w, (callFunc g args).run Tryz.prog w = .ok (.enter g args) w)
  (S : List (Int × Int) → Prop) (N : Nat) (hN : N ≤ 1000000) (w : World) (hseq : SeqGives Fence.wide (n - 1 - 1) Tryz.prog g lb pairV S N w) :
  CallsIn Fence.wide n Tryz.prog 74 #[.func (.func g) #[] lb] w fun e w' => ∃ (v : Value) (ss : List (Int × Int)), e = .returned v ∧ S ss ∧ w'.ownsRow w.heap.size 33 2 v ss.length (ss.flatMap celP) ∧ Below w.heap.size w w' := by
 refine callsIn_wide.2 ?_
 have hA := Lib.hid ((callsIn_wide (n := n - 1)).1 (pAppendSeq (n - 1) (by omega) g lb eg S N hN w hseq))
 clear hseq eg
 go_enter Tryz.func74, Tryz.ntmps74
 go_wp2_with (go_at_call 107; refine hA.out.mono ?_; rintro e w' ⟨v, ss, rfl, hS, hrow, hb⟩)
 go_ret
 exact ⟨v, ss, rfl, hS, hrow, hb⟩
theorem celP_get : ∀ (L : List (Int × Int)) (i : Nat), i < L.length → (L.flatMap celP)[i * 2]? = some (.int .i64 (L.getD i (0, 0)).1) ∧ (L.flatMap celP)[i * 2 + 1]? = some (.int .i64 (L.getD i (0, 0)).2)
 | [], i, h => by simp at h
 | a :: L, 0, _ => by simp [celP]
 | a :: L, i + 1, h => by
  have := celP_get L i (by simpa using h)
  have e1 : (i + 1) * 2 = i * 2 + 1 + 1 := by omega
  rw [List.flatMap_cons, e1]
  simpa [celP] using this
theorem holdsP {w : World} {g : Nat} {cur : Array Value} {e : TypeId} {ss : List (Int × Int)} (hb : w.heap[g]? = some (.cells cur e (0, 0))) (ht : cur.toList.take (ss.length * 2) = ss.flatMap celP) : HoldsK celP 2 w g 0 ss.toArray := by
 intro j hj
 rw [size_flatK] at hj
 have hj' : j < ss.length * 2 := by simpa using hj
 refine ⟨?_, by simp [World.frozen?, hb]⟩
 rw [get_flatK _ _ _ _ hj, Nat.zero_add]
 have key : w.cell? ⟨g, j, none⟩ = (ss.flatMap celP)[j]? := by
  rw [← ht, List.getElem?_take, if_pos hj']
  simp only [World.cell?, hb]
  simp
 rw [key]
 have hq : j / 2 < ss.length := by omega
 have hget : (ss.toArray)[j / 2]! = ss.getD (j / 2) (0, 0) := by
  rw [List.getD_eq_getElem?_getD, List.getElem?_eq_getElem hq]
  simp [hq]
 rw [hget]
 obtain ⟨k0, k1⟩ := celP_get ss (j / 2) hq
 rcases Nat.mod_two_eq_zero_or_one j with h | h
 ·rw [h, show j = j / 2 * 2 by omega, k0, show j / 2 * 2 / 2 = j / 2 by omega]; rfl
 ·rw [h, show j = j / 2 * 2 + 1 by omega, k1, show (j / 2 * 2 + 1) / 2 = j / 2 by omega]; rfl
theorem pairs_of_holds {w : World} {g : Nat} {ss : List (Int × Int)} (h : HoldsK celP 2 w g 0 ss.toArray) (hg : g < w.heap.size) : PairAt w (some ⟨g, 0, none⟩) ss := fun _ => by
 refine ⟨g, 0, rfl, hg, fun i hi => ?_⟩
 have hi' : i < ss.toArray.size := by simpa using hi
 have hget : (ss.toArray)[i]! = ss.getD i (0, 0) := by
  rw [List.getD_eq_getElem?_getD, List.getElem?_eq_getElem hi]
  simp [hi]
 have c0 := (h.cell hi' (c := 0) (by omega)).1
 have c1 := (h.cell hi' (c := 1) (by omega)).1
 rw [hget] at c0 c1
 exact ⟨c0, c1⟩
theorem sortK_below {α : Type} [Inhabited α] {enc : α → List Value} {k : Nat} {w : World} {blk off n : Nat} {d : Array α} {os : Array Obj} {B : Nat} (hB : B ≤ blk) (hs : B ≤ w.heap.size) : Below B w (sortWorldK enc k w blk off n d os) := by
 unfold sortWorldK putRowK
 have h1 : Below B w (putRow id (Sort.ahead w n) blk off (flatK enc k d)) := by
  refine ⟨rfl, rfl, rfl, by rw [size_putRow]; exact Nat.le_refl _, fun k hk => ?_⟩
  show (w.heap.modify blk _)[k]? = _
  rw [Array.getElem?_modify, if_neg (by omega)]
 exact h1.trans (Lib.below_grow B _ (by rw [size_putRow]; exact hs) 0 os)
theorem cmpLaysP (blk off size : Nat) (w : World) : CmpLays Tryz.prog 43 #[] celP 2 cmK blk off size w := fun _ _ _ _ x y => ecmp_any x y _
def AscP (K : List (Int × Int)) : Prop := K.Pairwise ltK
theorem sort_ascP {ss : List (Int × Int)} (h : ss.Nodup) : AscP (ss.mergeSort fun x y => !ltOf cmK y x) := by
 have hp := List.mergeSort_perm ss fun x y => !ltOf cmK y x
 have h1 := List.pairwise_mergeSort (le := fun x y => !ltOf cmK y x) (fun a b c h1 h2 => by
  simp only [Bool.not_eq_true', ltOf_cmK, decide_eq_false_iff_not] at *
  unfold ltK at *; omega) (fun a b => by
  simp only [ltOf_cmK, Bool.or_eq_true, Bool.not_eq_true', decide_eq_false_iff_not]
  unfold ltK; omega) ss
 have h2 : (ss.mergeSort fun x y => !ltOf cmK y x).Nodup := hp.nodup_iff.2 h
 refine (List.Pairwise.and h1 h2).imp fun {a b} hab => ?_
 obtain ⟨h3, h4⟩ := hab
 simp only [Bool.not_eq_true', ltOf_cmK, decide_eq_false_iff_not] at h3
 rcases Decidable.em (ltK a b) with h5 | h5
 ·exact h5
 ·exact absurd (ltK_tri h5 h3) h4
set_option maxRecDepth 100000 in
set_option maxHeartbeats 4000000 in
theorem sortedP_any (b n : Nat) (f : Int × Int → Option Int) (w : World) (h : MapP w b n f) (hn : n ≤ 1000000) :
  Calls Tryz.prog 41 #[.func (.func 76) #[] #[.pointer (some ⟨w.heap.size, 0, none⟩)], .func (.func 43) #[] #[]] (w.alloc (.cells #[.map (some b)] 80)) fun e w' => ∃ (A : Option Addr) (c : Nat) (K : List (Int × Int)), e = .returned (.slice A K.length c) ∧ PairAt w' A K ∧ AscP K ∧ (∀ k, k ∈ K ↔ (f k).isSome = true) ∧ K.length ≤ n ∧ Below w.heap.size w w' := by
 obtain ⟨D, hown, hD, hok⟩ := h
 have hbl := hown.lt
 have hszD : Maps.size D ≤ n := hown.size_le
 have hown1 : (w.alloc (.cells #[.map (some b)] 80)).ownsMap Tryz.prog 33 heldP b n D := hown.alloc _
 have hseq : SeqGives Fence.wide 2 Tryz.prog 76 #[.pointer (some ⟨w.heap.size, 0, none⟩)] pairV (fun ss => CollP D (fun _ => false) ss) (Maps.size D) (w.alloc (.cells #[.map (some b)] 80)) :=
  pkeys_gives 2 (by omega) w.heap.size b n D _ (by simp) (by simp) hown1
 have eg := enters_of Tryz.func76 (by kernel_rfl) rfl
 have ec := enters_of Tryz.func43 (by kernel_rfl) rfl
 have cC := (callsIn_wide (n := 4)).1 (pCollect 4 (by omega) _ _ eg _ _ (by omega : Maps.size D ≤ 1000000) _ hseq.bounded)
 have cS0 := fun W => AnyF.slices_SortFunc_none { Tryz.sortf75 with } none 0 (.func (.func 43) #[] #[]) W
 have cS := fun (blk cap : Nat) (d : Array (Int × Int)) (W : World) (hH : HoldsK celP 2 W blk 0 d) (hb : blk < W.heap.size) (hs : d.size < 4611686018427387904) =>
  AnyQ.slices_SortFunc_total Tryz.sortf75 2 Tryz.isAgg33 Tryz.sizeOf33 celP (fun _ => rfl) (fun x v hv => by simp [celP] at hv; rcases hv with rfl | rfl <;> rfl) cmK cmK_swo 43 #[] blk 0 cap d W ec (cmpLaysP blk 0 d.size W) hH hb hs cmK_tot
 change ∀ W, Calls Tryz.prog 75 _ _ _ at cS0
 change ∀ (blk cap : Nat) (d : Array (Int × Int)) (W : World) (hH : HoldsK celP 2 W blk 0 d) (hb : blk < W.heap.size) (hs : d.size < 4611686018427387904), Calls Tryz.prog 75 _ _ _ at cS
 have HD := Lib.hid hD
 have HOK := Lib.hid hok
 have HC := Lib.hid cC
 have HS0 := Lib.hid cS0
 have HS := Lib.hid cS
 have hB0 := Lib.hid (below_alloc_new (w := w) (.cells #[.map (some b)] 80))
 generalize hw1 : w.alloc (.cells #[.map (some b)] 80) = w1 at *
 have hs1 : w1.heap.size = w.heap.size + 1 := by rw [← hw1]; simp
 have HS1 := Lib.hid hs1
 clear hD hok cC cS0 cS hown hown1 hseq hw1 hs1
 generalize w.heap.size = s0 at *
 go_enter Tryz.func41, Tryz.ntmps41
 go_wp2_with (go_at_call 74; refine HC.out.mono ?_; rintro e w2 ⟨v, ss, rfl, ⟨hS, hlen⟩, hrow, hb2⟩)
 have hmem : ∀ k, k ∈ ss ↔ (f k).isSome = true := fun k => by
  rw [hS.2 k]
  constructor
  ·rintro ⟨h1, h2, _⟩
   rw [← (HD.out k h1).1]; exact h2
  ·intro h1
   have h2 := HOK.out k h1
   exact ⟨h2, by rw [(HD.out k h2).1]; exact h1, rfl⟩
 have hle : ss.length ≤ n := Nat.le_trans hlen hszD
 have hB2 : Below s0 w w2 := hB0.out.trans (hb2.mono (by have := HS1.out; omega))
 have HM := Lib.hid hmem
 have HSS := Lib.hid hS
 have HLE := Lib.hid hle
 have HR := Lib.hid hrow
 have HB2 := Lib.hid hB2
 have hs0l : s0 ≤ w2.heap.size := by have := hb2.size; have := HS1.out; omega
 have HSL := Lib.hid hs0l
 have hbase := Lib.hid (show s0 ≤ w1.heap.size by have := HS1.out; omega)
 clear hmem hS hle hB2 hb2 hlen hs0l
 rcases hrow.2 with ⟨rfl, hz⟩ | ⟨gb, cap, cur, rfl, hbg, hgb, r1, r2, r3, r4⟩
 ·obtain rfl : ss = [] := List.eq_nil_of_length_eq_zero hz
  clear hrow
  go_wp2_with (go_at_call 75; refine (HS0.out _).mono ?_; rintro e w3 ⟨rfl, rfl⟩)
  go_ret
  exact ⟨none, 0, [], rfl, fun h => absurd h (by simp), List.Pairwise.nil, HM.out, by simp, HB2.out⟩
 ·have hgl : gb < w2.heap.size := (Array.getElem?_eq_some_iff.1 hgb).1
  have hH := holdsP hgb r4
  have hsz : ss.toArray.size < 4611686018427387904 := by have := HLE.out; simp; omega
  have hlen : (ss.toArray.size : Nat) = ss.length := by simp
  have c1 := HS.out gb cap ss.toArray w2 hH hgl hsz
  rw [hlen] at c1
  have HC1 := Lib.hid c1
  have HH := Lib.hid hH
  have HGL := Lib.hid hgl
  have HBG := Lib.hid hbg
  clear hrow c1 hsz hlen hH r1 r2 r3 r4 hgb hgl hbg
  go_wp2_with (go_at_call 75; refine HC1.out.mono ?_; rintro e w3 ⟨rfl, nn, os, rfl⟩)
  go_ret
  have hlm : (ss.mergeSort fun x y => !ltOf cmK y x).length = ss.length := List.length_mergeSort _
  have hhold : HoldsK celP 2 (sortWorldK celP 2 w2 gb 0 nn (ss.mergeSort fun x y => !ltOf cmK y x).toArray os) gb 0 (ss.mergeSort fun x y => !ltOf cmK y x).toArray := by
   unfold sortWorldK
   refine holdsK_grow celP 2 _ os gb 0 _ (by unfold putRowK; rw [size_putRow]; exact HGL.out) ?_
   exact holdsK_putRowK celP 2 _ gb 0 ss.toArray _ (holdsK_ahead celP 2 w2 nn gb 0 _ HH.out) (by simp)
  have hsb : Below s0 w2 (sortWorldK celP 2 w2 gb 0 nn (ss.mergeSort fun x y => !ltOf cmK y x).toArray os) := sortK_below (Nat.le_trans hbase.out HBG.out) HSL.out
  refine ⟨some ⟨gb, 0, none⟩, cap, ss.mergeSort fun x y => !ltOf cmK y x, by rw [hlm]; rfl, pairs_of_holds hhold (Nat.lt_of_lt_of_le HGL.out ?_), sort_ascP HSS.out.1, fun k => ?_, by rw [hlm]; exact HLE.out, HB2.out.trans hsb⟩
  ·unfold sortWorldK putRowK
   have h1 := (Lib.below_grow 0 (putRow id (Sort.ahead w2 nn) gb 0 (flatK celP 2 (ss.mergeSort fun x y => !ltOf cmK y x).toArray)) (Nat.zero_le _) 0 os).size
   rw [size_putRow] at h1
   exact h1
  ·rw [(List.mergeSort_perm ss _).mem_iff]; exact HM.out k
open Go.RowKit Go.Maps
def nrmK (f : Int × Int → Option Int) (K : List (Int × Int)) : List Lnk := K.filterMap fun k => if (f k).getD 0 = 0 then none else some ⟨k.1, (f k).getD 0, k.2⟩
theorem nrmK_snoc (f : Int × Int → Option Int) (K : List (Int × Int)) (k : Int × Int) : nrmK f (K ++ [k]) = if (f k).getD 0 = 0 then nrmK f K else nrmK f K ++ [⟨k.1, (f k).getD 0, k.2⟩] := by
 unfold nrmK
 rw [List.filterMap_append]
 split <;> simp [*]
theorem nrmK_len (f : Int × Int → Option Int) (K : List (Int × Int)) : (nrmK f K).length ≤ K.length := List.length_filterMap_le _ _
theorem isnrm_keys {L : List Lnk} {K : List (Int × Int)} (hK : AscP K) (hm : ∀ k, k ∈ K ↔ (fsum L k).isSome = true) : IsNrm L (nrmK (fsum L) K) := by
 refine ⟨?_, fun l => ?_⟩
 ·refine List.Pairwise.filterMap _ (fun a a' h b hb b' hb' => ?_) hK
  split at hb
  ·cases hb
  ·split at hb'
   ·cases hb'
   ·cases hb; cases hb'; exact h
 ·unfold nrmK
  rw [List.mem_filterMap]
  constructor
  ·rintro ⟨k, hk, he⟩
   split at he
   ·cases he
   ·rename_i h0
    cases he
    rw [fsum_getD] at h0 ⊢
    exact ⟨rfl, h0⟩
  ·rintro ⟨h1, h2⟩
   refine ⟨kOf l, (hm _).2 ?_, ?_⟩
   ·unfold fsum
    split
    ·rfl
    ·rename_i h3
     rw [amtK_none h3, wr_zero] at h1
     exact absurd h1 h2
   ·rw [fsum_getD, if_neg (by rw [← h1]; exact h2), ← h1]
    rfl
theorem ekeys_any (b : Nat) (w : World) : Calls Tryz.prog 42 #[.map (some b)] w fun e w' => e = .returned (.func (.func 76) #[] #[.pointer (some ⟨w.heap.size, 0, none⟩)]) ∧ w' = w.alloc (.cells #[.map (some b)] 80) := by
 go_enter Tryz.func42, Tryz.ntmps42
 go_wp2_with fail
 go_ret
 exact ⟨rfl, rfl⟩
set_option maxRecDepth 100000 in
set_option maxHeartbeats 4000000 in
theorem enorm_any (A : Option Addr) (cp : Nat) (L : List Lnk) (w : World) (hz : LnkAt w A L) (hl : L.length ≤ 1000) (hwf : ∀ l ∈ L, okK (kOf l)) :
    Calls Tryz.prog 15 #[.slice A L.length cp] w fun e w' => ∃ B c N, e = .returned (.slice B N.length c) ∧ LnkAt w' B N ∧ IsNrm L N ∧ N.length ≤ L.length ∧ Below w.heap.size w w' := by
  have HS := Lib.hid (esumsOf_any A cp L w hz hl hwf)
  have HK := Lib.hid (fun (K : List (Int × Int)) h1 h2 => isnrm_keys (L := L) (K := K) h1 h2)
  have hfl : ∀ K : List (Int × Int), AscP K → (∀ k, k ∈ K ↔ (fsum L k).isSome = true) → (nrmK (fsum L) K).length ≤ L.length := fun K h1 h2 => by
    refine Nat.le_trans (nrmK_len _ _) ?_
    have hnd : K.Nodup := h1.imp fun {a b} hab e => by subst e; exact ltK_irrefl _ hab
    have := List.Nodup.length_le_of_subset (l₁ := K) (l₂ := L.map kOf) hnd (fun k hk => by
      have := (h2 k).1 hk
      unfold fsum at this
      split at this
      · assumption
      · cases this)
    rwa [List.length_map] at this
  have HFL := Lib.hid hfl
  have hokf : ∀ k, (fsum L k).isSome = true → okK k := fun k hk => by
    unfold fsum at hk
    split at hk
    · rename_i h
      obtain ⟨l, hl, rfl⟩ := List.mem_map.1 h
      exact hwf l hl
    · cases hk
  have HOF := Lib.hid hokf
  have HKB := Lib.hid ekeys_any
  obtain ⟨i0, hi, hz1, hz2, hz3⟩ := info_parts infoLn
  clear hz hwf hfl hokf
  generalize fsum L = f at *
  obtain ⟨n0, hn0⟩ : ∃ n0, L.length = n0 := ⟨_, rfl⟩
  rw [hn0] at hl HS HFL ⊢
  clear hn0
  go_enter Tryz.func15, Tryz.ntmps15
  go_wp2_with (first
    | (go_at_call 40; refine HS.out.mono ?_; rintro e w1 ⟨b, rfl, hb0, hM, hB1⟩; have HM := Lib.hid hM; have HB1 := Lib.hid hB1; clear hM hB1)
    | (go_at_call 42; refine (HKB.out b w1).mono ?_; rintro e w2 ⟨rfl, hw2⟩; subst hw2)
    | (go_at_call 41; refine (sortedP_any b n0 f w1 HM.out (by omega)).mono ?_; rintro e w3 ⟨AK, ck, K, rfl, hP, hA, hmem, hKl, hB3⟩))
  have HP := Lib.hid hP
  have HA := Lib.hid hA
  have HME := Lib.hid hmem
  have hM3 : MapP w3 b n0 f := HM.out.up hB3
  have HM3 := Lib.hid hM3
  have hB13 : Below w.heap.size w w3 := HB1.out.trans (hB3.mono HB1.out.size)
  have HB3 := Lib.hid hB13
  have HKL := Lib.hid hKl
  obtain ⟨n, hn⟩ : ∃ n, K.length = n := ⟨_, rfl⟩
  rw [hn] at hKl
  have HN := Lib.hid hn
  have hB := Below.refl w3.heap.size w3
  rw [hn]
  clear hP hA hmem hM3 hB13 hB3 HM HB1 hn
  go_loopg [3, 13] n (fun kx s3 s13 wr => ∃ k : Nat, s13 = .int .i64 k ∧ k ≤ n ∧ n - k ≤ kx ∧ Hid (OwnL 66 wr w3.heap.size s3 (nrmK f (K.take k))) ∧ Below w3.heap.size w3 wr)
  case atStart => exact ⟨0, rfl, by omega, by omega, Lib.hid OwnL.nil, hB⟩
  case round =>
    clear hB
    obtain ⟨k, rfl, hk, hkx, HO, hB⟩ := hrel
    by_cases hlt : k < n
    · have hltz : (k : Int) < (n : Int) := by omega
      have hkl : k < K.length := by rw [HN.out]; exact hlt
      obtain ⟨bb, off, rfl, hbw, hcs⟩ := HP.out (by omega)
      obtain ⟨c0, c1⟩ := hcs k hkl
      replace c0 := (hB.cell (p := ⟨bb, off + k * 2, none⟩) hbw).trans c0
      replace c1 := (hB.cell (p := ⟨bb, off + k * 2 + 1, none⟩) hbw).trans c1
      have hmk := (HME.out _).1 (getD_mem_acc (d := ((0, 0) : Int × Int)) hkl)
      have hok := HOF.out _ hmk
      have hst := nrmK_snoc f (K.take k) (K.getD k (0, 0))
      rw [← take_succ_getD (d := ((0, 0) : Int × Int)) hkl] at hst
      generalize K.getD k (0, 0) = q at *
      obtain ⟨q1, q2⟩ := q
      dsimp only at c0 c1 hst
      have hsz : w3.heap.size ≤ wr.heap.size := hB.size
      obtain ⟨wn, hwn⟩ : ∃ wn, wr.alloc (.cells #[.int .i64 q1, .int .i64 q2] 33) = wn := ⟨_, rfl⟩
      have hB1 : Below w3.heap.size w3 wn := by rw [← hwn]; exact hB.alloc hsz _
      have hO1 : OwnL 66 wn w3.heap.size u3 (nrmK f (K.take k)) := by rw [← hwn]; exact HO.out.alloc _
      obtain ⟨d0, d1, dlt⟩ : P2 wn wr.heap.size (q1, q2) := by rw [← hwn]; exact p2_new wr _ (q1, q2)
      dsimp only at d0 d1
      have hM1 := (HM3.out.up hB1).look hok
      obtain ⟨s, hs⟩ : ∃ s, (f (q1, q2)).getD 0 = s := ⟨_, rfl⟩
      rw [hs] at hM1 hst
      by_cases h0 : s = 0
      · subst h0
        rw [if_pos rfl] at hst
        have HO2 : Hid (OwnL 66 wn w3.heap.size u3 (nrmK f (K.take (k + 1)))) := Lib.hid (by rw [hst]; exact hO1)
        have HB2 := Lib.hid hB1
        clear hst hs hB1 hO1 hok hmk hcs
        go_wp2_with fail
        go_roundg (n - (k + 1))
        case measure => omega
        case rel => exact ⟨k + 1, by go_num, by omega, by omega, HO2, HB2.out⟩
      · rw [if_neg h0] at hst
        have hlk : (Instr.lookup 80 (.map (some b)) (.agg #[.int .i64 q1, .int .i64 q2]) false).run Tryz.prog wn.drew = .ok (.int .i64 s) wn.drew := (HM3.out.up hB1).drew.look hok |>.trans (by rw [hs])
        have e0 : wn.drew.cell? ⟨wr.heap.size, 0, none⟩ = some (.int .i64 q1) := d0
        have e1 : wn.drew.cell? ⟨wr.heap.size, 1, none⟩ = some (.int .i64 q2) := d1
        have hlen : (nrmK f (K.take k)).length ≤ 1000 := by
          have h1 := nrmK_len f (K.take k)
          have h2 : (K.take k).length ≤ k := by rw [List.length_take]; omega
          omega
        have HST := Lib.hid hst
        have HLEN := Lib.hid hlen
        have hsn : w3.heap.size ≤ wn.heap.size := hB1.size
        have HB1 := Lib.hid hB1
        have HO1 := Lib.hid hO1
        have hMw := HM3.out
        have hBn := fun o => HB1.out.alloc hsn o
        have hlk2 : ∀ o, (Instr.lookup 80 (.map (some b)) (.agg #[.int .i64 q1, .int .i64 q2]) false).run Tryz.prog ((wn.alloc o).drew) = .ok (.int .i64 s) ((wn.alloc o).drew) := fun o => (hMw.up (hBn o)).drew.look hok |>.trans (by rw [hs])
        have hc2 : ∀ o, (wn.alloc o).drew.cell? ⟨wr.heap.size, 0, none⟩ = some (.int .i64 q1) ∧ (wn.alloc o).drew.cell? ⟨wr.heap.size, 1, none⟩ = some (.int .i64 q2) := fun o => ⟨((below_alloc_new o).cell (p := ⟨wr.heap.size, 0, none⟩) dlt).trans d0, ((below_alloc_new o).cell (p := ⟨wr.heap.size, 1, none⟩) dlt).trans d1⟩
        have HFAR : Hid (some wr.heap.size ≠ u3.ownBlock) := Lib.hid (fun e => by have := (HO.out.lt e.symm).2; omega)
        have HLK2 := Lib.hid hlk2
        have HC2 := Lib.hid hc2
        have HOK := Lib.hid hok
        have HSS := Lib.hid hs
        clear hst hs hB1 hO1 hmk hcs hlen hlk2 hc2 hBn hMw hok
        go_wp2_with fail
        go_region_held_law (fun w' => w'.cell? ⟨wr.heap.size, 0, none⟩ = some (.int .i64 q1) ∧ w'.cell? ⟨wr.heap.size, 1, none⟩ = some (.int .i64 q2)) (first | exact hS5 | exact ⟨e0, e1⟩ | exact HC2.out _ | go_keep)
          (first
            | (refine step_app_lines rfl (.tmp 21) (.tmp 30) 30 rfl w3.heap.size 66 i0 24 Tryz.underlying30 hi hz1 hz2 hz3 (by omega) u3 (nrmK f (K.take k)) rfl (HO1.out.alloc _) (some ⟨wn.heap.size, 0, none⟩) 1 1 [⟨q1, s, q2⟩] rfl rfl (lnk_one (lb_new wn 66 ⟨q1, s, q2⟩).drew) (by have := HLEN.out; simp; omega) (by simp; omega) ?_
               intro v5 w5 ho5 hg5 hb5
               have hS5 : w5.cell? ⟨wr.heap.size, 0, none⟩ = some (.int .i64 q1) ∧ w5.cell? ⟨wr.heap.size, 1, none⟩ = some (.int .i64 q2) := ⟨hg5.out.cell (HC2.out _).1 HFAR.out, hg5.out.cell (HC2.out _).2 HFAR.out⟩))
        all_goals
          have HO5 : Hid (OwnL 66 w5 w3.heap.size v5 (nrmK f (K.take (k + 1)))) := Lib.hid (by rw [HST.out]; exact ho5.out)
          have HB5 : Hid (Below w3.heap.size w3 w5) := Lib.hid ((dc_drew (HB1.out.alloc hsn _)).trans hb5)
          clear ho5 hg5 hb5 HO1 HST
          go_wp2_with fail
          go_roundg (n - (k + 1))
          case measure => omega
          case rel => exact ⟨k + 1, by go_num, by omega, by omega, HO5, HB5.out⟩
    · obtain rfl : k = n := by omega
      have hltz : ¬ (k : Int) < (k : Int) := by omega
      have hO9 := HO.out
      have h1 : K.take k = K := by rw [← HN.out, List.take_length]
      rw [h1] at hO9
      obtain ⟨B, c, rfl, hat⟩ := hO9.reads
      have HAT := Lib.hid hat
      clear hat hO9 HO h1
      go_wp2_with fail
      go_ret
      exact ⟨B, c, _, rfl, HAT.out, HK.out K HA.out HME.out, HFL.out K HA.out HME.out, HB3.out.trans (hB.mono HB3.out.size)⟩
open Go.RowKit
instance (a b : Lnk) : Decidable (a = b) :=
 if h : a.frm = b.frm ∧ a.tgt = b.tgt ∧ a.since = b.since then .isTrue (by cases a; cases b; simp at h; obtain ⟨rfl, rfl, rfl⟩ := h; rfl) else .isFalse (fun e => h (by subst e; exact ⟨rfl, rfl, rfl⟩))
set_option maxRecDepth 20000 in
set_option maxHeartbeats 1600000 in
theorem rsamel_any (A B : Option Addr) (c d : Nat) (zs ys : List Lnk) (w : World) (hz : LnkAt w A zs) (hy : LnkAt w B ys) (hl : zs.length ≤ 100000) (hl2 : ys.length ≤ 100000) :
  Calls Tryz.prog 31 #[.slice A zs.length c, .slice B ys.length d] w fun e w' => e = .returned (.bool (decide (zs = ys))) ∧ Below w.heap.size w w' := by
 have hB := Below.refl w.heap.size w
 obtain ⟨n, hn⟩ : ∃ n, zs.length = n := ⟨_, rfl⟩
 obtain ⟨m, hm⟩ : ∃ m, ys.length = m := ⟨_, rfl⟩
 rw [hn] at hl ⊢
 rw [hm] at hl2 ⊢
 by_cases hnm : n = m
 ·subst hnm
  have HN := Lib.hid hn
  have HM := Lib.hid hm
  have HZ := Lib.hid hz
  have HY := Lib.hid hy
  clear hn hm hz hy
  have hnn : ((n : Int) != (n : Int)) = false := by simp
  go_enter Tryz.func31, Tryz.ntmps31
  go_wp2_with fail
  go_loopg [5] n (fun kx s5 wr => ∃ k : Nat, s5 = .int .i64 k ∧ k ≤ n ∧ n - k ≤ kx ∧ Hid (zs.take k = ys.take k) ∧ Below w.heap.size w wr)
  case atStart => exact ⟨0, rfl, by omega, by omega, Lib.hid (by simp), hB⟩
  case round =>
   clear hB
   obtain ⟨k, rfl, hk, hkx, HT, hB⟩ := hrel
   by_cases hlt : k < n
   ·have hltz : (k : Int) < (n : Int) := by omega
    obtain ⟨b, off, rfl, hbw, hcs⟩ := HZ.out (by rw [HN.out]; omega)
    obtain ⟨b2, off2, rfl, hbw2, hcs2⟩ := HY.out (by rw [HM.out]; omega)
    obtain ⟨c0, c1, c2⟩ := (hcs k (by rw [HN.out]; exact hlt)).up hB hbw
    obtain ⟨d0, d1, d2⟩ := (hcs2 k (by rw [HM.out]; exact hlt)).up hB hbw2
    have ht1 := take_succ_getD (d := lnk0) (L := zs) (i := k) (by rw [HN.out]; exact hlt)
    have ht2 := take_succ_getD (d := lnk0) (L := ys) (i := k) (by rw [HM.out]; exact hlt)
    generalize zs.getD k lnk0 = x at *
    generalize ys.getD k lnk0 = y at *
    by_cases hxy : x = y
    ·subst hxy
     have HT2 : Hid (zs.take (k + 1) = ys.take (k + 1)) := Lib.hid (by rw [ht1, ht2, HT.out])
     clear ht1 ht2 hcs hcs2
     go_wp2_with fail
     go_quiet (fail)
     replace hB := below_drewN hB nq
     generalize World.drewN _ nq = W1 at *
     go_wp2_with fail
     go_roundg (n - (k + 1))
     case measure => omega
     case rel => exact ⟨k + 1, by go_num, by omega, by omega, HT2, hB⟩
    ·have hno : Hid (decide (zs = ys) = false) := Lib.hid (decide_eq_false fun e => by
      rw [e, ht2] at ht1
      have := List.append_cancel_left ht1
      simp at this; exact hxy this.symm)
     have hne : x.frm ≠ y.frm ∨ (x.frm = y.frm ∧ x.tgt ≠ y.tgt) ∨ (x.frm = y.frm ∧ x.tgt = y.tgt ∧ x.since ≠ y.since) := by
      by_cases h1 : x.frm = y.frm
      ·by_cases h2 : x.tgt = y.tgt
       ·exact .inr (.inr ⟨h1, h2, fun h3 => hxy (by cases x; cases y; simp at h1 h2 h3; rw [h1, h2, h3])⟩)
       ·exact .inr (.inl ⟨h1, h2⟩)
      ·exact .inl h1
     clear ht1 ht2 hcs hcs2 hxy
     rcases hne with h1 | ⟨h1, h2⟩ | ⟨h1, h2, h3⟩
     ·have q1 : (x.frm == y.frm) = false := by simp [h1]
      clear h1
      go_wp2_with fail
      go_quiet (fail)
      replace hB := below_drewN hB nq
      generalize World.drewN _ nq = W1 at *
      go_wp2_with fail
      go_ret
      exact ⟨by rw [hno.out]; rfl, hB⟩
     ·have q1 : (x.frm == y.frm) = true := by simp [h1]
      have q2 : (x.tgt == y.tgt) = false := by simp [h2]
      clear h1 h2
      go_wp2_with fail
      go_quiet (fail)
      replace hB := below_drewN hB nq
      generalize World.drewN _ nq = W1 at *
      go_wp2_with fail
      go_ret
      exact ⟨by rw [hno.out]; rfl, hB⟩
     ·have q1 : (x.frm == y.frm) = true := by simp [h1]
      have q2 : (x.tgt == y.tgt) = true := by simp [h2]
      have q3 : (x.since == y.since) = false := by simp [h3]
      clear h1 h2 h3
      go_wp2_with fail
      go_quiet (fail)
      replace hB := below_drewN hB nq
      generalize World.drewN _ nq = W1 at *
      go_wp2_with fail
      go_ret
      exact ⟨by rw [hno.out]; rfl, hB⟩
   ·obtain rfl : k = n := by omega
    have hltz : ¬ (k : Int) < (k : Int) := by omega
    have hyes : Hid (decide (zs = ys) = true) := Lib.hid (decide_eq_true (by have h := HT.out; rwa [List.take_of_length_le (by rw [HN.out]; omega), List.take_of_length_le (by rw [HM.out]; omega)] at h))
    go_wp2_with fail
    go_ret
    exact ⟨by rw [hyes.out]; rfl, hB⟩
 ·have hno : Hid (decide (zs = ys) = false) := Lib.hid (decide_eq_false fun e => hnm (by rw [← hn, ← hm, e]))
  have hnn : ((n : Int) != (m : Int)) = true := by simp; omega
  clear hn hm hz hy
  go_enter Tryz.func31, Tryz.ntmps31
  go_wp2_with fail
  go_ret
  exact ⟨by rw [hno.out]; rfl, hB⟩
def smL (l : Lnk) : Bool := decide (l.tgt ≤ 1125899906842624) && decide (-1125899906842624 ≤ l.tgt)
def smLB (L : List Lnk) : Bool := L.all smL && decide (L.length ≤ 100)
set_option maxRecDepth 20000 in
set_option maxHeartbeats 1600000 in
theorem esmall_any (A : Option Addr) (cp : Nat) (L : List Lnk) (w : World) (hz : LnkAt w A L) (hl : L.length ≤ 9223372036854775807) :
  Calls Tryz.prog 10 #[.slice A L.length cp] w fun e w' => e = .returned (.bool (smLB L)) ∧ Below w.heap.size w w' := by
 have hB := Below.refl w.heap.size w
 obtain ⟨n, hn⟩ : ∃ n, L.length = n := ⟨_, rfl⟩
 rw [hn] at hl ⊢
 have HN := Lib.hid hn
 have HZ := Lib.hid hz
 clear hn hz
 go_enter Tryz.func10, Tryz.ntmps10
 go_wp2_with fail
 go_loopg [3] n (fun kx s3 wr => ∃ k : Nat, s3 = .int .i64 k ∧ k ≤ n ∧ n - k ≤ kx ∧ Hid ((L.take k).all smL = true) ∧ Below w.heap.size w wr)
 case atStart => exact ⟨0, rfl, by omega, by omega, Lib.hid rfl, hB⟩
 case round =>
  clear hB
  obtain ⟨k, rfl, hk, hkx, HT, hB⟩ := hrel
  by_cases hlt : k < n
  ·have hltz : (k : Int) < (n : Int) := by omega
   obtain ⟨bb, off, rfl, hbw, hcs⟩ := HZ.out (by rw [HN.out]; omega)
   obtain ⟨c0, c1, c2⟩ := (hcs k (by rw [HN.out]; exact hlt)).up hB hbw
   have hkl : k < L.length := by rw [HN.out]; exact hlt
   have hst : (L.take (k + 1)).all smL = smL (L.getD k lnk0) := by
    rw [take_succ_getD (d := lnk0) hkl, List.all_append, HT.out, List.all_cons, List.all_nil, Bool.true_and, Bool.and_true]
   have hno : smL (L.getD k lnk0) = false → smLB L = false := fun h => by
    unfold smLB
    have : L.all smL = false := by
     rw [List.all_eq_false]
     exact ⟨_, getD_mem_acc hkl, by rw [h]; simp⟩
    rw [this]; rfl
   generalize L.getD k lnk0 = x at *
   have hsx : smL x = (decide (x.tgt ≤ 1125899906842624) && decide (-1125899906842624 ≤ x.tgt)) := rfl
   have HNO := Lib.hid hno
   have HST := Lib.hid hst
   clear hcs hst hno
   rcases Int.lt_or_le 1125899906842624 x.tgt with h1 | h1
   ·have E : Hid (smLB L = false) := Lib.hid (HNO.out (by rw [hsx, decide_eq_false (by omega)]; rfl))
    have e1 : decide (x.tgt ≤ 1125899906842624) = false := decide_eq_false (by omega)
    clear hsx
    go_wp2_with fail
    go_ret
    exact ⟨by rw [E.out]; rfl, hB⟩
   ·have e1 : decide (x.tgt ≤ 1125899906842624) = true := decide_eq_true h1
    have e9 : ¬ (1125899906842624 : Int) < x.tgt := by omega
    rcases Int.lt_or_le x.tgt (-1125899906842624) with h2 | h2
    ·have E : Hid (smLB L = false) := Lib.hid (HNO.out (by rw [hsx, e1, decide_eq_false (by omega)]; rfl))
     have e2 : decide (-1125899906842624 ≤ x.tgt) = false := decide_eq_false (by omega)
     clear hsx
     go_wp2_with fail
     go_ret
     exact ⟨by rw [E.out]; rfl, hB⟩
    ·have HT2 : Hid ((L.take (k + 1)).all smL = true) := Lib.hid (by rw [HST.out, hsx, e1, decide_eq_true h2]; rfl)
     have e2 : decide (-1125899906842624 ≤ x.tgt) = true := decide_eq_true h2
     have e8 : ¬ x.tgt < (-1125899906842624 : Int) := by omega
     clear hsx
     go_wp2_with fail
     go_roundg (n - (k + 1))
     case measure => omega
     case rel => exact ⟨k + 1, by go_num, by omega, by omega, HT2, hB⟩
  ·obtain rfl : k = n := by omega
   have hltz : ¬ (k : Int) < (k : Int) := by omega
   have E : Hid (smLB L = decide ((k : Int) ≤ 100)) := Lib.hid (by
    have h1 : L.take k = L := by rw [← HN.out, List.take_length]
    have h2 := HT.out
    rw [h1] at h2
    unfold smLB
    rw [h2, HN.out, Bool.true_and]
    exact decide_eq_decide.2 (by omega))
   go_wp2_with fail
   go_ret
   exact ⟨by rw [E.out]; rfl, hB⟩
theorem lnk_lit (w : World) (t : TypeId) (L : List Lnk) : LnkAt (w.alloc (.cells (L.flatMap celL).toArray t)) (some ⟨w.heap.size, 0, none⟩) L := fun _ => by
 refine ⟨w.heap.size, 0, rfl, by simp, fun j hj => ?_⟩
 have key : ∀ i, (w.alloc (.cells (L.flatMap celL).toArray t)).cell? ⟨w.heap.size, i, none⟩ = (L.flatMap celL)[i]? := by
  intro i
  simp only [World.cell?]
  rw [heap_alloc_new]
  simp
 obtain ⟨k0, k1, k2⟩ := celL_get L j hj
 exact ⟨by rw [Nat.zero_add, key]; exact k0, by rw [Nat.zero_add, key]; exact k1, by rw [Nat.zero_add, key]; exact k2⟩
def exLn : List Lnk := [⟨1000, 5, -1⟩, ⟨2000, -5, 1⟩, ⟨1000, -2, -1⟩, ⟨2000, 2, 1⟩]
def exNn : List Lnk := [⟨1000, 3, -1⟩, ⟨2000, -3, 1⟩]
theorem exLn_nrm : IsNrm exLn exNn := by
 have h := isnrm_keys (L := exLn) (K := [(1000, -1), (2000, 1)]) (by unfold AscP; simp [ltK]) (fun k => by
  unfold fsum
  constructor
  ·intro h
   rw [if_pos]
   ·rfl
   ·simp only [List.mem_cons, List.not_mem_nil, or_false] at h
    rcases h with rfl | rfl <;> decide
  ·intro h
   split at h
   ·rename_i h1
    simp [exLn, kOf] at h1
    simp only [List.mem_cons, List.not_mem_nil, or_false]
    rcases h1 with h1 | h1 | h1 | h1
    all_goals first | exact .inl h1 | exact .inr h1
   ·cases h)
 have e : nrmK (fsum exLn) [(1000, -1), (2000, 1)] = exNn := by decide +kernel
 rw [← e]; exact h
set_option maxRecDepth 20000 in
set_option maxHeartbeats 1600000 in
theorem eawake_any (w : World) : Calls Tryz.prog 8 #[] w fun e w' => e = .returned (.bool true) ∧ Below w.heap.size w w' := by
 have hB1 := below_alloc_new (w := w) (.cells #[.int .i64 1000, .int .i64 5, .int .i64 (-1), .int .i64 2000, .int .i64 (-5), .int .i64 1, .int .i64 1000, .int .i64 (-2), .int .i64 (-1), .int .i64 2000, .int .i64 2, .int .i64 1] 66)
 have hat : LnkAt (w.alloc (.cells #[.int .i64 1000, .int .i64 5, .int .i64 (-1), .int .i64 2000, .int .i64 (-5), .int .i64 1, .int .i64 1000, .int .i64 (-2), .int .i64 (-1), .int .i64 2000, .int .i64 2, .int .i64 1] 66)) (some ⟨w.heap.size, 0, none⟩) exLn := lnk_lit w 66 exLn
 have HN := Lib.hid (fun W (h : LnkAt W (some ⟨w.heap.size, 0, none⟩) exLn) => enorm_any (some ⟨w.heap.size, 0, none⟩) 4 exLn W h (by decide) (by unfold okK; decide +kernel))
 have HAT := Lib.hid hat
 have HB1 := Lib.hid hB1
 clear hat hB1
 go_enter Tryz.func8, Tryz.ntmps8
 go_wp2_with (first
  | (go_at_call 15; refine (HN.out _ HAT.out).mono ?_; rintro e w2 ⟨B, c, N, rfl, hl, hnm, -, hb⟩; obtain rfl := isnrm_unique hnm exLn_nrm; have HL := Lib.hid hl; have HB2 := Lib.hid (below_more HB1.out hb); clear hl hnm hb)
  | (go_at_call 31; refine (rsamel_any B (some ⟨w2.heap.size, 0, none⟩) c 2 exNn exNn _ (HL.out.up (below_alloc_new _)) (lnk_lit w2 66 exNn) (by decide) (by decide)).mono ?_; rintro e w3 ⟨rfl, hb⟩; have HB3 := Lib.hid (below_more (below_new HB2.out _) hb); clear hb))
 go_ret
 exact ⟨by simp, HB3.out⟩
def fewR (e : Ent) : Bool := decide (e.n ≤ 40) && (decide (e.m ≤ 60) && !decide ((60 : Int) < wrap64 ((e.nm.size : Int) + (e.cur.size : Int))))
def few10 (g : Grp) (G : List Ent) : Bool := allTo (fun i => fewR (G.getD i ent0)) G.length && (decide (g.n ≤ 60) && (decide (g.m ≤ 14) && decide ((g.cur.size : Int) ≤ 20)))
theorem few_sm {g : Grp} {G : List Ent} (h : few10 g G = true) : Sm g G := by
 unfold few10 at h
 simp only [Bool.and_eq_true, decide_eq_true_eq] at h
 obtain ⟨h1, h2, h3, -⟩ := h
 refine ⟨h2, h3, fun e he => ?_⟩
 obtain ⟨i, hi, rfl⟩ := mem_getD_acc (d := ent0) he
 have h4 := allTo_is.1 h1 i hi
 unfold fewR at h4
 simp only [Bool.and_eq_true, decide_eq_true_eq] at h4
 exact ⟨by omega, h4.2.1⟩
set_option maxRecDepth 20000 in
set_option maxHeartbeats 1600000 in
theorem rfew10_is (g : Grp) (G : List Ent) (w : World) (he : EntsAt w g.E G) (lg : G.length = g.m) (hmx : g.m ≤ 9223372036854775807) :
  Calls Tryz.prog 32 #[grpV g] w fun e w' => e = .returned (.bool (few10 g G)) ∧ Below w.heap.size w w' := by
 have hB := below_alloc_new (w := w) (.cells #[.string g.cur, .int .i64 g.cy, .int .i64 g.cm, .int .i64 g.cp, .slice g.A g.n g.c, .int .i64 g.r0, .int .i64 g.r1, .int .i64 g.r2, .int .i64 g.r3, .int .i64 g.r4, .int .i64 g.r5, .int .i64 g.r6, .int .i64 g.r7, .int .i64 g.r8, .int .i64 g.r9, .int .i64 g.r10, .int .i64 g.r11, .int .i64 g.r12, .int .i64 g.r13, .int .i64 g.r14, .slice g.E g.m g.d] 29)
 have hG := gb_new w 29 g
 have hv : few10 g G = (allTo (fun i => fewR (G.getD i ent0)) G.length && (decide (g.n ≤ 60) && (decide (g.m ≤ 14) && decide ((g.cur.size : Int) ≤ 20)))) := rfl
 rw [lg] at hv
 generalize few10 g G = r at *
 obtain ⟨P, hP⟩ : ∃ P : Nat → Bool, (fun i => fewR (G.getD i ent0)) = P := ⟨_, rfl⟩
 have hpk : ∀ k, P k = fewR (G.getD k ent0) := fun k => by rw [← hP]
 rw [hP] at hv
 have HV := Lib.hid hv
 have HPK := Lib.hid hpk
 clear hv hpk hP
 obtain ⟨s0, hs0⟩ : ∃ s0, w.heap.size = s0 := ⟨_, rfl⟩
 rw [hs0] at hB hG ⊢
 have HM := Lib.hid lg
 have HZ := Lib.hid he
 have HS0 := Lib.hid hs0
 have HG := Lib.hid hG
 clear he lg hG
 go_enter Tryz.func32, Tryz.ntmps32
 go_wp2_with fail
 clear hs0
 go_loopg [3] g.m (fun kx s3 wr => ∃ k : Nat, s3 = .int .i64 k ∧ k ≤ g.m ∧ g.m - k ≤ kx ∧ Hid (allTo P k = true) ∧ Hid (GB wr s0 g) ∧ Below s0 w wr)
 case atStart => exact ⟨0, rfl, by omega, by omega, Lib.hid rfl, HG, hB⟩
 case round =>
  clear hB HG
  obtain ⟨k, rfl, hk, hkx, HN, HG, hB⟩ := hrel
  have c20 := HG.out.c20
  have hsz : s0 ≤ wr.heap.size := by have := hB.size; have := HS0.out; omega
  by_cases hlt : k < g.m
  ·have hltz : (k : Int) < (g.m : Int) := by omega
   obtain ⟨b, off, eE, hbw, hcs⟩ := ent_at HZ.out (k := k) (by rw [HM.out]; omega)
   obtain ⟨c0, c1, c2, c3, c4⟩ := hcs.up hB (by have := HS0.out; omega)
   have hno : P k = false → r = false := fun h => by rw [HV.out, allTo_no hlt h]; rfl
   have hnx : P k = true → Hid (allTo P (k + 1) = true) := fun h => Lib.hid (by show (allTo P k && P k) = true; rw [HN.out, h]; rfl)
   have hpk := HPK.out k
   obtain ⟨x, hx⟩ : ∃ x, G.getD k ent0 = x := ⟨_, rfl⟩
   rw [hx] at c0 c1 c2 c3 c4 hpk
   have hfr : fewR x = (decide (x.n ≤ 40) && (decide (x.m ≤ 60) && !decide ((60 : Int) < wrap64 ((x.nm.size : Int) + (x.cur.size : Int))))) := rfl
   rw [hfr] at hpk
   generalize P k = pk at *
   obtain ⟨z0, z1, z2, z3, z4, zlt⟩ := eb_new wr 111 x.nm x.cur x.A x.n x.c x.B x.m x.d x.jt
   have hB1 : Below s0 w (wr.alloc (.cells #[.string x.nm, .string x.cur, .slice x.A x.n x.c, .slice x.B x.m x.d, .bool x.jt] 111)) := hB.alloc hsz _
   have HG1 := Lib.hid (HG.out.up (below_alloc_new (w := wr) (.cells #[.string x.nm, .string x.cur, .slice x.A x.n x.c, .slice x.B x.m x.d, .bool x.jt] 111)))
   clear hcs hx HN HG hfr
   rcases Nat.lt_or_ge 40 x.n with h1 | h1
   ·have e1 : decide ((40 : Int) < (x.n : Int)) = true := decide_eq_true (by omega)
    have HR := Lib.hid (hno (by rw [hpk, decide_eq_false (show ¬ x.n ≤ 40 by omega)]; rfl))
    clear hnx h1 hno hpk
    go_wp2_with fail
    go_ret
    exact ⟨by rw [HR.out]; rfl, hB1⟩
   have e1 : decide ((40 : Int) < (x.n : Int)) = false := decide_eq_false (by omega)
   rcases Nat.lt_or_ge 60 x.m with h2 | h2
   ·have e2 : decide ((60 : Int) < (x.m : Int)) = true := decide_eq_true (by omega)
    have HR := Lib.hid (hno (by rw [hpk, decide_eq_false (show ¬ x.m ≤ 60 by omega)]; simp))
    clear hnx h1 h2 hno hpk
    go_wp2_with fail
    go_ret
    exact ⟨by rw [HR.out]; rfl, hB1⟩
   have e2 : decide ((60 : Int) < (x.m : Int)) = false := decide_eq_false (by omega)
   rw [decide_eq_true h1, decide_eq_true h2] at hpk
   clear h1 h2
   cases e3 : decide ((60 : Int) < wrap64 ((x.nm.size : Int) + (x.cur.size : Int)))
   ·have HN2 := hnx (by rw [hpk, e3]; rfl)
    clear hnx hno hpk
    go_wp2_with fail
    go_roundg (g.m - (k + 1))
    case measure => omega
    case rel => exact ⟨k + 1, by go_num, by omega, by omega, HN2, HG1, hB1⟩
   ·have HR := Lib.hid (hno (by rw [hpk, e3]; rfl))
    clear hnx hno hpk
    go_wp2_with fail
    go_ret
    exact ⟨by rw [HR.out]; rfl, hB1⟩
  ·have hke : k = g.m := by omega
   have hltz : ¬ (k : Int) < (g.m : Int) := by omega
   have hv2 := HV.out
   rw [← hke, HN.out, Bool.true_and] at hv2
   have hm9 : decide (k ≤ 14) = decide (g.m ≤ 14) := by rw [hke]
   have c4 := HG.out.c4
   have c0 := HG.out.c0
   clear hke
   rcases Nat.lt_or_ge 60 g.n with h1 | h1
   ·have e1 : decide ((g.n : Int) ≤ 60) = false := decide_eq_false (by omega)
    have HR : Hid (r = false) := Lib.hid (by rw [hv2, decide_eq_false (show ¬ g.n ≤ 60 by omega)]; rfl)
    clear h1 hv2
    go_wp2_with fail
    go_ret
    exact ⟨by rw [HR.out]; rfl, hB⟩
   have e1 : decide ((g.n : Int) ≤ 60) = true := decide_eq_true (by omega)
   rcases Nat.lt_or_ge 14 g.m with h2 | h2
   ·have e2 : decide ((g.m : Int) ≤ 14) = false := decide_eq_false (by omega)
    have HR : Hid (r = false) := Lib.hid (by rw [hv2, hm9, decide_eq_false (show ¬ g.m ≤ 14 by omega)]; simp)
    clear h1 h2 hv2 hm9
    go_wp2_with fail
    go_ret
    exact ⟨by rw [HR.out]; rfl, hB⟩
   have e2 : decide ((g.m : Int) ≤ 14) = true := decide_eq_true (by omega)
   have HR : Hid (r = decide ((g.cur.size : Int) ≤ 20)) := Lib.hid (by rw [hv2, hm9, decide_eq_true h1, decide_eq_true h2]; rfl)
   clear h1 h2 hv2 hm9
   go_wp2_with fail
   go_ret
   exact ⟨by rw [HR.out]; rfl, hB⟩
def few11 (g : Grp) (G : List Ent) (x : Ety) : Bool := few10 g G && (decide ((x.n : Int) ≤ 60) && decide ((x.txt.size : Int) ≤ 200))
set_option maxRecDepth 100000 in
set_option maxHeartbeats 6400000 in
theorem rfew11_any (g : Grp) (x : Ety) (X : List Lnk) (L : List Acc) (G : List Ent) (w : World) (hk : GrK w g L G) (hmx : g.m ≤ 9223372036854775807) (hx : EtyK w x X) : Calls Tryz.prog 9 #[grpV g, etyV x] w fun e w' => e = .returned (.bool (few11 g G x)) ∧ Below w.heap.size w w' := by
 obtain ⟨GV, hGV⟩ : ∃ GV, GV = grpV g := ⟨_, rfl⟩
 obtain ⟨XV, hXV⟩ : ∃ XV, XV = etyV x := ⟨_, rfl⟩
 have HFW := Lib.hid (fun W h => rfew10_is g G W h hk.lg hmx)
 rw [← hGV] at HFW
 have hq : few11 g G x = (few10 g G && (decide ((x.n : Int) ≤ 60) && decide ((x.txt.size : Int) ≤ 200))) := rfl
 rw [hq]
 rw [grpV_is]
 obtain ⟨gs, hgs⟩ : ∃ gs, (grpC g).toArray = gs := ⟨_, rfl⟩
 obtain ⟨xs, hxs⟩ : ∃ xs, (etyC x).toArray = xs := ⟨_, rfl⟩
 have hxV : etyV x = .agg xs := by rw [etyV_is, hxs]
 rw [hgs, hxV]
 obtain ⟨s0, hs0⟩ : ∃ s0, w.heap.size = s0 := ⟨_, rfl⟩
 obtain ⟨w2, hw2⟩ : ∃ w2, (w.alloc (.cells gs 29)).alloc (.cells xs 32) = w2 := ⟨_, rfl⟩
 have HGB : Hid (Rg w2 s0 (grpC g)) := Lib.hid (by rw [← hw2, ← hgs, ← hs0]; exact (rg_new w _ _).up (below_alloc_new _))
 have HXB : Hid (Rg w2 (s0 + 1) (etyC x)) := Lib.hid (by
  rw [← hw2, ← hxs, ← hs0]
  have h9 := rg_new (w.alloc (.cells gs 29)) 32 (etyC x)
  rw [World.size_alloc] at h9
  exact h9)
 have HB2 : Hid (Below w.heap.size w w2) := Lib.hid (by rw [← hw2]; exact below_new (below_alloc_new _) _)
 have HLG : Hid (∀ w9, Below w2.heap.size w2 w9 → (Instr.loadAt 29 (.pointer (some ⟨s0, 0, none⟩))).run Tryz.prog w9 = .ok GV w9) := Lib.hid (fun w9 h9 => by rw [hGV, grpV_is]; exact (HGB.out.up h9).load 0 29 (grpC g) rfl _ Tryz.underlying29 rfl (by kernel_rfl))
 have HLX : Hid (∀ w9, Below w2.heap.size w2 w9 → (Instr.loadAt 32 (.pointer (some ⟨s0 + 1, 0, none⟩))).run Tryz.prog w9 = .ok XV w9) := Lib.hid (fun w9 h9 => by rw [hXV, etyV_is]; exact (HXB.out.up h9).load 0 32 (etyC x) rfl _ Tryz.underlying32 rfl (by kernel_rfl))
 have HK2 := Lib.hid (hk.up HB2.out)
 have HX2 := Lib.hid (hx.up HB2.out)
 have HBC := Lib.hid (Below.refl w2.heap.size w2)
 clear hk hx hGV hXV hgs hxs hxV hq hmx
 have HS0 := Lib.hid hs0
 generalize few10 g G = q at *
 cases q
 ·rw [Bool.false_and]
  have HM1 : True := trivial
  have HM2 : True := trivial
  go_enter Tryz.func9, Tryz.ntmps9
  go_wp2_with (first | (clear HM1; refine wpList_load_is rfl 29 _ rfl (.pointer (some ⟨s0, 0, none⟩)) rfl GV (HLG.out _ HBC.out) ?_) | (go_at_call 32; refine (HFW.out _ HK2.out.he).mono ?_; rintro e w3 ⟨rfl, hb⟩; have hB3 := Lib.hid (HBC.out.trans (hb.mono HBC.out.size)); clear hb HBC; have HBC := hB3; clear hB3; have d5 := (HXB.out.up HBC.out).cell 5 _ rfl; have d6 := (HXB.out.up HBC.out).cell 6 _ rfl))
  go_ret
  exact ⟨by first | rfl | simp, (by have h9 := HB2.out.trans (HBC.out.mono HB2.out.size); first | exact h9 | (rw [← HS0.out]; exact h9))⟩
 rw [Bool.true_and]
 by_cases h6 : (x.n : Int) ≤ 60
 ·have e1 : decide ((x.n : Int) ≤ 60) = true := decide_eq_true h6
  rw [e1, Bool.true_and]
  clear h6
  by_cases h2 : (x.txt.size : Int) ≤ 200
  ·have e2 : decide ((x.txt.size : Int) ≤ 200) = true := decide_eq_true h2
   rw [e2]
   clear h2
   have HM1 : True := trivial
   have HM2 : True := trivial
   go_enter Tryz.func9, Tryz.ntmps9
   go_wp2_with (first | (clear HM1; refine wpList_load_is rfl 29 _ rfl (.pointer (some ⟨s0, 0, none⟩)) rfl GV (HLG.out _ HBC.out) ?_) | (go_at_call 32; refine (HFW.out _ HK2.out.he).mono ?_; rintro e w3 ⟨rfl, hb⟩; have hB3 := Lib.hid (HBC.out.trans (hb.mono HBC.out.size)); clear hb HBC; have HBC := hB3; clear hB3; have d5 := (HXB.out.up HBC.out).cell 5 _ rfl; have d6 := (HXB.out.up HBC.out).cell 6 _ rfl))
   go_ret
   exact ⟨by first | rfl | simp, (by have h9 := HB2.out.trans (HBC.out.mono HB2.out.size); first | exact h9 | (rw [← HS0.out]; exact h9))⟩
  ·have e2 : decide ((x.txt.size : Int) ≤ 200) = false := decide_eq_false h2
   rw [e2]
   clear h2
   have HM1 : True := trivial
   have HM2 : True := trivial
   go_enter Tryz.func9, Tryz.ntmps9
   go_wp2_with (first | (clear HM1; refine wpList_load_is rfl 29 _ rfl (.pointer (some ⟨s0, 0, none⟩)) rfl GV (HLG.out _ HBC.out) ?_) | (go_at_call 32; refine (HFW.out _ HK2.out.he).mono ?_; rintro e w3 ⟨rfl, hb⟩; have hB3 := Lib.hid (HBC.out.trans (hb.mono HBC.out.size)); clear hb HBC; have HBC := hB3; clear hB3; have d5 := (HXB.out.up HBC.out).cell 5 _ rfl; have d6 := (HXB.out.up HBC.out).cell 6 _ rfl))
   go_ret
   exact ⟨by first | rfl | simp, (by have h9 := HB2.out.trans (HBC.out.mono HB2.out.size); first | exact h9 | (rw [← HS0.out]; exact h9))⟩
 ·have e1 : decide ((x.n : Int) ≤ 60) = false := decide_eq_false h6
  rw [e1, Bool.false_and]
  clear h6
  have HM1 : True := trivial
  have HM2 : True := trivial
  go_enter Tryz.func9, Tryz.ntmps9
  go_wp2_with (first | (clear HM1; refine wpList_load_is rfl 29 _ rfl (.pointer (some ⟨s0, 0, none⟩)) rfl GV (HLG.out _ HBC.out) ?_) | (go_at_call 32; refine (HFW.out _ HK2.out.he).mono ?_; rintro e w3 ⟨rfl, hb⟩; have hB3 := Lib.hid (HBC.out.trans (hb.mono HBC.out.size)); clear hb HBC; have HBC := hB3; clear hB3; have d5 := (HXB.out.up HBC.out).cell 5 _ rfl; have d6 := (HXB.out.up HBC.out).cell 6 _ rfl))
  go_ret
  exact ⟨by first | rfl | simp, (by have h9 := HB2.out.trans (HBC.out.mono HB2.out.size); first | exact h9 | (rw [← HS0.out]; exact h9))⟩
theorem celL_set : ∀ (A : List Lnk) (p : Nat) (v : Int), p < A.length → (A.flatMap celL).set (p * 3 + 1) (.int .i64 v) = (A.set p ⟨(A.getD p lnk0).frm, v, (A.getD p lnk0).since⟩).flatMap celL
 | [], _, _, h => by simp at h
 | a :: A, 0, v, _ => by simp [celL]
 | a :: A, p + 1, v, h => by
  have := celL_set A p v (by simpa using h)
  have e1 : (p + 1) * 3 + 1 = p * 3 + 1 + 1 + 1 + 1 := by omega
  rw [List.set_cons_succ, List.flatMap_cons, List.flatMap_cons, e1, List.getD_cons_succ, ← this]
  simp [celL]
theorem OwnL.open {e : TypeId} {w : World} {base : Nat} {v : Value} {A : List Lnk} (h : OwnL e w base v A) (h0 : 0 < A.length) : ∃ g cap, v = .slice (some ⟨g, 0, none⟩) A.length cap ∧ base ≤ g ∧ g < w.heap.size ∧ A.length ≤ cap ∧ cap ≤ maxLen ∧ (∀ i, i < A.length → L3 w g (i * 3) (A.getD i lnk0)) ∧ ∀ o, o < A.length * 3 → w.frozen? ⟨g, o, none⟩ = false := by
 obtain ⟨A', c', e1, hat⟩ := h.reads
 obtain ⟨h1, h2⟩ := h
 rcases h2 with ⟨rfl, h9⟩ | ⟨g, cap, cur, rfl, hbg, hg, hn, hcap, hsz, hcur⟩
 ·omega
 ·cases e1
  obtain ⟨b, off, e2, hlt, hc⟩ := hat h0
  cases e2
  refine ⟨g, _, rfl, hbg, hlt, hn, hcap, fun i hi => by have := hc i hi; rwa [Nat.zero_add] at this, fun o _ => by simp [World.frozen?, hg]⟩
theorem OwnL.set1 {e : TypeId} {w : World} {base g n cap p : Nat} {A : List Lnk} (h : OwnL e w base (.slice (some ⟨g, 0, none⟩) n cap) A) (hp : p < A.length) (v : Int) :
  OwnL e (w.setCell ⟨g, p * 3 + 1, none⟩ (.int .i64 v)) base (.slice (some ⟨g, 0, none⟩) n cap) (A.set p ⟨(A.getD p lnk0).frm, v, (A.getD p lnk0).since⟩) := by
 obtain ⟨h1, h2⟩ := h
 rcases h2 with ⟨h9, _⟩ | ⟨g', cap', cur, h9, hbg, hg, hle, hcap, hsz, hcur⟩
 ·cases h9
 ·cases h9
  refine ⟨by rw [celL_len], .inr ⟨_, _, cur.setIfInBounds (p * 3 + 1) (.int .i64 v), by rw [List.length_set], hbg, ?_, by rw [List.length_set]; exact hle, hcap, by rw [Array.size_setIfInBounds]; exact hsz, ?_⟩⟩
  ·have hgl : g < w.heap.size := by
    rcases Nat.lt_or_ge g w.heap.size with hlt | hge
    ·exact hlt
    ·rw [Array.getElem?_eq_none hge] at hg; cases hg
   simp only [World.setCell]
   rw [Array.getElem?_modify, if_pos rfl, hg]
   rfl
  ·rw [List.length_set, Array.toList_setIfInBounds, List.take_set, hcur, celL_set A p v hp]
theorem Below.set {B : Nat} {w0 w : World} (h : Below B w0 w) {g : Nat} (hg : B ≤ g) (o : Nat) (v : Value) : Below B w0 (w.setCell ⟨g, o, none⟩ v) := Below.setCell (p := ⟨g, o, none⟩) h hg v
def negL (l : Lnk) : Lnk := ⟨l.frm, wr (-l.tgt), l.since⟩
theorem lines_up6 {w w5 : World} {g b i1 i2 i3 j1 j2 j3 : Nat} {u1 u2 u3 v1 v2 v3 : Value} (h : w.cell? ⟨g, i1, none⟩ = some u1 ∧ w.cell? ⟨g, i2, none⟩ = some u2 ∧ w.cell? ⟨g, i3, none⟩ = some u3 ∧ w.cell? ⟨b, j1, none⟩ = some v1 ∧ w.cell? ⟨b, j2, none⟩ = some v2 ∧ w.cell? ⟨b, j3, none⟩ = some v3)
  (hb : Below w.heap.size w w5) (hg : g < w.heap.size) (hbb : b < w.heap.size) : w5.cell? ⟨g, i1, none⟩ = some u1 ∧ w5.cell? ⟨g, i2, none⟩ = some u2 ∧ w5.cell? ⟨g, i3, none⟩ = some u3 ∧ w5.cell? ⟨b, j1, none⟩ = some v1 ∧ w5.cell? ⟨b, j2, none⟩ = some v2 ∧ w5.cell? ⟨b, j3, none⟩ = some v3 := by
 obtain ⟨h1, h2, h3, h4, h5, h6⟩ := h
 exact ⟨(hb.cell (p := ⟨g, i1, none⟩) hg).trans h1, (hb.cell (p := ⟨g, i2, none⟩) hg).trans h2, (hb.cell (p := ⟨g, i3, none⟩) hg).trans h3, (hb.cell (p := ⟨b, j1, none⟩) hbb).trans h4, (hb.cell (p := ⟨b, j2, none⟩) hbb).trans h5, (hb.cell (p := ⟨b, j3, none⟩) hbb).trans h6⟩
set_option maxRecDepth 20000 in
set_option maxHeartbeats 1600000 in
theorem eneg_any (x : Lnk) (w : World) : Calls Tryz.prog 39 #[lnkV x] w fun e w' => e = .returned (lnkV (negL x)) ∧ Below w.heap.size w w' := by
 obtain ⟨x1, x2, x3⟩ := x
 have HB := below_new (below_alloc_new (w := w) (.cells #[.int .i64 x1, .int .i64 (wrap64 (-x2)), .int .i64 x3] 66)) (.cells #[.int .i64 x1, .int .i64 (wrap64 (-x2)), .int .i64 x3] 66)
 have hnew : ((w.alloc (.cells #[.int .i64 x1, .int .i64 (wrap64 (-x2)), .int .i64 x3] 66)).alloc (.cells #[.int .i64 x1, .int .i64 (wrap64 (-x2)), .int .i64 x3] 66)).heap[w.heap.size + 1]? = some (.cells #[.int .i64 x1, .int .i64 (wrap64 (-x2)), .int .i64 x3] 66 (0, 0)) := by
  have := heap_alloc_new (w.alloc (.cells #[.int .i64 x1, .int .i64 (wrap64 (-x2)), .int .i64 x3] 66)) (.cells #[.int .i64 x1, .int .i64 (wrap64 (-x2)), .int .i64 x3] 66)
  rwa [World.size_alloc] at this
 have HN : negL ⟨x1, x2, x3⟩ = ⟨x1, wrap64 (-x2), x3⟩ := rfl
 rw [HN]
 clear HN
 go_enter Tryz.func39, Tryz.ntmps39
 go_wp2_with fail
 exact bodyPost_ret (v := lnkV ⟨x1, wrap64 (-x2), x3⟩) (results_cell_row Tryz.results39 _ _ (w.heap.size + 1) _ _ _ _ rfl hnew Tryz.underlying66 rfl (by kernel_rfl)) rfl ⟨rfl, HB⟩
set_option maxRecDepth 20000 in
set_option maxHeartbeats 1600000 in
theorem eopp1_any (x y : Lnk) (w : World) : Calls Tryz.prog 38 #[lnkV x, lnkV y] w fun e w' => e = .returned (.bool (decide (x = negL y))) ∧ Below w.heap.size w w' := by
 have HB := Lib.hid (below_new (below_alloc_new (w := w) (.cells #[.int .i64 x.frm, .int .i64 x.tgt, .int .i64 x.since] 66)) (.cells #[.int .i64 y.frm, .int .i64 y.tgt, .int .i64 y.since] 66))
 have hx := (lb_new w 66 x).up (below_alloc_new (.cells #[.int .i64 y.frm, .int .i64 y.tgt, .int .i64 y.since] 66))
 have hy := lb_new (w.alloc (.cells #[.int .i64 x.frm, .int .i64 x.tgt, .int .i64 x.since] 66)) 66 y
 rw [World.size_alloc] at hy
 have HN := Lib.hid (fun w => eneg_any y w)
 have hneg : (negL y).frm = y.frm ∧ (negL y).since = y.since := ⟨rfl, rfl⟩
 generalize hw2 : (w.alloc (.cells #[.int .i64 x.frm, .int .i64 x.tgt, .int .i64 x.since] 66)).alloc (.cells #[.int .i64 y.frm, .int .i64 y.tgt, .int .i64 y.since] 66) = w2 at *
 obtain ⟨⟨c0, c1, c2⟩, hgl⟩ := hx
 obtain ⟨⟨d0, d1, d2⟩, hbl⟩ := hy
 simp only [Nat.zero_add] at c0 c1 c2 d0 d1 d2
 have hS0 : w2.drew.cell? ⟨w.heap.size, 0, none⟩ = some (.int .i64 x.frm) ∧ w2.drew.cell? ⟨w.heap.size, 1, none⟩ = some (.int .i64 x.tgt) ∧ w2.drew.cell? ⟨w.heap.size, 2, none⟩ = some (.int .i64 x.since) ∧ w2.drew.cell? ⟨w.heap.size + 1, 0, none⟩ = some (.int .i64 y.frm) ∧ w2.drew.cell? ⟨w.heap.size + 1, 1, none⟩ = some (.int .i64 y.tgt) ∧ w2.drew.cell? ⟨w.heap.size + 1, 2, none⟩ = some (.int .i64 y.since) := ⟨c0, c1, c2, d0, d1, d2⟩
 clear hneg
 generalize negL y = z at *
 have HW := Lib.hid hw2
 by_cases hxz : x = z
 ·subst hxz
  have E : decide (x = x) = true := by simp
  go_enter Tryz.func38, Tryz.ntmps38
  go_wp2_with fail
  go_region_held_law (fun w' => w'.cell? ⟨w.heap.size, 0, none⟩ = some (.int .i64 x.frm) ∧ w'.cell? ⟨w.heap.size, 1, none⟩ = some (.int .i64 x.tgt) ∧ w'.cell? ⟨w.heap.size, 2, none⟩ = some (.int .i64 x.since) ∧ w'.cell? ⟨w.heap.size + 1, 0, none⟩ = some (.int .i64 y.frm) ∧ w'.cell? ⟨w.heap.size + 1, 1, none⟩ = some (.int .i64 y.tgt) ∧ w'.cell? ⟨w.heap.size + 1, 2, none⟩ = some (.int .i64 y.since)) (first | exact hS5 | exact hS0 | go_keep)
   ((go_at_call 39; refine (HN.out _).mono ?_; rintro e w5 ⟨rfl, hb5⟩; have hS5 := lines_up6 hS0 hb5 hgl hbl))
  have HB5 := Lib.hid ((dc_drew HB.out).trans (hb5.mono (by have := HB.out.size; exact this)))
  go_wp2_with fail
  go_ret
  exact ⟨by first | (simp; done) | (rw [E]; rfl), HB5.out⟩
 ·have hno : Hid (decide (x = z) = false) := Lib.hid (decide_eq_false hxz)
  have hne : x.frm ≠ z.frm ∨ (x.frm = z.frm ∧ x.tgt ≠ z.tgt) ∨ (x.frm = z.frm ∧ x.tgt = z.tgt ∧ x.since ≠ z.since) := by
   by_cases h1 : x.frm = z.frm
   ·by_cases h2 : x.tgt = z.tgt
    ·exact .inr (.inr ⟨h1, h2, fun h3 => hxz (by cases x; cases z; simp at h1 h2 h3; rw [h1, h2, h3])⟩)
    ·exact .inr (.inl ⟨h1, h2⟩)
   ·exact .inl h1
  clear hxz
  rcases hne with h1 | ⟨h1, h2⟩ | ⟨h1, h2, h3⟩
  ·have q1 : (x.frm == z.frm) = false := by simp [h1]
   clear h1
   go_enter Tryz.func38, Tryz.ntmps38
   go_wp2_with fail
   go_region_held_law (fun w' => w'.cell? ⟨w.heap.size, 0, none⟩ = some (.int .i64 x.frm) ∧ w'.cell? ⟨w.heap.size, 1, none⟩ = some (.int .i64 x.tgt) ∧ w'.cell? ⟨w.heap.size, 2, none⟩ = some (.int .i64 x.since) ∧ w'.cell? ⟨w.heap.size + 1, 0, none⟩ = some (.int .i64 y.frm) ∧ w'.cell? ⟨w.heap.size + 1, 1, none⟩ = some (.int .i64 y.tgt) ∧ w'.cell? ⟨w.heap.size + 1, 2, none⟩ = some (.int .i64 y.since)) (first | exact hS5 | exact hS0 | go_keep)
    ((go_at_call 39; refine (HN.out _).mono ?_; rintro e w5 ⟨rfl, hb5⟩; have hS5 := lines_up6 hS0 hb5 hgl hbl))
   have HB5 := Lib.hid ((dc_drew HB.out).trans (hb5.mono (by have := HB.out.size; exact this)))
   go_wp2_with fail
   go_ret
   exact ⟨by first | (simp; done) | (rw [hno.out]; rfl), HB5.out⟩
  ·have q1 : (x.frm == z.frm) = true := by simp [h1]
   have q2 : (x.tgt == z.tgt) = false := by simp [h2]
   clear h1 h2
   go_enter Tryz.func38, Tryz.ntmps38
   go_wp2_with fail
   go_region_held_law (fun w' => w'.cell? ⟨w.heap.size, 0, none⟩ = some (.int .i64 x.frm) ∧ w'.cell? ⟨w.heap.size, 1, none⟩ = some (.int .i64 x.tgt) ∧ w'.cell? ⟨w.heap.size, 2, none⟩ = some (.int .i64 x.since) ∧ w'.cell? ⟨w.heap.size + 1, 0, none⟩ = some (.int .i64 y.frm) ∧ w'.cell? ⟨w.heap.size + 1, 1, none⟩ = some (.int .i64 y.tgt) ∧ w'.cell? ⟨w.heap.size + 1, 2, none⟩ = some (.int .i64 y.since)) (first | exact hS5 | exact hS0 | go_keep)
    ((go_at_call 39; refine (HN.out _).mono ?_; rintro e w5 ⟨rfl, hb5⟩; have hS5 := lines_up6 hS0 hb5 hgl hbl))
   have HB5 := Lib.hid ((dc_drew HB.out).trans (hb5.mono (by have := HB.out.size; exact this)))
   go_wp2_with fail
   go_ret
   exact ⟨by first | (simp; done) | (rw [hno.out]; rfl), HB5.out⟩
  ·have q1 : (x.frm == z.frm) = true := by simp [h1]
   have q2 : (x.tgt == z.tgt) = true := by simp [h2]
   have q3 : (x.since == z.since) = false := by simp [h3]
   clear h1 h2 h3
   go_enter Tryz.func38, Tryz.ntmps38
   go_wp2_with fail
   go_region_held_law (fun w' => w'.cell? ⟨w.heap.size, 0, none⟩ = some (.int .i64 x.frm) ∧ w'.cell? ⟨w.heap.size, 1, none⟩ = some (.int .i64 x.tgt) ∧ w'.cell? ⟨w.heap.size, 2, none⟩ = some (.int .i64 x.since) ∧ w'.cell? ⟨w.heap.size + 1, 0, none⟩ = some (.int .i64 y.frm) ∧ w'.cell? ⟨w.heap.size + 1, 1, none⟩ = some (.int .i64 y.tgt) ∧ w'.cell? ⟨w.heap.size + 1, 2, none⟩ = some (.int .i64 y.since)) (first | exact hS5 | exact hS0 | go_keep)
    ((go_at_call 39; refine (HN.out _).mono ?_; rintro e w5 ⟨rfl, hb5⟩; have hS5 := lines_up6 hS0 hb5 hgl hbl))
   have HB5 := Lib.hid ((dc_drew HB.out).trans (hb5.mono (by have := HB.out.size; exact this)))
   go_wp2_with fail
   go_ret
   exact ⟨by first | (simp; done) | (rw [hno.out]; rfl), HB5.out⟩
def oppB (X Y : List Lnk) : Bool := decide (X = Y.map negL)
set_option maxRecDepth 20000 in
set_option maxHeartbeats 1600000 in
theorem eeqf_any (A B : Option Addr) (c d : Nat) (X Y : List Lnk) (w : World) (hz : LnkAt w A X) (hy : LnkAt w B Y) (hl : X.length ≤ 100000) (hl2 : Y.length ≤ 100000) :
  Calls Tryz.prog 37 #[.slice A X.length c, .slice B Y.length d, .func (.func 38) #[] #[]] w fun e w' => e = .returned (.bool (oppB X Y)) ∧ Below w.heap.size w w' := by
 have hB := Below.refl w.heap.size w
 obtain ⟨n, hn⟩ : ∃ n, X.length = n := ⟨_, rfl⟩
 obtain ⟨m, hm⟩ : ∃ m, Y.length = m := ⟨_, rfl⟩
 rw [hn] at hl ⊢
 rw [hm] at hl2 ⊢
 by_cases hnm : n = m
 ·subst hnm
  have HN := Lib.hid hn
  have HM := Lib.hid hm
  have HZ := Lib.hid hz
  have HY := Lib.hid hy
  clear hn hm hz hy
  have hnn : ((n : Int) != (n : Int)) = false := by simp
  go_enter Tryz.func37, Tryz.ntmps37
  go_wp2_with fail
  go_loopg [17] n (fun kx s17 wr => ∃ k : Nat, s17 = .int .i64 k ∧ k ≤ n ∧ n - k ≤ kx ∧ Hid (X.take k = (Y.take k).map negL) ∧ Below w.heap.size w wr)
  case atStart => exact ⟨0, rfl, by omega, by omega, Lib.hid rfl, hB⟩
  case round =>
   clear hB
   obtain ⟨k, rfl, hk, hkx, HT, hB⟩ := hrel
   by_cases hlt : k < n
   ·have hltz : (k : Int) < (n : Int) := by omega
    obtain ⟨b, off, rfl, hbw, hcs⟩ := HZ.out (by rw [HN.out]; omega)
    obtain ⟨b2, off2, rfl, hbw2, hcs2⟩ := HY.out (by rw [HM.out]; omega)
    have ht1 := take_succ_getD (d := lnk0) (L := X) (i := k) (by rw [HN.out]; exact hlt)
    have ht2 := take_succ_getD (d := lnk0) (L := Y) (i := k) (by rw [HM.out]; exact hlt)
    obtain ⟨c0, c1, c2⟩ := (hcs k (by rw [HN.out]; exact hlt)).up hB hbw
    have hd2 := (hcs2 k (by rw [HM.out]; exact hlt)).up hB hbw2
    generalize X.getD k lnk0 = x at *
    generalize Y.getD k lnk0 = y at *
    obtain ⟨w1, hw1⟩ : ∃ w1, wr.alloc (.cells #[.int .i64 x.frm, .int .i64 x.tgt, .int .i64 x.since] 66) = w1 := ⟨_, rfl⟩
    have hbr2 : b2 < wr.heap.size := Nat.lt_of_lt_of_le hbw2 hB.size
    obtain ⟨d0, d1, d2⟩ : L3 w1 b2 (off2 + k * 3) y := by rw [← hw1]; exact hd2.up (below_alloc_new _) hbr2
    have hs1 : w1.heap.size = wr.heap.size + 1 := by rw [← hw1]; simp
    have hlx : LB w1 wr.heap.size x := by rw [← hw1]; exact lb_new wr _ x
    obtain ⟨w2, hw2⟩ : ∃ w2, w1.alloc (.cells #[.int .i64 y.frm, .int .i64 y.tgt, .int .i64 y.since] 66) = w2 := ⟨_, rfl⟩
    obtain ⟨⟨e0, e1, e2⟩, -⟩ : LB w2 wr.heap.size x := by rw [← hw2]; exact hlx.up (below_alloc_new _)
    obtain ⟨⟨g0, g1, g2⟩, -⟩ : LB w2 w1.heap.size y := by rw [← hw2]; exact lb_new w1 _ y
    simp only [Nat.zero_add] at e0 e1 e2 g0 g1 g2
    have HB2 : Hid (Below w.heap.size w w2) := Lib.hid (by rw [← hw2, ← hw1]; exact below_new (below_new hB _) _)
    have HC := Lib.hid (eopp1_any x y w2)
    by_cases hxy : x = negL y
    ·have HT2 : Hid (X.take (k + 1) = (Y.take (k + 1)).map negL) := Lib.hid (by rw [ht1, ht2, List.map_append, List.map_cons, List.map_nil, ← hxy, HT.out])
     have hde : decide (x = negL y) = true := decide_eq_true hxy
     rw [hde] at HC
     clear ht1 ht2 hcs hcs2 hxy hd2 hlx hs1 hde
     go_wp2_with (go_at_call 38; refine HC.out.mono ?_; rintro e w5 ⟨rfl, hb5⟩; have HB5 := Lib.hid (below_more HB2.out hb5); clear hb5)
     go_roundg (n - (k + 1))
     case measure => omega
     case rel => exact ⟨k + 1, by go_num, by omega, by omega, HT2, HB5.out⟩
    ·have hno : Hid (oppB X Y = false) := Lib.hid (decide_eq_false fun e => by
      have h9 := congrArg (List.take (k + 1)) e
      rw [← List.map_take, ht1, ht2, List.map_append, HT.out] at h9
      have := List.append_cancel_left h9
      simp at this; exact hxy this)
     have hde : decide (x = negL y) = false := decide_eq_false hxy
     rw [hde] at HC
     clear ht1 ht2 hcs hcs2 hxy hd2 hlx hs1 hde
     go_wp2_with (go_at_call 38; refine HC.out.mono ?_; rintro e w5 ⟨rfl, hb5⟩; have HB5 := Lib.hid (below_more HB2.out hb5); clear hb5)
     go_ret
     exact ⟨by rw [hno.out]; rfl, HB5.out⟩
   ·obtain rfl : k = n := by omega
    have hltz : ¬ (k : Int) < (k : Int) := by omega
    have hyes : Hid (oppB X Y = true) := Lib.hid (decide_eq_true (by have h := HT.out; rwa [List.take_of_length_le (by rw [HN.out]; omega), List.take_of_length_le (by rw [HM.out]; omega)] at h))
    go_wp2_with fail
    go_ret
    exact ⟨by rw [hyes.out]; rfl, hB⟩
 ·have hno : Hid (oppB X Y = false) := Lib.hid (decide_eq_false fun e => hnm (by rw [← hn, ← hm, e, List.length_map]))
  have hnn : ((n : Int) != (m : Int)) = true := by simp; omega
  clear hn hm hz hy
  go_enter Tryz.func37, Tryz.ntmps37
  go_wp2_with fail
  go_ret
  exact ⟨by rw [hno.out]; rfl, hB⟩
theorem eopp_any (A B : Option Addr) (c d : Nat) (X Y : List Lnk) (w : World) (hz : LnkAt w A X) (hy : LnkAt w B Y) (hl : X.length ≤ 100000) (hl2 : Y.length ≤ 100000) :
  Calls Tryz.prog 14 #[.slice A X.length c, .slice B Y.length d] w fun e w' => e = .returned (.bool (oppB X Y)) ∧ Below w.heap.size w w' := by
 have HC := Lib.hid (eeqf_any A B c d X Y w hz hy hl hl2)
 generalize oppB X Y = r at *
 generalize X.length = n at *
 generalize Y.length = m at *
 go_enter Tryz.func14, Tryz.ntmps14
 go_wp2_with (go_at_call 37; refine HC.out.mono ?_; rintro e w5 ⟨rfl, hb5⟩)
 go_ret
 exact ⟨rfl, hb5⟩
theorem smLB_len {L : List Lnk} (h : smLB L = true) : L.length ≤ 100 := by
 unfold smLB at h
 simp at h
 exact h.2
theorem made_lnk (n : Nat) : (madeCells (Value.agg #[.int .i64 0, .int .i64 0, .int .i64 0]).cells (n * 3)).toList = (List.replicate n lnk0).flatMap celL := by
 have h1 : ∀ m, (List.replicate m lnk0).flatMap celL = List.replicate (m * 3) (.int .i64 0) := by
  intro m
  induction m with
  | zero => rfl
  | succ m ih =>
   rw [List.replicate_succ, List.flatMap_cons, ih, show (m + 1) * 3 = m * 3 + 1 + 1 + 1 by omega, List.replicate_succ, List.replicate_succ, List.replicate_succ]
   rfl
 rw [h1]
 have h2 : ∀ i, i < 3 → (#[Value.int .i64 0, .int .i64 0, .int .i64 0] : Array Value)[i]! = .int .i64 0 := by
  intro i hi
  match i, hi with
  | 0, _ => rfl
  | 1, _ => rfl
  | 2, _ => rfl
 apply List.ext_getElem
 ·simp [madeCells]
 ·intro j a b
  have h3 := h2 (j % 3) (Nat.mod_lt _ (by omega))
  simp [madeCells, Value.cells]
  have h4 : j % 3 = 0 ∨ j % 3 = 1 ∨ j % 3 = 2 := by omega
  rcases h4 with h4 | h4 | h4 <;> simp [h4]
theorem celL_set0 : ∀ (A : List Lnk) (p : Nat) (v : Int), p < A.length → (A.flatMap celL).set (p * 3) (.int .i64 v) = (A.set p ⟨v, (A.getD p lnk0).tgt, (A.getD p lnk0).since⟩).flatMap celL
 | [], _, _, h => by simp at h
 | a :: A, 0, v, _ => by simp [celL]
 | a :: A, p + 1, v, h => by
  have := celL_set0 A p v (by simpa using h)
  have e1 : (p + 1) * 3 = p * 3 + 1 + 1 + 1 := by omega
  rw [List.set_cons_succ, List.flatMap_cons, List.flatMap_cons, e1, List.getD_cons_succ, ← this]
  simp [celL]
theorem celL_set2 : ∀ (A : List Lnk) (p : Nat) (v : Int), p < A.length → (A.flatMap celL).set (p * 3 + 2) (.int .i64 v) = (A.set p ⟨(A.getD p lnk0).frm, (A.getD p lnk0).tgt, v⟩).flatMap celL
 | [], _, _, h => by simp at h
 | a :: A, 0, v, _ => by simp [celL]
 | a :: A, p + 1, v, h => by
  have := celL_set2 A p v (by simpa using h)
  have e1 : (p + 1) * 3 + 2 = p * 3 + 2 + 1 + 1 + 1 := by omega
  rw [List.set_cons_succ, List.flatMap_cons, List.flatMap_cons, e1, List.getD_cons_succ, ← this]
  simp [celL]
theorem OwnL.setj {e : TypeId} {w : World} {base g n cap o : Nat} {A B : List Lnk} (h : OwnL e w base (.slice (some ⟨g, 0, none⟩) n cap) A) (v : Value) (hB : (A.flatMap celL).set o v = B.flatMap celL) (hl : B.length = A.length) :
  OwnL e (w.setCell ⟨g, o, none⟩ v) base (.slice (some ⟨g, 0, none⟩) n cap) B := by
 obtain ⟨h1, h2⟩ := h
 rcases h2 with ⟨h9, _⟩ | ⟨g', cap', cur, h9, hbg, hg, hle, hcap, hsz, hcur⟩
 ·cases h9
 ·cases h9
  refine ⟨by rw [celL_len], .inr ⟨_, _, cur.setIfInBounds o v, by rw [hl], hbg, ?_, by rw [hl]; exact hle, hcap, by rw [Array.size_setIfInBounds]; exact hsz, ?_⟩⟩
  ·have hgl : g < w.heap.size := by
    rcases Nat.lt_or_ge g w.heap.size with hlt | hge
    ·exact hlt
    ·rw [Array.getElem?_eq_none hge] at hg; cases hg
   simp only [World.setCell]
   rw [Array.getElem?_modify, if_pos rfl, hg]
   rfl
  ·rw [hl, Array.toList_setIfInBounds, List.take_set, hcur, hB]
theorem getD_set_same {A : List Lnk} {p : Nat} (h : p < A.length) (x : Lnk) : (A.set p x).getD p lnk0 = x := by
 rw [List.getD_eq_getElem?_getD, List.getElem?_set_self (by simpa using h)]
 rfl
theorem OwnL.put3 {e : TypeId} {w : World} {base g n cap p : Nat} {A : List Lnk} (h : OwnL e w base (.slice (some ⟨g, 0, none⟩) n cap) A) (hp : p < A.length) (x : Lnk) :
  OwnL e (((w.setCell ⟨g, p * 3, none⟩ (.int .i64 x.frm)).setCell ⟨g, p * 3 + 1, none⟩ (.int .i64 x.tgt)).setCell ⟨g, p * 3 + 2, none⟩ (.int .i64 x.since)) base (.slice (some ⟨g, 0, none⟩) n cap) (A.set p x) := by
 have h1 := h.setj (.int .i64 x.frm) (celL_set0 A p x.frm hp) (List.length_set ..)
 have hp1 : p < (A.set p ⟨x.frm, (A.getD p lnk0).tgt, (A.getD p lnk0).since⟩).length := by rw [List.length_set]; exact hp
 have h2 := h1.set1 hp1 x.tgt
 rw [getD_set_same hp, List.set_set] at h2
 have hp2 : p < (A.set p ⟨x.frm, x.tgt, (A.getD p lnk0).since⟩).length := by rw [List.length_set]; exact hp
 have h3 := h2.setj (.int .i64 x.since) (celL_set2 _ p x.since hp2) (List.length_set ..)
 rw [getD_set_same hp, List.set_set] at h3
 exact h3
theorem OwnL.made {e : TypeId} {w : World} {n : Nat} (hn : n ≤ 1000) : OwnL e (w.alloc (.cells (madeCells (Value.agg #[.int .i64 0, .int .i64 0, .int .i64 0]).cells (n * 3)) e)) w.heap.size (.slice (some ⟨w.heap.size, 0, none⟩) n n) (List.replicate n lnk0) := by
 refine ⟨by rw [celL_len], .inr ⟨w.heap.size, n, _, by rw [List.length_replicate], Nat.le_refl _, heap_alloc_new _ _, by rw [List.length_replicate]; exact Nat.le_refl _, Nat.le_trans hn (by decide), by simp [madeCells], ?_⟩⟩
 rw [List.length_replicate, made_lnk, List.take_of_length_le]
 rw [celL_len, List.length_replicate]
 exact Nat.le_refl _
theorem OwnL.at {e : TypeId} {w : World} {base g n cap p : Nat} {A : List Lnk} (h : OwnL e w base (.slice (some ⟨g, 0, none⟩) n cap) A) (hp : p < A.length) : L3 w g (p * 3) (A.getD p lnk0) ∧ g < w.heap.size ∧ (∀ o, o < A.length * 3 → w.frozen? ⟨g, o, none⟩ = false) := by
 obtain ⟨g', c', e1, -, h2, -, -, h3, h4⟩ := h.open (by omega)
 cases e1
 exact ⟨h3 p hp, h2, h4⟩
theorem neg_step {K : List Lnk} {n k : Nat} (hn : K.length = n) (hk : k < n) : ((K.map negL).take k ++ List.replicate (n - k) lnk0).set k (negL (K.getD k lnk0)) = (K.map negL).take (k + 1) ++ List.replicate (n - (k + 1)) lnk0 := by
 have h1 : ((K.map negL).take k).length = k := by rw [List.length_take, List.length_map, hn]; omega
 have h2 : n - k = (n - (k + 1)) + 1 := by omega
 have h3 : (K.map negL).take (k + 1) = (K.map negL).take k ++ [negL (K.getD k lnk0)] := by
  rw [List.take_add_one, List.getElem?_map, List.getElem?_eq_getElem (by omega), List.getD_eq_getElem?_getD, List.getElem?_eq_getElem (by omega)]
  rfl
 rw [List.set_append_right _ _ (by omega), h1, Nat.sub_self, h2, List.replicate_succ, List.set_cons_zero, h3, List.append_assoc]
 rfl
set_option maxRecDepth 20000 in
set_option maxHeartbeats 1600000 in
theorem enegd_any (A : Option Addr) (cp : Nat) (K : List Lnk) (w : World) (hz : LnkAt w A K) (hl : K.length ≤ 1000) : Calls Tryz.prog 34 #[.slice A K.length cp] w fun e w' => (∃ v, e = .returned v ∧ OwnL 66 w' w.heap.size v (K.map negL)) ∧ Below w.heap.size w w' := by
 obtain ⟨n, hn⟩ : ∃ n, K.length = n := ⟨_, rfl⟩
 rw [hn] at hl ⊢
 obtain ⟨i0, hi, hz0, hz1, hz2⟩ := info_parts infoLn
 have hmk : (Instr.makeSlice 30 (.int .i64 (n : Int)) (.int .i64 (n : Int))).run Tryz.prog w = .ok (.slice (some ⟨w.heap.size, 0, none⟩) n n) (w.alloc (.cells (madeCells (Value.agg #[.int .i64 0, .int .i64 0, .int .i64 0]).cells (n * 3)) 66)) := by
  have h := run_make (P := Tryz.prog) w 30 66 i0 _ Tryz.underlying30 hi hz0 .i64 .i64 (n : Int) (n : Int) (by omega) (by omega) (by rw [hz2]; omega) (by omega)
  rw [h, hz1, Int.toNat_natCast]
 have hO := OwnL.made (e := 66) (w := w) (n := n) hl
 have hB := below_alloc_new (w := w) (.cells (madeCells (Value.agg #[.int .i64 0, .int .i64 0, .int .i64 0]).cells (n * 3)) 66)
 obtain ⟨g, hg⟩ : ∃ g, w.heap.size = g := ⟨_, rfl⟩
 generalize w.alloc (.cells (madeCells (Value.agg #[.int .i64 0, .int .i64 0, .int .i64 0]).cells (n * 3)) 66) = W2 at *
 rw [hg] at hmk hO hB ⊢
 have HO := Lib.hid hO
 have HB := Lib.hid hB
 have HN := Lib.hid hn
 have HNS := Lib.hid (fun k h => neg_step (K := K) (n := n) (k := k) hn h)
 have HE : Hid ((K.map negL).take n ++ List.replicate (n - n) lnk0 = K.map negL) := Lib.hid (by rw [List.take_of_length_le (by rw [List.length_map, hn]; exact Nat.le_refl _), Nat.sub_self, List.replicate_zero, List.append_nil])
 have HG := Lib.hid hg
 have HZ0 := Lib.hid hz
 clear hO hB hz0 hz1 hz2 hi hz
 rcases Nat.eq_zero_or_pos n with h0 | h0
 ·have HE0 : Hid (K.map negL = List.replicate n lnk0) := Lib.hid (by
   have : K = [] := List.eq_nil_of_length_eq_zero (by rw [hn]; exact h0)
   rw [this, h0]; rfl)
  have hlt0 : ¬ (0 : Int) < (n : Int) := by omega
  clear h0 hn hg HZ0
  go_enter Tryz.func34, Tryz.ntmps34
  go_wp2_with fail
  go_loopg [11] 0 (fun kx s11 wr => s11 = .int .i64 0 ∧ Hid (OwnL 66 wr g (.slice (some ⟨g, 0, none⟩) n n) (List.replicate n lnk0)) ∧ Below g w wr)
  case atStart => exact ⟨rfl, Lib.hid HO.out, HB.out⟩
  case round =>
   obtain ⟨rfl, HOw, hBw⟩ := hrel
   go_wp2_with fail
   go_ret
   exact ⟨⟨_, rfl, by rw [HE0.out]; exact HOw.out⟩, hBw⟩
 ·obtain ⟨bb, off, rfl, hbw, hcs⟩ := HZ0.out (by rw [hn]; exact h0)
  have HCS := Lib.hid hcs
  have HBW : Hid (bb < g) := Lib.hid (by rw [← HG.out]; exact hbw)
  clear hcs hbw HZ0 hn hg
  go_enter Tryz.func34, Tryz.ntmps34
  go_wp2_with fail
  go_loopg [11] n (fun kx s11 wr => ∃ k : Nat, s11 = .int .i64 k ∧ k ≤ n ∧ n - k ≤ kx ∧ Hid (OwnL 66 wr g (.slice (some ⟨g, 0, none⟩) n n) ((K.map negL).take k ++ List.replicate (n - k) lnk0)) ∧ Below g w wr)
  case atStart => exact ⟨0, rfl, by omega, by omega, Lib.hid (by rw [List.take_zero, List.nil_append, Nat.sub_zero]; exact HO.out), HB.out⟩
  case round =>
   obtain ⟨k, rfl, hk, hkx, HOw, hBw⟩ := hrel
   have HBw := Lib.hid hBw
   by_cases hlt : k < n
   ·have hltz : (k : Int) < (n : Int) := by omega
    have hkl : k < K.length := by rw [HN.out]; exact hlt
    have hL : L3 wr bb (off + k * 3) (K.getD k lnk0) := (HCS.out k hkl).up hBw HBW.out
    have hst := HNS.out k hlt
    have hap : k < ((K.map negL).take k ++ List.replicate (n - k) lnk0).length := by
     rw [List.length_append, List.length_take, List.length_map, HN.out, List.length_replicate]
     omega
    have hal : ((K.map negL).take k ++ List.replicate (n - k) lnk0).length = n := by
     rw [List.length_append, List.length_take, List.length_map, HN.out, List.length_replicate]
     omega
    generalize (K.map negL).take k ++ List.replicate (n - k) lnk0 = B at *
    generalize K.getD k lnk0 = l at *
    obtain ⟨f0, f1, f2⟩ := hL
    have HST := Lib.hid hst
    have HAP := Lib.hid hap
    have HAL := Lib.hid hal
    have HNG := Lib.hid (fun W => eneg_any l W)
    have HV : Hid (lnkV (negL l) = .agg #[.int .i64 (negL l).frm, .int .i64 (negL l).tgt, .int .i64 (negL l).since]) := Lib.hid rfl
    obtain ⟨r, hr⟩ : ∃ r, negL l = r := ⟨_, rfl⟩
    rw [hr] at HST HNG HV
    clear hst hap hal hBw hr
    have hlb := lb_new wr 66 l
    obtain ⟨⟨b0, b1, b2⟩, -⟩ := hlb
    simp only [Nat.zero_add] at b0 b1 b2
    have HBL := Lib.hid (HBw.out.alloc (by have := HBw.out.size; have := HG.out; omega) (.cells #[.int .i64 l.frm, .int .i64 l.tgt, .int .i64 l.since] 66))
    have HOA := Lib.hid (HOw.out.alloc (.cells #[.int .i64 l.frm, .int .i64 l.tgt, .int .i64 l.since] 66))
    go_wp2_with (go_at_call 39; refine (HNG.out _).mono ?_; rintro e w6 ⟨rfl, hb6⟩; have hO6 := HOA.out.up hb6; obtain ⟨⟨o0, o1, o2⟩, ogl, ofz⟩ := hO6.at HAP.out; rw [HAL.out] at ofz; have z0 := ofz (k * 3) (by omega); have z1 := ofz (k * 3 + 1) (by omega); have z2 := ofz (k * 3 + 2) (by omega); have HB6 := Lib.hid (HBL.out.trans (hb6.mono (by rw [← HG.out]; exact HBL.out.size))); have HO6 := Lib.hid hO6; clear hO6 hb6 ofz)
    go_roundg (n - (k + 1))
    case measure => omega
    case rel => exact ⟨k + 1, by go_num, by omega, by omega, Lib.hid (by rw [← HST.out]; exact HO6.out.put3 HAP.out r), Below.set (Below.set (Below.set HB6.out (Nat.le_refl _) _ _) (Nat.le_refl _) _ _) (Nat.le_refl _) _ _⟩
   ·obtain rfl : n = k := by omega
    have hltz : ¬ (n : Int) < (n : Int) := by omega
    go_wp2_with fail
    go_ret
    exact ⟨⟨_, rfl, by rw [← HE.out]; exact HOw.out⟩, HBw.out⟩
def revE (x : Ety) (a b : Int) (A : Option Addr) (c : Nat) : Ety := ⟨a, x.ent, b, 3, x.id, x.txt, A, x.n, c⟩
theorem negL_is {l : Lnk} (h : amtB l.tgt = true) : negL l = ⟨l.frm, -l.tgt, l.since⟩ := by
 unfold amtB at h
 rw [Bool.and_eq_true, decide_eq_true_eq, decide_eq_true_eq] at h
 unfold negL
 rw [wr_small (by omega) (by omega)]
theorem lnB_amt {g : Grp} {e : Int} {l : Lnk} (h : lnB g e l = true) : amtB l.tgt = true := by
 unfold lnB at h
 rw [Bool.and_eq_true, Bool.and_eq_true] at h
 exact h.2.1
theorem lnB_neg {g : Grp} {e : Int} {l : Lnk} (h : lnB g e l = true) : lnB g e (negL l) = true := by
 rw [negL_is (lnB_amt h)]
 unfold lnB amtB at h ⊢
 simp only [Bool.and_eq_true, Bool.not_eq_true', decide_eq_true_eq, decide_eq_false_iff_not] at h ⊢
 exact ⟨by omega, ⟨by omega, by omega⟩, h.2.2⟩
theorem lsB_neg {g : Grp} {e : Int} {X : List Lnk} (h : lsB g e X = true) : lsB g e (X.map negL) = true := by
 unfold lsB at h ⊢
 simp only [Bool.and_eq_true, decide_eq_true_eq, List.all_eq_true, List.length_map] at h ⊢
 refine ⟨h.1, h.2.1, fun l hl => ?_⟩
 obtain ⟨m, hm, rfl⟩ := List.mem_map.1 hl
 exact lnB_neg (h.2.2 m hm)
theorem acB_neg (L : List Acc) (X : List Lnk) : acB L (X.map negL) = acB L X := by
 unfold acB
 rw [List.all_map]
 rfl
theorem sumT_neg : ∀ {X : List Lnk}, (∀ l ∈ X, amtB l.tgt = true) → sumT (X.map negL) = -sumT X
 | [], _ => rfl
 | a :: X, h => by
  have h1 := sumT_neg (X := X) (fun l hl => h l (by simp [hl]))
  have h2 : (negL a).tgt = -a.tgt := by rw [negL_is (h a (by simp))]
  unfold sumT at h1 ⊢
  rw [List.map_cons, List.map_cons, List.sum_cons, h1, h2, List.map_cons, List.sum_cons]
  omega
theorem amtK_neg : ∀ {X : List Lnk} (k : Int × Int), (∀ l ∈ X, amtB l.tgt = true) → amtK (X.map negL) k = -amtK X k
 | [], _, _ => rfl
 | a :: X, k, h => by
  have h1 := amtK_neg (X := X) k (fun l hl => h l (by simp [hl]))
  have h2 : (negL a).tgt = -a.tgt := by rw [negL_is (h a (by simp))]
  rw [List.map_cons, amtK_cons, amtK_cons, h1, h2, show kOf (negL a) = kOf a from rfl]
  split <;> omega
theorem blN_neg {X : List Lnk} (h : ∀ l ∈ X, amtB l.tgt = true) (h0 : blN X = 0) : blN (X.map negL) = 0 := by
 unfold blN at h0 ⊢
 split at h0
 ·rename_i h1
  rw [if_pos]
  rw [sumT_neg h]
  unfold Go.Proofs.YtbcphcheomojdaaGreat.wr wrap64 at h1 ⊢
  omega
 ·cases h0
theorem fst6_zero {r0 r1 r2 r3 r4 r5 : Int} (h : fst6 r0 r1 r2 r3 r4 r5 = 0) : r0 = 0 ∧ r1 = 0 ∧ r2 = 0 ∧ r3 = 0 ∧ r4 = 0 ∧ r5 = 0 := by
 unfold fst6 at h
 by_cases h0 : r0 = 0
 ·by_cases h1 : r1 = 0
  ·by_cases h2 : r2 = 0
   ·by_cases h3 : r3 = 0
    ·by_cases h4 : r4 = 0
     ·rw [if_pos h0, if_pos h1, if_pos h2, if_pos h3, if_pos h4] at h
      exact ⟨h0, h1, h2, h3, h4, h⟩
     ·rw [if_pos h0, if_pos h1, if_pos h2, if_pos h3, if_neg h4] at h; exact absurd h h4
    ·rw [if_pos h0, if_pos h1, if_pos h2, if_neg h3] at h; exact absurd h h3
   ·rw [if_pos h0, if_pos h1, if_neg h2] at h; exact absurd h h2
  ·rw [if_pos h0, if_neg h1] at h; exact absurd h h1
 ·rw [if_neg h0] at h; exact absurd h h0
theorem erB_zero {b : Bool} (h : erB b = 0) : b = true := by cases b <;> simp_all [erB]
theorem er17_zero {b : Bool} (h : er17 b = 0) : b = true := by cases b <;> simp_all [er17]
theorem chk_parts {g : Grp} {x : Ety} {X : List Lnk} {L : List Acc} {G : List Ent} (h : chkN g x X L G = 0) :
  grpP g L G = true ∧ 1 ≤ x.id ∧ entIn g x.ent = true ∧ orgB x.kind x.of_ = true ∧ txtB x.txt = true ∧ lsB g x.ent X = true ∧ acB (G.getD x.ent.toNat ent0).L X = true ∧ prE g.cy g.cm g.cp x.day = 0 ∧ blN X = 0 := by
 unfold chkN at h
 obtain ⟨h0, h1, h2, h3, h4, h5⟩ := fst6_zero h
 unfold hdN at h0
 split at h0
 ·rename_i h6
  simp only [Bool.and_eq_true, decide_eq_true_eq] at h6
  exact ⟨h6.1, h6.2.1, h6.2.2.1, h6.2.2.2, erB_zero h1, erB_zero h2, er17_zero h3, h4, h5⟩
 ·cases h0
theorem chk_mk {g : Grp} {x : Ety} {X : List Lnk} {L : List Acc} {G : List Ent} (h0 : grpP g L G = true) (h1 : 1 ≤ x.id) (h2 : entIn g x.ent = true) (h3 : orgB x.kind x.of_ = true) (h4 : txtB x.txt = true) (h5 : lsB g x.ent X = true) (h6 : acB (G.getD x.ent.toNat ent0).L X = true) (h8 : blN X = 0) :
  chkN g x X L G = prE g.cy g.cm g.cp x.day := by
 have e0 : hdN g x L G = 0 := by
  unfold hdN
  rw [if_pos]
  simp only [Bool.and_eq_true, decide_eq_true_eq]
  exact ⟨h0, h1, h2, h3⟩
 unfold chkN fst6
 rw [e0, h4, h5, h6, h8]
 show (if (0 : Int) = 0 then (if (0 : Int) = 0 then (if (0 : Int) = 0 then (if (0 : Int) = 0 then _ else _) else _) else _) else _) = _
 rw [if_pos rfl, if_pos rfl, if_pos rfl, if_pos rfl]
 split
 ·rename_i h9; exact h9.symm
 ·rfl
theorem grpP_cl {g : Grp} {L : List Acc} {G : List Ent} (h : grpP g L G = true) : clV g.cy g.cm g.cp = true := by
 unfold grpP at h
 simp only [Bool.and_eq_true] at h
 exact h.2.1
theorem chk_rev {g : Grp} {x : Ety} {X : List Lnk} {L : List Acc} {G : List Ent} (h : chkN g x X L G = 0) {a : Int} (b : Int) (A : Option Addr) (c : Nat) (ha : 1 ≤ a) :
  chkN g (revE x a b A c) (X.map negL) L G = if inB g.cy g.cm g.cp b = true then 0 else 2 := by
 obtain ⟨h0, h1, h2, h3, h4, h5, h6, h7, h8⟩ := chk_parts h
 have hl := h5
 unfold lsB at hl
 simp only [Bool.and_eq_true, List.all_eq_true] at hl
 have hm : ∀ l ∈ X, amtB l.tgt = true := fun l hl2 => lnB_amt (hl.2.2 l hl2)
 rw [chk_mk (x := revE x a b A c) h0 ha h2 (by show orgB 3 x.id = true; unfold orgB; rw [if_neg (by omega), if_pos rfl]; exact decide_eq_true h1) h4 (lsB_neg h5) (by rw [acB_neg]; exact h6) (blN_neg hm h8)]
 show prE g.cy g.cm g.cp b = _
 unfold prE
 rw [if_pos (grpP_cl h0), in_is (grpP_cl h0)]
theorem chk_amt {g : Grp} {x : Ety} {X : List Lnk} {L : List Acc} {G : List Ent} (h : chkN g x X L G = 0) : ∀ l ∈ X, amtB l.tgt = true := by
 obtain ⟨-, -, -, -, -, h5, -, -, -⟩ := chk_parts h
 unfold lsB at h5
 simp only [Bool.and_eq_true, List.all_eq_true] at h5
 exact fun l hl2 => lnB_amt (h5.2.2 l hl2)
theorem rev_none {X N : List Lnk} (h : ∀ l ∈ X, amtB l.tgt = true) (hN : IsNrm (X ++ X.map negL) N) : N = [] :=
 isnrm_zero hN fun k => by rw [amtK_append, amtK_neg k h]; omega
theorem opp_self (X : List Lnk) : oppB (X.map negL) X = true := decide_eq_true rfl
theorem okL_neg {X : List Lnk} (h : ∀ l ∈ X, okK (kOf l) ∧ (Lit.int .i64 l.tgt).wf = true) : ∀ l ∈ X.map negL, okK (kOf l) ∧ (Lit.int .i64 l.tgt).wf = true := by
 intro l hl
 obtain ⟨m, hm, rfl⟩ := List.mem_map.1 hl
 refine ⟨(h m hm).1, ?_⟩
 show (decide (-9223372036854775808 ≤ wr (-m.tgt)) && decide (wr (-m.tgt) ≤ 9223372036854775807)) = true
 have h9 := wr_range (-m.tgt)
 rw [decide_eq_true h9.1, decide_eq_true h9.2]
 rfl
end Go.Proofs.YtbcphcheomojdaaGreat
