/- Contracts of the functions that the statements reach, part 12: what was proved of each, callees first. -/
import Derived.Lib.SmallJoins
import Derived.Test.YthokdplikidhiaaGreatLG11
namespace Go.Proofs.YthokdplikidhiaaGreat
open Go.RowKit
def fewR (e : Ent) : Bool := decide (e.n ≤ 40) && (decide (e.m ≤ 60) && !decide ((60 : Int) < wrap64 ((e.nm.size : Int) + (e.cur.size : Int))))
def few10 (g : Grp) (G : List Ent) : Bool := allTo (fun i => fewR (G.getD i ent0)) G.length && (decide (g.n ≤ 60) && (decide (g.m ≤ 14) && decide ((g.cur.size : Int) ≤ 20)))
theorem few_sm {g : Grp} {G : List Ent} (h : few10 g G = true) : Sm g G := by
 unfold few10 at h
 simp only [Bool.and_eq_true, decide_eq_true_eq] at h
 obtain ⟨h1, h2, h3, -⟩ := h
 refine ⟨h2, h3, fun e he => ?_⟩
 obtain ⟨i, hi, rfl⟩ := mem_getD_acc (d := ent0) he
 have h4 := allTo_is.1 h1 i hi
 unfold fewR at h4
 simp only [Bool.and_eq_true, decide_eq_true_eq] at h4
 exact ⟨by omega, h4.2.1⟩
set_option maxRecDepth 20000 in
set_option maxHeartbeats 1600000 in
theorem rfew10_is (g : Grp) (G : List Ent) (w : World) (he : EntsAt w g.E G) (lg : G.length = g.m) (hmx : g.m ≤ 9223372036854775807) :
  Calls Tryz.prog 43 #[grpV g] w fun e w' => e = .returned (.bool (few10 g G)) ∧ Below w.heap.size w w' := by
 have hB := below_alloc_new (w := w) (.cells #[.string g.cur, .int .i64 g.cy, .int .i64 g.cm, .int .i64 g.cp, .slice g.A g.n g.c, .int .i64 g.r0, .int .i64 g.r1, .int .i64 g.r2, .int .i64 g.r3, .int .i64 g.r4, .int .i64 g.r5, .int .i64 g.r6, .int .i64 g.r7, .int .i64 g.r8, .int .i64 g.r9, .int .i64 g.r10, .int .i64 g.r11, .int .i64 g.r12, .int .i64 g.r13, .int .i64 g.r14, .slice g.E g.m g.d] 29)
 have hG := gb_new w 29 g
 have hv : few10 g G = (allTo (fun i => fewR (G.getD i ent0)) G.length && (decide (g.n ≤ 60) && (decide (g.m ≤ 14) && decide ((g.cur.size : Int) ≤ 20)))) := rfl
 rw [lg] at hv
 generalize few10 g G = r at *
 obtain ⟨P, hP⟩ : ∃ P : Nat → Bool, (fun i => fewR (G.getD i ent0)) = P := ⟨_, rfl⟩
 have hpk : ∀ k, P k = fewR (G.getD k ent0) := fun k => by rw [← hP]
 rw [hP] at hv
 have HV := Lib.hid hv
 have HPK := Lib.hid hpk
 clear hv hpk hP
 obtain ⟨s0, hs0⟩ : ∃ s0, w.heap.size = s0 := ⟨_, rfl⟩
 rw [hs0] at hB hG ⊢
 have HM := Lib.hid lg
 have HZ := Lib.hid he
 have HS0 := Lib.hid hs0
 have HG := Lib.hid hG
 clear he lg hG
 go_enter Tryz.func43, Tryz.ntmps43
 go_wp2_with fail
 clear hs0
 go_loopg [3] g.m (fun kx s3 wr => ∃ k : Nat, s3 = .int .i64 k ∧ k ≤ g.m ∧ g.m - k ≤ kx ∧ Hid (allTo P k = true) ∧ Hid (GB wr s0 g) ∧ Below s0 w wr)
 case atStart => exact ⟨0, rfl, by omega, by omega, Lib.hid rfl, HG, hB⟩
 case round =>
  clear hB HG
  obtain ⟨k, rfl, hk, hkx, HN, HG, hB⟩ := hrel
  have c20 := HG.out.c20
  have hsz : s0 ≤ wr.heap.size := by have := hB.size; have := HS0.out; omega
  by_cases hlt : k < g.m
  ·have hltz : (k : Int) < (g.m : Int) := by omega
   obtain ⟨b, off, eE, hbw, hcs⟩ := ent_at HZ.out (k := k) (by rw [HM.out]; omega)
   obtain ⟨c0, c1, c2, c3, c4⟩ := hcs.up hB (by have := HS0.out; omega)
   have hno : P k = false → r = false := fun h => by rw [HV.out, allTo_no hlt h]; rfl
   have hnx : P k = true → Hid (allTo P (k + 1) = true) := fun h => Lib.hid (by show (allTo P k && P k) = true; rw [HN.out, h]; rfl)
   have hpk := HPK.out k
   obtain ⟨x, hx⟩ : ∃ x, G.getD k ent0 = x := ⟨_, rfl⟩
   rw [hx] at c0 c1 c2 c3 c4 hpk
   have hfr : fewR x = (decide (x.n ≤ 40) && (decide (x.m ≤ 60) && !decide ((60 : Int) < wrap64 ((x.nm.size : Int) + (x.cur.size : Int))))) := rfl
   rw [hfr] at hpk
   generalize P k = pk at *
   obtain ⟨z0, z1, z2, z3, z4, zlt⟩ := eb_new wr 116 x.nm x.cur x.A x.n x.c x.B x.m x.d x.jt
   have hB1 : Below s0 w (wr.alloc (.cells #[.string x.nm, .string x.cur, .slice x.A x.n x.c, .slice x.B x.m x.d, .bool x.jt] 116)) := hB.alloc hsz _
   have HG1 := Lib.hid (HG.out.up (below_alloc_new (w := wr) (.cells #[.string x.nm, .string x.cur, .slice x.A x.n x.c, .slice x.B x.m x.d, .bool x.jt] 116)))
   clear hcs hx HN HG hfr
   rcases Nat.lt_or_ge 40 x.n with h1 | h1
   ·have e1 : decide ((40 : Int) < (x.n : Int)) = true := decide_eq_true (by omega)
    have HR := Lib.hid (hno (by rw [hpk, decide_eq_false (show ¬ x.n ≤ 40 by omega)]; rfl))
    clear hnx h1 hno hpk
    go_wp2_with fail
    go_ret
    exact ⟨by rw [HR.out]; rfl, hB1⟩
   have e1 : decide ((40 : Int) < (x.n : Int)) = false := decide_eq_false (by omega)
   rcases Nat.lt_or_ge 60 x.m with h2 | h2
   ·have e2 : decide ((60 : Int) < (x.m : Int)) = true := decide_eq_true (by omega)
    have HR := Lib.hid (hno (by rw [hpk, decide_eq_false (show ¬ x.m ≤ 60 by omega)]; simp))
    clear hnx h1 h2 hno hpk
    go_wp2_with fail
    go_ret
    exact ⟨by rw [HR.out]; rfl, hB1⟩
   have e2 : decide ((60 : Int) < (x.m : Int)) = false := decide_eq_false (by omega)
   rw [decide_eq_true h1, decide_eq_true h2] at hpk
   clear h1 h2
   cases e3 : decide ((60 : Int) < wrap64 ((x.nm.size : Int) + (x.cur.size : Int)))
   ·have HN2 := hnx (by rw [hpk, e3]; rfl)
    clear hnx hno hpk
    go_wp2_with fail
    go_roundg (g.m - (k + 1))
    case measure => omega
    case rel => exact ⟨k + 1, by go_num, by omega, by omega, HN2, HG1, hB1⟩
   ·have HR := Lib.hid (hno (by rw [hpk, e3]; rfl))
    clear hnx hno hpk
    go_wp2_with fail
    go_ret
    exact ⟨by rw [HR.out]; rfl, hB1⟩
  ·have hke : k = g.m := by omega
   have hltz : ¬ (k : Int) < (g.m : Int) := by omega
   have hv2 := HV.out
   rw [← hke, HN.out, Bool.true_and] at hv2
   have hm9 : decide (k ≤ 14) = decide (g.m ≤ 14) := by rw [hke]
   have c4 := HG.out.c4
   have c0 := HG.out.c0
   clear hke
   rcases Nat.lt_or_ge 60 g.n with h1 | h1
   ·have e1 : decide ((g.n : Int) ≤ 60) = false := decide_eq_false (by omega)
    have HR : Hid (r = false) := Lib.hid (by rw [hv2, decide_eq_false (show ¬ g.n ≤ 60 by omega)]; rfl)
    clear h1 hv2
    go_wp2_with fail
    go_ret
    exact ⟨by rw [HR.out]; rfl, hB⟩
   have e1 : decide ((g.n : Int) ≤ 60) = true := decide_eq_true (by omega)
   rcases Nat.lt_or_ge 14 g.m with h2 | h2
   ·have e2 : decide ((g.m : Int) ≤ 14) = false := decide_eq_false (by omega)
    have HR : Hid (r = false) := Lib.hid (by rw [hv2, hm9, decide_eq_false (show ¬ g.m ≤ 14 by omega)]; simp)
    clear h1 h2 hv2 hm9
    go_wp2_with fail
    go_ret
    exact ⟨by rw [HR.out]; rfl, hB⟩
   have e2 : decide ((g.m : Int) ≤ 14) = true := decide_eq_true (by omega)
   have HR : Hid (r = decide ((g.cur.size : Int) ≤ 20)) := Lib.hid (by rw [hv2, hm9, decide_eq_true h1, decide_eq_true h2]; rfl)
   clear h1 h2 hv2 hm9
   go_wp2_with fail
   go_ret
   exact ⟨by rw [HR.out]; rfl, hB⟩
def bigA (l : Lnk) : Bool := decide (l.tgt > 1125899906842624) || decide (l.tgt < -1125899906842624)
def fewE (p : Etl) : Bool := !(decide (60 < p.1.n) || decide (200 < p.1.txt.size)) && p.2.all fun l => !bigA l
def fewX (Xs : List Etl) : Bool := Xs.all fewE && decide (Xs.length ≤ 61)
theorem fewX_no {Xs : List Etl} {i : Nat} {p : Etl} (h : Xs[i]? = some p) (hp : fewE p = false) : fewX Xs = false := by
 unfold fewX
 have h1 : Xs.all fewE = false := by
  cases h2 : Xs.all fewE with
  | false => rfl
  | true => rw [List.all_eq_true.1 h2 p (List.mem_of_getElem? h)] at hp; cases hp
 rw [h1]; rfl
theorem fewX_long {Xs : List Etl} {i : Nat} {p : Etl} (h : Xs[i]? = some p) (hi : 60 < i) : fewX Xs = false := by
 unfold fewX
 have h1 : i < Xs.length := (List.getElem?_eq_some_iff.1 h).1
 rw [decide_eq_false (by omega : ¬ Xs.length ≤ 61), Bool.and_false]
theorem fewX_yes {Xs : List Etl} {n : Nat} (hn : Xs.length = n) (h : ∀ t, t < n → ∀ p, Xs[t]? = some p → fewE p = true) (h1 : n ≤ 61) : fewX Xs = true := by
 unfold fewX
 rw [decide_eq_true (by omega), Bool.and_true]
 refine List.all_eq_true.2 fun p hp => ?_
 obtain ⟨t, ht, e⟩ := List.getElem_of_mem hp
 exact h t (by omega) p (by rw [List.getElem?_eq_getElem ht, e])
theorem fewE_big {p : Etl} {k : Nat} {l : Lnk} (h : p.2[k]? = some l) (hl : bigA l = true) : fewE p = false := by
 unfold fewE
 have h1 : (p.2.all fun l => !bigA l) = false := by
  cases h2 : (p.2.all fun l => !bigA l) with
  | false => rfl
  | true => have := List.all_eq_true.1 h2 l (List.mem_of_getElem? h); rw [hl] at this; cases this
 rw [h1, Bool.and_false]
theorem fewE_yes {p : Etl} {m : Nat} (hm : p.2.length = m) (h1 : ¬ 60 < p.1.n) (h2 : ¬ 200 < p.1.txt.size) (h : ∀ t, t < m → ∀ l, p.2[t]? = some l → bigA l = false) : fewE p = true := by
 unfold fewE
 rw [decide_eq_false h1, decide_eq_false h2]
 simp only [Bool.or_self, Bool.not_false, Bool.true_and]
 refine List.all_eq_true.2 fun l hl => ?_
 obtain ⟨t, ht, e⟩ := List.getElem_of_mem hl
 rw [h t (by omega) l (by rw [List.getElem?_eq_getElem ht, e])]; rfl
set_option maxRecDepth 100000 in
set_option maxHeartbeats 12800000 in
theorem r12few_any (g : Grp) (G : List Ent) (A : Option Addr) (c : Nat) (Xs : List Etl) (w : World) (hE : EntsAt w g.E G) (hlg : G.length = g.m) (hmx : g.m ≤ 9223372036854775807) (hz : RowAt lyX w A (Xs.map (·.1))) (hzs : EtysK w Xs) (hl : Xs.length ≤ 9223372036854775807) (hn : ∀ p ∈ Xs, p.1.n ≤ 9223372036854775807 ∧ p.1.txt.size ≤ maxLen) :
  Calls Tryz.prog 14 #[grpV g, .slice A Xs.length c] w fun e w' => e = .returned (.bool (fewX Xs && few10 g G)) ∧ Below w.heap.size w w' := by
 have HFW := Lib.hid (fun W (h : EntsAt W g.E G) => rfew10_is g G W h hlg hmx)
 obtain ⟨n, hnn⟩ : ∃ n, Xs.length = n := ⟨_, rfl⟩
 rw [hnn] at hl ⊢
 obtain ⟨GV, hGV⟩ : ∃ GV, GV = grpV g := ⟨_, rfl⟩
 rw [← hGV] at HFW
 obtain ⟨gs, hgs⟩ : ∃ gs, (grpC g).toArray = gs := ⟨_, rfl⟩
 rw [show grpV g = .agg gs by rw [grpV_is, hgs]]
 obtain ⟨s0, hs0⟩ : ∃ s0, w.heap.size = s0 := ⟨_, rfl⟩
 obtain ⟨w2, hw2⟩ : ∃ w2, w.alloc (.cells gs 29) = w2 := ⟨_, rfl⟩
 have HGB : Hid (Wh 29 w2 s0 (grpC g)) := Lib.hid (by rw [← hw2, ← hgs, ← hs0]; exact Wh.new w _ _)
 have HB2 : Hid (Below w.heap.size w w2) := Lib.hid (by rw [← hw2]; exact below_alloc_new _)
 have HE2 := Lib.hid (hE.up HB2.out)
 have HZ2 := Lib.hid (hz.up HB2.out)
 have HZS := Lib.hid (hzs.up HB2.out)
 have HS0 := Lib.hid hs0
 have HNN := Lib.hid hnn
 have HLL := Lib.hid hl
 have HPN := Lib.hid hn
 have HLG : Hid ((Instr.loadAt 29 (.pointer (some ⟨s0, 0, none⟩))).run Tryz.prog w2 = .ok GV w2) := Lib.hid (by rw [hGV, grpV_is]; exact HGB.out.rg.load 0 29 (grpC g) rfl _ Tryz.underlying29 rfl (by kernel_rfl))
 clear hE hz hzs hnn hn hgs hGV hl
 go_enter Tryz.func14, Tryz.ntmps14
 go_wp2_with fail
 go_loopg [5] n (fun kx s5 wr => ∃ (i : Nat), s5 = .int .i64 (i : Int) ∧ i ≤ n ∧ n - i ≤ kx ∧ i ≤ 61 ∧ Hid (∀ t, t < i → ∀ p, Xs[t]? = some p → fewE p = true) ∧ wr = w2)
 case atStart => exact ⟨0, rfl, by omega, by omega, by omega, Lib.hid (fun t h => by omega), rfl⟩
 case round =>
  obtain ⟨i, rfl, hi, hkx, hi61, HALL, hW⟩ := hrel
  have hW2 := hW.symm
  subst hW2
  clear hW
  by_cases hlt : i < n
  ·have hltz : (i : Int) < (n : Int) := by omega
   obtain ⟨p, hp⟩ : ∃ p, Xs[i]? = some p := ⟨_, List.getElem?_eq_getElem (by rw [HNN.out]; exact hlt)⟩
   have hym : (Xs.map (·.1))[i]? = some p.1 := by rw [List.getElem?_map, hp]; rfl
   have hkk := HZS.out p (List.mem_of_getElem? hp)
   obtain ⟨hp1, hp2⟩ := HPN.out p (List.mem_of_getElem? hp)
   obtain ⟨bb, off, hA, hbl, hrg⟩ := HZ2.out.at hym
   subst hA
   obtain ⟨y, Y⟩ := p
   have c5 : w2.cell? ⟨bb, off + i * 7 + 5, none⟩ = some (.string y.txt) := hrg 5 _ rfl
   have c6 : w2.cell? ⟨bb, off + i * 7 + 6, none⟩ = some (.slice y.A y.n y.c) := hrg 6 _ rfl
   have HP := Lib.hid hp
   have HYL : Hid (Y.length = y.n) := Lib.hid hkk.ln
   have HYZ := Lib.hid hkk.hz
   have HY1 : Hid (y.n ≤ 9223372036854775807) := Lib.hid hp1
   have HY2 : Hid (y.txt.size ≤ maxLen) := Lib.hid hp2
   clear hp hym hkk hrg hbl hp1 hp2
   by_cases g1 : 60 < y.n
   ·have d1 : decide ((y.n : Int) > 60) = true := decide_eq_true (by omega)
    have d2 : decide ((60 : Int) < (y.n : Int)) = true := decide_eq_true (by omega)
    have HR : Hid (fewX Xs = false) := Lib.hid (fewX_no HP.out (by unfold fewE; rw [decide_eq_true g1]; rfl))
    clear g1
    go_wp2_with fail
    go_ret
    exact ⟨by rw [HR.out]; rfl, by have h9 := HB2.out; first | exact h9 | (rw [← HS0.out]; exact h9)⟩
   ·have d1 : decide ((y.n : Int) > 60) = false := decide_eq_false (by omega)
    have d2 : decide ((60 : Int) < (y.n : Int)) = false := decide_eq_false (by omega)
    by_cases g2 : 200 < y.txt.size
    ·have e1 : decide ((y.txt.size : Int) > 200) = true := decide_eq_true (by omega)
     have e2 : decide ((200 : Int) < (y.txt.size : Int)) = true := decide_eq_true (by omega)
     have HR : Hid (fewX Xs = false) := Lib.hid (fewX_no HP.out (by unfold fewE; rw [decide_eq_true g2, Bool.or_true]; rfl))
     clear g1 g2
     go_wp2_with fail
     go_ret
     exact ⟨by rw [HR.out]; rfl, by have h9 := HB2.out; first | exact h9 | (rw [← HS0.out]; exact h9)⟩
    ·have e1 : decide ((y.txt.size : Int) > 200) = false := decide_eq_false (by omega)
     have e2 : decide ((200 : Int) < (y.txt.size : Int)) = false := decide_eq_false (by omega)
     by_cases g3 : 60 < i
     ·have f1 : decide ((i : Int) > 60) = true := decide_eq_true (by omega)
      have f2 : decide ((60 : Int) < (i : Int)) = true := decide_eq_true (by omega)
      have HR : Hid (fewX Xs = false) := Lib.hid (fewX_long HP.out g3)
      clear g1 g2 g3
      go_wp2_with fail
      go_ret
      exact ⟨by rw [HR.out]; rfl, by have h9 := HB2.out; first | exact h9 | (rw [← HS0.out]; exact h9)⟩
     ·have f1 : decide ((i : Int) > 60) = false := decide_eq_false (by omega)
      have f2 : decide ((60 : Int) < (i : Int)) = false := decide_eq_false (by omega)
      obtain ⟨m, hm⟩ : ∃ m, y.n = m := ⟨_, rfl⟩
      rw [hm] at c6 d1 d2 HYL
      have HM := Lib.hid hm
      have HG1 : Hid (¬ 60 < y.n) := Lib.hid g1
      have HG2 : Hid (¬ 200 < y.txt.size) := Lib.hid g2
      clear g1 g2 hm
      go_wp2_with fail
      go_loopg [6] m (fun kz s6 wz => ∃ (k : Nat), s6 = .int .i64 (k : Int) ∧ k ≤ m ∧ m - k ≤ kz ∧ Hid (∀ t, t < k → ∀ l, Y[t]? = some l → bigA l = false) ∧ wz = w2)
      case atStart => exact ⟨0, rfl, by omega, by omega, Lib.hid (fun t h => by omega), rfl⟩
      case round =>
       obtain ⟨k, rfl, hk, hkz, HBG, hV⟩ := hrel
       have hV2 := hV.symm
       subst hV2
       clear hV
       have hm60 : m ≤ 60 := by have := HG1.out; have := HM.out; omega
       by_cases hkt : k < m
       ·have hktz : (k : Int) < (m : Int) := by omega
        obtain ⟨l, hl⟩ : ∃ l, Y[k]? = some l := ⟨_, List.getElem?_eq_getElem (by rw [HYL.out]; exact hkt)⟩
        obtain ⟨gb, go, hB, hgl, hrg2⟩ := (lnk_row.2 HYZ.out).at hl
        have q1 : w2.cell? ⟨gb, go + k * 3 + 1, none⟩ = some (.int .i64 l.tgt) := hrg2 1 _ rfl
        rw [hB] at c6
        have HK := Lib.hid hl
        clear hl hrg2 hgl hB
        by_cases b1 : l.tgt > 1125899906842624
        ·have t1 : decide (l.tgt > 1125899906842624) = true := decide_eq_true b1
         have t2 : decide (1125899906842624 < l.tgt) = true := decide_eq_true b1
         have HR : Hid (fewX Xs = false) := Lib.hid (fewX_no HP.out (fewE_big (p := (y, Y)) HK.out (by unfold bigA; rw [t1]; rfl)))
         clear b1
         go_wp2_with fail
         go_ret
         exact ⟨by rw [HR.out]; rfl, by have h9 := HB2.out; first | exact h9 | (rw [← HS0.out]; exact h9)⟩
        ·have t1 : decide (l.tgt > 1125899906842624) = false := decide_eq_false b1
         have t2 : decide (1125899906842624 < l.tgt) = false := decide_eq_false b1
         by_cases b2 : l.tgt < -1125899906842624
         ·have t3 : decide (l.tgt < -1125899906842624) = true := decide_eq_true b2
          have HR : Hid (fewX Xs = false) := Lib.hid (fewX_no HP.out (fewE_big (p := (y, Y)) HK.out (by unfold bigA; rw [t3, Bool.or_true])))
          clear b1 b2
          go_wp2_with fail
          go_ret
          exact ⟨by rw [HR.out]; rfl, by have h9 := HB2.out; first | exact h9 | (rw [← HS0.out]; exact h9)⟩
         ·have t3 : decide (l.tgt < -1125899906842624) = false := decide_eq_false b2
          have HN2 : Hid (∀ t, t < k + 1 → ∀ l, Y[t]? = some l → bigA l = false) := Lib.hid (fun t ht l2 h2 => by
           rcases Nat.lt_or_ge t k with h3 | h3
           ·exact HBG.out t h3 l2 h2
           ·obtain rfl : t = k := by omega
            rw [HK.out] at h2
            injection h2 with h2
            rw [← h2]
            unfold bigA
            rw [t1, t3]; rfl)
          clear b1 b2
          go_wp2_with fail
          go_roundg (m - (k + 1))
          case measure => omega
          case rel => exact ⟨k + 1, by go_num, by omega, by omega, HN2, rfl⟩
       ·obtain rfl : m = k := by omega
        have hktz : ¬ (m : Int) < (m : Int) := by omega
        have HA2 : Hid (∀ t, t < i + 1 → ∀ p, Xs[t]? = some p → fewE p = true) := Lib.hid (fun t ht p2 h2 => by
         rcases Nat.lt_or_ge t i with h3 | h3
         ·exact HALL.out t h3 p2 h2
         ·obtain rfl : t = i := by omega
          rw [HP.out] at h2
          injection h2 with h2
          rw [← h2]
          exact fewE_yes (p := (y, Y)) HYL.out HG1.out HG2.out HBG.out)
        go_wp2_with fail
        go_roundg (n - (i + 1))
        case measure => omega
        case rel => exact ⟨i + 1, by go_num, by omega, by omega, by omega, HA2, rfl⟩
  ·obtain rfl : n = i := by omega
   have hltz : ¬ (n : Int) < (n : Int) := by omega
   have HR : Hid (fewX Xs = true) := Lib.hid (fewX_yes HNN.out HALL.out hi61)
   go_wp2_with (first
    | (refine wpList_load_is rfl 29 _ rfl (.pointer (some ⟨s0, 0, none⟩)) rfl GV HLG.out ?_)
    | (go_at_call 43; refine (HFW.out _ HE2.out).mono ?_; rintro e w3 ⟨rfl, hb⟩; have HB3 := Lib.hid hb; clear hb))
   go_ret
   exact ⟨by rw [HR.out]; rfl, by have h9 := HB2.out.trans (HB3.out.mono HB2.out.size); first | exact h9 | (rw [← HS0.out]; exact h9)⟩
open Go.ChangeShapes Go.WideShapes Go.ChangeAt Go.WideMaps Go.WideElems Go.RowKit Go.Deep Go.Joins
section
variable {H : Type} {enc : TypeId × Value → H} {P : Program} {W : World}
theorem open_nums {E I : TypeId} {fs : Array Field} {fuel : Nat} {cs : List Value} {x : DataW H × List MemPlace} (hE : P.underlying E = some (.struct fs))
  (hone : oneCellFields P fs = true) (hty : (fs.toList.all fun f => f.type == I) = true) (hI : P.underlying I = some (.int .i64))
  (hl : cs.length = fs.size) (h2 : DataW.trod enc P W 0 (fun _ => true) true fuel E cs = some x) :
  ∀ j, j < fs.size → ∃ z : Int, cs[j]? = some (.int .i64 z) ∧ (Lit.int .i64 z).wf = true := by
 intro j hj
 obtain ⟨xs, n', -, -, -, hxl, hff⟩ := DataW.trod_struct hE h2
 have hfj : fs[j]? = some fs[j] := Array.getElem?_eq_getElem hj
 obtain ⟨ho, hk1⟩ := hone_of hone j _ hfj
 have ht : fs[j].type = I := by
  have := List.all_eq_true.1 hty fs[j] (by simp)
  simpa using this
 have hxj : xs[j]? = some (xs[j]'(by omega)) := List.getElem?_eq_getElem (by omega)
 have h3 := hff j _ hfj
 rw [ho, hk1, ht, hxj] at h3
 obtain ⟨z, hz, -, hw⟩ := DataW.trod_int hI h3
 refine ⟨z, ?_, hw⟩
 have h5 : (cs.drop j).take 1 = [cs[j]'(by omega)] := by
  rw [List.drop_eq_getElem_cons (by omega)]; rfl
 rw [h5] at hz
 rw [List.getElem?_eq_getElem (by omega)]
 injection hz with hz
 rw [hz]
end
theorem cells21 {cs : List Value} (h : cs.length = 21) : ∃ c0 c1 c2 c3 c4 c5 c6 c7 c8 c9 c10 c11 c12 c13 c14 c15 c16 c17 c18 c19 c20, cs = [c0, c1, c2, c3, c4, c5, c6, c7, c8, c9, c10, c11, c12, c13, c14, c15, c16, c17, c18, c19, c20] := by
 match cs, h with
 | [c0, c1, c2, c3, c4, c5, c6, c7, c8, c9, c10, c11, c12, c13, c14, c15, c16, c17, c18, c19, c20], _ => exact ⟨c0, c1, c2, c3, c4, c5, c6, c7, c8, c9, c10, c11, c12, c13, c14, c15, c16, c17, c18, c19, c20, rfl⟩
section
variable {H : Type} {enc : TypeId × Value → H} {W : World}
set_option maxRecDepth 100000 in
theorem open_igrp {b0 : Nat} {v : Value} {d : DataW H} {p : List MemPlace} (hval : Value.okWide Tryz.prog W .any b0 29 v) (h : DataW.Trod enc Tryz.prog W 0 (fun _ => true) true 29 v d p) :
  ∃ g L G, v = grpV g ∧ GrK W g L G ∧ GrW g L G ∧ g.m ≤ 9223372036854775807 := by
 obtain ⟨cs, rfl, hsz⟩ := okWide_struct Tryz.underlying29 hval
 obtain ⟨fuel, hf⟩ := h
 have hcs : (Value.agg cs).cells.toList = cs.toList := by simp [Value.cells]
 rw [hcs] at hf
 obtain ⟨xs, n', -, -, hlen, hxl, hff⟩ := DataW.trod_struct Tryz.underlying29 hf
 have hC : Tryz.prog.cellsOf 29 = 21 := by kernel_rfl
 rw [hC] at hlen
 obtain ⟨c0, c1, c2, c3, c4, c5, c6, c7, c8, c9, c10, c11, c12, c13, c14, c15, c16, c17, c18, c19, c20, e21⟩ := cells21 hlen
 have k9 : Tryz.prog.cellsOf 9 = 1 := by kernel_rfl
 have kc : Tryz.prog.cellsOf 23 = 3 := by kernel_rfl
 have ka : Tryz.prog.cellsOf 24 = 1 := by kernel_rfl
 have kr : Tryz.prog.cellsOf 26 = 15 := by kernel_rfl
 have ke : Tryz.prog.cellsOf 27 = 1 := by kernel_rfl
 have hxl' : xs.length = 5 := hxl
 have hget : ∀ i, i < 5 → ∃ y, xs[i]? = some y := fun i hi => ⟨_, List.getElem?_eq_getElem (by omega)⟩
 have h0 : DataW.trod enc Tryz.prog W 0 (fun _ => true) true n' 9 ((cs.toList.drop 0).take (Tryz.prog.cellsOf 9)) = xs[0]? := hff 0 _ rfl
 have h1 : DataW.trod enc Tryz.prog W 0 (fun _ => true) true n' 23 ((cs.toList.drop 1).take (Tryz.prog.cellsOf 23)) = xs[1]? := hff 1 _ rfl
 have h2 : DataW.trod enc Tryz.prog W 0 (fun _ => true) true n' 24 ((cs.toList.drop 4).take (Tryz.prog.cellsOf 24)) = xs[2]? := hff 2 _ rfl
 have h3 : DataW.trod enc Tryz.prog W 0 (fun _ => true) true n' 26 ((cs.toList.drop 5).take (Tryz.prog.cellsOf 26)) = xs[3]? := hff 3 _ rfl
 have h4 : DataW.trod enc Tryz.prog W 0 (fun _ => true) true n' 27 ((cs.toList.drop 20).take (Tryz.prog.cellsOf 27)) = xs[4]? := hff 4 _ rfl
 obtain ⟨y0, e0⟩ := hget 0 (by omega)
 obtain ⟨y1, e1⟩ := hget 1 (by omega)
 obtain ⟨y2, e2⟩ := hget 2 (by omega)
 obtain ⟨y3, e3⟩ := hget 3 (by omega)
 obtain ⟨y4, e4⟩ := hget 4 (by omega)
 rw [e0, k9, e21] at h0
 rw [e1, kc, e21] at h1
 rw [e2, ka, e21] at h2
 rw [e3, kr, e21] at h3
 rw [e4, ke, e21] at h4
 have n1 := open_nums (cs := [c1, c2, c3]) Tryz.underlying23 (by kernel_rfl) (by kernel_rfl) Tryz.underlying3 rfl h1
 have n3 := open_nums (cs := [c5, c6, c7, c8, c9, c10, c11, c12, c13, c14, c15, c16, c17, c18, c19]) Tryz.underlying26 (by kernel_rfl) (by kernel_rfl) Tryz.underlying3 rfl h3
 obtain ⟨cur, q0, -, bc⟩ := DataW.trod_string Tryz.underlying9 h0
 obtain ⟨A, n, c, L, q4, ln, -, hz, wa⟩ := open_waccs Tryz.underlying24 Tryz.underlying118 (by kernel_rfl) (by kernel_rfl) (by kernel_rfl) Tryz.underlying3 h2
 obtain ⟨X, m, cap, G, q20, lg, hmx, he, hk, hb⟩ := open_entsC Tryz.underlying27 h4
 obtain ⟨z1, p1, -⟩ := n1 0 (by decide)
 obtain ⟨z2, p2, -⟩ := n1 1 (by decide)
 obtain ⟨z3, p3, -⟩ := n1 2 (by decide)
 obtain ⟨r0, s0, w0⟩ := n3 0 (by decide)
 obtain ⟨r1, s1, w1⟩ := n3 1 (by decide)
 obtain ⟨r2, s2, w2⟩ := n3 2 (by decide)
 obtain ⟨r3, s3, w3⟩ := n3 3 (by decide)
 obtain ⟨r4, s4, w4⟩ := n3 4 (by decide)
 obtain ⟨r5, s5, w5⟩ := n3 5 (by decide)
 obtain ⟨r6, s6, w6⟩ := n3 6 (by decide)
 obtain ⟨r7, s7, w7⟩ := n3 7 (by decide)
 obtain ⟨r8, s8, w8⟩ := n3 8 (by decide)
 obtain ⟨r9, s9, w9⟩ := n3 9 (by decide)
 obtain ⟨r10, s10, w10⟩ := n3 10 (by decide)
 obtain ⟨r11, s11, w11⟩ := n3 11 (by decide)
 obtain ⟨r12, s12, w12⟩ := n3 12 (by decide)
 obtain ⟨r13, s13, w13⟩ := n3 13 (by decide)
 obtain ⟨r14, s14, w14⟩ := n3 14 (by decide)
 have a0 : c0 = .string cur := by simpa using q0
 have a4 : c4 = .slice A n c := by simpa using q4
 have a20 : c20 = .slice X m cap := by simpa using q20
 have b1 : c1 = .int .i64 z1 := by simpa using p1
 have b2 : c2 = .int .i64 z2 := by simpa using p2
 have b3 : c3 = .int .i64 z3 := by simpa using p3
 have t0 : c5 = .int .i64 r0 := by simpa using s0
 have t1 : c6 = .int .i64 r1 := by simpa using s1
 have t2 : c7 = .int .i64 r2 := by simpa using s2
 have t3 : c8 = .int .i64 r3 := by simpa using s3
 have t4 : c9 = .int .i64 r4 := by simpa using s4
 have t5 : c10 = .int .i64 r5 := by simpa using s5
 have t6 : c11 = .int .i64 r6 := by simpa using s6
 have t7 : c12 = .int .i64 r7 := by simpa using s7
 have t8 : c13 = .int .i64 r8 := by simpa using s8
 have t9 : c14 = .int .i64 r9 := by simpa using s9
 have t10 : c15 = .int .i64 r10 := by simpa using s10
 have t11 : c16 = .int .i64 r11 := by simpa using s11
 have t12 : c17 = .int .i64 r12 := by simpa using s12
 have t13 : c18 = .int .i64 r13 := by simpa using s13
 have t14 : c19 = .int .i64 r14 := by simpa using s14
 subst a0 a4 a20 b1 b2 b3 t0 t1 t2 t3 t4 t5 t6 t7 t8 t9 t10 t11 t12 t13 t14
 refine ⟨⟨cur, z1, z2, z3, A, n, c, r0, r1, r2, r3, r4, r5, r6, r7, r8, r9, r10, r11, r12, r13, r14, X, m, cap⟩, L, G, ?_, ⟨ln, lg, hz, he, hk⟩, ⟨bc, fun x hx => ?_, hb⟩, hmx⟩
 ·rw [← Array.toArray_toList (xs := cs), e21]
 ·simp only [Grp.R, List.mem_cons, List.mem_nil_iff, or_false] at hx
  rcases hx with rfl | rfl | rfl | rfl | rfl | rfl | rfl | rfl | rfl | rfl | rfl | rfl | rfl | rfl | rfl
  ·exact w0
  ·exact w1
  ·exact w2
  ·exact w3
  ·exact w4
  ·exact w5
  ·exact w6
  ·exact w7
  ·exact w8
  ·exact w9
  ·exact w10
  ·exact w11
  ·exact w12
  ·exact w13
  ·exact w14
end
open Go.ChangeShapes Go.WideShapes Go.ChangeAt Go.WideMaps Go.WideElems Go.RowKit Go.Deep Go.Joins
theorem open_wlineK {H : Type} {enc : TypeId × Value → H} {W : World} {fuel : Nat} {cs : List Value} {x : DataW H × List MemPlace} (hf : DataW.trod enc Tryz.prog W 0 (fun _ => true) true fuel 44 cs = some x) :
  ∃ A len cap K, cs = [.slice A len cap] ∧ K.length = len ∧ len ≤ 9223372036854775807 ∧ LnkAt W A K ∧ ∀ l ∈ K, okK (kOf l) ∧ (Lit.int .i64 l.tgt).wf = true := by
 obtain ⟨A, len, cap, K, hcs, hlen, hmax, hz, hw⟩ := open_wlnks Tryz.underlying44 Tryz.underlying59 (by kernel_rfl) (by kernel_rfl) (by kernel_rfl) Tryz.underlying3 hf
 exact ⟨A, len, cap, K, hcs, hlen, hmax, hz, fun l hl => ⟨⟨(hw l hl).frm, (hw l hl).since⟩, (hw l hl).tgt⟩⟩
theorem cellsE7 {cs : List Value} (h : cs.length = 7) : ∃ c0 c1 c2 c3 c4 c5 c6, cs = [c0, c1, c2, c3, c4, c5, c6] := by
 match cs, h with
 | [c0, c1, c2, c3, c4, c5, c6], _ => exact ⟨c0, c1, c2, c3, c4, c5, c6, rfl⟩
section
variable {H : Type} {enc : TypeId × Value → H} {W : World}
end
open Go.ChangeShapes Go.WideShapes Go.ChangeAt Go.WideMaps Go.WideElems Go.RowKit Go.Deep Go.Joins
theorem list_of_all {α : Type} {S : Nat → α → Prop} : ∀ n : Nat, (∀ k, k < n → ∃ a, S k a) → ∃ L : List α, L.length = n ∧ ∀ k, k < n → ∃ a, L[k]? = some a ∧ S k a
 | 0, _ => ⟨[], rfl, fun k h => absurd h (by omega)⟩
 | n + 1, h => by
  obtain ⟨L, hl, hL⟩ := list_of_all n fun k hk => h k (by omega)
  obtain ⟨a, ha⟩ := h n (by omega)
  refine ⟨L ++ [a], by simp [hl], fun k hk => ?_⟩
  rcases Nat.lt_or_ge k n with h1 | h1
  ·obtain ⟨b, hb, hs⟩ := hL k h1
   exact ⟨b, by rw [List.getElem?_append_left (by omega)]; exact hb, hs⟩
  ·obtain rfl : k = n := by omega
   exact ⟨a, by rw [List.getElem?_append_right (by omega), hl]; simp, ha⟩
section
variable {H : Type} {enc : TypeId × Value → H} {P : Program} {W : World}
end
structure EtyW (x : Ety) : Prop where
 id : (Lit.int .i64 x.id).wf = true
 ent : (Lit.int .i64 x.ent).wf = true
 day : (Lit.int .i64 x.day).wf = true
 kind : (Lit.int .i64 x.kind).wf = true
 of_ : (Lit.int .i64 x.of_).wf = true
section
variable {H : Type} {enc : TypeId × Value → H} {W : World}
set_option maxRecDepth 100000 in
theorem open_etyC {fuel : Nat} {cs : List Value} {x : DataW H × List MemPlace} (hf : DataW.trod enc Tryz.prog W 0 (fun _ => true) true fuel 46 cs = some x) : ∃ a : Ety × List Lnk, cs = etyC a.1 ∧ EtyK W a.1 a.2 ∧ a.1.n ≤ 9223372036854775807 ∧ a.1.txt.size ≤ maxLen ∧ EtyW a.1 := by
 obtain ⟨xs, n', -, -, hlen, hxl, hff⟩ := DataW.trod_struct Tryz.underlying46 hf
 have hC : Tryz.prog.cellsOf 46 = 7 := by kernel_rfl
 rw [hC] at hlen
 obtain ⟨c0, c1, c2, c3, c4, c5, c6, e7⟩ := cellsE7 hlen
 have hxl' : xs.length = 7 := hxl
 have hget : ∀ i, i < 7 → ∃ y, xs[i]? = some y := fun i hi => ⟨_, List.getElem?_eq_getElem (by omega)⟩
 have ki : Tryz.prog.cellsOf 3 = 1 := by kernel_rfl
 have kl : Tryz.prog.cellsOf 44 = 1 := by kernel_rfl
 have ks : Tryz.prog.cellsOf 9 = 1 := by kernel_rfl
 have h0 : DataW.trod enc Tryz.prog W 0 (fun _ => true) true n' 3 ((cs.drop 0).take (Tryz.prog.cellsOf 3)) = xs[0]? := hff 0 _ rfl
 obtain ⟨y0, e0⟩ := hget 0 (by omega)
 rw [e0, ki, e7] at h0
 have h1 : DataW.trod enc Tryz.prog W 0 (fun _ => true) true n' 3 ((cs.drop 1).take (Tryz.prog.cellsOf 3)) = xs[1]? := hff 1 _ rfl
 obtain ⟨y1, e1⟩ := hget 1 (by omega)
 rw [e1, ki, e7] at h1
 have h2 : DataW.trod enc Tryz.prog W 0 (fun _ => true) true n' 3 ((cs.drop 2).take (Tryz.prog.cellsOf 3)) = xs[2]? := hff 2 _ rfl
 obtain ⟨y2, e2⟩ := hget 2 (by omega)
 rw [e2, ki, e7] at h2
 have h3 : DataW.trod enc Tryz.prog W 0 (fun _ => true) true n' 3 ((cs.drop 3).take (Tryz.prog.cellsOf 3)) = xs[3]? := hff 3 _ rfl
 obtain ⟨y3, e3⟩ := hget 3 (by omega)
 rw [e3, ki, e7] at h3
 have h4 : DataW.trod enc Tryz.prog W 0 (fun _ => true) true n' 3 ((cs.drop 4).take (Tryz.prog.cellsOf 3)) = xs[4]? := hff 4 _ rfl
 obtain ⟨y4, e4⟩ := hget 4 (by omega)
 rw [e4, ki, e7] at h4
 have h5 : DataW.trod enc Tryz.prog W 0 (fun _ => true) true n' 9 ((cs.drop 5).take (Tryz.prog.cellsOf 9)) = xs[5]? := hff 5 _ rfl
 obtain ⟨y5, e5⟩ := hget 5 (by omega)
 rw [e5, ks, e7] at h5
 have h6 : DataW.trod enc Tryz.prog W 0 (fun _ => true) true n' 44 ((cs.drop 6).take (Tryz.prog.cellsOf 44)) = xs[6]? := hff 6 _ rfl
 obtain ⟨y6, e6⟩ := hget 6 (by omega)
 rw [e6, kl, e7] at h6
 obtain ⟨z0, q0, -, w0⟩ := DataW.trod_int Tryz.underlying3 h0
 have a0 : c0 = .int .i64 z0 := by simpa using q0
 obtain ⟨z1, q1, -, w1⟩ := DataW.trod_int Tryz.underlying3 h1
 have a1 : c1 = .int .i64 z1 := by simpa using q1
 obtain ⟨z2, q2, -, w2⟩ := DataW.trod_int Tryz.underlying3 h2
 have a2 : c2 = .int .i64 z2 := by simpa using q2
 obtain ⟨z3, q3, -, w3⟩ := DataW.trod_int Tryz.underlying3 h3
 have a3 : c3 = .int .i64 z3 := by simpa using q3
 obtain ⟨z4, q4, -, w4⟩ := DataW.trod_int Tryz.underlying3 h4
 have a4 : c4 = .int .i64 z4 := by simpa using q4
 obtain ⟨z5, q5, -, bt⟩ := DataW.trod_string Tryz.underlying9 h5
 have a5 : c5 = .string z5 := by simpa using q5
 obtain ⟨A, n, c, X, q6, lx, hmx, hz, ok⟩ := open_wlineK h6
 have a6 : c6 = .slice A n c := by simpa using q6
 subst a0 a1 a2 a3 a4 a5 a6
 exact ⟨(⟨z0, z1, z2, z3, z4, z5, A, n, c⟩, X), e7, ⟨lx, hz, ok⟩, hmx, bt, ⟨w0, w1, w2, w3, w4⟩⟩
end
section
variable {H : Type} {enc : TypeId × Value → H} {P : Program} {w : World} {r : Reach} {b0 base : Nat} {t e : TypeId} {k : IntKind} {spare : Nat → Bool} {held : Bool} {v : Value} {d : DataW H} {ps : List MemPlace}
end
open Go.RowKit
theorem lfew_is {g : Grp} {G : List Ent} {Xs : List Etl} (h : (fewX Xs && few10 g G) = true) : Sm g G ∧ Xs.length ≤ 61 ∧ ∀ p ∈ Xs, p.1.n ≤ 60 := by
 rw [Bool.and_eq_true] at h
 obtain ⟨h1, h2⟩ := h
 unfold fewX at h1
 rw [Bool.and_eq_true, decide_eq_true_eq] at h1
 refine ⟨few_sm h2, h1.2, fun p hp => ?_⟩
 have h3 := List.all_eq_true.1 h1.1 p hp
 unfold fewE at h3
 simp only [Bool.and_eq_true, Bool.not_eq_true', Bool.or_eq_false_iff, decide_eq_false_iff_not] at h3
 omega
theorem few_amt {g : Grp} {G : List Ent} {Xs : List Etl} (h : (fewX Xs && few10 g G) = true) : ∀ p ∈ Xs, ∀ l ∈ p.2, -1125899906842624 ≤ l.tgt ∧ l.tgt ≤ 1125899906842624 := by
 rw [Bool.and_eq_true] at h
 obtain ⟨h1, -⟩ := h
 unfold fewX at h1
 rw [Bool.and_eq_true, decide_eq_true_eq] at h1
 intro p hp l hl
 have h3 := List.all_eq_true.1 h1.1 p hp
 unfold fewE at h3
 rw [Bool.and_eq_true] at h3
 have h4 := List.all_eq_true.1 h3.2 l hl
 unfold bigA at h4
 simp only [Bool.not_eq_true', Bool.or_eq_false_iff, decide_eq_false_iff_not] at h4
 omega
theorem lgx_of {W : World} {g : Grp} {L : List Acc} {G : List Ent} {A : Option Addr} {c : Nat} {Xs : List Etl} (hf : Sm g G ∧ Xs.length ≤ 61 ∧ ∀ p ∈ Xs, p.1.n ≤ 60) (hk : GrK W g L G) (hw : GrW g L G) (hz : RowAt lyX W A (Xs.map (·.1))) (hzs : EtysK W Xs) (hq : ∀ p ∈ Xs, p.1.n ≤ 9223372036854775807 ∧ p.1.txt.size ≤ maxLen ∧ EtyW p.1) (hc : Xs.length ≤ c) : LgX W g L G A c Xs :=
 ⟨hk, hf.1, hw, hz, hzs, by have := hf.2.1; omega, fun p hp => ⟨by have := hf.2.2 p hp; omega, (hq p hp).2.1, (hq p hp).2.2.id, (hq p hp).2.2.of_⟩, hc⟩
theorem ck_ok {g : Grp} {L : List Acc} {G : List Ent} {p : Etl} (h : ckE g L G p = 0) : wr (sumT p.2) = 0 ∧ acB (G.getD p.1.ent.toNat ent0).L p.2 = true ∧ 1 ≤ p.1.id := by
 unfold ckE rchkN at h
 split at h
 ·rename_i h1
  have h8 : 1 ≤ p.1.id := by
   unfold shpB at h1
   simp only [Bool.and_eq_true, decide_eq_true_eq] at h1
   exact h1.2.1
  split at h
  ·rename_i h2
   unfold rtlN at h
   split at h
   ·split at h
    ·rename_i h3; exact ⟨h3, h2, h8⟩
    ·cases h
   ·cases h
  ·cases h
 ·cases h
theorem jrn_zero {g : Grp} {L : List Acc} {G : List Ent} {Xs : List Etl} (h : jrnB g L G Xs = true) {e hi : Int} (he : 0 ≤ e ∧ e < (g.m : Int)) (hlg : G.length = g.m) : sumI (trL (G.getD e.toNat ent0).L Xs e hi) (fun y => y.amt) % 18446744073709551616 = 0 := by
 obtain ⟨h1, h2⟩ := jrn_grp h
 have h3 := vld_ck h2
 refine tr_zero (codesB_srt (grp_chart h1 (by omega))) (fun p hp => (ck_ok (h3 p hp)).1) fun p hp hpe l hl => ?_
 have h4 := (ck_ok (h3 p hp)).2.1
 rw [hpe] at h4
 unfold acB at h4
 exact List.all_eq_true.1 h4 l hl
theorem trB_zero {g : Grp} {L : List Acc} {G : List Ent} {Xs : List Etl} {e hi : Int} (hlg : G.length = g.m) : wrap64 (sumI (trB g L G Xs e hi) (fun y => y.amt)) = 0 := by
 unfold trB
 split
 ·rename_i h
  obtain ⟨h1, h2⟩ := lgE_zero h
  have h3 := jrn_zero (hi := hi) h1 h2 hlg
  exact (wr_eq_of (y := 0) h3).trans wr_zero
 ·exact wr_zero
theorem sumL_bd {h : LnD → Bool} {Xs : List Etl} {e hi : Int} (hs : ∀ p ∈ Xs, ∀ l ∈ p.2, -1125899906842624 ≤ l.tgt ∧ l.tgt ≤ 1125899906842624) (hl : Xs.length ≤ 61) (hn : ∀ p ∈ Xs, p.2.length ≤ 60) :
  ((∀ q, h q = true → 0 ≤ q.1.tgt) → 0 ≤ sumL h (lnsU Xs e hi) ∧ sumL h (lnsU Xs e hi) ≤ 4120793659044003840) ∧ ((∀ q, h q = true → q.1.tgt ≤ 0) → -4120793659044003840 ≤ sumL h (lnsU Xs e hi) ∧ sumL h (lnsU Xs e hi) ≤ 0) := by
 have h1 := lnsU_len (Xs := Xs) (e := e) (hi := hi) (m := 60) hn
 have h2 : ∀ q ∈ lnsU Xs e hi, -1125899906842624 ≤ q.1.tgt ∧ q.1.tgt ≤ 1125899906842624 := fun q hq => by
  unfold lnsU at hq
  obtain ⟨p, hp, hq⟩ := List.mem_flatMap.1 hq
  unfold lns1 at hq
  split at hq
  ·obtain ⟨l, hl, rfl⟩ := List.mem_map.1 hq
   exact hs p hp l hl
  ·cases hq
 have h3 : ((lnsU Xs e hi).length : Int) ≤ 3660 := by omega
 have h4 : ((lnsU Xs e hi).length : Int) * 1125899906842624 ≤ 3660 * 1125899906842624 := Int.mul_le_mul_of_nonneg_right h3 (by decide)
 generalize lnsU Xs e hi = M at *
 refine ⟨fun hp => ?_, fun hp => ?_⟩
 ·have h5 := lgI_bound (B := 1125899906842624) (f := fun q => if h q = true then q.1.tgt else 0) (by decide) (L := M) fun q hq => by
   have := h2 q hq
   by_cases h6 : h q = true
   ·rw [if_pos h6]; have := hp q h6; omega
   ·rw [if_neg h6]; omega
  unfold sumL
  omega
 ·have h5 := lgI_bound (B := 1125899906842624) (f := fun q => if h q = true then -q.1.tgt else 0) (by decide) (L := M) fun q hq => by
   have := h2 q hq
   by_cases h6 : h q = true
   ·rw [if_pos h6]; have := hp q h6; omega
   ·rw [if_neg h6]; omega
  have h6 : sumI M (fun q => if h q = true then -q.1.tgt else 0) = - sumL h M := by
   unfold sumL
   clear h5 h4 h3 h1 h2
   induction M with
   | nil => rfl
   | cons x M ih => rw [sumI_cons, sumI_cons, ih]; split <;> omega
  omega
theorem tu_sign {g : Grp} {L : List Acc} {G : List Ent} {Xs : List Etl} {e a p : Int} (hs : ∀ p ∈ Xs, ∀ l ∈ p.2, -1125899906842624 ≤ l.tgt ∧ l.tgt ≤ 1125899906842624) (hl : Xs.length ≤ 61) (hn : ∀ p ∈ Xs, p.2.length ≤ 60) : 0 ≤ tuD g L G Xs e a p ∧ tuC g L G Xs e a p ≤ 0 := by
 constructor
 ·unfold tuD
  split
  ·obtain ⟨h1, h2⟩ := (sumL_bd (h := lcD a (pdF g.cy g.cm g.cp p)) (e := e) (hi := pdL g.cy g.cm g.cp p) hs hl hn).1 fun q hq => by
    unfold lcD at hq
    simp only [Bool.and_eq_true, decide_eq_true_eq] at hq
    omega
   unfold dbtS
   rw [wr_small (by omega) (by omega)]
   exact h1
  ·omega
 ·unfold tuC
  split
  ·obtain ⟨h1, h2⟩ := (sumL_bd (h := lcC a (pdF g.cy g.cm g.cp p)) (e := e) (hi := pdL g.cy g.cm g.cp p) hs hl hn).2 fun q hq => by
    unfold lcC at hq
    simp only [Bool.and_eq_true, decide_eq_true_eq] at hq
    omega
   unfold cdtS
   rw [wr_small (by omega) (by omega)]
   exact h2
  ·omega
set_option maxRecDepth 100000 in
set_option maxHeartbeats 12800000 in
theorem law_lbal (g : Grp) (L : List Acc) (G : List Ent) (A : Option Addr) (n c : Nat) (Xs : List Etl) (a b d : Int) (w : World) (hk : GrK w g L G) (hw : GrW g L G) (hmx : g.m ≤ 9223372036854775807) (hn : Xs.length = n) (hnm : n ≤ 9223372036854775807) (hcn : n ≤ c) (hX : RowAt lyX w A (Xs.map (·.1))) (hq : ∀ a ∈ Xs, EtyK w a.1 a.2 ∧ a.1.n ≤ 9223372036854775807 ∧ a.1.txt.size ≤ maxLen ∧ EtyW a.1) :
  Calls Tryz.prog 7 #[grpV g, .slice A n c, .agg #[.int .i64 a, .int .i64 b, .int .i64 d]] w fun e w' => e = .returned (.bool true) ∧ Below w.heap.size w w' := by
 have HAW := Lib.hid lawake_any
 obtain ⟨s0, hs0⟩ : ∃ s0, w.heap.size = s0 := ⟨_, rfl⟩
 obtain ⟨w2, hw2⟩ : ∃ w2, (w.alloc (.cells #[.string g.cur, .int .i64 g.cy, .int .i64 g.cm, .int .i64 g.cp, .slice g.A g.n g.c, .int .i64 g.r0, .int .i64 g.r1, .int .i64 g.r2, .int .i64 g.r3, .int .i64 g.r4, .int .i64 g.r5, .int .i64 g.r6, .int .i64 g.r7, .int .i64 g.r8, .int .i64 g.r9, .int .i64 g.r10, .int .i64 g.r11, .int .i64 g.r12, .int .i64 g.r13, .int .i64 g.r14, .slice g.E g.m g.d] 29)).alloc (.cells #[.int .i64 a, .int .i64 b, .int .i64 d] 63) = w2 := ⟨_, rfl⟩
 have HGB : Hid (Wh 29 w2 s0 (grpC g)) := Lib.hid (by rw [← hw2, ← hs0]; exact (Wh.new w 29 (grpC g)).up (below_alloc_new _))
 have HAB : Hid (Wh 63 w2 (s0 + 1) [.int .i64 a, .int .i64 b, .int .i64 d]) := Lib.hid (by
  rw [← hw2, ← hs0]
  have h9 := Wh.new (w.alloc (.cells #[.string g.cur, .int .i64 g.cy, .int .i64 g.cm, .int .i64 g.cp, .slice g.A g.n g.c, .int .i64 g.r0, .int .i64 g.r1, .int .i64 g.r2, .int .i64 g.r3, .int .i64 g.r4, .int .i64 g.r5, .int .i64 g.r6, .int .i64 g.r7, .int .i64 g.r8, .int .i64 g.r9, .int .i64 g.r10, .int .i64 g.r11, .int .i64 g.r12, .int .i64 g.r13, .int .i64 g.r14, .slice g.E g.m g.d] 29)) 63 [.int .i64 a, .int .i64 b, .int .i64 d]
  rw [World.size_alloc] at h9
  exact h9)
 have HB2 : Hid (Below w.heap.size w w2) := Lib.hid (by rw [← hw2]; exact below_new (below_alloc_new _) _)
 have HKC := Lib.hid (hk.up HB2.out)
 have HXC := Lib.hid (hX.up HB2.out)
 have HEC : Hid (EtysK w2 Xs) := Lib.hid (fun p hp => (hq p hp).1.up HB2.out)
 have HQ : Hid (∀ p ∈ Xs, p.1.n ≤ 9223372036854775807 ∧ p.1.txt.size ≤ maxLen ∧ EtyW p.1) := Lib.hid (fun p hp => (hq p hp).2)
 have HWW := Lib.hid hw
 have HS0 := Lib.hid hs0
 have HNL := Lib.hid hn
 have HCN := Lib.hid hcn
 have HBC := Lib.hid (Below.refl w2.heap.size w2)
 have HAT : Hid (∀ W, Below w2.heap.size w2 W → W.cell? ⟨s0 + 1, 0, none⟩ = some (.int .i64 a) ∧ W.cell? ⟨s0 + 1, 1, none⟩ = some (.int .i64 b) ∧ W.cell? ⟨s0 + 1, 2, none⟩ = some (.int .i64 d)) := Lib.hid (fun W h => ⟨(HAB.out.up h).at 0 _ rfl, (HAB.out.up h).at 1 _ rfl, (HAB.out.up h).at 2 _ rfl⟩)
 have HBW : Hid (∀ W, Below w2.heap.size w2 W → Below w.heap.size w W) := Lib.hid (fun W h => HB2.out.trans (h.mono HB2.out.size))
 have HLO : Hid (∀ p ∈ Xs, -9223372036854775808 ≤ p.1.day) := Lib.hid (fun p hp => (bounds_i64 (hq p hp).2.2.2.day).1)
 obtain ⟨GV, hGV⟩ : ∃ GV, GV = grpV g := ⟨_, rfl⟩
 have HGV := Lib.hid hGV
 have HFW := Lib.hid (fun W (h : Below w2.heap.size w2 W) => by have h9 := r12few_any g G A c Xs W (HKC.out.up h).he hk.lg hmx (HXC.out.up h) (HEC.out.up h) (by rw [hn]; exact hnm) (fun p hp => ⟨(hq p hp).2.1, (hq p hp).2.2.1⟩); rw [← hGV, hn] at h9; exact h9)
 have HLG : Hid (∀ w9, Below w2.heap.size w2 w9 → (Instr.loadAt 29 (.pointer (some ⟨s0, 0, none⟩))).run Tryz.prog w9 = .ok GV w9) := Lib.hid (fun w9 h9 => by rw [hGV, grpV_is]; exact (HGB.out.up h9).rg.load 0 29 (grpC g) rfl _ Tryz.underlying29 rfl (by kernel_rfl))
 clear hk hGV hw hX hq hn hmx hnm hcn
 have HM1 : True := trivial
 cases hf : fewX Xs && few10 g G
 ·rw [hf] at HFW
  clear hf
  go_enter Tryz.func7, Tryz.ntmps7
  go_wp2_with (first
   | (go_at_call 29; refine (HAW.out _).mono ?_; rintro e w3 ⟨rfl, hb⟩; have hB3 := Lib.hid (HBC.out.trans (hb.mono HBC.out.size)); clear hb HBC; have HBC := hB3; clear hB3)
   | (clear HM1; refine wpList_load_is rfl 29 _ rfl (.pointer (some ⟨s0, 0, none⟩)) rfl GV (HLG.out _ HBC.out) ?_)
   | (go_at_call 14; refine (HFW.out _ HBC.out).mono ?_; rintro e w4 ⟨rfl, hb⟩; have hB3 := Lib.hid (HBC.out.trans (hb.mono HBC.out.size)); clear hb HBC; have HBC := hB3; clear hB3))
  go_ret
  exact ⟨by first | rfl | simp, by have h9 := HBW.out _ HBC.out; first | exact h9 | (rw [← HS0.out]; exact h9)⟩
 ·have HFI := Lib.hid (lfew_is hf)
  have HFA := Lib.hid (few_amt hf)
  rw [hf] at HFW
  clear hf
  have HLX : Hid (∀ W, Below w2.heap.size w2 W → LgX W g L G A c Xs) := Lib.hid (fun W hb => lgx_of HFI.out (HKC.out.up hb) HWW.out (HXC.out.up hb) (HEC.out.up hb) HQ.out (by rw [HNL.out]; exact HCN.out))
  have H1 := Lib.hid (fun W hb => lbalance_any g L G A c Xs a b d W (HLX.out W hb))
  have H2 := Lib.hid (fun W hb => r14balance_any g L G A c Xs a b d W (HLX.out W hb) HLO.out)
  rw [← HGV.out, HNL.out] at H1 H2
  generalize lbN g L G Xs a b d = v1 at *
  generalize knE g L G Xs a b = v2 at *
  have HM2 : True := trivial
  have HM3 : True := trivial
  go_enter Tryz.func7, Tryz.ntmps7
  go_wp2_with (first
   | (go_at_call 29; refine (HAW.out _).mono ?_; rintro e w3 ⟨rfl, hb⟩; have hB3 := Lib.hid (HBC.out.trans (hb.mono HBC.out.size)); clear hb HBC; have HBC := hB3; clear hB3)
   | (clear HM1; refine wpList_load_is rfl 29 _ rfl (.pointer (some ⟨s0, 0, none⟩)) rfl GV (HLG.out _ HBC.out) ?_)
   | (go_at_call 14; refine (HFW.out _ HBC.out).mono ?_; rintro e w4 ⟨rfl, hb⟩; have hB3 := Lib.hid (HBC.out.trans (hb.mono HBC.out.size)); clear hb HBC; have HBC := hB3; clear hB3; obtain ⟨q0, q1, q2⟩ := HAT.out _ HBC.out)
   | (clear HM2; refine wpList_load_is rfl 29 _ rfl (.pointer (some ⟨s0, 0, none⟩)) rfl GV (HLG.out _ HBC.out) ?_)
   | (go_at_call 30; refine (H1.out _ HBC.out).mono ?_; rintro r w5 ⟨rfl, hb⟩; have hB3 := Lib.hid (HBC.out.trans (hb.mono HBC.out.size)); clear hb HBC; have HBC := hB3; clear hB3; obtain ⟨q0, q1, q2⟩ := HAT.out _ HBC.out)
   | (clear HM3; refine wpList_load_is rfl 29 _ rfl (.pointer (some ⟨s0, 0, none⟩)) rfl GV (HLG.out _ HBC.out) ?_)
   | (go_at_call 31; refine (H2.out _ HBC.out).mono ?_; rintro r w5 ⟨rfl, hb⟩; have hB3 := Lib.hid (HBC.out.trans (hb.mono HBC.out.size)); clear hb HBC; have HBC := hB3; clear hB3))
  go_ret
  exact ⟨by first | rfl | simp, by have h9 := HBW.out _ HBC.out; first | exact h9 | (rw [← HS0.out]; exact h9)⟩
set_option maxRecDepth 100000 in
set_option maxHeartbeats 12800000 in
theorem law_lmov (g : Grp) (L : List Acc) (G : List Ent) (A : Option Addr) (n c : Nat) (Xs : List Etl) (a b d : Int) (w : World) (hk : GrK w g L G) (hw : GrW g L G) (hmx : g.m ≤ 9223372036854775807) (hn : Xs.length = n) (hnm : n ≤ 9223372036854775807) (hcn : n ≤ c) (hX : RowAt lyX w A (Xs.map (·.1))) (hq : ∀ a ∈ Xs, EtyK w a.1 a.2 ∧ a.1.n ≤ 9223372036854775807 ∧ a.1.txt.size ≤ maxLen ∧ EtyW a.1) :
  Calls Tryz.prog 8 #[grpV g, .slice A n c, .agg #[.int .i64 a, .int .i64 b, .int .i64 d]] w fun e w' => e = .returned (.bool true) ∧ Below w.heap.size w w' := by
 have HAW := Lib.hid lawake_any
 obtain ⟨s0, hs0⟩ : ∃ s0, w.heap.size = s0 := ⟨_, rfl⟩
 obtain ⟨w2, hw2⟩ : ∃ w2, (w.alloc (.cells #[.string g.cur, .int .i64 g.cy, .int .i64 g.cm, .int .i64 g.cp, .slice g.A g.n g.c, .int .i64 g.r0, .int .i64 g.r1, .int .i64 g.r2, .int .i64 g.r3, .int .i64 g.r4, .int .i64 g.r5, .int .i64 g.r6, .int .i64 g.r7, .int .i64 g.r8, .int .i64 g.r9, .int .i64 g.r10, .int .i64 g.r11, .int .i64 g.r12, .int .i64 g.r13, .int .i64 g.r14, .slice g.E g.m g.d] 29)).alloc (.cells #[.int .i64 a, .int .i64 b, .int .i64 d] 63) = w2 := ⟨_, rfl⟩
 have HGB : Hid (Wh 29 w2 s0 (grpC g)) := Lib.hid (by rw [← hw2, ← hs0]; exact (Wh.new w 29 (grpC g)).up (below_alloc_new _))
 have HAB : Hid (Wh 63 w2 (s0 + 1) [.int .i64 a, .int .i64 b, .int .i64 d]) := Lib.hid (by
  rw [← hw2, ← hs0]
  have h9 := Wh.new (w.alloc (.cells #[.string g.cur, .int .i64 g.cy, .int .i64 g.cm, .int .i64 g.cp, .slice g.A g.n g.c, .int .i64 g.r0, .int .i64 g.r1, .int .i64 g.r2, .int .i64 g.r3, .int .i64 g.r4, .int .i64 g.r5, .int .i64 g.r6, .int .i64 g.r7, .int .i64 g.r8, .int .i64 g.r9, .int .i64 g.r10, .int .i64 g.r11, .int .i64 g.r12, .int .i64 g.r13, .int .i64 g.r14, .slice g.E g.m g.d] 29)) 63 [.int .i64 a, .int .i64 b, .int .i64 d]
  rw [World.size_alloc] at h9
  exact h9)
 have HB2 : Hid (Below w.heap.size w w2) := Lib.hid (by rw [← hw2]; exact below_new (below_alloc_new _) _)
 have HKC := Lib.hid (hk.up HB2.out)
 have HXC := Lib.hid (hX.up HB2.out)
 have HEC : Hid (EtysK w2 Xs) := Lib.hid (fun p hp => (hq p hp).1.up HB2.out)
 have HQ : Hid (∀ p ∈ Xs, p.1.n ≤ 9223372036854775807 ∧ p.1.txt.size ≤ maxLen ∧ EtyW p.1) := Lib.hid (fun p hp => (hq p hp).2)
 have HWW := Lib.hid hw
 have HS0 := Lib.hid hs0
 have HNL := Lib.hid hn
 have HCN := Lib.hid hcn
 have HBC := Lib.hid (Below.refl w2.heap.size w2)
 have HAT : Hid (∀ W, Below w2.heap.size w2 W → W.cell? ⟨s0 + 1, 0, none⟩ = some (.int .i64 a) ∧ W.cell? ⟨s0 + 1, 1, none⟩ = some (.int .i64 b) ∧ W.cell? ⟨s0 + 1, 2, none⟩ = some (.int .i64 d)) := Lib.hid (fun W h => ⟨(HAB.out.up h).at 0 _ rfl, (HAB.out.up h).at 1 _ rfl, (HAB.out.up h).at 2 _ rfl⟩)
 have HBW : Hid (∀ W, Below w2.heap.size w2 W → Below w.heap.size w W) := Lib.hid (fun W h => HB2.out.trans (h.mono HB2.out.size))
 have HLO : Hid (∀ p ∈ Xs, -9223372036854775808 ≤ p.1.day) := Lib.hid (fun p hp => (bounds_i64 (hq p hp).2.2.2.day).1)
 obtain ⟨GV, hGV⟩ : ∃ GV, GV = grpV g := ⟨_, rfl⟩
 have HGV := Lib.hid hGV
 have HFW := Lib.hid (fun W (h : Below w2.heap.size w2 W) => by have h9 := r12few_any g G A c Xs W (HKC.out.up h).he hk.lg hmx (HXC.out.up h) (HEC.out.up h) (by rw [hn]; exact hnm) (fun p hp => ⟨(hq p hp).2.1, (hq p hp).2.2.1⟩); rw [← hGV, hn] at h9; exact h9)
 have HLG : Hid (∀ w9, Below w2.heap.size w2 w9 → (Instr.loadAt 29 (.pointer (some ⟨s0, 0, none⟩))).run Tryz.prog w9 = .ok GV w9) := Lib.hid (fun w9 h9 => by rw [hGV, grpV_is]; exact (HGB.out.up h9).rg.load 0 29 (grpC g) rfl _ Tryz.underlying29 rfl (by kernel_rfl))
 clear hk hGV hw hX hq hn hmx hnm hcn
 have HM1 : True := trivial
 cases hf : fewX Xs && few10 g G
 ·rw [hf] at HFW
  clear hf
  go_enter Tryz.func8, Tryz.ntmps8
  go_wp2_with (first
   | (go_at_call 29; refine (HAW.out _).mono ?_; rintro e w3 ⟨rfl, hb⟩; have hB3 := Lib.hid (HBC.out.trans (hb.mono HBC.out.size)); clear hb HBC; have HBC := hB3; clear hB3)
   | (clear HM1; refine wpList_load_is rfl 29 _ rfl (.pointer (some ⟨s0, 0, none⟩)) rfl GV (HLG.out _ HBC.out) ?_)
   | (go_at_call 14; refine (HFW.out _ HBC.out).mono ?_; rintro e w4 ⟨rfl, hb⟩; have hB3 := Lib.hid (HBC.out.trans (hb.mono HBC.out.size)); clear hb HBC; have HBC := hB3; clear hB3))
  go_ret
  exact ⟨by first | rfl | simp, by have h9 := HBW.out _ HBC.out; first | exact h9 | (rw [← HS0.out]; exact h9)⟩
 ·have HFI := Lib.hid (lfew_is hf)
  have HFA := Lib.hid (few_amt hf)
  rw [hf] at HFW
  clear hf
  have HLX : Hid (∀ W, Below w2.heap.size w2 W → LgX W g L G A c Xs) := Lib.hid (fun W hb => lgx_of HFI.out (HKC.out.up hb) HWW.out (HXC.out.up hb) (HEC.out.up hb) HQ.out (by rw [HNL.out]; exact HCN.out))
  have H1 := Lib.hid (fun W hb => lmov_any g L G A c Xs a b d W (HLX.out W hb))
  have H2 := Lib.hid (fun W hb => lturn_any g L G A c Xs a b d W (HLX.out W hb))
  have H3 := Lib.hid (fun W hb => r14turn_any g L G A c Xs a b d W (HLX.out W hb))
  rw [← HGV.out, HNL.out] at H1 H2 H3
  obtain ⟨t1, t2⟩ := tu_sign (g := g) (L := L) (G := G) (e := a) (a := b) (p := d) HFA.out HFI.out.2.1 (fun p hp => by rw [(HEC.out p hp).ln]; exact HFI.out.2.2 p hp)
  generalize tuD g L G Xs a b d = v1 at *
  generalize tuC g L G Xs a b d = v2 at *
  generalize tuE g L G Xs a b d = v3 at *
  have d1 : decide (v1 ≥ 0) = true := decide_eq_true t1
  have d2 : decide (0 ≤ v1) = true := decide_eq_true t1
  have d3 : decide (v2 ≤ 0) = true := decide_eq_true t2
  clear t1 t2
  have HM2 : True := trivial
  have HM3 : True := trivial
  have HM4 : True := trivial
  go_enter Tryz.func8, Tryz.ntmps8
  go_wp2_with (first
   | (go_at_call 29; refine (HAW.out _).mono ?_; rintro e w3 ⟨rfl, hb⟩; have hB3 := Lib.hid (HBC.out.trans (hb.mono HBC.out.size)); clear hb HBC; have HBC := hB3; clear hB3)
   | (clear HM1; refine wpList_load_is rfl 29 _ rfl (.pointer (some ⟨s0, 0, none⟩)) rfl GV (HLG.out _ HBC.out) ?_)
   | (go_at_call 14; refine (HFW.out _ HBC.out).mono ?_; rintro e w4 ⟨rfl, hb⟩; have hB3 := Lib.hid (HBC.out.trans (hb.mono HBC.out.size)); clear hb HBC; have HBC := hB3; clear hB3; obtain ⟨q0, q1, q2⟩ := HAT.out _ HBC.out)
   | (clear HM2; refine wpList_load_is rfl 29 _ rfl (.pointer (some ⟨s0, 0, none⟩)) rfl GV (HLG.out _ HBC.out) ?_)
   | (go_at_call 32; refine (H1.out _ HBC.out).mono ?_; rintro r w5 ⟨rfl, hb⟩; have hB3 := Lib.hid (HBC.out.trans (hb.mono HBC.out.size)); clear hb HBC; have HBC := hB3; clear hB3; obtain ⟨q0, q1, q2⟩ := HAT.out _ HBC.out)
   | (clear HM3; refine wpList_load_is rfl 29 _ rfl (.pointer (some ⟨s0, 0, none⟩)) rfl GV (HLG.out _ HBC.out) ?_)
   | (go_at_call 33; refine (H2.out _ HBC.out).mono ?_; rintro r w5 ⟨rfl, hb⟩; have hB3 := Lib.hid (HBC.out.trans (hb.mono HBC.out.size)); clear hb HBC; have HBC := hB3; clear hB3; obtain ⟨q0, q1, q2⟩ := HAT.out _ HBC.out)
   | (clear HM4; refine wpList_load_is rfl 29 _ rfl (.pointer (some ⟨s0, 0, none⟩)) rfl GV (HLG.out _ HBC.out) ?_)
   | (go_at_call 34; refine (H3.out _ HBC.out).mono ?_; rintro r w5 ⟨rfl, hb⟩; have hB3 := Lib.hid (HBC.out.trans (hb.mono HBC.out.size)); clear hb HBC; have HBC := hB3; clear hB3))
  go_ret
  exact ⟨by first | rfl | simp, by have h9 := HBW.out _ HBC.out; first | exact h9 | (rw [← HS0.out]; exact h9)⟩
set_option maxRecDepth 100000 in
set_option maxHeartbeats 12800000 in
theorem law_ltri (g : Grp) (L : List Acc) (G : List Ent) (A : Option Addr) (n c : Nat) (Xs : List Etl) (a b d : Int) (w : World) (hk : GrK w g L G) (hw : GrW g L G) (hmx : g.m ≤ 9223372036854775807) (hn : Xs.length = n) (hnm : n ≤ 9223372036854775807) (hcn : n ≤ c) (hX : RowAt lyX w A (Xs.map (·.1))) (hq : ∀ a ∈ Xs, EtyK w a.1 a.2 ∧ a.1.n ≤ 9223372036854775807 ∧ a.1.txt.size ≤ maxLen ∧ EtyW a.1) :
  Calls Tryz.prog 9 #[grpV g, .slice A n c, .agg #[.int .i64 a, .int .i64 b, .int .i64 d]] w fun e w' => e = .returned (.bool true) ∧ Below w.heap.size w w' := by
 have HAW := Lib.hid lawake_any
 obtain ⟨s0, hs0⟩ : ∃ s0, w.heap.size = s0 := ⟨_, rfl⟩
 obtain ⟨w2, hw2⟩ : ∃ w2, (w.alloc (.cells #[.string g.cur, .int .i64 g.cy, .int .i64 g.cm, .int .i64 g.cp, .slice g.A g.n g.c, .int .i64 g.r0, .int .i64 g.r1, .int .i64 g.r2, .int .i64 g.r3, .int .i64 g.r4, .int .i64 g.r5, .int .i64 g.r6, .int .i64 g.r7, .int .i64 g.r8, .int .i64 g.r9, .int .i64 g.r10, .int .i64 g.r11, .int .i64 g.r12, .int .i64 g.r13, .int .i64 g.r14, .slice g.E g.m g.d] 29)).alloc (.cells #[.int .i64 a, .int .i64 b, .int .i64 d] 63) = w2 := ⟨_, rfl⟩
 have HGB : Hid (Wh 29 w2 s0 (grpC g)) := Lib.hid (by rw [← hw2, ← hs0]; exact (Wh.new w 29 (grpC g)).up (below_alloc_new _))
 have HAB : Hid (Wh 63 w2 (s0 + 1) [.int .i64 a, .int .i64 b, .int .i64 d]) := Lib.hid (by
  rw [← hw2, ← hs0]
  have h9 := Wh.new (w.alloc (.cells #[.string g.cur, .int .i64 g.cy, .int .i64 g.cm, .int .i64 g.cp, .slice g.A g.n g.c, .int .i64 g.r0, .int .i64 g.r1, .int .i64 g.r2, .int .i64 g.r3, .int .i64 g.r4, .int .i64 g.r5, .int .i64 g.r6, .int .i64 g.r7, .int .i64 g.r8, .int .i64 g.r9, .int .i64 g.r10, .int .i64 g.r11, .int .i64 g.r12, .int .i64 g.r13, .int .i64 g.r14, .slice g.E g.m g.d] 29)) 63 [.int .i64 a, .int .i64 b, .int .i64 d]
  rw [World.size_alloc] at h9
  exact h9)
 have HB2 : Hid (Below w.heap.size w w2) := Lib.hid (by rw [← hw2]; exact below_new (below_alloc_new _) _)
 have HKC := Lib.hid (hk.up HB2.out)
 have HXC := Lib.hid (hX.up HB2.out)
 have HEC : Hid (EtysK w2 Xs) := Lib.hid (fun p hp => (hq p hp).1.up HB2.out)
 have HQ : Hid (∀ p ∈ Xs, p.1.n ≤ 9223372036854775807 ∧ p.1.txt.size ≤ maxLen ∧ EtyW p.1) := Lib.hid (fun p hp => (hq p hp).2)
 have HWW := Lib.hid hw
 have HS0 := Lib.hid hs0
 have HNL := Lib.hid hn
 have HCN := Lib.hid hcn
 have HBC := Lib.hid (Below.refl w2.heap.size w2)
 have HAT : Hid (∀ W, Below w2.heap.size w2 W → W.cell? ⟨s0 + 1, 0, none⟩ = some (.int .i64 a) ∧ W.cell? ⟨s0 + 1, 1, none⟩ = some (.int .i64 b) ∧ W.cell? ⟨s0 + 1, 2, none⟩ = some (.int .i64 d)) := Lib.hid (fun W h => ⟨(HAB.out.up h).at 0 _ rfl, (HAB.out.up h).at 1 _ rfl, (HAB.out.up h).at 2 _ rfl⟩)
 have HBW : Hid (∀ W, Below w2.heap.size w2 W → Below w.heap.size w W) := Lib.hid (fun W h => HB2.out.trans (h.mono HB2.out.size))
 have HLO : Hid (∀ p ∈ Xs, -9223372036854775808 ≤ p.1.day) := Lib.hid (fun p hp => (bounds_i64 (hq p hp).2.2.2.day).1)
 obtain ⟨GV, hGV⟩ : ∃ GV, GV = grpV g := ⟨_, rfl⟩
 have HGV := Lib.hid hGV
 have HFW := Lib.hid (fun W (h : Below w2.heap.size w2 W) => by have h9 := r12few_any g G A c Xs W (HKC.out.up h).he hk.lg hmx (HXC.out.up h) (HEC.out.up h) (by rw [hn]; exact hnm) (fun p hp => ⟨(hq p hp).2.1, (hq p hp).2.2.1⟩); rw [← hGV, hn] at h9; exact h9)
 have HLG : Hid (∀ w9, Below w2.heap.size w2 w9 → (Instr.loadAt 29 (.pointer (some ⟨s0, 0, none⟩))).run Tryz.prog w9 = .ok GV w9) := Lib.hid (fun w9 h9 => by rw [hGV, grpV_is]; exact (HGB.out.up h9).rg.load 0 29 (grpC g) rfl _ Tryz.underlying29 rfl (by kernel_rfl))
 clear hk hGV hw hX hq hn hmx hnm hcn
 have HM1 : True := trivial
 cases hf : fewX Xs && few10 g G
 ·rw [hf] at HFW
  clear hf
  go_enter Tryz.func9, Tryz.ntmps9
  go_wp2_with (first
   | (go_at_call 29; refine (HAW.out _).mono ?_; rintro e w3 ⟨rfl, hb⟩; have hB3 := Lib.hid (HBC.out.trans (hb.mono HBC.out.size)); clear hb HBC; have HBC := hB3; clear hB3)
   | (clear HM1; refine wpList_load_is rfl 29 _ rfl (.pointer (some ⟨s0, 0, none⟩)) rfl GV (HLG.out _ HBC.out) ?_)
   | (go_at_call 14; refine (HFW.out _ HBC.out).mono ?_; rintro e w4 ⟨rfl, hb⟩; have hB3 := Lib.hid (HBC.out.trans (hb.mono HBC.out.size)); clear hb HBC; have HBC := hB3; clear hB3))
  go_ret
  exact ⟨by first | rfl | simp, by have h9 := HBW.out _ HBC.out; first | exact h9 | (rw [← HS0.out]; exact h9)⟩
 ·have HFI := Lib.hid (lfew_is hf)
  have HFA := Lib.hid (few_amt hf)
  rw [hf] at HFW
  clear hf
  have HLX : Hid (∀ W, Below w2.heap.size w2 W → LgX W g L G A c Xs) := Lib.hid (fun W hb => lgx_of HFI.out (HKC.out.up hb) HWW.out (HXC.out.up hb) (HEC.out.up hb) HQ.out (by rw [HNL.out]; exact HCN.out))
  have H1 := Lib.hid (fun W hb => ltrial_any g L G A c Xs a d W (HLX.out W hb))
  have H2 := Lib.hid (fun W hb => r14trial_any g L G A c Xs a d W (HLX.out W hb) HLO.out)
  rw [← HGV.out, HNL.out] at H1 H2
  have HZ0 := Lib.hid (trB_zero (g := g) (L := L) (G := G) (Xs := Xs) (e := a) (hi := d) HKC.out.lg)
  have hml : (trB g L G Xs a d).length ≤ 100000 := by
   unfold trB
   split
   ·rename_i h9
    obtain ⟨-, h8, h7⟩ := lgE_zero h9
    have h6 := HKC.out.lg
    have hmm : G.getD a.toNat ent0 ∈ G := getD_mem_acc (by omega)
    have h5 := trL_len (G.getD a.toNat ent0).L Xs a d
    rw [(HKC.out.hk _ hmm).ln] at h5
    have := (HFI.out.1.e _ hmm).1
    omega
   ·simp
  generalize trB g L G Xs a d = M at *
  generalize lgE g L G Xs a = v2 at *
  obtain ⟨ml, hM⟩ : ∃ ml, M.length = ml := ⟨_, rfl⟩
  have HML := Lib.hid hml
  have HMM := Lib.hid hM
  rw [hM] at hml
  clear hM
  have HM2 : True := trivial
  have HM3 : True := trivial
  go_enter Tryz.func9, Tryz.ntmps9
  go_wp2_with (first
   | (go_at_call 29; refine (HAW.out _).mono ?_; rintro e w3 ⟨rfl, hb⟩; have hB3 := Lib.hid (HBC.out.trans (hb.mono HBC.out.size)); clear hb HBC; have HBC := hB3; clear hB3)
   | (clear HM1; refine wpList_load_is rfl 29 _ rfl (.pointer (some ⟨s0, 0, none⟩)) rfl GV (HLG.out _ HBC.out) ?_)
   | (go_at_call 14; refine (HFW.out _ HBC.out).mono ?_; rintro e w4 ⟨rfl, hb⟩; have hB3 := Lib.hid (HBC.out.trans (hb.mono HBC.out.size)); clear hb HBC; have HBC := hB3; clear hB3; obtain ⟨q0, q1, q2⟩ := HAT.out _ HBC.out)
   | (clear HM2; refine wpList_load_is rfl 29 _ rfl (.pointer (some ⟨s0, 0, none⟩)) rfl GV (HLG.out _ HBC.out) ?_)
   | (go_at_call 35; refine (H1.out _ HBC.out).mono ?_; rintro r w5 ⟨⟨A1, c1, rfl, hz1⟩, hb⟩; have HX1 := Lib.hid hb; have hB3 := Lib.hid (HBC.out.trans (hb.mono HBC.out.size)); clear hb HBC; have HBC := hB3; clear hB3; have HZ1 := Lib.hid hz1; clear hz1; rw [HMM.out]; obtain ⟨q0, q1, q2⟩ := HAT.out _ HBC.out)
   | (clear HM3; refine wpList_load_is rfl 29 _ rfl (.pointer (some ⟨s0, 0, none⟩)) rfl GV (HLG.out _ HBC.out) ?_)
   | (go_at_call 36; refine (H2.out _ HBC.out).mono ?_; rintro r w5 ⟨⟨A2, c2, rfl, hz2⟩, hb⟩; have HZ3 := Lib.hid (HZ1.out.up hb); have hB3 := Lib.hid (HBC.out.trans (hb.mono HBC.out.size)); clear hb HBC; have HBC := hB3; clear hB3; have HZ2 := Lib.hid hz2; clear hz2; rw [HMM.out]))
  have HZ4 : Hid (BalAt w5 A1 M) := Lib.hid HZ3.out
  go_loopg [11, 12] ml (fun kx s11 s12 wr => ∃ (k : Nat), s12 = .int .i64 (k : Int) ∧ k ≤ ml ∧ ml - k ≤ kx ∧ s11 = .int .i64 (wrap64 (sumI (M.take k) (fun y => y.amt))) ∧ wr = w5)
  case atStart => exact ⟨0, rfl, by omega, by omega, congrArg (Value.int .i64) wr_zero.symm, rfl⟩
  case round =>
   obtain ⟨k, rfl, hk, hkx, rfl, hV⟩ := hrel
   have hV2 := hV.symm
   subst hV2
   clear hV
   by_cases hlt : k < ml
   ·have hltz : (k : Int) < (ml : Int) := by omega
    obtain ⟨bb, ob, hA1, hbw, hcs⟩ := HZ4.out (by rw [HMM.out]; omega)
    subst hA1
    have f1 := (hcs k (by rw [HMM.out]; exact hlt)).c1
    have hsn : sumI (M.take (k + 1)) (fun y => y.amt) = sumI (M.take k) (fun y => y.amt) + (M.getD k bal0).amt := by rw [take_succ_getD (d := bal0) (by rw [HMM.out]; exact hlt), sumI_snoc]
    generalize M.getD k bal0 = y at *
    have HSN : Hid (wrap64 (sumI (M.take (k + 1)) (fun y => y.amt)) = wrap64 (wrap64 (sumI (M.take k) (fun y => y.amt)) + y.amt)) := Lib.hid (by rw [hsn]; exact (wr_add _ _).symm)
    clear hcs hsn
    generalize wrap64 (sumI (M.take k) (fun y => y.amt)) = S0 at *
    go_wp2_with fail
    go_roundg (ml - (k + 1))
    case measure => omega
    case rel => exact ⟨k + 1, by go_num, by omega, by omega, by rw [HSN.out], rfl⟩
   ·obtain rfl : k = ml := by omega
    have hltz : ¬ (k : Int) < (k : Int) := by omega
    have hS : wrap64 (sumI (M.take k) (fun y => y.amt)) = 0 := by rw [List.take_of_length_le (by rw [HMM.out]; exact Nat.le_refl _)]; exact HZ0.out
    rw [hS]
    clear hS
    have HSM := Lib.hid (fun W (h1 : BalAt W A1 M) (h2 : BalAt W A2 M) => rsameb_any A1 A2 c1 c2 M M W h1 h2 HML.out HML.out)
    rw [decide_eq_true (rfl : M = M), HMM.out] at HSM
    go_wp2_with (go_at_call 37; refine (HSM.out _ HZ4.out HZ2.out).mono ?_; rintro r w7 ⟨rfl, hb⟩; have hB3 := Lib.hid (HBC.out.trans (hb.mono HBC.out.size)); clear hb HBC; have HBC := hB3; clear hB3)
    go_ret
    exact ⟨by first | rfl | simp, by have h9 := HBW.out _ HBC.out; first | exact h9 | (rw [← HS0.out]; exact h9)⟩
open Go.ChangeShapes Go.WideShapes Go.ChangeAt Go.WideMaps Go.WideElems Go.RowKit Go.Joins Go.Deep
theorem open_itri {H : Type} {enc : TypeId × Value → H} {P : Program} {w : World} {base b0 : Nat} {sp : Nat → Bool} {held : Bool} {r : Reach} {t e : TypeId} {f0 f1 f2 : Field} {v : Value} {d : DataW H} {p : List MemPlace} (hs : P.underlying t = some (.struct #[f0, f1, f2])) (h0 : f0.type = e) (h1 : f1.type = e) (h2 : f2.type = e) (hone : oneCellFields P #[f0, f1, f2] = true) (hC : P.cellsOf t = 3)
  (he : P.underlying e = some (.int .i64)) (hv : Value.okWide P w r b0 t v) (h : DataW.Trod enc P w base sp held t v d p) :
  ∃ x y z, v = .agg #[.int .i64 x, .int .i64 y, .int .i64 z] ∧ (Lit.int .i64 x).wf = true ∧ (Lit.int .i64 y).wf = true ∧ (Lit.int .i64 z).wf = true := by
 obtain ⟨v0, v1, v2, y0, y1, y2, n, rfl, _, _, k0, k1, k2⟩ := open_agg3 hs hone hC hv h
 rw [h0] at k0
 rw [h1] at k1
 rw [h2] at k2
 obtain ⟨x, e0, _, w0⟩ := DataW.trod_int he k0
 obtain ⟨y, e1, _, w1⟩ := DataW.trod_int he k1
 obtain ⟨z, e2, _, w2⟩ := DataW.trod_int he k2
 simp at e0 e1 e2
 subst e0 e1 e2
 exact ⟨x, y, z, rfl, w0, w1, w2⟩
open Go.ChangeShapes Go.WideShapes Go.ChangeAt Go.WideMaps Go.WideElems Go.RowKit Go.Deep Go.Joins
section
variable {H : Type} {enc : TypeId × Value → H} {P : Program} {W : World}
theorem open_rowsC {α : Type} (R : Lay α) {T E : TypeId} {fuel : Nat} {cs : List Value} {x : DataW H × List MemPlace} (hT : P.underlying T = some (.slice E)) (hC : P.cellsOf E = R.s) (q : α → Prop)
  (hread : ∀ fuel cs x, DataW.trod enc P W 0 (fun _ => true) true fuel E cs = some x → ∃ a, cs = R.cel a ∧ q a)
  (hf : DataW.trod enc P W 0 (fun _ => true) true fuel T cs = some x) :
  ∃ A len cap L, cs = [.slice A len cap] ∧ L.length = len ∧ len ≤ 9223372036854775807 ∧ len ≤ cap ∧ RowAt R W A L ∧ ∀ a ∈ L, q a := by
 rcases open_slice hT hf with ⟨hcs, -⟩ | ⟨a, len, cap, m, n, D, Pl, hcs, -, hl, hm, hmm, -, hx⟩
 ·exact ⟨none, 0, 0, [], hcs, rfl, by omega, by omega, RowAt.nil, fun a ha => by cases ha⟩
 ·simp only [if_true] at hmm
  subst hmm
  unfold maxLen at hm
  have key : ∀ k, k < len → ∃ y : α, (∀ j v, (R.cel y)[j]? = some v → W.cell? (a.add (k * R.s + j)) = some v) ∧ q y := by
   intro k hk
   obtain ⟨cs', h1, h2⟩ := hx k (by omega)
   rw [hC] at h1
   obtain ⟨_, hlen, hcell⟩ := World.cells?_some h1
   obtain ⟨y, rfl, hq⟩ := hread _ _ _ h2
   refine ⟨y, fun j v hj => ?_, hq⟩
   have hjl : j < (R.cel y).length := (List.getElem?_eq_some_iff.1 hj).1
   have h4 := hcell j (by rw [R.len] at hjl; omega)
   rw [add_add] at h4
   rw [h4, hj]
  obtain ⟨L, hLl, hL⟩ := list_of_all len key
  obtain ⟨b, off, spot⟩ := a
  refine ⟨_, len, _, L, hcs, hLl, by omega, by omega, fun h0 => ?_, fun y hy => ?_⟩
  ·rw [hLl] at h0
   obtain ⟨y0, hy0, hc0, -⟩ := hL 0 h0
   have hz0 := hc0 0 _ (List.getElem?_eq_getElem (by rw [R.len]; exact R.pos))
   have hspot : spot = none := by simpa [Addr.add] using World.cell?_spot hz0
   subst hspot
   have hlt : b < W.heap.size := by
    rcases Nat.lt_or_ge b W.heap.size with hlt | hge
    ·exact hlt
    ·unfold World.cell? at hz0
     rw [show (Addr.add ⟨b, off, none⟩ (0 * R.s + 0)).block = b from by rw [block_add], Array.getElem?_eq_none hge] at hz0
     simp at hz0
   refine ⟨b, off, rfl, hlt, fun j v hj => ?_⟩
   have hjl : j < len * R.s := by
    rw [← hLl, ← R.all_len]
    exact (List.getElem?_eq_some_iff.1 hj).1
   have hs := R.pos
   have hi : j / R.s < len := Nat.div_lt_of_lt_mul (by rw [Nat.mul_comm]; exact hjl)
   obtain ⟨y, hy, hc, -⟩ := hL (j / R.s) hi
   have hr : j % R.s < R.s := Nat.mod_lt _ hs
   have he : j / R.s * R.s + j % R.s = j := by rw [Nat.mul_comm]; exact Nat.div_add_mod _ _
   have h5 := hc (j % R.s) v (by rw [← R.get L (j / R.s) y hy _ hr, he]; exact hj)
   rw [he, Go.WideShapes.add_plain] at h5
   exact h5
  ·obtain ⟨k, hk⟩ := List.getElem?_of_mem hy
   have hkl : k < len := by rw [← hLl]; exact (List.getElem?_eq_some_iff.1 hk).1
   obtain ⟨z, hz, -, hq⟩ := hL k hkl
   rw [hk] at hz
   injection hz with hz
   subst hz
   exact hq
end
section
variable {H : Type} {enc : TypeId × Value → H} {W : World}
set_option maxRecDepth 100000 in
theorem open_ietysC {b0 : Nat} {v : Value} {d : DataW H} {p : List MemPlace} (hval : Value.okWide Tryz.prog W .any b0 30 v) (h : DataW.Trod enc Tryz.prog W 0 (fun _ => true) true 30 v d p) :
  ∃ A len c, v = .slice A len c ∧ ∃ Xs : List (Ety × List Lnk), Xs.length = len ∧ len ≤ 9223372036854775807 ∧ len ≤ c ∧ RowAt lyX W A (Xs.map (·.1)) ∧ ∀ a ∈ Xs, EtyK W a.1 a.2 ∧ a.1.n ≤ 9223372036854775807 ∧ a.1.txt.size ≤ maxLen ∧ EtyW a.1 := by
 obtain ⟨a0, len, cap, rfl⟩ := okWide_slice Tryz.underlying30 hval
 obtain ⟨fuel, hf⟩ := h
 obtain ⟨A, len', c, Xs, hcs, hl, hm, hcp, hr, hq⟩ := open_rowsC (α := Ety × List Lnk) ⟨fun a => etyC a.1, 7, fun _ => rfl, fun a v hv => lyX.one a.1 v hv, by decide⟩ Tryz.underlying30 (by kernel_rfl) (fun a => EtyK W a.1 a.2 ∧ a.1.n ≤ 9223372036854775807 ∧ a.1.txt.size ≤ maxLen ∧ EtyW a.1) (fun _ _ _ h => open_etyC h) hf
 simp [Value.cells] at hcs
 obtain ⟨rfl, rfl, rfl⟩ := hcs
 refine ⟨_, _, _, rfl, Xs, hl, hm, hcp, fun h0 => ?_, hq⟩
 obtain ⟨b, off, e, hlt, hc⟩ := hr (by simpa using h0)
 refine ⟨b, off, e, hlt, fun j v hj => hc j v ?_⟩
 rw [← hj]
 unfold Lay.all
 rw [List.flatMap_map]
 rfl
end
end Go.Proofs.YthokdplikidhiaaGreat
