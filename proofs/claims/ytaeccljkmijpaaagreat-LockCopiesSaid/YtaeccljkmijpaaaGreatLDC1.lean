/- Contracts and the law of LockCopies, part 1: what was proved of each, callees first. -/
import Derived.Shelf.SlGeneric
import Derived.BigQuiet
import Derived.Deep.RegionHeldLaw
import Derived.Shelf.SlMaps.Clone
import Derived.Ground.SlmcProg
import Derived.Test.YtaeccljkmijpaaaGreatProg
import Derived.Test.YtaeccljkmijpaaaGreatLD7
namespace Go.Proofs.YtaeccljkmijpaaaGreat
open Go.RowKit Go.Maps
theorem infoRk : (Tryz.prog.info? 124).map (fun i => (i.zero, i.size, i.bytes)) = some (some (.agg #[.int .i64 0, .int .i64 0]), 2, 16) := by kernel_rfl
def RkQ (B : Nat) (K : LkL) (e : Ending) (w' : World) : Prop := ∃ A c, e = .returned (.slice A K.length c) ∧ OwnR lyP 124 w' B (.slice A K.length c) K
set_option maxRecDepth 100000 in
set_option maxHeartbeats 3200000 in
theorem from_any (A : Option Addr) (c : Nat) (K : LkL) (w : World) (hz : RowAt lyP w A K) (hl : K.length ≤ 1000) : Calls Tryz.prog 41 #[.slice A K.length c] w fun e w' => RkQ w.heap.size K e w' ∧ Below w.heap.size w w' := by
 obtain ⟨i0, hi, hz1, hz2, hz3⟩ := info_parts infoRk
 obtain ⟨n, hn⟩ : ∃ n, K.length = n := ⟨_, rfl⟩
 obtain ⟨B0, hB0⟩ : ∃ B0, w.heap.size = B0 := ⟨_, rfl⟩
 have HB0 := Lib.hid hB0
 have HN := Lib.hid hn
 have HZ := Lib.hid hz
 rw [hn] at hl
 have hQ : ∀ e w', RkQ w.heap.size K e w' = ∃ A c, e = .returned (.slice A n c) ∧ OwnR lyP 124 w' B0 (.slice A n c) K := fun e w' => by unfold RkQ; rw [hn, hB0]
 simp only [hQ]
 rw [hn]
 clear hn hz hB0 hQ
 go_enter Tryz.func41, Tryz.ntmps41
 go_wp2_with fail
 go_loopg [3, 8] n (fun kx s3 s8 wr => ∃ (k : Nat), s8 = .int .i64 k ∧ k ≤ n ∧ n - k ≤ kx ∧ Hid (OwnR lyP 124 wr B0 s3 (K.take k)) ∧ Hid (Below B0 w wr))
 case atStart => exact ⟨0, rfl, by omega, by omega, Lib.hid OwnR.nil, Lib.hid (Below.refl _ _)⟩
 case round =>
  obtain ⟨k, rfl, hk, hkx, HO, HB⟩ := hrel
  by_cases hlt : k < n
  ·have hltz : (k : Int) < (n : Int) := by omega
   obtain ⟨q, hq⟩ : ∃ q, K[k]? = some q := ⟨_, List.getElem?_eq_getElem (by rw [HN.out]; exact hlt)⟩
   obtain ⟨bb, off, hA, hbl, hrg⟩ := (HZ.out.up (HB.out.mono (Nat.le_of_eq HB0.out))).at hq
   subst hA
   have HLY : Hid ((Instr.loadAt 89 (.pointer (some ⟨bb, off + k * 2, none⟩))).run Tryz.prog wr = .ok (pairV q) wr) := Lib.hid (run_loadAt_mid wr bb (off + k * 2) 89 (lkCelP q) _ (fun jj v hv => hrg jj v hv) Tryz.underlying89 rfl (by kernel_rfl))
   have HTK : Hid (K.take (k + 1) = K.take k ++ [q]) := Lib.hid (by rw [List.take_add_one, hq]; rfl)
   have HLN : Hid ((K.take k).length ≤ 1000) := Lib.hid (by have := List.length_take_le k K; omega)
   obtain ⟨sr, hsr⟩ : ∃ sr, wr.heap.size = sr := ⟨_, rfl⟩
   have HSR := Lib.hid hsr
   have HN0 : True := trivial
   clear hq hbl hrg
   go_upto_region 5 with (first
    | (clear HN0; refine wpList_load_is rfl 89 _ rfl (.pointer (some ⟨bb, off + k * 2, none⟩)) rfl (pairV q) HLY.out ?_)
    | (refine wpList_store_wh rfl 89 _ _ rfl sr (by first | rfl | (rw [← HSR.out]; rfl)) 89 [.int .i64 0, .int .i64 0] (lkCelP q) rfl (by rw [← HSR.out]; exact Wh.new wr 89 [.int .i64 0, .int .i64 0]) rfl (by kernel_rfl) (by kernel_rfl) ?_; intro w6 hr6 ho6 hz6; have HR6 := Lib.hid hr6.out; have hb6 : Below wr.heap.size wr w6 := only_new (by rw [HSR.out]; exact ho6.out); have HB6 := Lib.hid (HB.out.trans (hb6.mono (by have := HB.out.size; have := HB0.out; omega))); have HO6 := Lib.hid (HO.out.up hb6); clear hr6 ho6 hz6 hb6))
   have HLS : Hid ((Instr.loadAt 89 (.pointer (some ⟨sr, 0, none⟩))).run Tryz.prog w6 = .ok (pairV q) w6) := Lib.hid (HR6.out.rg.load 0 89 (lkCelP q) rfl _ Tryz.underlying89 rfl (by kernel_rfl))
   have hx8 : Below w6.heap.size w6 (w6.alloc (.cells #[.int .i64 q.1, .int .i64 q.2] 124)) := below_alloc_new _
   have HX8 := Lib.hid hx8
   have HR8 : Hid (RowAt lyP (w6.alloc (.cells #[.int .i64 q.1, .int .i64 q.2] 124)) (some ⟨w6.heap.size, 0, none⟩) [q]) := Lib.hid (row_one (R := lyP) (x := q) (Wh.new w6 124 (lkCelP q)))
   have HA8 := Lib.hid (HO6.out.up hx8)
   have HN1 : True := trivial
   clear hx8
   go_wp2_with (first
    | (clear HN1; refine wpList_load_is rfl 89 _ rfl (.pointer (some ⟨sr, 0, none⟩)) rfl (pairV q) HLS.out ?_)
    | (at_builtin; refine wpList_app_row (R := lyP) rfl (.tmp 12) (.tmp 14) 67 rfl i0 _ 16 Tryz.underlying67 hi hz1 hz2 hz3 (by omega) rfl rfl HA8.out (some ⟨w6.heap.size, 0, none⟩) 1 1 [q] rfl rfl HR8.out (by have := HLN.out; simp; omega) (by have := HB6.out.size; have := HX8.out.size; have := HB0.out; omega) ?_; intro v9 w9 hr9 hg9 hn9; have HR9 := Lib.hid hr9.out; have HG9 := Lib.hid hg9.out; clear hr9 hg9 hn9))
   have HB9 : Hid (Below B0 w w9) := Lib.hid ((HB6.out.trans (HX8.out.mono (by have := HB6.out.size; have := HB0.out; omega))).trans ((Only.grown (S := fun k => _ = some k) HG9.out fun k hk => hk).below (fun k hk => (HA8.out.lt hk).1) (by have := HB6.out.size; have := HX8.out.size; have := HB0.out; omega)))
   go_roundg (n - (k + 1))
   case measure => omega
   case rel => exact ⟨k + 1, by go_num, by omega, by omega, Lib.hid (by rw [HTK.out]; exact HR9.out), HB9⟩
  ·obtain rfl : n = k := by omega
   have hltz : ¬ (n : Int) < (n : Int) := by omega
   have hT : K.take n = K := List.take_of_length_le (by rw [HN.out]; exact Nat.le_refl _)
   rw [hT] at HO
   obtain ⟨A9, c9, e9, -, -⟩ := HO.out.reads
   rw [HN.out] at e9
   subst e9
   clear hT
   go_wp2_with fail
   go_ret
   exact ⟨⟨A9, c9, rfl, HO.out⟩, by first | exact HB.out | (rw [HB0.out]; exact HB.out)⟩
theorem takes_eq {K M : LkL} {k : Nat} {q r : Int × Int} (h : K.take k = M.take k) (hq : K[k]? = some q) (hr : M[k]? = some r) : (q = r → K.take (k + 1) = M.take (k + 1)) ∧ (q ≠ r → K ≠ M) := by
 refine ⟨fun e => by rw [List.take_add_one, List.take_add_one, hq, hr, h, e], fun e e2 => ?_⟩
 subst e2
 rw [hq] at hr
 injection hr with hr
 exact e hr
set_option maxRecDepth 100000 in
set_option maxHeartbeats 3200000 in
theorem same13_any (A B : Option Addr) (c d : Nat) (K M : LkL) (w : World) (hz : RowAt lyP w A K) (hy : RowAt lyP w B M) (hl : K.length ≤ 1000) (hl2 : M.length ≤ 1000) : Calls Tryz.prog 40 #[.slice A K.length c, .slice B M.length d] w fun e w' => e = .returned (.bool (decide (K = M))) ∧ Below w.heap.size w w' := by
 obtain ⟨n, hn⟩ : ∃ n, K.length = n := ⟨_, rfl⟩
 obtain ⟨m, hm⟩ : ∃ m, M.length = m := ⟨_, rfl⟩
 have HN := Lib.hid hn
 have HM := Lib.hid hm
 have HZ := Lib.hid hz
 have HY := Lib.hid hy
 rw [hn] at hl ⊢
 rw [hm] at hl2 ⊢
 clear hn hm hz hy
 by_cases hnm : n = m
 ·subst hnm
  have hne : ((n : Int) != (n : Int)) = false := by simp
  obtain ⟨r, hr⟩ : ∃ r, decide (K = M) = r := ⟨_, rfl⟩
  have HR := Lib.hid hr
  rw [hr]
  clear hr
  go_enter Tryz.func40, Tryz.ntmps40
  go_wp2_with fail
  go_loopg [5] n (fun kx s5 wr => ∃ (k : Nat), s5 = .int .i64 k ∧ k ≤ n ∧ n - k ≤ kx ∧ Hid (K.take k = M.take k) ∧ Hid (Below w.heap.size w wr))
  case atStart => exact ⟨0, rfl, by omega, by omega, Lib.hid rfl, Lib.hid (Below.refl _ _)⟩
  case round =>
   obtain ⟨k, rfl, hk, hkx, HT, HB⟩ := hrel
   by_cases hlt : k < n
   ·have hltz : (k : Int) < (n : Int) := by omega
    obtain ⟨q, hq⟩ : ∃ q, K[k]? = some q := ⟨_, List.getElem?_eq_getElem (by rw [HN.out]; exact hlt)⟩
    obtain ⟨p, hp⟩ : ∃ p, M[k]? = some p := ⟨_, List.getElem?_eq_getElem (by rw [HM.out]; exact hlt)⟩
    obtain ⟨t1, t2⟩ := takes_eq HT.out hq hp
    obtain ⟨q1, q2⟩ := q
    obtain ⟨p1, p2⟩ := p
    obtain ⟨bb, off, hA, hbl, hrg⟩ := (HZ.out.up HB.out).at hq
    obtain ⟨bc, ofc, hB, hbl2, hrg2⟩ := (HY.out.up HB.out).at hp
    subst hA hB
    have e0 : wr.cell? ⟨bb, off + k * 2, none⟩ = some (.int .i64 q1) := hrg 0 _ rfl
    have e1 : wr.cell? ⟨bb, off + k * 2 + 1, none⟩ = some (.int .i64 q2) := hrg 1 _ rfl
    have f0 : wr.cell? ⟨bc, ofc + k * 2, none⟩ = some (.int .i64 p1) := hrg2 0 _ rfl
    have f1 : wr.cell? ⟨bc, ofc + k * 2 + 1, none⟩ = some (.int .i64 p2) := hrg2 1 _ rfl
    clear hq hp hrg hrg2 hbl hbl2
    by_cases he : q1 = p1 ∧ q2 = p2
    ·have HT2 := Lib.hid (t1 (by rw [he.1, he.2]))
     have he1 : (q1 == p1) = true := by simp [he.1]
     have he2 : (q2 == p2) = true := by simp [he.2]
     clear t1 t2 he
     go_wp2_with fail
     go_quiet (fail)
     have HB9 := Lib.hid (below_drewN HB.out nq)
     generalize World.drewN _ nq = W1 at *
     go_wp2_with fail
     go_roundg (n - (k + 1))
     case measure => omega
     case rel => exact ⟨k + 1, by go_num, by omega, by omega, HT2, HB9⟩
    ·have HF : Hid (r = false) := Lib.hid (by rw [← HR.out]; exact decide_eq_false (t2 fun e => he ⟨congrArg Prod.fst e, congrArg Prod.snd e⟩))
     clear t1 t2
     by_cases h1 : q1 = p1
     ·have he1 : (q1 == p1) = true := by simp [h1]
      have he2 : (q2 == p2) = false := by
       have h2 : ¬ q2 = p2 := fun h2 => he ⟨h1, h2⟩
       simp [h2]
      clear he h1
      go_wp2_with fail
      go_quiet (fail)
      have HB9 := Lib.hid (below_drewN HB.out nq)
      generalize World.drewN _ nq = W1 at *
      go_wp2_with fail
      go_ret
      exact ⟨by rw [HF.out]; rfl, HB9.out⟩
     ·have he1 : (q1 == p1) = false := by simp [h1]
      clear he h1
      go_wp2_with fail
      go_quiet (fail)
      have HB9 := Lib.hid (below_drewN HB.out nq)
      generalize World.drewN _ nq = W1 at *
      go_wp2_with fail
      go_ret
      exact ⟨by rw [HF.out]; rfl, HB9.out⟩
   ·obtain rfl : n = k := by omega
    have hltz : ¬ (n : Int) < (n : Int) := by omega
    have HF : Hid (r = true) := Lib.hid (by
     rw [← HR.out]
     have := HT.out
     rw [List.take_of_length_le (Nat.le_of_eq HN.out), List.take_of_length_le (Nat.le_of_eq HM.out)] at this
     exact decide_eq_true this)
    go_wp2_with fail
    go_ret
    exact ⟨by rw [HF.out]; rfl, HB.out⟩
 ·have hne : ((n : Int) != (m : Int)) = true := by simp; omega
  rw [decide_eq_false (fun e => hnm (by rw [← HN.out, ← HM.out, e]))]
  go_enter Tryz.func40, Tryz.ntmps40
  go_wp2_with fail
  go_ret
  exact ⟨rfl, Below.refl _ _⟩
theorem infoStq : (Tryz.prog.info? 73).map (fun i => (i.zero, i.size, i.bytes)) = some (some (.agg #[.int .i64 0, .int .i64 0, .bool false]), 3, 24) := by kernel_rfl
theorem step_app_rowG {α : Type} {R : Lay α} {e : TypeId} {base : Nat} {v : Value} {L : List α} {P : Program} {ops : Array Oper} {o : Oper} {a : Act} {tm : Array Value} {w : World} {K : Act → World → Prop} {Q : Exit → Act → World → Prop} {E : Prop} (hgd : o.guard = none) (s x : Operand) (t : TypeId)
  (ho : o.op = .call { callee := .builtin .append, args := #[s, x], argTypes := #[t, t] })
  (i : TypeInfo) (z : Value) (bytes : Nat) (ht : P.underlying t = some (.slice e)) (hi : P.info? e = some i) (hz : i.zero = some z) (hsize : i.size = R.s) (hby : i.bytes = bytes) (hb8 : bytes ≤ 1000) (hzs : z.cells.size = R.s)
  (hs : a.eval s = v) (hown : OwnR R e w base v L) (X : Option Addr) (m c : Nat) (M : List α) (hm : M.length = m) (hx : a.eval x = .slice X m c) (hX : RowAt R w X M)
  (hlen : L.length + m ≤ 100000000) (hbase : base ≤ w.heap.size)
  (h : ∀ v' w', Hid (OwnR R e w' base v' (L ++ M)) → Hid (w.grownBy w' v.ownBlock) → Hid (v'.ownBlock = v.ownBlock ∨ v'.ownBlock = some w.heap.size) → K (a.put o.dst v') w') :
  if Region.wanted o (yielded ops tm) = true then Oper.wp P o a w K Q else E := by
 rw [if_pos (by simp [Region.wanted, hgd])]
 exact wp_app_row s x t ho i z bytes ht hi hz hsize hby hb8 hzs hs hown X m c M hm hx hX hlen hbase h
def lckS (s : Stp) : Stp := ⟨s.e, s.p, false⟩
structure TwoS (w : World) (B : Nat) (v u : Value) (L M : List Stp) : Prop where
 one : OwnR lyS 73 w B v L
 two : OwnR lyS 73 w B u M
 ne : ∀ g, v.ownBlock = some g → u.ownBlock ≠ some g
section
variable {w w' : World} {B : Nat} {v u v' : Value} {L M L' : List Stp}
theorem TwoS.up (h : TwoS w B v u L M) (hb : Below w.heap.size w w') : TwoS w' B v u L M := ⟨h.one.up hb, h.two.up hb, h.ne⟩
theorem TwoS.symm (h : TwoS w B v u L M) : TwoS w B u v M L := ⟨h.two, h.one, fun g h1 h2 => h.ne g h2 h1⟩
theorem TwoS.step (h : TwoS w B v u L M) (hr : OwnR lyS 73 w' B v' L') (hg : w.grownBy w' v.ownBlock) (hn : v'.ownBlock = v.ownBlock ∨ v'.ownBlock = some w.heap.size) : TwoS w' B v' u L' M := by
 refine ⟨hr, h.two.blk fun g hg2 => hg.block g (h.two.lt hg2).2 (fun e => h.ne g e.symm hg2), fun g h1 h2 => ?_⟩
 rcases hn with e | e
 ·exact h.ne g (by rw [← e]; exact h1) h2
 ·rw [e] at h1
  injection h1 with h1
  have := (h.two.lt h2).2
  omega
end
theorem rk_row {B : Nat} {K : LkL} {e : Ending} {w' : World} (h : RkQ B K e w') : ∃ A c, e = .returned (.slice A K.length c) ∧ RowAt lyP w' A K := by
 obtain ⟨A, c, he, ho⟩ := h
 obtain ⟨A', c', e1, hr, -⟩ := ho.reads
 injection e1 with e1 _ _
 exact ⟨A, c, he, by rw [e1]; exact hr⟩
def loP (g : Grp) (n B : Nat) (K : LkL) (v : Value) (w : World) : Prop := ∃ j : LD, v = .pointer (some ⟨j.b, 0, none⟩) ∧ ((j.n = (g.m : Int) ∧ j.y = g.cy ∧ j.m = g.cm ∧ j.k = g.cp) ∧ B ≤ j.bm) ∧ LK w j n K
def loF (g : Grp) (n B : Nat) (K : LkL) : AK.Fact Below0 := ⟨loP g n B K, fun _ _ _ hb ⟨j, h1, h2, h3⟩ => ⟨j, h1, h2, h3.up hb⟩⟩
theorem LK.other {w w' : World} {j1 j2 : LD} {z1 z2 z3 : Nat} {K : LkL} (h1 : LK w j1 z1 K) (h2 : LK w j2 z2 K) (h3 : LK w' j1 z3 K) (hb : Only (fun i => i = j1.bm) w w') (hz1 : z3 ≤ 5000) (hz2 : z2 ≤ 5000) : LK w' j2 5000 K := by
 by_cases e : j2.bm = j1.bm
 ·refine ⟨h2.box.only hb (fun e2 => ?_), by rw [e]; exact h3.mp.mono hz1, h2.good, h2.cal⟩
  obtain ⟨es, k, h4⟩ := h1.mp.isMap
  have h5 := h2.box.blk
  have e3 : j2.b = j1.bm := e2
  rw [e3, h4] at h5
  cases h5
 ·exact (h2.apart h1 e hb).mono hz2
theorem keys_map (S : List Stp) : (S.map lckS).map Stp.k = S.map Stp.k := by
 rw [List.map_map]; rfl
def loL (s0 n c1 c2 s4 : Nat) (A1 A2 : Option Addr) (GV : Value) (g : Grp) (KL : LkL) : List (Nat × AK.Fact (Below0)) := [(70, AK.Fact.is (GV)), (71, AK.Fact.is (.slice A1 n c1)), (72, loF g n s4 KL), (73, AK.Fact.is (GV)), (74, AK.Fact.is (.slice A2 n c2)), (75, loF g n s4 KL), (11, loF g n s4 KL), (12, loF g n s4 KL)]
set_option maxRecDepth 100000 in
set_option maxHeartbeats 12800000 in
theorem law_lkord (g : Grp) (L : List Acc) (G : List Ent) (A : Option Addr) (n c : Nat) (S : List Stp) (x : Stp) (w : World)  (hk : GrK w g L G) (hw : GrW g L G) (hmx : g.m ≤ 9223372036854775807) (hn : S.length = n) (hnm : n ≤ 9223372036854775807) (hS : RowAt lyS w A S) (hok : ∀ s ∈ S, okStp s) (hx : okStp x) :
    Calls Tryz.prog 8 #[grpV g, .slice A n c, stpV x] w fun e w' => e = .returned (.bool true) ∧ Below w.heap.size w w' := by
  have HAW := Lib.hid lkawake_any
  have HFW := Lib.hid (fun W (h : EntsAt W g.E G) => rfew10_is g G W h hk.lg hmx)
  have HRV := Lib.hid (fun (hs : Sm g G) W (h : GrK W g L G) => rvalid10_any g L G W h hs hw)
  have HGW := Lib.hid hw
  obtain ⟨s0, hs0⟩ : ∃ s0, w.heap.size = s0 := ⟨_, rfl⟩
  obtain ⟨w2, hw2⟩ : ∃ w2, (w.alloc (.cells #[.string g.cur, .int .i64 g.cy, .int .i64 g.cm, .int .i64 g.cp, .slice g.A g.n g.c, .int .i64 g.r0, .int .i64 g.r1, .int .i64 g.r2, .int .i64 g.r3, .int .i64 g.r4, .int .i64 g.r5, .int .i64 g.r6, .int .i64 g.r7, .int .i64 g.r8, .int .i64 g.r9, .int .i64 g.r10, .int .i64 g.r11, .int .i64 g.r12, .int .i64 g.r13, .int .i64 g.r14, .slice g.E g.m g.d] 29)).alloc (.cells #[.int .i64 x.e, .int .i64 x.p, .bool x.u] 73) = w2 := ⟨_, rfl⟩
  have HGB : Hid (Wh 29 w2 s0 (grpC g)) := Lib.hid (by rw [← hw2, ← hs0]; exact (Wh.new w 29 (grpC g)).up (below_alloc_new _))
  have HXB : Hid (Wh 73 w2 (s0 + 1) [.int .i64 x.e, .int .i64 x.p, .bool x.u]) := Lib.hid (by
    rw [← hw2, ← hs0]
    have h9 := Wh.new (w.alloc (.cells #[.string g.cur, .int .i64 g.cy, .int .i64 g.cm, .int .i64 g.cp, .slice g.A g.n g.c, .int .i64 g.r0, .int .i64 g.r1, .int .i64 g.r2, .int .i64 g.r3, .int .i64 g.r4, .int .i64 g.r5, .int .i64 g.r6, .int .i64 g.r7, .int .i64 g.r8, .int .i64 g.r9, .int .i64 g.r10, .int .i64 g.r11, .int .i64 g.r12, .int .i64 g.r13, .int .i64 g.r14, .slice g.E g.m g.d] 29)) 73 [.int .i64 x.e, .int .i64 x.p, .bool x.u]
    rw [World.size_alloc] at h9
    exact h9)
  have HB2 : Hid (Below w.heap.size w w2) := Lib.hid (by rw [← hw2]; exact below_new (below_alloc_new _) _)
  have HKC := Lib.hid (hk.up HB2.out)
  have HSC := Lib.hid (hS.up HB2.out)
  have HOK := Lib.hid hok
  have HS0 := Lib.hid hs0
  have HNL := Lib.hid hn
  have HBC := Lib.hid (Below.refl w2.heap.size w2)
  obtain ⟨GV, hGV⟩ : ∃ GV, GV = grpV g := ⟨_, rfl⟩
  have HLG : Hid (∀ w9, Below w2.heap.size w2 w9 → (Instr.loadAt 29 (.pointer (some ⟨s0, 0, none⟩))).run Tryz.prog w9 = .ok GV w9) := Lib.hid (fun w9 h9 => by rw [hGV, grpV_is]; exact (HGB.out.up h9).rg.load 0 29 (grpC g) rfl _ Tryz.underlying29 rfl (by kernel_rfl))
  rw [← hGV] at HFW HRV
  have HGV := Lib.hid hGV
  clear hk hGV hw hS hok hn hmx
  have HM1 : True := trivial
  have HM2 : True := trivial
  have HM3 : True := trivial
  have HM4 : True := trivial
  have HM5 : True := trivial
  have HM6 : True := trivial
  cases hf : few10 g G
  · rw [hf] at HFW
    clear hf
    go_enter Tryz.func8, Tryz.ntmps8
    go_wp2_with (first
      | (go_at_call 27; refine (HAW.out _).mono ?_; rintro e w3 ⟨rfl, hb⟩; have hB3 := Lib.hid (HBC.out.trans (hb.mono HBC.out.size)); clear hb HBC; have HBC := hB3; clear hB3)
      | (clear HM1; refine wpList_load_if (by rfl) 29 _ rfl (.pointer (some ⟨s0, 0, none⟩)) rfl GV (HLG.out _ HBC.out) ?_)
      | (go_at_call 28; refine (HFW.out _ (HKC.out.up HBC.out).he).mono ?_; rintro e w3 ⟨rfl, hb⟩; have hB3 := Lib.hid (HBC.out.trans (hb.mono HBC.out.size)); clear hb HBC; have HBC := hB3; clear hB3))
    go_ret
    exact ⟨by first | rfl | simp, (by have h9 := HB2.out.trans (HBC.out.mono HB2.out.size); first | exact h9 | (rw [← HS0.out]; exact h9))⟩
  · rw [hf] at HFW
    have HSM := Lib.hid (few_sm hf)
    clear hf
    by_cases hl : n ≤ 30
    · have hlz : decide ((n : Int) > 30) = false := decide_eq_false (by omega)
      have hly : decide ((30 : Int) < (n : Int)) = false := decide_eq_false (by omega)
      cases hv : grpR g L G
      · rw [hv] at HRV
        clear hv
        go_enter Tryz.func8, Tryz.ntmps8
        go_wp2_with (first
          | (go_at_call 27; refine (HAW.out _).mono ?_; rintro e w3 ⟨rfl, hb⟩; have hB3 := Lib.hid (HBC.out.trans (hb.mono HBC.out.size)); clear hb HBC; have HBC := hB3; clear hB3)
          | (clear HM1; refine wpList_load_if (by rfl) 29 _ rfl (.pointer (some ⟨s0, 0, none⟩)) rfl GV (HLG.out _ HBC.out) ?_)
          | (go_at_call 28; refine (HFW.out _ (HKC.out.up HBC.out).he).mono ?_; rintro e w3 ⟨rfl, hb⟩; have hB3 := Lib.hid (HBC.out.trans (hb.mono HBC.out.size)); clear hb HBC; have HBC := hB3; clear hB3)
          | (clear HM2; refine wpList_load_if (by rfl) 29 _ rfl (.pointer (some ⟨s0, 0, none⟩)) rfl GV (HLG.out _ HBC.out) ?_)
          | (go_at_call 43; refine (HRV.out HSM.out _ (HKC.out.up HBC.out)).mono ?_; rintro e w3 ⟨rfl, hb⟩; have hB3 := Lib.hid (HBC.out.trans (hb.mono HBC.out.size)); clear hb HBC; have HBC := hB3; clear hB3))
        go_ret
        exact ⟨by first | rfl | simp, (by have h9 := HB2.out.trans (HBC.out.mono HB2.out.size); first | exact h9 | (rw [← HS0.out]; exact h9))⟩
      · rw [hv] at HRV
        have HV : Hid (grpP g L G = true) := Lib.hid ((grp_eq g L G).trans hv)
        have HL30 := Lib.hid hl
        clear hv
        have HXB0 := HXB
        go_enter Tryz.func8, Tryz.ntmps8
        go_wp2_with (first
          | (go_at_call 27; refine (HAW.out _).mono ?_; rintro e w3 ⟨rfl, hb⟩; have hB3 := Lib.hid (HBC.out.trans (hb.mono HBC.out.size)); clear hb HBC; have HBC := hB3; clear hB3)
          | (clear HM1; refine wpList_load_if (by rfl) 29 _ rfl (.pointer (some ⟨s0, 0, none⟩)) rfl GV (HLG.out _ HBC.out) ?_)
          | (go_at_call 28; refine (HFW.out _ (HKC.out.up HBC.out).he).mono ?_; rintro e w3 ⟨rfl, hb⟩; have hB3 := Lib.hid (HBC.out.trans (hb.mono HBC.out.size)); clear hb HBC; have HBC := hB3; clear hB3)
          | (clear HM2; refine wpList_load_if (by rfl) 29 _ rfl (.pointer (some ⟨s0, 0, none⟩)) rfl GV (HLG.out _ HBC.out) ?_)
          | (go_at_call 43; refine (HRV.out HSM.out _ (HKC.out.up HBC.out)).mono ?_; rintro e w3 ⟨rfl, hb⟩; have hB3 := Lib.hid (HBC.out.trans (hb.mono HBC.out.size)); clear hb HBC; have HBC := hB3; clear hB3))
        obtain ⟨wl, hwl⟩ : ∃ wl, w3 = wl := ⟨_, rfl⟩
        subst hwl
        obtain ⟨s4, hs4⟩ : ∃ s4, w3.heap.size = s4 := ⟨_, rfl⟩
        have HS4 := Lib.hid hs4
        clear hs4
        obtain ⟨i0, hi, hz1, hz2, hz3⟩ := info_parts infoStq
        go_loopg [7, 8, 33] n (fun kx s7 s8 s33 wr => ∃ (k : Nat), s33 = .int .i64 k ∧ k ≤ n ∧ n - k ≤ kx ∧ Hid (TwoS wr s4 s7 s8 ((S.take k).map lckS) ((S.reverse.take k).map lckS)) ∧ Hid (Below s4 w3 wr))
        case atStart => exact ⟨0, rfl, by omega, by omega, Lib.hid ⟨OwnR.nil, OwnR.nil, fun g h => by cases h⟩, Lib.hid (Below.refl _ _)⟩
        case round =>
          obtain ⟨k, rfl, hk, hkx, HT, HB⟩ := hrel
          by_cases hlt : k < n
          · have hltz : (k : Int) < (n : Int) := by omega
            obtain ⟨s, hs⟩ : ∃ s, S[k]? = some s := ⟨_, List.getElem?_eq_getElem (by rw [HNL.out]; exact hlt)⟩
            obtain ⟨r, hr⟩ : ∃ r, S[n - 1 - k]? = some r := ⟨_, List.getElem?_eq_getElem (by rw [HNL.out]; omega)⟩
            have HTK : Hid ((S.take (k + 1)).map lckS = (S.take k).map lckS ++ [lckS s]) := Lib.hid (by rw [List.take_add_one, hs, List.map_append]; rfl)
            have HRK : Hid ((S.reverse.take (k + 1)).map lckS = (S.reverse.take k).map lckS ++ [lckS r]) := Lib.hid (by rw [List.take_add_one, List.getElem?_reverse (by rw [HNL.out]; exact hlt), HNL.out, hr, List.map_append]; rfl)
            have HR : Hid (RowAt lyS wr A S) := Lib.hid ((HSC.out.up HBC.out).up (HB.out.mono (Nat.le_of_eq HS4.out)))
            obtain ⟨bb, off, hA, hbl, hrg⟩ := (HSC.out.up HBC.out).at hs
            obtain ⟨bb2, off2, hA2, -, hrg2⟩ := (HSC.out.up HBC.out).at hr
            rw [hA] at hA2
            injection hA2 with hA2
            injection hA2 with hA2 hA3 _
            subst hA2 hA3
            subst hA
            obtain ⟨s1, s2, s3⟩ := s
            obtain ⟨r1, r2, r3⟩ := r
            rw [HS4.out] at hbl
            have HBL := Lib.hid hbl
            have HE0 : Hid (∀ W, Below s4 w3 W → W.cell? ⟨bb, off + k * 3, none⟩ = some (.int .i64 s1) ∧ W.cell? ⟨bb, off + k * 3 + 1, none⟩ = some (.int .i64 s2)) := Lib.hid (fun W hW => ⟨(hW.cell (p := ⟨bb, off + k * 3, none⟩) hbl).trans (hrg 0 _ rfl), (hW.cell (p := ⟨bb, off + k * 3 + 1, none⟩) hbl).trans (hrg 1 _ rfl)⟩)
            obtain ⟨m, hm⟩ : ∃ m, n - 1 - k = m := ⟨_, rfl⟩
            have HM := Lib.hid hm
            rw [hm] at hrg2
            have HF0 : Hid (∀ W, Below s4 w3 W → W.cell? ⟨bb, off + m * 3, none⟩ = some (.int .i64 r1) ∧ W.cell? ⟨bb, off + m * 3 + 1, none⟩ = some (.int .i64 r2)) := Lib.hid (fun W hW => ⟨(hW.cell (p := ⟨bb, off + m * 3, none⟩) hbl).trans (hrg2 0 _ rfl), (hW.cell (p := ⟨bb, off + m * 3 + 1, none⟩) hbl).trans (hrg2 1 _ rfl)⟩)
            have HLN : Hid (((S.take k).map lckS).length ≤ 1000) := Lib.hid (by rw [List.length_map, List.length_take]; have := HL30.out; omega)
            have HLR : Hid (((S.reverse.take k).map lckS).length ≤ 1000) := Lib.hid (by rw [List.length_map, List.length_take]; have := HL30.out; omega)
            have hm2 : m < n := by omega
            have hmz : (m : Int) < (n : Int) := by omega
            have hw1 : IntKind.i64.wrap ((n : Int) - 1) = (n : Int) - 1 := by rw [IntKind.wrap_i64]; have := HL30.out; omega
            have hw2_ : IntKind.i64.wrap ((n : Int) - 1 - (k : Int)) = (m : Int) := by rw [IntKind.wrap_i64]; have := HL30.out; omega
            clear hs hr hrg hrg2 hm
            have HT9 : Hid (TwoS wr.drew s4 u7 u8 ((S.take k).map lckS) ((S.reverse.take k).map lckS)) := Lib.hid (HT.out.up (dc_drew (Below.refl _ _)))
            obtain ⟨e0, e1⟩ := HE0.out _ (dc_drew HB.out)
            have HBW : Hid (s4 ≤ wr.heap.size) := Lib.hid (by have := HB.out.size; have := HS4.out; omega)
            have HE2 : Hid (∀ o, (wr.drew.alloc o).cell? ⟨bb, off + k * 3, none⟩ = some (.int .i64 s1) ∧ (wr.drew.alloc o).cell? ⟨bb, off + k * 3 + 1, none⟩ = some (.int .i64 s2)) := Lib.hid (fun o => HE0.out _ ((dc_drew HB.out).alloc (by have := HBW.out; exact this) o))
            have HFAR : Hid (some bb ≠ u7.ownBlock) := Lib.hid (fun e => by have := (HT.out.one.lt e.symm).1; have := HBL.out; omega)
            go_upto_region 7 with fail
            go_region_held_law (fun w' => w'.cell? ⟨bb, off + k * 3, none⟩ = some (.int .i64 s1) ∧ w'.cell? ⟨bb, off + k * 3 + 1, none⟩ = some (.int .i64 s2)) (first | exact hS5 | exact ⟨e0, e1⟩ | exact HE2.out _ | go_keep)
            (first
              | (refine step_app_rowG (R := lyS) rfl (.tmp 36) (.tmp 48) 62 rfl i0 _ 24 Tryz.underlying62 hi hz1 hz2 hz3 (by omega) rfl rfl (HT9.out.one.up (below_alloc_new _)) (some ⟨wr.drew.heap.size, 0, none⟩) 1 1 [(⟨s1, s2, false⟩ : Stp)] rfl rfl (row_one (R := lyS) (x := (⟨s1, s2, false⟩ : Stp)) (Wh.new wr.drew 73 (stpC ⟨s1, s2, false⟩))) (by have := HLN.out; simp; omega) (by have := HBW.out; simp; omega) ?_
                 intro v5 w5 ho5 hg5 hn5
                 have hS5 : w5.cell? ⟨bb, off + k * 3, none⟩ = some (.int .i64 s1) ∧ w5.cell? ⟨bb, off + k * 3 + 1, none⟩ = some (.int .i64 s2) := ⟨hg5.out.cell (HE2.out _).1 HFAR.out, hg5.out.cell (HE2.out _).2 HFAR.out⟩))
            all_goals
              have HT5 : Hid (TwoS w5 s4 v5 u8 ((S.take (k + 1)).map lckS) ((S.reverse.take k).map lckS)) := Lib.hid (by rw [HTK.out]; exact (HT9.out.up (below_alloc_new _)).step ho5.out hg5.out hn5.out)
              have HB5 : Hid (Below s4 w3 w5) := Lib.hid (((dc_drew HB.out).alloc (by have := HBW.out; exact this) _).trans ((Only.grown (S := fun k => u7.ownBlock = some k) hg5.out fun k hk => hk).below (fun k hk => (HT9.out.one.lt hk).1) (by have := HBW.out; simp; omega)))
              clear ho5 hg5 hn5 hS5 HT9 e0 e1 HE2 HFAR HT HB HBW HTK HLN
              have HT9 : Hid (TwoS w5.drew s4 v5 u8 ((S.take (k + 1)).map lckS) ((S.reverse.take k).map lckS)) := Lib.hid (HT5.out.up (dc_drew (Below.refl _ _)))
              obtain ⟨e0, e1⟩ := HF0.out _ (dc_drew HB5.out)
              have HBW : Hid (s4 ≤ w5.heap.size) := Lib.hid (by have := HB5.out.size; have := HS4.out; omega)
              have HE2 : Hid (∀ o, (w5.drew.alloc o).cell? ⟨bb, off + m * 3, none⟩ = some (.int .i64 r1) ∧ (w5.drew.alloc o).cell? ⟨bb, off + m * 3 + 1, none⟩ = some (.int .i64 r2)) := Lib.hid (fun o => HF0.out _ ((dc_drew HB5.out).alloc (by have := HBW.out; exact this) o))
              have HFAR : Hid (some bb ≠ u8.ownBlock) := Lib.hid (fun e => by have := (HT5.out.two.lt e.symm).1; have := HBL.out; omega)
              go_upto_region 9 with fail
              go_region_held_law (fun w' => w'.cell? ⟨bb, off + m * 3, none⟩ = some (.int .i64 r1) ∧ w'.cell? ⟨bb, off + m * 3 + 1, none⟩ = some (.int .i64 r2)) (first | exact hS6 | exact ⟨e0, e1⟩ | exact HE2.out _ | go_keep)
              (first
                | (refine step_app_rowG (R := lyS) rfl (.tmp 55) (.tmp 67) 62 rfl i0 _ 24 Tryz.underlying62 hi hz1 hz2 hz3 (by omega) rfl rfl (HT9.out.two.up (below_alloc_new _)) (some ⟨w5.drew.heap.size, 0, none⟩) 1 1 [(⟨r1, r2, false⟩ : Stp)] rfl rfl (row_one (R := lyS) (x := (⟨r1, r2, false⟩ : Stp)) (Wh.new w5.drew 73 (stpC ⟨r1, r2, false⟩))) (by have := HLR.out; simp; omega) (by have := HBW.out; simp; omega) ?_
                   intro v6 w6 ho6 hg6 hn6
                   have hS6 : w6.cell? ⟨bb, off + m * 3, none⟩ = some (.int .i64 r1) ∧ w6.cell? ⟨bb, off + m * 3 + 1, none⟩ = some (.int .i64 r2) := ⟨hg6.out.cell (HE2.out _).1 HFAR.out, hg6.out.cell (HE2.out _).2 HFAR.out⟩))
              all_goals
                have HT7 : Hid (TwoS w6 s4 v5 v6 ((S.take (k + 1)).map lckS) ((S.reverse.take (k + 1)).map lckS)) := Lib.hid (by rw [HRK.out]; exact ((HT9.out.up (below_alloc_new _)).symm.step ho6.out hg6.out hn6.out).symm)
                have HB7 : Hid (Below s4 w3 w6) := Lib.hid (((dc_drew HB5.out).alloc (by have := HBW.out; exact this) _).trans ((Only.grown (S := fun k => u8.ownBlock = some k) hg6.out fun k hk => hk).below (fun k hk => (HT9.out.two.lt hk).1) (by have := HBW.out; simp; omega)))
                clear ho6 hg6 hn6 hS6 HT9 e0 e1 HE2 HFAR HT5 HB5 HBW HRK
                go_wp2_with fail
                go_roundg (n - (k + 1))
                case measure => omega
                case rel => exact ⟨k + 1, by first | go_num | (have := HL30.out; go_num), by omega, by omega, HT7, HB7⟩
          · obtain rfl : n = k := by omega
            have hltz : ¬ (n : Int) < (n : Int) := by omega
            have hT1 : S.take n = S := List.take_of_length_le (by rw [HNL.out]; exact Nat.le_refl _)
            have hT2 : S.reverse.take n = S.reverse := List.take_of_length_le (by rw [List.length_reverse, HNL.out]; exact Nat.le_refl _)
            rw [hT1, hT2] at HT
            clear hT1 hT2
            obtain ⟨A1, c1, e1, q1, -⟩ := HT.out.one.reads
            obtain ⟨A2, c2, e2, q2, -⟩ := HT.out.two.reads
            obtain ⟨S1, hS1⟩ : ∃ S1, S.map lckS = S1 := ⟨_, rfl⟩
            obtain ⟨S2, hS2⟩ : ∃ S2, S.reverse.map lckS = S2 := ⟨_, rfl⟩
            rw [hS1] at e1 q1
            rw [hS2] at e2 q2
            have hl1 : S1.length = n := by rw [← hS1, List.length_map]; exact HNL.out
            have hl2 : S2.length = n := by rw [← hS2, List.length_map, List.length_reverse]; exact HNL.out
            rw [hl1] at e1
            rw [hl2] at e2
            subst e1 e2
            have HL1 := Lib.hid hl1
            have HL2 := Lib.hid hl2
            have hu1 : ∀ s ∈ S1, s.u = false := by rw [← hS1]; intro s hs; obtain ⟨r, -, rfl⟩ := List.mem_map.1 hs; rfl
            have hu2 : ∀ s ∈ S2, s.u = false := by rw [← hS2]; intro s hs; obtain ⟨r, -, rfl⟩ := List.mem_map.1 hs; rfl
            have HO1 : Hid (∀ s ∈ S1, okStp s) := Lib.hid (by rw [← hS1]; intro s hs; obtain ⟨r, hr, rfl⟩ := List.mem_map.1 hs; exact HOK.out r hr)
            have HO2 : Hid (∀ s ∈ S2, okStp s) := Lib.hid (by rw [← hS2]; intro s hs; obtain ⟨r, hr, rfl⟩ := List.mem_map.1 hs; exact HOK.out r (List.mem_reverse.1 hr))
            have hKE : stpsL (g.m : Int) g.cp S1 = stpsL (g.m : Int) g.cp S2 := stps_rev hu1 hu2 fun q => by rw [← hS1, ← hS2, keys_map, keys_map, List.map_reverse, List.mem_reverse]
            obtain ⟨KL, hK⟩ : ∃ KL, stpsL (g.m : Int) g.cp S1 = KL := ⟨_, rfl⟩
            have HKG : Hid (GoodL (g.m : Int) g.cp KL) := Lib.hid (by rw [← hK]; exact stpsL_good _ _ _)
            have HKL : Hid (KL.length ≤ 30) := Lib.hid (by rw [← hK]; have := stpsL_len (g.m : Int) g.cp S1; have := HL30.out; omega)
            rw [hK] at hKE
            have HBR : Hid (Below w2.heap.size w2 wr) := Lib.hid (HBC.out.trans (HB.out.mono (by have := HBC.out.size; have := HS4.out; omega)))
            have HWS : Hid (s4 ≤ wr.heap.size) := Lib.hid (by have := HB.out.size; have := HS4.out; omega)
            have HS4w : Hid (w2.heap.size ≤ s4) := Lib.hid (by have := HBC.out.size; have := HS4.out; omega)
            have HQ1 := Lib.hid q1
            have HQ2 := Lib.hid q2
            have HKr := Lib.hid (HKC.out.up HBR.out)
            have HF1 : Hid (∀ W, Below wr.heap.size wr W → Calls Tryz.prog 44 #[GV, .slice A1 n c1] W fun e w' => (∃ v, e = .returned v ∧ loP g n s4 KL v w') ∧ Below W.heap.size W w') := Lib.hid (fun W hW => by
              have h9 := filled_any g L G A1 c1 S1 W (HKr.out.up hW) HSM.out HGW.out HV.out (HQ1.out.up hW) HO1.out (by rw [HL1.out]; have := HL30.out; omega)
              rw [HL1.out, ← HGV.out] at h9
              refine h9.mono ?_
              rintro e w' ⟨⟨j, rfl, hq, hj, -, hbm⟩, hb⟩
              rw [hK, HL1.out] at hj
              exact ⟨⟨_, rfl, j, rfl, ⟨hq, Nat.le_trans HWS.out (Nat.le_trans hW.size hbm)⟩, hj⟩, hb⟩)
            have HF2 : Hid (∀ W, Below wr.heap.size wr W → Calls Tryz.prog 44 #[GV, .slice A2 n c2] W fun e w' => (∃ v, e = .returned v ∧ loP g n s4 KL v w') ∧ Below W.heap.size W w') := Lib.hid (fun W hW => by
              have h9 := filled_any g L G A2 c2 S2 W (HKr.out.up hW) HSM.out HGW.out HV.out (HQ2.out.up hW) HO2.out (by rw [HL2.out]; have := HL30.out; omega)
              rw [HL2.out, ← HGV.out] at h9
              refine h9.mono ?_
              rintro e w' ⟨⟨j, rfl, hq, hj, -, hbm⟩, hb⟩
              rw [← hKE, HL2.out] at hj
              exact ⟨⟨_, rfl, j, rfl, ⟨hq, Nat.le_trans HWS.out (Nat.le_trans hW.size hbm)⟩, hj⟩, hb⟩)
            have HLGr : Hid (∀ W, Below wr.heap.size wr W → (Instr.loadAt 29 (.pointer (some ⟨s0, 0, none⟩))).run Tryz.prog W = .ok GV W) := Lib.hid (fun W hW => HLG.out W (HBR.out.trans (hW.mono HBR.out.size)))
            have HXr := Lib.hid (HXB.out.up HBR.out)
            clear HBC HT q1 q2 hl1 hl2 hS1 hS2 hu1 hu2 hKE hK HLG HXB HXB0
            have HBC := HBR
            clear HBR
            go_wp2_with fail
            refine AK.region_facts (Rp := Below0) (Kp := Below0) (loL s0 n c1 c2 s4 A1 A2 GV g KL) (fun _ _ W => Below wr.heap.size wr W) [[], [], [70, 71], [], [], [73, 74], [72], [75]] [] [[]] [0, 0, 0, 0, 0, 0, 0, 0] [0, 0, 0, 0, 0, 0, 0, 0] [] (fun u => by simp only [loL, AK.temps, List.map_cons, List.map_nil, fillL, List.setIfInBounds_toArray, List.set_cons_zero, List.set_cons_succ]; rfl) (by kernel_rfl) (by kernel_rfl) (fun _ _ h => h.size) (fun _ _ h => h) (fun _ _ _ _ hb h => h.trans (hb.mono h.size)) (dc_drew (Below.refl _ _)) ?_ ?_
            · refine AK.sc (lim := 0) (lo := 0) rfl rfl rfl rfl ?_ ?_
              · intro k_ u w_ hk_ hl_ hJ hF K hK
                clear hF
                refine wp_load_is 29 _ rfl (.pointer (some ⟨s0, 0, none⟩)) rfl GV (HLGr.out _ hJ) ?_
                exact hK.out _ _ (Below.refl _ _) (rfl) trivial
              refine AK.sc (lim := 0) (lo := 0) rfl rfl rfl rfl ?_ ?_
              · intro k_ u w_ hk_ hl_ hJ hF K hK
                clear hF
                go_simp
                exact hK.out _ _ (Below.refl _ _) (rfl) trivial
              refine AK.sc (lim := 0) (lo := 0) rfl rfl rfl rfl ?_ ?_
              · intro k_ u w_ hk_ hl_ hJ hF K hK
                have h70 : u 70 = GV := AK.facts_get hF 70 (by simp)
                have h71 : u 71 = .slice A1 n c1 := AK.facts_get hF 71 (by simp)
                clear hF
                simp only [h70, h71] at hK ⊢
                clear h70 h71
                go_simp
                refine (HF1.out _ hJ).mono ?_
                rintro e w6 ⟨⟨v, rfl, hv⟩, hb6⟩
                exact hK.out _ _ hb6 hv trivial
              refine AK.sc (lim := 0) (lo := 0) rfl rfl rfl rfl ?_ ?_
              · intro k_ u w_ hk_ hl_ hJ hF K hK
                clear hF
                refine wp_load_is 29 _ rfl (.pointer (some ⟨s0, 0, none⟩)) rfl GV (HLGr.out _ hJ) ?_
                exact hK.out _ _ (Below.refl _ _) (rfl) trivial
              refine AK.sc (lim := 0) (lo := 0) rfl rfl rfl rfl ?_ ?_
              · intro k_ u w_ hk_ hl_ hJ hF K hK
                clear hF
                go_simp
                exact hK.out _ _ (Below.refl _ _) (rfl) trivial
              refine AK.sc (lim := 0) (lo := 0) rfl rfl rfl rfl ?_ ?_
              · intro k_ u w_ hk_ hl_ hJ hF K hK
                have h73 : u 73 = GV := AK.facts_get hF 73 (by simp)
                have h74 : u 74 = .slice A2 n c2 := AK.facts_get hF 74 (by simp)
                clear hF
                simp only [h73, h74] at hK ⊢
                clear h73 h74
                go_simp
                refine (HF2.out _ hJ).mono ?_
                rintro e w6 ⟨⟨v, rfl, hv⟩, hb6⟩
                exact hK.out _ _ hb6 hv trivial
              refine AK.sc (lim := 0) (lo := 0) rfl rfl rfl rfl ?_ ?_
              · intro k_ u w_ hk_ hl_ hJ hF K hK
                have h72 : loP g n s4 KL (u 72) w_ := AK.facts_get hF 72 (by simp)
                clear hF
                go_simp
                exact hK.out _ _ (Below.refl _ _) h72 trivial
              refine AK.sc (lim := 0) (lo := 0) rfl rfl rfl rfl ?_ ?_
              · intro k_ u w_ hk_ hl_ hJ hF K hK
                have h75 : loP g n s4 KL (u 75) w_ := AK.facts_get hF 75 (by simp)
                clear hF
                go_simp
                exact hK.out _ _ (Below.refl _ _) h75 trivial
              exact AK.StepsOk.nil
            · intro u W9 hJ9 hF
              have h11 : loP g n s4 KL (u 11) W9 := AK.facts_get hF 11 (by simp [loL, AK.temps])
              have h12 : loP g n s4 KL (u 12) W9 := AK.facts_get hF 12 (by simp [loL, AK.temps])
              clear hF
              obtain ⟨ja, ha, hqa, hja⟩ := h11
              obtain ⟨jb, hb_, hqb, hjb⟩ := h12
              simp only [ha, hb_]
              clear ha hb_
              have HJ9 := Lib.hid hJ9
              have HBC9 : Hid (Below w2.heap.size w2 W9) := Lib.hid (HBC.out.trans (hJ9.mono HBC.out.size))
              have HX9 := Lib.hid (HXr.out.up hJ9)
              have HA := Lib.hid hja
              have HBK := Lib.hid hjb
              have HQA := Lib.hid hqa.1
              have HBM := Lib.hid hqa.2
              clear hJ9 HBC hja hjb hqa hqb
              have HBC := HBC9
              clear HBC9
              have x0 := HX9.out.at 0 _ rfl
              have x1 := HX9.out.at 1 _ rfl
              clear x0 x1
              have HP1 : True := trivial
              have HP2 : True := trivial
              have HP3 : True := trivial
              have HP4 : True := trivial
              go_upto_region 14 with (first
                | (go_at_call 42; first
                  | (clear HP1; refine (list_any ja n KL _ HA.out (by have := HL30.out; omega)).mono ?_; rintro e w5 ⟨⟨A5, c5, rfl, hr5⟩, hb⟩; have HR5 := Lib.hid hr5; have HA5 := Lib.hid (HA.out.up hb); have HK5 := Lib.hid (HBK.out.up hb); have HX5 := Lib.hid (HX9.out.up hb); clear hr5; have hB3 := Lib.hid (HBC.out.trans (hb.mono HBC.out.size)); clear hb HBC; have HBC := hB3; clear hB3)
                  | (clear HP2; refine (list_any jb n KL _ HK6.out (by have := HL30.out; omega)).mono ?_; rintro e w7 ⟨⟨A7, c7, rfl, hr7⟩, hb⟩; have HR7 := Lib.hid hr7; have HA7 := Lib.hid (HA6.out.up hb); have HK7 := Lib.hid (HK6.out.up hb); have HX7 := Lib.hid (HX6.out.up hb); have HU7 := Lib.hid (HU6.out.up hb); clear hr7; have hB3 := Lib.hid (HBC.out.trans (hb.mono HBC.out.size)); clear hb HBC; have HBC := hB3; clear hB3))
                | (go_at_call 41; first
                  | (clear HP3; refine (from_any A5 c5 KL _ HR5.out (by have := HKL.out; omega)).mono ?_; rintro e w6 ⟨hq, hb⟩; obtain ⟨A6, c6, rfl, hu6⟩ := rk_row hq; have HU6 := Lib.hid hu6; have HA6 := Lib.hid (HA5.out.up hb); have HK6 := Lib.hid (HK5.out.up hb); have HX6 := Lib.hid (HX5.out.up hb); clear hq hu6; have hB3 := Lib.hid (HBC.out.trans (hb.mono HBC.out.size)); clear hb HBC; have HBC := hB3; clear hB3)
                  | (clear HP4; refine (from_any A7 c7 KL _ HR7.out (by have := HKL.out; omega)).mono ?_; rintro e w8 ⟨hq, hb⟩; obtain ⟨A8, c8, rfl, hu8⟩ := rk_row hq; have HU8 := Lib.hid hu8; have HA8 := Lib.hid (HA7.out.up hb); have HK8 := Lib.hid (HK7.out.up hb); have HX8 := Lib.hid (HX7.out.up hb); have HV8 := Lib.hid (HU7.out.up hb); clear hq hu8; have hB3 := Lib.hid (HBC.out.trans (hb.mono HBC.out.size)); clear hb HBC; have HBC := hB3; clear hB3))
                | (go_at_call 40; refine (same13_any A6 A8 c6 c8 KL KL _ HV8.out HU8.out (by have := HKL.out; omega) (by have := HKL.out; omega)).mono ?_; rw [decide_eq_true (show KL = KL from rfl)]; rintro e w9 ⟨rfl, hb⟩; have HA9 := Lib.hid (HA8.out.up hb); have HK9 := Lib.hid (HK8.out.up hb); have hx9 := HX8.out.up hb; have HX9_ := Lib.hid hx9; have hB3 := Lib.hid (HBC.out.trans (hb.mono HBC.out.size)); clear hb HBC; have HBC := hB3; clear hB3))
              have y0 := HX9_.out.at 0 _ rfl
              have y1 := HX9_.out.at 1 _ rfl
              obtain ⟨a1, a2, a3, a4⟩ := HQA.out
              have HLK := Lib.hid (lock_any x.e x.p HA9.out hx (by have := HL30.out; omega))
              rw [a1, a4] at HLK
              by_cases hE : addE (g.m : Int) g.cp KL (x.e, x.p) = 0
              · obtain ⟨hr1, hr2⟩ := rem_add HKG.out hE
                rw [hE] at HLK
                have HUN := Lib.hid (fun W (h : LK W ja (n + 1) (addL (g.m : Int) g.cp KL (x.e, x.p))) => by have h9 := unlock_any x.e x.p h hx; rw [hr1, hr2] at h9; exact h9)
                have HHX := Lib.hid hx
                clear a1 a2 a3 a4 hE hr1 hr2 hx
                have HMa : True := trivial
                have HMb : True := trivial
                have HMc : True := trivial
                have HMd : True := trivial
                go_wp2_with (first
                  | (go_at_call 45; refine HLK.out.mono ?_; rintro e v5 ⟨rfl, h5, o5⟩; have HL5 := Lib.hid h5; have HO5 := Lib.hid o5; clear h5 o5; have hx5 := HX9_.out.only HO5.out (fun e => by
                        obtain ⟨es, kk, h4⟩ := HA9.out.mp.isMap
                        have h3 := HX9_.out.blk
                        have e' : s0 + 1 = ja.bm := e
                        rw [e', h4] at h3
                        cases h3); have z0 := hx5.at 0 _ rfl; have z1 := hx5.at 1 _ rfl; clear hx5)
                  | (go_at_call 46; refine (HUN.out _ HL5.out).mono ?_; rintro e v6 ⟨rfl, h6, o6⟩; have HA10 := Lib.hid h6; have HK10 := Lib.hid (LK.other HA9.out HK9.out h6 (HO5.out.trans o6) (by have := HL30.out; omega) (by have := HL30.out; omega)); have HOX := Lib.hid (HO5.out.trans o6); clear h6 o6; have HBW : Hid (Below w2.heap.size w2 v6) := Lib.hid (HBC.out.trans (HOX.out.below (fun i hi => (by have h9 : i = ja.bm := hi; have := HBM.out; have := HS4w.out; omega)) HBC.out.size)))
                  | (go_at_call 42; first
                    | (clear HMa; refine (list_any ja _ KL _ HA10.out (by have := HL30.out; omega)).mono ?_; rintro e w15 ⟨⟨A15, c15, rfl, hr15⟩, hb⟩; have HR15 := Lib.hid hr15; have HK15 := Lib.hid (HK10.out.up hb); clear hr15; have HBX := Lib.hid (HBW.out.trans (hb.mono HBW.out.size)); clear hb)
                    | (clear HMb; refine (list_any jb _ KL _ HK16.out (by omega)).mono ?_; rintro e w17 ⟨⟨A17, c17, rfl, hr17⟩, hb⟩; have HR17 := Lib.hid hr17; have HU17 := Lib.hid (HU16.out.up hb); clear hr17; have HBZ := Lib.hid (HBY.out.trans (hb.mono HBY.out.size)); clear hb))
                  | (go_at_call 41; first
                    | (clear HMc; refine (from_any A15 c15 KL _ HR15.out (by have := HKL.out; omega)).mono ?_; rintro e w16 ⟨hq, hb⟩; obtain ⟨A16, c16, rfl, hu16⟩ := rk_row hq; have HU16 := Lib.hid hu16; have HK16 := Lib.hid (HK15.out.up hb); clear hq hu16; have HBY := Lib.hid (HBX.out.trans (hb.mono HBX.out.size)); clear hb)
                    | (clear HMd; refine (from_any A17 c17 KL _ HR17.out (by have := HKL.out; omega)).mono ?_; rintro e w18 ⟨hq, hb⟩; obtain ⟨A18, c18, rfl, hu18⟩ := rk_row hq; have HU18 := Lib.hid hu18; have HV18 := Lib.hid (HU17.out.up hb); clear hq hu18; have HBU := Lib.hid (HBZ.out.trans (hb.mono HBZ.out.size)); clear hb))
                  | (go_at_call 40; refine (same13_any A16 A18 c16 c18 KL KL _ HV18.out HU18.out (by have := HKL.out; omega) (by have := HKL.out; omega)).mono ?_; rw [decide_eq_true (show KL = KL from rfl)]; rintro e w19 ⟨rfl, hb⟩; have HBT := Lib.hid (HBU.out.trans (hb.mono HBU.out.size)); clear hb))
                go_ret
                exact ⟨by first | rfl | simp, (by have h9 := HB2.out.trans (HBT.out.mono HB2.out.size); first | exact h9 | (rw [← HS0.out]; exact h9))⟩
              · have hE1 : (addE (g.m : Int) g.cp KL (x.e, x.p) != 0) = true := by simp [hE]
                obtain ⟨E0, hE0⟩ : ∃ E0, addE (g.m : Int) g.cp KL (x.e, x.p) = E0 := ⟨_, rfl⟩
                rw [hE0] at HLK hE1
                clear a1 a2 a3 a4 hE hE0
                go_wp2_with (go_at_call 45; refine HLK.out.mono ?_; rintro e v5 ⟨rfl, -, o5⟩; have HO5 := Lib.hid o5; clear o5)
                go_ret
                exact ⟨by first | rfl | simp, (by have h8 : Below w2.heap.size w2 v5 := HBC.out.trans (HO5.out.below (fun i hi => (by have h9 : i = ja.bm := hi; have := HBM.out; have := HS4w.out; omega)) HBC.out.size); have h9 := HB2.out.trans (h8.mono HB2.out.size); first | exact h9 | (rw [← HS0.out]; exact h9))⟩
    · have hlz : decide ((n : Int) > 30) = true := decide_eq_true (by omega)
      have hly : decide ((30 : Int) < (n : Int)) = true := decide_eq_true (by omega)
      clear hl
      go_enter Tryz.func8, Tryz.ntmps8
      go_wp2_with (first
        | (go_at_call 27; refine (HAW.out _).mono ?_; rintro e w3 ⟨rfl, hb⟩; have hB3 := Lib.hid (HBC.out.trans (hb.mono HBC.out.size)); clear hb HBC; have HBC := hB3; clear hB3)
        | (clear HM1; refine wpList_load_if (by rfl) 29 _ rfl (.pointer (some ⟨s0, 0, none⟩)) rfl GV (HLG.out _ HBC.out) ?_)
        | (go_at_call 28; refine (HFW.out _ (HKC.out.up HBC.out).he).mono ?_; rintro e w3 ⟨rfl, hb⟩; have hB3 := Lib.hid (HBC.out.trans (hb.mono HBC.out.size)); clear hb HBC; have HBC := hB3; clear hB3))
      go_ret
      exact ⟨by first | rfl | simp, (by have h9 := HB2.out.trans (HBC.out.mono HB2.out.size); first | exact h9 | (rw [← HS0.out]; exact h9))⟩
end Go.Proofs.YtaeccljkmijpaaaGreat
namespace Go.Proofs
open Go.Shelf
def Tryz.mapc66_ren : Go.Shelf.Ren := ⟨fun | 5 => 66 | 7 => 103 | n => n, fun | 23 => 106 | 25 => 3 | 3 => 3 | 4 => 4 | 20 => 20 | n => n, fun | n => n⟩
def Tryz.mapc87_ren : Go.Shelf.Ren := ⟨fun | 5 => 87 | 7 => 103 | n => n, fun | 23 => 120 | 25 => 89 | 3 => 4 | 4 => 4 | 20 => 20 | n => n, fun | n => n⟩
theorem Tryz.mapc87 : Go.Proofs.SlLaysW.n5 Tryz.prog Tryz.mapc87_ren := {
 mixed := by kernel_rfl
 f5 := ⟨Tryz.f87.name, by decide, Tryz.func87.trans (congrArg some (by kernel_rfl))⟩
 f7 := Tryz.func103.trans (congrArg some (by kernel_rfl))
 t4 := Tryz.underlying4
 a4 := Tryz.isAgg4
 z4 := Tryz.sizeOf4
 v4 := Tryz.zeroValue4
 t20 := Tryz.underlying20
 a20 := Tryz.isAgg20
 z20 := Tryz.sizeOf20
 v20 := Tryz.zeroValue20
 t23 := Tryz.underlying120
 a23 := Tryz.isAgg120
 z23 := Tryz.sizeOf120
 v23 := Tryz.zeroValue120 }
end Go.Proofs
namespace Go.Proofs.YtaeccljkmijpaaaGreat
open Go.RowKit Go.Maps Go.Shelf
def lcP1 (s0 z : Nat) (S : Int × Int → Bool) (v : Value) (w : World) : Prop := ∃ b, v = .map (some b) ∧ s0 ≤ b ∧ MapS w b z S
def lcP2 (s0 z : Nat) (S : Int × Int → Bool) (a y m k : Int) (v : Value) (w : World) : Prop := ∃ b, v = .agg #[.int .i64 a, .int .i64 y, .int .i64 m, .int .i64 k, .map (some b)] ∧ s0 ≤ b ∧ MapS w b z S
def lcP3 (s0 z : Nat) (S : Int × Int → Bool) (a y m k : Int) (v : Value) (w : World) : Prop := ∃ p b, v = .pointer (some ⟨p, 0, none⟩) ∧ s0 ≤ p ∧ s0 ≤ b ∧ Wh 122 w p [.int .i64 a, .int .i64 y, .int .i64 m, .int .i64 k, .map (some b)] ∧ MapS w b z S
def lcF1 (s0 z : Nat) (S : Int × Int → Bool) : AK.Fact Below0 := ⟨lcP1 s0 z S, fun _ _ _ hb ⟨b, h1, h2, h3⟩ => ⟨b, h1, h2, h3.up hb⟩⟩
def lcF2 (s0 z : Nat) (S : Int × Int → Bool) (a y m k : Int) : AK.Fact Below0 := ⟨lcP2 s0 z S a y m k, fun _ _ _ hb ⟨b, h1, h2, h3⟩ => ⟨b, h1, h2, h3.up hb⟩⟩
def lcF3 (s0 z : Nat) (S : Int × Int → Bool) (a y m k : Int) : AK.Fact Below0 := ⟨lcP3 s0 z S a y m k, fun _ _ _ hb ⟨p, b, h1, h2, h3, h4, h5⟩ => ⟨p, b, h1, h2, h3, h4.up hb, h5.up hb⟩⟩
def lcL (jb bm s0 z : Nat) (a y m k : Int) (S : Int × Int → Bool) : List (Nat × AK.Fact (Below0)) := [(5, AK.Fact.is (.pointer (some ⟨jb, 0, none⟩))), (6, AK.Fact.is (.pointer (some ⟨jb, 0, none⟩))), (7, AK.Fact.is (.pointer (some ⟨jb, 0, none⟩))), (8, AK.Fact.is (.int .i64 a)), (9, AK.Fact.is (.pointer (some ⟨jb, 0, none⟩))), (10, AK.Fact.is (.pointer (some ⟨jb, 0, none⟩))), (11, AK.Fact.is (.pointer (some ⟨jb, 1, none⟩))), (12, AK.Fact.is (.agg #[.int .i64 y, .int .i64 m, .int .i64 k])), (13, AK.Fact.is (.pointer (some ⟨jb, 0, none⟩))), (14, AK.Fact.is (.pointer (some ⟨jb, 0, none⟩))), (15, AK.Fact.is (.pointer (some ⟨jb, 4, none⟩))), (16, AK.Fact.is (.map (some bm))), (17, lcF1 s0 z S), (18, lcF2 s0 z S a y m k), (19, lcF3 s0 z S a y m k), (2, lcF3 s0 z S a y m k)]
set_option maxRecDepth 100000 in
theorem mapsc_any (w : World) (b z : Nat) (S : Int × Int → Bool) (h : MapS w b z S) : Calls Tryz.prog 87 #[.map (some b)] w fun e w' => e = .returned (.map (some w.heap.size)) ∧ MapS w' w.heap.size z S ∧ Below w.heap.size w w' := by
 obtain ⟨D, h1, h2⟩ := h
 have hcon := AnyW.maps_Clone_owns Tryz.mapc87 89 heldP b z D w h1
 change Calls Tryz.prog 87 _ _ _ at hcon
 exact hcon.mono fun e w' ⟨he, h3, _, hb⟩ => ⟨he, ⟨D, h3, h2⟩, hb⟩
def LClQ (w : World) (j : LD) (z : Nat) (K : LkL) (e : Ending) (w' : World) : Prop := ∃ b bm, e = .returned (.pointer (some ⟨b, 0, none⟩)) ∧ LK w' ⟨b, j.n, j.y, j.m, j.k, bm⟩ z K ∧ w.heap.size ≤ b ∧ w.heap.size ≤ bm
set_option maxRecDepth 100000 in
set_option maxHeartbeats 3200000 in
theorem lclone_any (j : LD) (z : Nat) (K : LkL) (w : World) (h : LK w j z K) : Calls Tryz.prog 48 #[j.p] w fun e w' => LClQ w j z K e w' ∧ Below w.heap.size w w' := by
 have HBX := Lib.hid h.box
 have HMP := Lib.hid h.mp
 have HGD := Lib.hid h.good
 have HCL := Lib.hid h.cal
 have HMC := Lib.hid (fun W h => mapsc_any W j.bm z (fun q => decide (q ∈ K)) h)
 clear h
 obtain ⟨jb, a, y, m, k, bm⟩ := j
 dsimp only [LD.p, LC] at *
 obtain ⟨s0, hs0⟩ : ∃ s0, w.heap.size = s0 := ⟨_, rfl⟩
 have HS2 : Hid (s0 ≤ w.heap.size) := Lib.hid (Nat.le_of_eq hs0.symm)
 have HS0 := Lib.hid hs0
 clear hs0
 obtain ⟨S, hS⟩ : ∃ S : Int × Int → Bool, (fun q => decide (q ∈ K)) = S := ⟨_, rfl⟩
 rw [hS] at HMP HMC
 have HSE := Lib.hid hS
 clear hS
 go_enter Tryz.func48, Tryz.ntmps48
 go_wp2_with fail
 refine AK.region_facts (Rp := Below0) (Kp := Below0) (lcL jb bm s0 z a y m k S) (fun _ _ W => Below w.heap.size w W) [[], [5], [6], [7], [], [9], [10], [11], [], [13], [14], [15], [16], [8, 12, 17], [18], [19]] [] [[]] [0, 0, 0, 0, 0, 0, 0, 0, 0, 0, 0, 0, 0, 0, 0, 0] [0, 0, 0, 0, 0, 0, 0, 0, 0, 0, 0, 0, 0, 0, 0, 0] [] (fun u => by simp only [lcL, AK.temps, List.map_cons, List.map_nil, fillL, List.setIfInBounds_toArray, List.set_cons_zero, List.set_cons_succ]; rfl) (by kernel_rfl) (by kernel_rfl) (fun _ _ h => h.size) (fun _ _ h => h) (fun _ _ _ _ hb h => h.trans (hb.mono h.size)) (dc_drew (Below.refl _ _)) ?_ ?_
 ·refine AK.sc (lim := 0) (lo := 0) rfl rfl rfl rfl ?_ ?_
  ·intro k_ u w_ hk_ hl_ hJ hF K hK
   clear hF
   go_simp
   exact hK.out _ _ (Below.refl _ _) (rfl) trivial
  refine AK.sc (lim := 0) (lo := 0) rfl rfl rfl rfl ?_ ?_
  ·intro k_ u w_ hk_ hl_ hJ hF K hK
   have h5 : u 5 = .pointer (some ⟨jb, 0, none⟩) := AK.facts_get hF 5 (by simp)
   clear hF
   simp only [h5] at hK ⊢
   clear h5
   go_simp
   exact hK.out _ _ (Below.refl _ _) (rfl) trivial
  refine AK.sc (lim := 0) (lo := 0) rfl rfl rfl rfl ?_ ?_
  ·intro k_ u w_ hk_ hl_ hJ hF K hK
   have h6 : u 6 = .pointer (some ⟨jb, 0, none⟩) := AK.facts_get hF 6 (by simp)
   clear hF
   simp only [h6] at hK ⊢
   clear h6
   go_simp
   exact hK.out _ _ (Below.refl _ _) (rfl) trivial
  refine AK.sc (lim := 0) (lo := 0) rfl rfl rfl rfl ?_ ?_
  ·intro k_ u w_ hk_ hl_ hJ hF K hK
   have h7 : u 7 = .pointer (some ⟨jb, 0, none⟩) := AK.facts_get hF 7 (by simp)
   clear hF
   simp only [h7] at hK ⊢
   clear h7
   have c_ := (HBX.out.up hJ).at 0 _ rfl
   go_simp
   exact hK.out _ _ (Below.refl _ _) (rfl) trivial
  refine AK.sc (lim := 0) (lo := 0) rfl rfl rfl rfl ?_ ?_
  ·intro k_ u w_ hk_ hl_ hJ hF K hK
   clear hF
   go_simp
   exact hK.out _ _ (Below.refl _ _) (rfl) trivial
  refine AK.sc (lim := 0) (lo := 0) rfl rfl rfl rfl ?_ ?_
  ·intro k_ u w_ hk_ hl_ hJ hF K hK
   have h9 : u 9 = .pointer (some ⟨jb, 0, none⟩) := AK.facts_get hF 9 (by simp)
   clear hF
   simp only [h9] at hK ⊢
   clear h9
   go_simp
   exact hK.out _ _ (Below.refl _ _) (rfl) trivial
  refine AK.sc (lim := 0) (lo := 0) rfl rfl rfl rfl ?_ ?_
  ·intro k_ u w_ hk_ hl_ hJ hF K hK
   have h10 : u 10 = .pointer (some ⟨jb, 0, none⟩) := AK.facts_get hF 10 (by simp)
   clear hF
   simp only [h10] at hK ⊢
   clear h10
   go_simp
   exact hK.out _ _ (Below.refl _ _) (rfl) trivial
  refine AK.sc (lim := 0) (lo := 0) rfl rfl rfl rfl ?_ ?_
  ·intro k_ u w_ hk_ hl_ hJ hF K hK
   have h11 : u 11 = .pointer (some ⟨jb, 1, none⟩) := AK.facts_get hF 11 (by simp)
   clear hF
   simp only [h11] at hK ⊢
   clear h11
   have c1 := (HBX.out.up hJ).at 1 _ rfl
   have c2 := (HBX.out.up hJ).at 2 _ rfl
   have c3 := (HBX.out.up hJ).at 3 _ rfl
   go_simp
   exact hK.out _ _ (Below.refl _ _) (rfl) trivial
  refine AK.sc (lim := 0) (lo := 0) rfl rfl rfl rfl ?_ ?_
  ·intro k_ u w_ hk_ hl_ hJ hF K hK
   clear hF
   go_simp
   exact hK.out _ _ (Below.refl _ _) (rfl) trivial
  refine AK.sc (lim := 0) (lo := 0) rfl rfl rfl rfl ?_ ?_
  ·intro k_ u w_ hk_ hl_ hJ hF K hK
   have h13 : u 13 = .pointer (some ⟨jb, 0, none⟩) := AK.facts_get hF 13 (by simp)
   clear hF
   simp only [h13] at hK ⊢
   clear h13
   go_simp
   exact hK.out _ _ (Below.refl _ _) (rfl) trivial
  refine AK.sc (lim := 0) (lo := 0) rfl rfl rfl rfl ?_ ?_
  ·intro k_ u w_ hk_ hl_ hJ hF K hK
   have h14 : u 14 = .pointer (some ⟨jb, 0, none⟩) := AK.facts_get hF 14 (by simp)
   clear hF
   simp only [h14] at hK ⊢
   clear h14
   go_simp
   exact hK.out _ _ (Below.refl _ _) (rfl) trivial
  refine AK.sc (lim := 0) (lo := 0) rfl rfl rfl rfl ?_ ?_
  ·intro k_ u w_ hk_ hl_ hJ hF K hK
   have h15 : u 15 = .pointer (some ⟨jb, 4, none⟩) := AK.facts_get hF 15 (by simp)
   clear hF
   simp only [h15] at hK ⊢
   clear h15
   have c_ := (HBX.out.up hJ).at 4 _ rfl
   go_simp
   exact hK.out _ _ (Below.refl _ _) (rfl) trivial
  refine AK.sc (lim := 0) (lo := 0) rfl rfl rfl rfl ?_ ?_
  ·intro k_ u w_ hk_ hl_ hJ hF K hK
   have h16 : u 16 = .map (some bm) := AK.facts_get hF 16 (by simp)
   clear hF
   simp only [h16] at hK ⊢
   clear h16
   have HM9 := HMP.out.up hJ
   go_simp
   refine (HMC.out w_ HM9).mono ?_
   rintro e w6 ⟨rfl, hm6, hb6⟩
   exact hK.out _ _ hb6 ⟨_, rfl, Nat.le_trans (by have := HS2.out; omega) hJ.size, hm6⟩ trivial
  refine AK.sc (lim := 0) (lo := 0) rfl rfl rfl rfl ?_ ?_
  ·intro k_ u w_ hk_ hl_ hJ hF K hK
   have h8 : u 8 = .int .i64 a := AK.facts_get hF 8 (by simp)
   have h12 : u 12 = .agg #[.int .i64 y, .int .i64 m, .int .i64 k] := AK.facts_get hF 12 (by simp)
   have h17 : lcP1 s0 z S (u 17) w_ := AK.facts_get hF 17 (by simp)
   clear hF
   obtain ⟨n17, h17, hn17, hm17⟩ := h17
   simp only [h8, h12, h17] at hK ⊢
   clear h8 h12 h17
   refine wp_build_is 122 _ rfl [(0, .int .i64 a), (1, .agg #[.int .i64 y, .int .i64 m, .int .i64 k]), (2, .map (some n17))] rfl (.agg #[.int .i64 a, .int .i64 y, .int .i64 m, .int .i64 k, .map (some n17)]) (lk_build _ _ _ _ _ _) ?_
   exact hK.out _ _ (Below.refl _ _) ⟨_, rfl, hn17, hm17⟩ trivial
  refine AK.sc (lim := 0) (lo := 0) rfl rfl rfl rfl ?_ ?_
  ·intro k_ u w_ hk_ hl_ hJ hF K hK
   have h18 : lcP2 s0 z S a y m k (u 18) w_ := AK.facts_get hF 18 (by simp)
   clear hF
   obtain ⟨n18, h18, hn18, hm18⟩ := h18
   simp only [h18] at hK ⊢
   clear h18
   go_simp
   exact hK.out _ _ (below_alloc_new _) ⟨_, _, rfl, by have := HS2.out; have := hJ.size; omega, hn18, Wh.new _ 122 [.int .i64 a, .int .i64 y, .int .i64 m, .int .i64 k, .map (some n18)], hm18.up (below_alloc_new _)⟩ trivial
  refine AK.sc (lim := 0) (lo := 0) rfl rfl rfl rfl ?_ ?_
  ·intro k_ u w_ hk_ hl_ hJ hF K hK
   have h19 : lcP3 s0 z S a y m k (u 19) w_ := AK.facts_get hF 19 (by simp)
   clear hF
   obtain ⟨b19, n19, h19, hp19⟩ := h19
   simp only [h19] at hK ⊢
   clear h19
   go_simp
   exact hK.out _ _ (Below.refl _ _) ⟨b19, n19, rfl, hp19⟩ trivial
  exact AK.StepsOk.nil
 ·intro u W9 hJ9 hF
  have h2 : lcP3 s0 z S a y m k (u 2) W9 := AK.facts_get hF 2 (by simp [lcL, AK.temps])
  clear hF
  obtain ⟨p, b, h2, hp, hb, hw, hm⟩ := h2
  simp only [h2]
  have HW := Lib.hid hw
  have HM := Lib.hid hm
  have HB9 := Lib.hid hJ9
  clear hw hm hJ9
  go_wp2_with fail
  go_ret
  exact ⟨⟨p, b, by first | rfl | simp, ⟨HW.out, by rw [HSE.out]; exact HM.out, HGD.out, HCL.out⟩, by rw [HS0.out]; exact hp, by rw [HS0.out]; exact hb⟩, HB9.out⟩
open Go.RowKit Go.Maps
theorem ownP_row {B n c : Nat} {A : Option Addr} {K : LkL} {w : World} (h : OwnR lyP 124 w B (.slice A n c) K) : RowAt lyP w A K := by
 obtain ⟨A', c', e1, hr, -⟩ := h.reads
 injection e1 with e1 _ _
 rw [e1]; exact hr
set_option maxRecDepth 100000 in
set_option maxHeartbeats 12800000 in
theorem law_lkcop (g : Grp) (L : List Acc) (G : List Ent) (A : Option Addr) (n c : Nat) (S : List Stp) (x : Stp) (w : World)  (hk : GrK w g L G) (hw : GrW g L G) (hmx : g.m ≤ 9223372036854775807) (hn : S.length = n) (hnm : n ≤ 9223372036854775807) (hS : RowAt lyS w A S) (hok : ∀ s ∈ S, okStp s) (hx : okStp x) :
  Calls Tryz.prog 10 #[grpV g, .slice A n c, stpV x] w fun e w' => e = .returned (.bool true) ∧ Below w.heap.size w w' := by
 have HAW := Lib.hid lkawake_any
 have HFW := Lib.hid (fun W (h : EntsAt W g.E G) => rfew10_is g G W h hk.lg hmx)
 have HRV := Lib.hid (fun (hs : Sm g G) W (h : GrK W g L G) => rvalid10_any g L G W h hs hw)
 have HGW := Lib.hid hw
 obtain ⟨s0, hs0⟩ : ∃ s0, w.heap.size = s0 := ⟨_, rfl⟩
 obtain ⟨w2, hw2⟩ : ∃ w2, (w.alloc (.cells #[.string g.cur, .int .i64 g.cy, .int .i64 g.cm, .int .i64 g.cp, .slice g.A g.n g.c, .int .i64 g.r0, .int .i64 g.r1, .int .i64 g.r2, .int .i64 g.r3, .int .i64 g.r4, .int .i64 g.r5, .int .i64 g.r6, .int .i64 g.r7, .int .i64 g.r8, .int .i64 g.r9, .int .i64 g.r10, .int .i64 g.r11, .int .i64 g.r12, .int .i64 g.r13, .int .i64 g.r14, .slice g.E g.m g.d] 29)).alloc (.cells #[.int .i64 x.e, .int .i64 x.p, .bool x.u] 73) = w2 := ⟨_, rfl⟩
 have HGB : Hid (Wh 29 w2 s0 (grpC g)) := Lib.hid (by rw [← hw2, ← hs0]; exact (Wh.new w 29 (grpC g)).up (below_alloc_new _))
 have HXB : Hid (Wh 73 w2 (s0 + 1) [.int .i64 x.e, .int .i64 x.p, .bool x.u]) := Lib.hid (by
  rw [← hw2, ← hs0]
  have h9 := Wh.new (w.alloc (.cells #[.string g.cur, .int .i64 g.cy, .int .i64 g.cm, .int .i64 g.cp, .slice g.A g.n g.c, .int .i64 g.r0, .int .i64 g.r1, .int .i64 g.r2, .int .i64 g.r3, .int .i64 g.r4, .int .i64 g.r5, .int .i64 g.r6, .int .i64 g.r7, .int .i64 g.r8, .int .i64 g.r9, .int .i64 g.r10, .int .i64 g.r11, .int .i64 g.r12, .int .i64 g.r13, .int .i64 g.r14, .slice g.E g.m g.d] 29)) 73 [.int .i64 x.e, .int .i64 x.p, .bool x.u]
  rw [World.size_alloc] at h9
  exact h9)
 have HB2 : Hid (Below w.heap.size w w2) := Lib.hid (by rw [← hw2]; exact below_new (below_alloc_new _) _)
 have HKC := Lib.hid (hk.up HB2.out)
 have HSC := Lib.hid (hS.up HB2.out)
 have HOK := Lib.hid hok
 have HS0 := Lib.hid hs0
 have HNL := Lib.hid hn
 have HBC := Lib.hid (Below.refl w2.heap.size w2)
 obtain ⟨GV, hGV⟩ : ∃ GV, GV = grpV g := ⟨_, rfl⟩
 have HLG : Hid (∀ w9, Below w2.heap.size w2 w9 → (Instr.loadAt 29 (.pointer (some ⟨s0, 0, none⟩))).run Tryz.prog w9 = .ok GV w9) := Lib.hid (fun w9 h9 => by rw [hGV, grpV_is]; exact (HGB.out.up h9).rg.load 0 29 (grpC g) rfl _ Tryz.underlying29 rfl (by kernel_rfl))
 rw [← hGV] at HFW HRV
 have HGV := Lib.hid hGV
 obtain ⟨SV, hSV⟩ : ∃ SV, SV = stpV x := ⟨_, rfl⟩
 have HLS : Hid (∀ w9, Below w2.heap.size w2 w9 → (Instr.loadAt 73 (.pointer (some ⟨s0 + 1, 0, none⟩))).run Tryz.prog w9 = .ok SV w9) := Lib.hid (fun w9 h9 => by rw [hSV]; exact (HXB.out.up h9).rg.load 0 73 (stpC x) rfl _ Tryz.underlying73 rfl (by kernel_rfl))
 have HDN := Lib.hid (fun W => do_nil x W)
 rw [← hSV] at HDN
 have HSV := Lib.hid hSV
 clear hSV
 clear hk hGV hw hS hok hn hmx
 have HM1 : True := trivial
 have HM2 : True := trivial
 have HM3 : True := trivial
 have HM4 : True := trivial
 have HM5 : True := trivial
 have HM6 : True := trivial
 cases hf : few10 g G
 ·rw [hf] at HFW
  clear hf
  go_enter Tryz.func10, Tryz.ntmps10
  go_wp2_with (first
   | (go_at_call 36; refine (until_nil _).mono ?_; rintro e w3 ⟨rfl, rfl⟩)
   | (go_at_call 27; refine (HAW.out _).mono ?_; rintro e w3 ⟨rfl, hb⟩; have hB3 := Lib.hid (HBC.out.trans (hb.mono HBC.out.size)); clear hb HBC; have HBC := hB3; clear hB3)
   | (clear HM5; refine wpList_load_if (by rfl) 73 _ rfl (.pointer (some ⟨s0 + 1, 0, none⟩)) rfl SV (HLS.out _ HBC.out) ?_)
   | (go_at_call 33; refine (HDN.out _).mono ?_; rintro e w3 ⟨rfl, hb⟩; have hB3 := Lib.hid (HBC.out.trans (hb.mono HBC.out.size)); clear hb HBC; have HBC := hB3; clear hB3)
   | (refine wpList_build_if (by rfl) 46 _ rfl [] rfl (etyV (etyD 0 0)) (run_build _ 46 _ _ (by kernel_rfl)) ?_)
   | (go_at_call 38; refine (check_nil (etyD 0 0)).mono ?_; rintro e w3 ⟨rfl, hb⟩; have hB3 := Lib.hid (HBC.out.trans (hb.mono HBC.out.size)); clear hb HBC; have HBC := hB3; clear hB3)
   | (go_at_call 48; refine lclone_nil.mono ?_; rintro e w3 ⟨rfl, rfl⟩)
   | (go_at_call 34; refine (llkd_nil _ _ _).mono ?_; rintro e w3 ⟨rfl, rfl⟩)
   | (go_at_call 42; refine list_nil.mono ?_; rintro e w3 ⟨rfl, rfl⟩)
   | (clear HM1; refine wpList_load_is rfl 29 _ rfl (.pointer (some ⟨s0, 0, none⟩)) rfl GV (HLG.out _ HBC.out) ?_)
   | (go_at_call 28; refine (HFW.out _ (HKC.out.up HBC.out).he).mono ?_; rintro e w3 ⟨rfl, hb⟩; have hB3 := Lib.hid (HBC.out.trans (hb.mono HBC.out.size)); clear hb HBC; have HBC := hB3; clear hB3))
  go_ret
  exact ⟨by first | rfl | simp, (by have h9 := HB2.out.trans (HBC.out.mono HB2.out.size); first | exact h9 | (rw [← HS0.out]; exact h9))⟩
 ·rw [hf] at HFW
  have HSM := Lib.hid (few_sm hf)
  clear hf
  by_cases hl : n ≤ 30
  ·have hlz : decide ((n : Int) > 30) = false := decide_eq_false (by omega)
   have hly : decide ((30 : Int) < (n : Int)) = false := decide_eq_false (by omega)
   cases hv : grpR g L G
   ·rw [hv] at HRV
    clear hv
    go_enter Tryz.func10, Tryz.ntmps10
    go_wp2_with (first
     | (go_at_call 36; refine (until_nil _).mono ?_; rintro e w3 ⟨rfl, rfl⟩)
     | (go_at_call 27; refine (HAW.out _).mono ?_; rintro e w3 ⟨rfl, hb⟩; have hB3 := Lib.hid (HBC.out.trans (hb.mono HBC.out.size)); clear hb HBC; have HBC := hB3; clear hB3)
     | (clear HM5; refine wpList_load_if (by rfl) 73 _ rfl (.pointer (some ⟨s0 + 1, 0, none⟩)) rfl SV (HLS.out _ HBC.out) ?_)
     | (go_at_call 33; refine (HDN.out _).mono ?_; rintro e w3 ⟨rfl, hb⟩; have hB3 := Lib.hid (HBC.out.trans (hb.mono HBC.out.size)); clear hb HBC; have HBC := hB3; clear hB3)
     | (refine wpList_build_if (by rfl) 46 _ rfl [] rfl (etyV (etyD 0 0)) (run_build _ 46 _ _ (by kernel_rfl)) ?_)
     | (go_at_call 38; refine (check_nil (etyD 0 0)).mono ?_; rintro e w3 ⟨rfl, hb⟩; have hB3 := Lib.hid (HBC.out.trans (hb.mono HBC.out.size)); clear hb HBC; have HBC := hB3; clear hB3)
     | (go_at_call 48; refine lclone_nil.mono ?_; rintro e w3 ⟨rfl, rfl⟩)
     | (go_at_call 34; refine (llkd_nil _ _ _).mono ?_; rintro e w3 ⟨rfl, rfl⟩)
     | (go_at_call 42; refine list_nil.mono ?_; rintro e w3 ⟨rfl, rfl⟩)
     | (clear HM1; refine wpList_load_is rfl 29 _ rfl (.pointer (some ⟨s0, 0, none⟩)) rfl GV (HLG.out _ HBC.out) ?_)
     | (go_at_call 28; refine (HFW.out _ (HKC.out.up HBC.out).he).mono ?_; rintro e w3 ⟨rfl, hb⟩; have hB3 := Lib.hid (HBC.out.trans (hb.mono HBC.out.size)); clear hb HBC; have HBC := hB3; clear hB3)
     | (clear HM2; refine wpList_load_if (by rfl) 29 _ rfl (.pointer (some ⟨s0, 0, none⟩)) rfl GV (HLG.out _ HBC.out) ?_)
     | (go_at_call 43; refine (HRV.out HSM.out _ (HKC.out.up HBC.out)).mono ?_; rintro e w3 ⟨rfl, hb⟩; have hB3 := Lib.hid (HBC.out.trans (hb.mono HBC.out.size)); clear hb HBC; have HBC := hB3; clear hB3))
    go_ret
    exact ⟨by first | rfl | simp, (by have h9 := HB2.out.trans (HBC.out.mono HB2.out.size); first | exact h9 | (rw [← HS0.out]; exact h9))⟩
   ·rw [hv] at HRV
    have HV : Hid (grpP g L G = true) := Lib.hid ((grp_eq g L G).trans hv)
    have HL30 := Lib.hid hl
    clear hv
    obtain ⟨Kl, hK⟩ : ∃ Kl, stpsL (g.m : Int) g.cp S = Kl := ⟨_, rfl⟩
    have HKL : Hid (Kl.length ≤ 30) := Lib.hid (by rw [← hK]; have := stpsL_len (g.m : Int) g.cp S; rw [HNL.out] at this; exact Nat.le_trans this hl)
    have HFL := Lib.hid (fun W (h : GrK W g L G) (h2 : RowAt lyS W A S) => by have h9 := filled_any g L G A c S W h HSM.out HGW.out HV.out h2 HOK.out (by rw [HNL.out]; omega); rw [HNL.out, ← HGV.out] at h9; exact h9)
    have HKE := Lib.hid hK
    have HHX := Lib.hid hx
    clear hK
    go_enter Tryz.func10, Tryz.ntmps10
    go_upto_region 7 with (first
     | (go_at_call 36; refine (until_nil _).mono ?_; rintro e w3 ⟨rfl, rfl⟩)
     | (go_at_call 27; refine (HAW.out _).mono ?_; rintro e w3 ⟨rfl, hb⟩; have hB3 := Lib.hid (HBC.out.trans (hb.mono HBC.out.size)); clear hb HBC; have HBC := hB3; clear hB3)
     | (clear HM5; refine wpList_load_if (by rfl) 73 _ rfl (.pointer (some ⟨s0 + 1, 0, none⟩)) rfl SV (HLS.out _ HBC.out) ?_)
     | (go_at_call 33; refine (HDN.out _).mono ?_; rintro e w3 ⟨rfl, hb⟩; have hB3 := Lib.hid (HBC.out.trans (hb.mono HBC.out.size)); clear hb HBC; have HBC := hB3; clear hB3)
     | (refine wpList_build_if (by rfl) 46 _ rfl [] rfl (etyV (etyD 0 0)) (run_build _ 46 _ _ (by kernel_rfl)) ?_)
     | (go_at_call 38; refine (check_nil (etyD 0 0)).mono ?_; rintro e w3 ⟨rfl, hb⟩; have hB3 := Lib.hid (HBC.out.trans (hb.mono HBC.out.size)); clear hb HBC; have HBC := hB3; clear hB3)
     | (go_at_call 48; refine lclone_nil.mono ?_; rintro e w3 ⟨rfl, rfl⟩)
     | (go_at_call 34; refine (llkd_nil _ _ _).mono ?_; rintro e w3 ⟨rfl, rfl⟩)
     | (go_at_call 42; refine list_nil.mono ?_; rintro e w3 ⟨rfl, rfl⟩)
     | (clear HM1; refine wpList_load_is rfl 29 _ rfl (.pointer (some ⟨s0, 0, none⟩)) rfl GV (HLG.out _ HBC.out) ?_)
     | (go_at_call 28; refine (HFW.out _ (HKC.out.up HBC.out).he).mono ?_; rintro e w3 ⟨rfl, hb⟩; have hB3 := Lib.hid (HBC.out.trans (hb.mono HBC.out.size)); clear hb HBC; have HBC := hB3; clear hB3)
     | (clear HM2; refine wpList_load_if (by rfl) 29 _ rfl (.pointer (some ⟨s0, 0, none⟩)) rfl GV (HLG.out _ HBC.out) ?_)
     | (go_at_call 43; refine (HRV.out HSM.out _ (HKC.out.up HBC.out)).mono ?_; rintro e w3 ⟨rfl, hb⟩; have hB3 := Lib.hid (HBC.out.trans (hb.mono HBC.out.size)); clear hb HBC; have HBC := hB3; clear hB3))
    have HP1 : True := trivial
    have HP2 : True := trivial
    have HP3 : True := trivial
    have HP4 : True := trivial
    have HP5 : True := trivial
    have HP6 : True := trivial
    have HP7 : True := trivial
    have HP8 : True := trivial
    have HP9 : True := trivial
    go_wp2_with (first
     | (clear HM3; refine wpList_load_is rfl 29 _ rfl (.pointer (some ⟨s0, 0, none⟩)) rfl GV (HLG.out _ HBC.out) ?_)
     | (go_at_call 44; refine (HFL.out _ (HKC.out.up HBC.out) (HSC.out.up HBC.out)).mono ?_; rintro e w4 ⟨⟨j1, rfl, hq1, hj1, hb1, hm1⟩, hb⟩; rw [HNL.out, HKE.out] at hj1; have HJ1 := Lib.hid hj1; clear hq1 hj1 hb1 hm1; have hB3 := Lib.hid (HBC.out.trans (hb.mono HBC.out.size)); clear hb HBC; have HBC := hB3; clear hB3)
     | (go_at_call 48; refine (lclone_any j1 n Kl _ HJ1.out).mono ?_; rintro e w5 ⟨⟨cb, cm, rfl, hj2, hb2, hm2⟩, hb⟩; have HJ2 := Lib.hid hj2; have HNE : Hid (j1.bm ≠ cm) := Lib.hid (by have := HJ1.out.mp.lt; omega); have HCM : Hid (w2.heap.size ≤ cm) := Lib.hid (Nat.le_trans HBC.out.size hm2); have HJ1a := Lib.hid (HJ1.out.up hb); clear hj2 hb2 hm2 HJ1; have hB3 := Lib.hid (HBC.out.trans (hb.mono HBC.out.size)); clear hb HBC; have HBC := hB3; clear hB3)
     | (go_at_call 42; first
      | (clear HP1; refine (list_any j1 n Kl _ HJ1a.out (by have := HL30.out; omega)).mono ?_; rintro e w6 ⟨⟨A5, c5, rfl, hr5⟩, hb⟩; have HR5 := Lib.hid hr5; have HJ1b := Lib.hid (HJ1a.out.up hb); have HJ2b := Lib.hid (HJ2.out.up hb); clear hr5; have hB3 := Lib.hid (HBC.out.trans (hb.mono HBC.out.size)); clear hb HBC; have HBC := hB3; clear hB3)
      | (clear HP2; refine (list_any ⟨cb, j1.n, j1.y, j1.m, j1.k, cm⟩ n Kl _ HJ2c.out (by have := HL30.out; omega)).mono ?_; rintro e w8 ⟨⟨A7, c7, rfl, hr7⟩, hb⟩; have HR7 := Lib.hid hr7; have HJ1d := Lib.hid (HJ1c.out.up hb); have HJ2d := Lib.hid (HJ2c.out.up hb); have HU7 := Lib.hid (HU6.out.up hb); clear hr7; have hB3 := Lib.hid (HBC.out.trans (hb.mono HBC.out.size)); clear hb HBC; have HBC := hB3; clear hB3)
      | (clear HP3; refine (list_any j1 n Kl _ HJ1g.out (by have := HL30.out; omega)).mono ?_; rintro e w13 ⟨⟨A13, c13, rfl, hr13⟩, hb⟩; have HR13 := Lib.hid hr13; have HU13 := Lib.hid (HU11.out.up hb); clear hr13; have HBX := Lib.hid (HBW.out.trans (hb.mono HBW.out.size)); clear hb))
     | (go_at_call 41; first
      | (clear HP4; refine (from_any A5 c5 Kl _ HR5.out (by have := HKL.out; omega)).mono ?_; rintro e w7 ⟨⟨A6, c6, rfl, hu6⟩, hb⟩; have HU6 := Lib.hid hu6; have HBN := Lib.hid HJ2b.out.mp.lt; have HJ1c := Lib.hid (HJ1b.out.up hb); have HJ2c := Lib.hid (HJ2b.out.up hb); clear hu6; have hB3 := Lib.hid (HBC.out.trans (hb.mono HBC.out.size)); clear hb HBC; have HBC := hB3; clear hB3)
      | (clear HP5; refine (from_any A7 c7 Kl _ HR7.out (by have := HKL.out; omega)).mono ?_; rintro e w9 ⟨hq, hb⟩; obtain ⟨A8, c8, rfl, hu8⟩ := rk_row hq; have HU8 := Lib.hid hu8; have HJ1e := Lib.hid (HJ1d.out.up hb); have HJ2e := Lib.hid (HJ2d.out.up hb); have HV8 := Lib.hid (HU7.out.up hb); clear hq hu8; have hB3 := Lib.hid (HBC.out.trans (hb.mono HBC.out.size)); clear hb HBC; have HBC := hB3; clear hB3)
      | (clear HP6; refine (from_any A13 c13 Kl _ HR13.out (by have := HKL.out; omega)).mono ?_; rintro e w14 ⟨hq, hb⟩; obtain ⟨A14, c14, rfl, hu14⟩ := rk_row hq; have HU14 := Lib.hid hu14; have HV14 := Lib.hid (HU13.out.up hb); clear hq hu14; have HBY := Lib.hid (HBX.out.trans (hb.mono HBX.out.size)); clear hb))
     | (go_at_call 40; first
      | (clear HP7; refine (same13_any A8 A6 c8 c6 Kl Kl _ HU8.out (ownP_row HV8.out) (by have := HKL.out; omega) (by have := HKL.out; omega)).mono ?_; rw [decide_eq_true (show Kl = Kl from rfl)]; rintro e w10 ⟨rfl, hb⟩; have HJ1f := Lib.hid (HJ1e.out.up hb); have HJ2f := Lib.hid (HJ2e.out.up hb); have HV10 := Lib.hid (HV8.out.up hb); have hB3 := Lib.hid (HBC.out.trans (hb.mono HBC.out.size)); clear hb HBC; have HBC := hB3; clear hB3)
      | (clear HP8; refine (same13_any A14 A6 c14 c6 Kl Kl _ HU14.out (ownP_row HV14.out) (by have := HKL.out; omega) (by have := HKL.out; omega)).mono ?_; rw [decide_eq_true (show Kl = Kl from rfl)]; rintro e w15 ⟨rfl, hb⟩; have HBZ := Lib.hid (HBY.out.trans (hb.mono HBY.out.size)); clear hb))
     | (clear HM4; refine wpList_load_is rfl 73 _ rfl (.pointer (some ⟨s0 + 1, 0, none⟩)) rfl SV (HLS.out _ HBC.out) ?_)
     | (clear HP9; go_at_call 33; rw [HSV.out]; refine (do_any x HJ2f.out HHX.out (by have := HL30.out; omega)).mono ?_; rintro e w11 ⟨rfl, -, o11⟩; have HO11 := Lib.hid o11; have HJ1g := Lib.hid (HJ1f.out.apart HJ2f.out HNE.out o11); have HU11 := Lib.hid (HV10.out.blk fun gg hg => o11.blk gg (HV10.out.lt hg).2 (fun e => by have h8 : gg = cm := e; have h7 := (HV10.out.lt hg).1; have h6 : cm < _ := HBN.out; omega)); have HBW : Hid (Below w2.heap.size w2 w11) := Lib.hid (HBC.out.trans (o11.below (fun i hi => by have h8 : i = cm := hi; have := HCM.out; omega) HBC.out.size)); clear o11))
    go_ret
    exact ⟨by first | rfl | simp, (by have h9 := HB2.out.trans (HBZ.out.mono HB2.out.size); first | exact h9 | (rw [← HS0.out]; exact h9))⟩
  ·have hlz : decide ((n : Int) > 30) = true := decide_eq_true (by omega)
   have hly : decide ((30 : Int) < (n : Int)) = true := decide_eq_true (by omega)
   clear hl
   go_enter Tryz.func10, Tryz.ntmps10
   go_wp2_with (first
    | (go_at_call 36; refine (until_nil _).mono ?_; rintro e w3 ⟨rfl, rfl⟩)
    | (go_at_call 27; refine (HAW.out _).mono ?_; rintro e w3 ⟨rfl, hb⟩; have hB3 := Lib.hid (HBC.out.trans (hb.mono HBC.out.size)); clear hb HBC; have HBC := hB3; clear hB3)
    | (clear HM5; refine wpList_load_if (by rfl) 73 _ rfl (.pointer (some ⟨s0 + 1, 0, none⟩)) rfl SV (HLS.out _ HBC.out) ?_)
    | (go_at_call 33; refine (HDN.out _).mono ?_; rintro e w3 ⟨rfl, hb⟩; have hB3 := Lib.hid (HBC.out.trans (hb.mono HBC.out.size)); clear hb HBC; have HBC := hB3; clear hB3)
    | (refine wpList_build_if (by rfl) 46 _ rfl [] rfl (etyV (etyD 0 0)) (run_build _ 46 _ _ (by kernel_rfl)) ?_)
    | (go_at_call 38; refine (check_nil (etyD 0 0)).mono ?_; rintro e w3 ⟨rfl, hb⟩; have hB3 := Lib.hid (HBC.out.trans (hb.mono HBC.out.size)); clear hb HBC; have HBC := hB3; clear hB3)
    | (go_at_call 48; refine lclone_nil.mono ?_; rintro e w3 ⟨rfl, rfl⟩)
    | (go_at_call 34; refine (llkd_nil _ _ _).mono ?_; rintro e w3 ⟨rfl, rfl⟩)
    | (go_at_call 42; refine list_nil.mono ?_; rintro e w3 ⟨rfl, rfl⟩)
    | (clear HM1; refine wpList_load_is rfl 29 _ rfl (.pointer (some ⟨s0, 0, none⟩)) rfl GV (HLG.out _ HBC.out) ?_)
    | (go_at_call 28; refine (HFW.out _ (HKC.out.up HBC.out).he).mono ?_; rintro e w3 ⟨rfl, hb⟩; have hB3 := Lib.hid (HBC.out.trans (hb.mono HBC.out.size)); clear hb HBC; have HBC := hB3; clear hB3))
   go_ret
   exact ⟨by first | rfl | simp, (by have h9 := HB2.out.trans (HBC.out.mono HB2.out.size); first | exact h9 | (rw [← HS0.out]; exact h9))⟩
end Go.Proofs.YtaeccljkmijpaaaGreat
