/- Contracts and the law of CarrySums, part 1: what was proved of each, callees first. -/
import Derived.Test.YtompehjecamdiaaGreatCZ7
namespace Go.Proofs.YtompehjecamdiaaGreat
open Go.RowKit Go.Maps
theorem cy_store_wh {P : Program} {o : Oper} {a : Act} {w : World} {K : Act → World → Prop} {Q : Exit → Act → World → Prop} (ty : TypeId) (x y : Operand) (hop : o.op = .store ty x y)
  (b : Nat) (hx : a.eval x = .pointer (some ⟨b, 0, none⟩)) (t : TypeId) (cs vs : List Value) (hy : a.eval y = .agg vs.toArray) (hw : Wh t w b cs) (hl : vs.length = cs.length)
  (hi : (P.info? ty).map (·.size) = some vs.toArray.size) (h1 : vs.toArray.all (·.oneCell') = true)
  (h : ∀ W, Hid (Wh t W b vs) → Hid (Only (fun k => k = b) w W) → W.heap.size = w.heap.size → K (a.put o.dst undef) W) : Oper.wp P o a w K Q :=
 wp_store_mid ty x y hop b 0 vs.toArray hx hy (hw.there (by simp [hl])) hi h1 (h _ (Lib.hid (hw.put vs hl)) (Lib.hid (Only.setCells (S := fun k => k = b) rfl vs 0 w)) (by
  have : ∀ (vs : List Value) (o : Nat) (w : World), (w.setCells b o vs).heap.size = w.heap.size := by
   intro vs
   induction vs with
   | nil => intro o w; rfl
   | cons v r ih => intro o w; rw [World.setCells, ih]; exact World.size_setCell _ _ _
  exact this _ _ _))
def cyK (t : TypeId) (zs : List Value) (w0 : World) : Nat → List Value → World → Prop
 | 0, _, W => Below w0.heap.size w0 W
 | 1, l, W => Below w0.heap.size w0 W ∧ ∀ v, l = [v] → ∃ g, v = .pointer (some ⟨g, 0, none⟩) ∧ w0.heap.size ≤ g ∧ Wh t W g zs
 | _ + 2, _, W => Below w0.heap.size w0 W
theorem cyK.low {t : TypeId} {zs : List Value} {w0 W : World} : ∀ {k : Nat} {l : List Value}, cyK t zs w0 k l W → Below w0.heap.size w0 W
 | 0, _, h => h
 | 1, _, h => h.1
 | _ + 2, _, h => h
theorem cyK.st {t : TypeId} {zs : List Value} {w0 W W' : World} (hb : Below W.heap.size W W') : ∀ {k : Nat} {l : List Value}, cyK t zs w0 k l W → cyK t zs w0 k l W'
 | 0, _, h => Below.trans h (hb.mono (Below.size h))
 | 1, _, h => ⟨h.1.trans (hb.mono h.1.size), fun v hv => by obtain ⟨g, h1, h2, h3⟩ := h.2 v hv; exact ⟨g, h1, h2, h3.up hb⟩⟩
 | _ + 2, _, h => Below.trans h (hb.mono (Below.size h))
theorem cyK.one {t : TypeId} {zs : List Value} {w0 W : World} (h : Below w0.heap.size w0 W) : cyK t zs w0 1 [.pointer (some ⟨W.heap.size, 0, none⟩)] (W.alloc (.cells zs.toArray t)) :=
 ⟨h.trans ((below_alloc_new _).mono h.size), fun v hv => by cases hv; exact ⟨_, rfl, h.size, Wh.new W t zs⟩⟩
set_option maxRecDepth 100000 in
set_option maxHeartbeats 6400000 in
theorem rycheck_any (g : Grp) (L : List Acc) (G : List Ent) (p : Int) (w : World) (hk : GrK w g L G) (hs : Sm g G) (hw : GrW g L G) : Calls Tryz.prog 41 #[grpV g, .int .i64 p] w fun e w' => e = .returned (.int .i64 (cyE g L G p)) ∧ Below w.heap.size w w' := by
 obtain ⟨GV, hGV⟩ : ∃ GV, GV = grpV g := ⟨_, rfl⟩
 obtain ⟨gs, hgs⟩ : ∃ gs, (grpC g).toArray = gs := ⟨_, rfl⟩
 obtain ⟨s0, hs0⟩ : ∃ s0, w.heap.size = s0 := ⟨_, rfl⟩
 obtain ⟨w2, hw2⟩ : ∃ w2, w.alloc (.cells gs 29) = w2 := ⟨_, rfl⟩
 have HGB : Hid (Wh 29 w2 s0 (grpC g)) := Lib.hid (by rw [← hw2, ← hgs, ← hs0]; exact (Wh.new w 29 (grpC g)))
 have HB2 : Hid (Below w.heap.size w w2) := Lib.hid (by rw [← hw2]; exact below_alloc_new _)
 have HS0 := Lib.hid hs0
 have HLG : Hid (∀ W, Below w2.heap.size w2 W → (Instr.loadAt 29 (.pointer (some ⟨s0, 0, none⟩))).run Tryz.prog W = .ok GV W) := Lib.hid (fun W h => by rw [hGV, grpV_is]; exact (HGB.out.up h).rg.load 0 29 (grpC g) rfl _ Tryz.underlying29 rfl (by kernel_rfl))
 have HBC : Hid (Below w2.heap.size w2 w2) := Lib.hid (Below.refl _ _)
 have HBW : Hid (∀ W, Below w2.heap.size w2 W → Below w.heap.size w W) := Lib.hid (fun W h => HB2.out.trans (h.mono HB2.out.size))
 have HS2 : Hid (s0 + 1 ≤ w2.heap.size) := Lib.hid (by rw [← hw2, ← hs0]; simp)
 have HVL := Lib.hid (fun W (hb : Below w2.heap.size w2 W) => by have h9 := rvalid10_any g L G W ((hk.up HB2.out).up hb) hs hw; rw [← grp_eq] at h9; exact h9)
 have HC3 : Hid (∀ W, Below w2.heap.size w2 W → W.cell? ⟨s0, 3, none⟩ = some (.int .i64 g.cp)) := Lib.hid (fun W hb => (HGB.out.up hb).at 3 _ rfl)
 have hGS : GV = .agg gs := by rw [hGV, grpV_is, hgs]
 rw [← hGV] at HVL ⊢
 rw [hGS]
 clear hGS hGV
 have hbad := fun h => cyE_bad (g := g) (L := L) (G := G) (p := p) h
 have hout := fun h h2 => cyE_out (g := g) (L := L) (G := G) (p := p) h h2
 have hin := fun h h2 => cyE_in (g := g) (L := L) (G := G) (p := p) h h2
 generalize cyE g L G p = E at *
 generalize grpP g L G = q at *
 obtain ⟨cp, hcp⟩ : ∃ cp, g.cp = cp := ⟨_, rfl⟩
 rw [hcp] at HC3 hout hin
 clear hk hs hw hcp
 have HM1 : True := trivial
 cases q
 ·have HE := Lib.hid (hbad rfl)
  clear hbad hout hin
  go_enter Tryz.func41, Tryz.ntmps41
  go_wp2_with (first
   | (clear HM1; refine wpList_load_is rfl 29 _ rfl (.pointer (some ⟨s0, 0, none⟩)) rfl GV (HLG.out _ HBC.out) ?_)
   | (go_at_call 11; refine (HVL.out _ HBC.out).mono ?_; rintro r w3 ⟨rfl, hb⟩; have hB3 := Lib.hid (HBC.out.trans (hb.mono HBC.out.size)); clear HBC; have HBC := hB3; clear hB3; have C3 := HC3.out _ HBC.out; clear hb))
  go_ret
  exact ⟨by rw [HE.out]; rfl, by have h9 := HBW.out _ HBC.out; first | exact h9 | (rw [← HS0.out]; exact h9)⟩
 ·by_cases h0 : p < 0
  ·have HE := Lib.hid (hout rfl (by omega))
   have h1 : decide (p < 0) = true := decide_eq_true h0
   clear hbad hout hin h0
   go_enter Tryz.func41, Tryz.ntmps41
   go_wp2_with (first
    | (clear HM1; refine wpList_load_is rfl 29 _ rfl (.pointer (some ⟨s0, 0, none⟩)) rfl GV (HLG.out _ HBC.out) ?_)
    | (go_at_call 11; refine (HVL.out _ HBC.out).mono ?_; rintro r w3 ⟨rfl, hb⟩; have hB3 := Lib.hid (HBC.out.trans (hb.mono HBC.out.size)); clear HBC; have HBC := hB3; clear hB3; have C3 := HC3.out _ HBC.out; clear hb))
   go_ret
   exact ⟨by rw [HE.out]; rfl, by have h9 := HBW.out _ HBC.out; first | exact h9 | (rw [← HS0.out]; exact h9)⟩
  ·have h1 : decide (p < 0) = false := decide_eq_false h0
   by_cases h2 : cp ≤ p
   ·have HE := Lib.hid (hout rfl (by omega))
    have h3 : decide (cp ≤ p) = true := decide_eq_true h2
    clear hbad hout hin h0 h2
    go_enter Tryz.func41, Tryz.ntmps41
    go_wp2_with (first
     | (clear HM1; refine wpList_load_is rfl 29 _ rfl (.pointer (some ⟨s0, 0, none⟩)) rfl GV (HLG.out _ HBC.out) ?_)
     | (go_at_call 11; refine (HVL.out _ HBC.out).mono ?_; rintro r w3 ⟨rfl, hb⟩; have hB3 := Lib.hid (HBC.out.trans (hb.mono HBC.out.size)); clear HBC; have HBC := hB3; clear hB3; have C3 := HC3.out _ HBC.out; clear hb))
    go_ret
    exact ⟨by rw [HE.out]; rfl, by have h9 := HBW.out _ HBC.out; first | exact h9 | (rw [← HS0.out]; exact h9)⟩
   ·have HE := Lib.hid (hin rfl (by omega))
    have h3 : decide (cp ≤ p) = false := decide_eq_false h2
    clear hbad hout hin h0 h2
    go_enter Tryz.func41, Tryz.ntmps41
    go_wp2_with (first
     | (clear HM1; refine wpList_load_is rfl 29 _ rfl (.pointer (some ⟨s0, 0, none⟩)) rfl GV (HLG.out _ HBC.out) ?_)
     | (go_at_call 11; refine (HVL.out _ HBC.out).mono ?_; rintro r w3 ⟨rfl, hb⟩; have hB3 := Lib.hid (HBC.out.trans (hb.mono HBC.out.size)); clear HBC; have HBC := hB3; clear hB3; have C3 := HC3.out _ HBC.out; clear hb))
    go_ret
    exact ⟨by rw [HE.out]; rfl, by have h9 := HBW.out _ HBC.out; first | exact h9 | (rw [← HS0.out]; exact h9)⟩
set_option maxRecDepth 100000 in
set_option maxHeartbeats 6400000 in
theorem ryshown_any (g : Grp) (L : List Acc) (G : List Ent) (c d p : Int) (w : World) (hk : GrK w g L G) (hs : Sm g G) : Calls Tryz.prog 22 #[grpV g, .int .i64 c, .int .i64 d, .int .i64 p] w fun e w' => e = .returned (.int .i64 (plI L g.r6 (cyB g p) c d)) ∧ Below w.heap.size w w' := by
 obtain ⟨GV, hGV⟩ : ∃ GV, GV = grpV g := ⟨_, rfl⟩
 obtain ⟨gs, hgs⟩ : ∃ gs, (grpC g).toArray = gs := ⟨_, rfl⟩
 obtain ⟨s0, hs0⟩ : ∃ s0, w.heap.size = s0 := ⟨_, rfl⟩
 obtain ⟨w2, hw2⟩ : ∃ w2, w.alloc (.cells gs 29) = w2 := ⟨_, rfl⟩
 have HGB : Hid (Wh 29 w2 s0 (grpC g)) := Lib.hid (by rw [← hw2, ← hgs, ← hs0]; exact (Wh.new w 29 (grpC g)))
 have HB2 : Hid (Below w.heap.size w w2) := Lib.hid (by rw [← hw2]; exact below_alloc_new _)
 have HS0 := Lib.hid hs0
 have HLG : Hid (∀ W, Below w2.heap.size w2 W → (Instr.loadAt 29 (.pointer (some ⟨s0, 0, none⟩))).run Tryz.prog W = .ok GV W) := Lib.hid (fun W h => by rw [hGV, grpV_is]; exact (HGB.out.up h).rg.load 0 29 (grpC g) rfl _ Tryz.underlying29 rfl (by kernel_rfl))
 have HBC : Hid (Below w2.heap.size w2 w2) := Lib.hid (Below.refl _ _)
 have HBW : Hid (∀ W, Below w2.heap.size w2 W → Below w.heap.size w W) := Lib.hid (fun W h => HB2.out.trans (h.mono HB2.out.size))
 have HS2 : Hid (s0 + 1 ≤ w2.heap.size) := Lib.hid (by rw [← hw2, ← hs0]; simp)
 have HRS := Lib.hid (fun W (hb : Below w2.heap.size w2 W) => rres_any g L c W ((hk.up HB2.out).up hb).hz hk.ln (by have := hs.n; omega))
 have HBG := Lib.hid (fun W => rbegin7_any g.cy g.cm g.cp p W)
 have HLC : Hid (∀ W, Below w2.heap.size w2 W → (Instr.loadAt 23 (.pointer (some ⟨s0, 1, none⟩))).run Tryz.prog W = .ok (calV g.cy g.cm g.cp) W) := Lib.hid (fun W h => (HGB.out.up h).rg.load 1 23 [.int .i64 g.cy, .int .i64 g.cm, .int .i64 g.cp] rfl _ Tryz.underlying23 rfl (by kernel_rfl))
 have HC11 : Hid (∀ W, Below w2.heap.size w2 W → W.cell? ⟨s0, 11, none⟩ = some (.int .i64 g.r6)) := Lib.hid (fun W hb => (HGB.out.up hb).at 11 _ rfl)
 have hGS : GV = .agg gs := by rw [hGV, grpV_is, hgs]
 rw [← hGV] at HRS ⊢
 rw [hGS]
 clear hGS hGV
 have hcb : cyB g p = pdB g.cy g.cm g.cp p := rfl
 have hp : plI L g.r6 (cyB g p) c d = if (resB L c && decide (d < cyB g p)) = true then g.r6 else c := rfl
 rw [hp, hcb]
 obtain ⟨b, hb⟩ : ∃ b, pdB g.cy g.cm g.cp p = b := ⟨_, rfl⟩
 rw [hb] at HBG ⊢
 generalize resB L c = q at *
 obtain ⟨r6, hr6⟩ : ∃ r6, g.r6 = r6 := ⟨_, rfl⟩
 rw [hr6] at HC11 ⊢
 generalize clE g.cy g.cm g.cp p = E0 at *
 clear hk hs hcb hp hb hr6
 have HM1 : True := trivial
 cases q
 ·go_enter Tryz.func22, Tryz.ntmps22
  go_wp2_with (first
   | (refine wpList_load_is rfl 23 _ rfl (.pointer (some ⟨s0, 1, none⟩)) rfl (calV g.cy g.cm g.cp) (HLC.out _ HBC.out) ?_)
   | (clear HM1; refine wpList_load_is rfl 29 _ rfl (.pointer (some ⟨s0, 0, none⟩)) rfl GV (HLG.out _ HBC.out) ?_)
   | (go_at_call 43; refine (HBG.out _).mono ?_; rintro r w3 ⟨rfl, hb⟩; have hB3 := Lib.hid (HBC.out.trans (hb.mono HBC.out.size)); clear HBC; have HBC := hB3; clear hB3; clear hb)
   | (go_at_call 44; refine (HRS.out _ HBC.out).mono ?_; rintro r w3 ⟨rfl, hb⟩; have hB3 := Lib.hid (HBC.out.trans (hb.mono HBC.out.size)); clear HBC; have HBC := hB3; clear hB3; have C11 := HC11.out _ HBC.out; clear hb))
  go_ret
  exact ⟨rfl, by have h9 := HBW.out _ HBC.out; first | exact h9 | (rw [← HS0.out]; exact h9)⟩
 ·by_cases hd : d < b
  ·have hd1 : decide (d < b) = true := decide_eq_true hd
   rw [hd1]
   clear hd
   go_enter Tryz.func22, Tryz.ntmps22
   go_wp2_with (first
    | (refine wpList_load_is rfl 23 _ rfl (.pointer (some ⟨s0, 1, none⟩)) rfl (calV g.cy g.cm g.cp) (HLC.out _ HBC.out) ?_)
    | (clear HM1; refine wpList_load_is rfl 29 _ rfl (.pointer (some ⟨s0, 0, none⟩)) rfl GV (HLG.out _ HBC.out) ?_)
    | (go_at_call 43; refine (HBG.out _).mono ?_; rintro r w3 ⟨rfl, hb⟩; have hB3 := Lib.hid (HBC.out.trans (hb.mono HBC.out.size)); clear HBC; have HBC := hB3; clear hB3; clear hb)
    | (go_at_call 44; refine (HRS.out _ HBC.out).mono ?_; rintro r w3 ⟨rfl, hb⟩; have hB3 := Lib.hid (HBC.out.trans (hb.mono HBC.out.size)); clear HBC; have HBC := hB3; clear hB3; have C11 := HC11.out _ HBC.out; clear hb))
   go_ret
   exact ⟨rfl, by have h9 := HBW.out _ HBC.out; first | exact h9 | (rw [← HS0.out]; exact h9)⟩
  ·have hd1 : decide (d < b) = false := decide_eq_false hd
   rw [hd1]
   clear hd
   go_enter Tryz.func22, Tryz.ntmps22
   go_wp2_with (first
    | (refine wpList_load_is rfl 23 _ rfl (.pointer (some ⟨s0, 1, none⟩)) rfl (calV g.cy g.cm g.cp) (HLC.out _ HBC.out) ?_)
    | (clear HM1; refine wpList_load_is rfl 29 _ rfl (.pointer (some ⟨s0, 0, none⟩)) rfl GV (HLG.out _ HBC.out) ?_)
    | (go_at_call 43; refine (HBG.out _).mono ?_; rintro r w3 ⟨rfl, hb⟩; have hB3 := Lib.hid (HBC.out.trans (hb.mono HBC.out.size)); clear HBC; have HBC := hB3; clear hB3; clear hb)
    | (go_at_call 44; refine (HRS.out _ HBC.out).mono ?_; rintro r w3 ⟨rfl, hb⟩; have hB3 := Lib.hid (HBC.out.trans (hb.mono HBC.out.size)); clear HBC; have HBC := hB3; clear hB3; have C11 := HC11.out _ HBC.out; clear hb))
   go_ret
   exact ⟨rfl, by have h9 := HBW.out _ HBC.out; first | exact h9 | (rw [← HS0.out]; exact h9)⟩
theorem rkno_no {L : List Acc} {X : List Lnk} {k : Nat} (hk : k < X.length) (h : (fnd L (X.getD k lnk0).frm).isSome = false) : cvN L X = 8 := by
 unfold cvN knoB
 rw [all_false_getD (d := lnk0) hk h]; rfl
theorem rkno_yes {L : List Acc} {X : List Lnk} (h : ∀ i, i < X.length → (fnd L (X.getD i lnk0).frm).isSome = true) : cvN L X = if amsB X = true then 0 else 1 := by
 unfold cvN knoB
 rw [(all_getD (d := lnk0)).2 h]; rfl
theorem rams_no {X : List Lnk} {k : Nat} (hk : k < X.length) (h : amtB (X.getD k lnk0).since = false) : amsB X = false := all_false_getD (d := lnk0) hk h
theorem rams_yes {X : List Lnk} (h : ∀ i, i < X.length → amtB (X.getD i lnk0).since = true) : amsB X = true := (all_getD (d := lnk0)).2 h
def rvaF (_s0 bb off n c k : Nat) (GV : Value) (x : Lnk) (fa : Acc) (q : Bool) : List (Nat × AK.Fact (SizeUp)) := [(25, AK.Fact.is (GV)), (26, AK.Fact.is (.slice (some ⟨bb, off, none⟩) n c)), (27, AK.Fact.is (.int .i64 (k : Int))), (28, AK.Fact.is (.pointer (some ⟨bb, off + k * 3, none⟩))), (29, AK.Fact.is (.pointer (some ⟨bb, off + k * 3, none⟩))), (30, AK.Fact.is (.int .i64 x.frm)), (31, AK.Fact.is (.tuple #[accV fa, .bool q])), (24, AK.Fact.is (.tuple #[accV fa, .bool q])), (32, AK.Fact.is (accV fa)), (33, AK.Fact.is (.bool q)), (9, AK.Fact.triv), (10, AK.Fact.is (.bool q))]
set_option maxRecDepth 100000 in
set_option maxHeartbeats 6400000 in
theorem ryvalid_any (g : Grp) (L : List Acc) (G : List Ent) (A : Option Addr) (c : Nat) (X : List Lnk) (p : Int) (w : World) (hk : GrK w g L G) (hs : Sm g G) (hw : GrW g L G) (hz : LnkAt w A X) (hl : X.length ≤ 1000) : Calls Tryz.prog 21 #[grpV g, .slice A X.length c, .int .i64 p] w fun e w' => e = .returned (.int .i64 (cvE g L G X p)) ∧ Below w.heap.size w w' := by
 obtain ⟨GV, hGV⟩ : ∃ GV, GV = grpV g := ⟨_, rfl⟩
 obtain ⟨gs, hgs⟩ : ∃ gs, (grpC g).toArray = gs := ⟨_, rfl⟩
 obtain ⟨s0, hs0⟩ : ∃ s0, w.heap.size = s0 := ⟨_, rfl⟩
 obtain ⟨w2, hw2⟩ : ∃ w2, w.alloc (.cells gs 29) = w2 := ⟨_, rfl⟩
 have HGB : Hid (Wh 29 w2 s0 (grpC g)) := Lib.hid (by rw [← hw2, ← hgs, ← hs0]; exact (Wh.new w 29 (grpC g)))
 have HB2 : Hid (Below w.heap.size w w2) := Lib.hid (by rw [← hw2]; exact below_alloc_new _)
 have HS0 := Lib.hid hs0
 have HLG : Hid (∀ W, Below w2.heap.size w2 W → (Instr.loadAt 29 (.pointer (some ⟨s0, 0, none⟩))).run Tryz.prog W = .ok GV W) := Lib.hid (fun W h => by rw [hGV, grpV_is]; exact (HGB.out.up h).rg.load 0 29 (grpC g) rfl _ Tryz.underlying29 rfl (by kernel_rfl))
 have HBC : Hid (Below w2.heap.size w2 w2) := Lib.hid (Below.refl _ _)
 have HBW : Hid (∀ W, Below w2.heap.size w2 W → Below w.heap.size w W) := Lib.hid (fun W h => HB2.out.trans (h.mono HB2.out.size))
 have HS2 : Hid (s0 + 1 ≤ w2.heap.size) := Lib.hid (by rw [← hw2, ← hs0]; simp)
 have HCK := Lib.hid (fun W (hb : Below w2.heap.size w2 W) => rycheck_any g L G p W ((hk.up HB2.out).up hb) hs hw)
 have HAC := Lib.hid (fun c W (hb : Below w2.heap.size w2 W) => racct_any g L c W ((hk.up HB2.out).up hb).hz hk.ln (by have := hs.n; omega))
 have HZ : Hid (LnkAt w2 A X) := Lib.hid (hz.up HB2.out)
 have hGS : GV = .agg gs := by rw [hGV, grpV_is, hgs]
 rw [← hGV] at HCK HAC ⊢
 rw [hGS]
 clear hGS hGV
 have hcv : cvE g L G X p = if cyE g L G p = 0 then cvN L X else cyE g L G p := rfl
 rw [hcv]
 have HNO := Lib.hid (fun k hk h => rkno_no (L := L) (X := X) (k := k) hk h)
 have HYE := Lib.hid (fun h => rkno_yes (L := L) (X := X) h)
 obtain ⟨E, hE⟩ : ∃ E, cvN L X = E := ⟨_, rfl⟩
 rw [hE] at HNO HYE ⊢
 obtain ⟨n, hn⟩ : ∃ n, X.length = n := ⟨_, rfl⟩
 have HN := Lib.hid hn
 rw [hn] at HNO HYE hl ⊢
 have HL := Lib.hid hl
 generalize cyE g L G p = E1 at *
 clear hk hs hw hz hcv hE hn hl
 have HM1 : True := trivial
 by_cases hE0 : E1 = 0
 ·subst hE0
  have z1 : ((0 : Int) != 0) = false := rfl
  simp only [if_true]
  go_enter Tryz.func21, Tryz.ntmps21
  go_wp2_with (first
   | (clear HM1; refine wpList_load_is rfl 29 _ rfl (.pointer (some ⟨s0, 0, none⟩)) rfl GV (HLG.out _ HBC.out) ?_)
   | (go_at_call 41; refine (HCK.out _ HBC.out).mono ?_; rintro r w3 ⟨rfl, hb⟩; have hB3 := Lib.hid (HBC.out.trans (hb.mono HBC.out.size)); clear HBC; have HBC := hB3; clear hB3; clear hb))
  go_loopg [8] n (fun kx s8 wr => ∃ k : Nat, s8 = .int .i64 k ∧ k ≤ n ∧ n - k ≤ kx ∧ Hid (∀ i, i < k → (fnd L (X.getD i lnk0).frm).isSome = true) ∧ Hid (Below w2.heap.size w2 wr))
  case atStart => exact ⟨0, rfl, by omega, by omega, Lib.hid (fun i h => absurd h (by omega)), HBC⟩
  case round =>
   clear HBC
   obtain ⟨k, rfl, hk, hkx, HK, HBC⟩ := hrel
   have hn6 : n ≤ 1000 := HL.out
   by_cases hlt : k < n
   ·have hltz : (k : Int) < (n : Int) := by omega
    obtain ⟨bb, off, hA, hbw, hcs⟩ := HZ.out (by rw [HN.out]; omega)
    have HA3 := Lib.hid (hcs k (by rw [HN.out]; exact hlt))
    have hno := HNO.out k hlt
    have HKS : Hid ((fnd L (X.getD k lnk0).frm).isSome = true → ∀ i, i < k + 1 → (fnd L (X.getD i lnk0).frm).isSome = true) := Lib.hid (fun h i hi => by
     rcases Nat.lt_or_ge i k with h9 | h9
     ·exact HK.out i h9
     ·obtain rfl : i = k := by omega
      exact h)
    obtain ⟨x, hx⟩ : ∃ x, X.getD k lnk0 = x := ⟨_, rfl⟩
    rw [hx] at HA3 hno HKS
    have HAX := Lib.hid (fun W hb => HAC.out x.frm W hb)
    obtain ⟨q, hq⟩ : ∃ q, (fnd L x.frm).isSome = q := ⟨_, rfl⟩
    rw [hq] at hno HKS HAX
    generalize fndA L x.frm = fa at *
    subst hA
    have HBW2 := Lib.hid hbw
    clear hcs hx hq hbw
    go_upto_region 7 with fail
    generalize hw4 : wr = w4 at *
    have HWB : Hid (∀ W, Below w4.heap.size w4 W → Below w2.heap.size w2 W) := Lib.hid (fun W h => HBC.out.trans (h.mono HBC.out.size))
    have HX0 : Hid (∀ W, Below w4.heap.size w4 W → W.cell? ⟨bb, off + k * 3, none⟩ = some (.int .i64 x.frm)) := Lib.hid (fun W h => (HA3.out.up (HWB.out W h) HBW2.out).1)
    refine AK.region_facts (Rp := Below0) (Kp := SizeUp) (rvaF s0 bb off n c k GV x fa q) (cyK 69 [.int .i64 0, .int .i64 0, .int .i64 0, .int .i64 0] w4) [[], [], [], [26, 27], [28], [29], [25, 30], [31], [24], [24], [], [9, 32], [33]] [10, 11] [[], [9], []] [1, 1, 1, 1, 1, 1, 1, 1, 1, 2, 2, 2, 2] [0, 0, 0, 0, 0, 0, 0, 0, 0, 0, 0, 0, 0] [] (fun u => by simp only [rvaF, AK.temps, List.map_cons, List.map_nil, fillL, List.setIfInBounds_toArray, List.set_cons_zero, List.set_cons_succ]; rfl) (by kernel_rfl) (by kernel_rfl) (fun _ _ h => h) (fun _ _ h => h.size) (fun _ _ _ _ hb h => cyK.st hb h) (dc_drew (Below.refl _ _)) ?_ ?_
    ·refine AK.sc (lim := 1) (lo := 0) rfl rfl rfl rfl ?_ ?_
     ·intro k_ u w_ hk_ hl_ hJ hF K hK
      clear hF
      refine wp_load_is 29 _ rfl (.pointer (some ⟨s0, 0, none⟩)) rfl GV (HLG.out _ (HWB.out _ (cyK.low hJ))) ?_
      exact hK.out _ _ (Below.refl _ _) rfl trivial
     refine AK.sc (lim := 1) (lo := 0) rfl rfl rfl rfl ?_ ?_
     ·intro k_ u w_ hk_ hl_ hJ hF K hK
      clear hF
      go_simp
      exact hK.out _ _ (Below.refl _ _) (rfl) trivial
     refine AK.sc (lim := 1) (lo := 0) rfl rfl rfl rfl ?_ ?_
     ·intro k_ u w_ hk_ hl_ hJ hF K hK
      clear hF
      go_simp
      exact hK.out _ _ (Below.refl _ _) (rfl) trivial
     refine AK.sc (lim := 1) (lo := 0) rfl rfl rfl rfl ?_ ?_
     ·intro k_ u w_ hk_ hl_ hJ hF K hK
      have h26 : u 26 = .slice (some ⟨bb, off, none⟩) n c := AK.facts_get hF 26 (by simp)
      have h27 : u 27 = .int .i64 (k : Int) := AK.facts_get hF 27 (by simp)
      clear hF
      simp only [h26, h27] at hK ⊢
      clear h26 h27
      go_simp
      exact hK.out _ _ (Below.refl _ _) (rfl) trivial
     refine AK.sc (lim := 1) (lo := 0) rfl rfl rfl rfl ?_ ?_
     ·intro k_ u w_ hk_ hl_ hJ hF K hK
      have h28 : u 28 = .pointer (some ⟨bb, off + k * 3, none⟩) := AK.facts_get hF 28 (by simp)
      clear hF
      simp only [h28] at hK ⊢
      clear h28
      go_simp
      exact hK.out _ _ (Below.refl _ _) (rfl) trivial
     refine AK.sc (lim := 1) (lo := 0) rfl rfl rfl rfl ?_ ?_
     ·intro k_ u w_ hk_ hl_ hJ hF K hK
      have h29 : u 29 = .pointer (some ⟨bb, off + k * 3, none⟩) := AK.facts_get hF 29 (by simp)
      clear hF
      simp only [h29] at hK ⊢
      clear h29
      have c_ := HX0.out _ (cyK.low hJ)
      go_simp
      exact hK.out _ _ (Below.refl _ _) (rfl) trivial
     refine AK.sc (lim := 1) (lo := 0) rfl rfl rfl rfl ?_ ?_
     ·intro k_ u w_ hk_ hl_ hJ hF K hK
      have h25 : u 25 = GV := AK.facts_get hF 25 (by simp)
      have h30 : u 30 = .int .i64 x.frm := AK.facts_get hF 30 (by simp)
      clear hF
      simp only [h25, h30] at hK ⊢
      clear h25 h30
      go_simp
      refine (HAX.out _ (HWB.out _ (cyK.low hJ))).mono ?_
      rintro r_ w6_ ⟨rfl, hb6_⟩
      exact hK.out _ _ hb6_ rfl trivial
     refine AK.sc (lim := 1) (lo := 0) rfl rfl rfl rfl ?_ ?_
     ·intro k_ u w_ hk_ hl_ hJ hF K hK
      have h31 : u 31 = .tuple #[accV fa, .bool q] := AK.facts_get hF 31 (by simp)
      clear hF
      simp only [h31] at hK ⊢
      clear h31
      go_simp
      exact hK.out _ _ (Below.refl _ _) (rfl) trivial
     refine AK.sc (lim := 1) (lo := 0) rfl rfl rfl rfl ?_ ?_
     ·intro k_ u w_ hk_ hl_ hJ hF K hK
      have h24 : u 24 = .tuple #[accV fa, .bool q] := AK.facts_get hF 24 (by simp)
      clear hF
      simp only [h24] at hK ⊢
      clear h24
      go_simp
      exact hK.out _ _ (Below.refl _ _) (rfl) trivial
     refine AK.sc (lim := 2) (lo := 0) rfl rfl rfl rfl ?_ ?_
     ·intro k_ u w_ hk_ hl_ hJ hF K hK
      have h24 : u 24 = .tuple #[accV fa, .bool q] := AK.facts_get hF 24 (by simp)
      clear hF
      simp only [h24] at hK ⊢
      clear h24
      go_simp
      exact hK.out _ _ (Below.refl _ _) (rfl) trivial
     refine AK.ss rfl rfl ?_ ?_
     ·intro u w_ hJ hA_ hF K hK
      clear hF
      go_simp
      exact hK.out _ _ (cyK.one (zs := [.int .i64 0, .int .i64 0, .int .i64 0, .int .i64 0]) (cyK.low hJ)) (by simp) trivial
     refine AK.ss rfl rfl ?_ ?_
     ·intro u w_ hJ hA_ hF K hK
      have h32 : u 32 = accV fa := AK.facts_get hF 32 (by simp)
      clear hF
      obtain ⟨hb9, hl9⟩ := hJ
      obtain ⟨g9, hv9, hg9, hw9⟩ := hl9 _ rfl
      simp only [h32, hv9] at hK ⊢
      clear h32 hv9
      refine cy_store_wh 69 _ _ rfl g9 rfl 69 [.int .i64 0, .int .i64 0, .int .i64 0, .int .i64 0] (celA fa) rfl hw9 rfl (by kernel_rfl) (by kernel_rfl) ?_
      intro W hr ho hz
      exact hK.out undef _ (hb9.trans (ho.out.below (fun k hk => by rw [hk]; exact hg9) hb9.size)) (Nat.le_of_eq hz.symm) trivial
     refine AK.sc (lim := 2) (lo := 0) rfl rfl rfl rfl ?_ ?_
     ·intro k_ u w_ hk_ hl_ hJ hF K hK
      have h33 : u 33 = .bool q := AK.facts_get hF 33 (by simp)
      clear hF
      simp only [h33] at hK ⊢
      clear h33
      go_simp
      exact hK.out _ _ (Below.refl _ _) (rfl) trivial
     exact AK.StepsOk.nil
    ·intro u W9 hJ9 hF
     have h10 : u 10 = .bool q := AK.facts_get hF 10 (by simp [rvaF, AK.temps])
     clear hF
     have HB9 : Hid (Below w2.heap.size w2 W9) := Lib.hid (HWB.out _ (cyK.low hJ9))
     clear hJ9 HBC
     have HBC := HB9
     clear HB9
     simp only [h10]
     clear h10
     cases q
     ·have HE := Lib.hid (hno rfl)
      clear hno
      go_wp2_with fail
      go_ret
      exact ⟨by rw [HE.out]; rfl, by have h9 := HBW.out _ HBC.out; first | exact h9 | (rw [← HS0.out]; exact h9)⟩
     ·clear hno
      go_wp2_with fail
      go_roundg (n - (k + 1))
      case measure => omega
      case rel => exact ⟨k + 1, by go_num, by omega, by omega, Lib.hid (HKS.out (by simp)), HBC⟩
   ·obtain rfl : k = n := by omega
    have hltz : ¬ (k : Int) < (k : Int) := by omega
    have HYF := Lib.hid (HYE.out HK.out)
    clear HYE HNO HK
    go_wp2_with fail
    go_loopg [11] k (fun kx s11 wr => ∃ j : Nat, s11 = .int .i64 j ∧ j ≤ k ∧ k - j ≤ kx ∧ Hid (∀ i, i < j → amtB (X.getD i lnk0).since = true) ∧ Hid (Below w2.heap.size w2 wr))
    case atStart => exact ⟨0, rfl, by omega, by omega, Lib.hid (fun i h => absurd h (by omega)), HBC⟩
    case round =>
     clear HBC
     rename World => wr
     obtain ⟨j, rfl, hj, hjx, HK, HBC⟩ := hrel
     by_cases hlt : j < k
     ·have hltz : (j : Int) < (k : Int) := by omega
      obtain ⟨bb, off, hA, hbw, hcs⟩ := HZ.out (by rw [HN.out]; omega)
      have HA3 := Lib.hid (hcs j (by rw [HN.out]; exact hlt))
      have hno := rams_no (X := X) (k := j) (by rw [HN.out]; exact hlt)
      have HKS : Hid (amtB (X.getD j lnk0).since = true → ∀ i, i < j + 1 → amtB (X.getD i lnk0).since = true) := Lib.hid (fun h i hi => by
       rcases Nat.lt_or_ge i j with h9 | h9
       ·exact HK.out i h9
       ·obtain rfl : i = j := by omega
        exact h)
      obtain ⟨x, hx⟩ : ∃ x, X.getD j lnk0 = x := ⟨_, rfl⟩
      rw [hx] at HA3 hno HKS
      obtain ⟨r0, r1, r2⟩ := HA3.out.up HBC.out hbw
      have HAM := Lib.hid (fun W => ramt_any x.since W)
      obtain ⟨q, hq⟩ : ∃ q, amtB x.since = q := ⟨_, rfl⟩
      rw [hq] at hno HKS HAM
      subst hA
      clear hcs hx hq
      cases q
      ·have HE := Lib.hid (hno rfl)
       clear hno
       go_wp2_with (first
        | (go_at_call 23; refine (HAM.out _).mono ?_; rintro r w3 ⟨rfl, rfl⟩))
       go_ret
       exact ⟨by rw [HYF.out, HE.out]; rfl, by have h9 := HBW.out _ HBC.out; first | exact h9 | (rw [← HS0.out]; exact h9)⟩
      ·clear hno
       go_wp2_with (first
        | (go_at_call 23; refine (HAM.out _).mono ?_; rintro r w3 ⟨rfl, rfl⟩))
       go_roundg (k - (j + 1))
       case measure => omega
       case rel => exact ⟨j + 1, by go_num, by omega, by omega, Lib.hid (HKS.out (by simp)), HBC⟩
     ·obtain rfl : j = k := by omega
      have hltz : ¬ (j : Int) < (j : Int) := by omega
      have HE := Lib.hid (rams_yes (X := X) (by rw [HN.out]; exact HK.out))
      go_wp2_with fail
      go_ret
      exact ⟨by rw [HYF.out, HE.out]; rfl, by have h9 := HBW.out _ HBC.out; first | exact h9 | (rw [← HS0.out]; exact h9)⟩
 ·have z1 : (E1 != 0) = true := by simp [hE0]
  simp only [if_neg hE0]
  clear hE0
  go_enter Tryz.func21, Tryz.ntmps21
  go_wp2_with (first
   | (clear HM1; refine wpList_load_is rfl 29 _ rfl (.pointer (some ⟨s0, 0, none⟩)) rfl GV (HLG.out _ HBC.out) ?_)
   | (go_at_call 41; refine (HCK.out _ HBC.out).mono ?_; rintro r w3 ⟨rfl, hb⟩; have hB3 := Lib.hid (HBC.out.trans (hb.mono HBC.out.size)); clear HBC; have HBC := hB3; clear hB3; clear hb))
  go_ret
  exact ⟨rfl, by have h9 := HBW.out _ HBC.out; first | exact h9 | (rw [← HS0.out]; exact h9)⟩
def rycF (s0 bb off n c j cb co m gc i : Nat) (p : Int) (GV : Value) (x : Lnk) (te cd0 : Int) : List (Nat × AK.Fact (Below0)) := [(33, AK.Fact.is (GV)), (34, AK.Fact.is (.slice (some ⟨bb, off, none⟩) n c)), (35, AK.Fact.is (.int .i64 (j : Int))), (36, AK.Fact.is (.pointer (some ⟨bb, off + j * 3, none⟩))), (37, AK.Fact.is (.pointer (some ⟨bb, off + j * 3, none⟩))), (38, AK.Fact.is (.int .i64 x.frm)), (39, AK.Fact.is (.slice (some ⟨bb, off, none⟩) n c)), (40, AK.Fact.is (.int .i64 (j : Int))), (41, AK.Fact.is (.pointer (some ⟨bb, off + j * 3, none⟩))), (42, AK.Fact.is (.pointer (some ⟨bb, off + j * 3 + 1, none⟩))), (43, AK.Fact.is (.int .i64 x.tgt)), (44, AK.Fact.is (.int .i64 p)), (45, AK.Fact.is (.int .i64 te)), (46, AK.Fact.is (.pointer (some ⟨s0, 4, none⟩))), (47, AK.Fact.is (.slice (some ⟨cb, co, none⟩) m gc)), (48, AK.Fact.is (.int .i64 (i : Int))), (49, AK.Fact.is (.pointer (some ⟨cb, co + i * 4, none⟩))), (50, AK.Fact.is (.pointer (some ⟨cb, co + i * 4, none⟩))), (51, AK.Fact.is (.int .i64 cd0)), (52, AK.Fact.is (.bool (decide (te = cd0))))]
theorem rf_no {L : List Acc} {P : List Bal} {i : Nat} (hi : i < L.length) (h : amtB (ofS P (L.getD i acc0).code) = false) : rfE L P = 2 ∧ rfL L P = [] := by
 have h1 : rfE L P = 2 := by unfold rfE; rw [all_false_getD (d := acc0) hi h]; rfl
 refine ⟨h1, ?_⟩
 unfold rfL
 rw [h1]; rfl
theorem rf_yes {L : List Acc} {P : List Bal} (h : ∀ i, i < L.length → amtB (ofS P (L.getD i acc0).code) = true) : rfE L P = 0 ∧ rfL L P = rowsB L (ofS P) := by
 have h1 : rfE L P = 0 := by unfold rfE; rw [(all_getD (d := acc0)).2 h]; rfl
 refine ⟨h1, ?_⟩
 unfold rfL
 rw [h1]; rfl
set_option maxRecDepth 100000 in
set_option maxHeartbeats 6400000 in
theorem rycarry_any (g : Grp) (L : List Acc) (G : List Ent) (A : Option Addr) (c : Nat) (X : List Lnk) (p : Int) (w : World) (hk : GrK w g L G) (hs : Sm g G) (hw : GrW g L G) (hz : LnkAt w A X) (hl : X.length ≤ 1000) : Calls Tryz.prog 9 #[grpV g, .slice A X.length c, .int .i64 p] w fun e w' => (∃ v, e = .returned (.tuple #[v, .int .i64 (caE g L G X p)]) ∧ SlB w' v (caL g L G X p)) ∧ Below w.heap.size w w' := by
 rw [ca_rf.1, ca_rf.2]
 obtain ⟨GV, hGV⟩ : ∃ GV, GV = grpV g := ⟨_, rfl⟩
 obtain ⟨gs, hgs⟩ : ∃ gs, (grpC g).toArray = gs := ⟨_, rfl⟩
 obtain ⟨s0, hs0⟩ : ∃ s0, w.heap.size = s0 := ⟨_, rfl⟩
 obtain ⟨w2, hw2⟩ : ∃ w2, w.alloc (.cells gs 29) = w2 := ⟨_, rfl⟩
 have HGB : Hid (Wh 29 w2 s0 (grpC g)) := Lib.hid (by rw [← hw2, ← hgs, ← hs0]; exact (Wh.new w 29 (grpC g)))
 have HB2 : Hid (Below w.heap.size w w2) := Lib.hid (by rw [← hw2]; exact below_alloc_new _)
 have HS0 := Lib.hid hs0
 have HLG : Hid (∀ W, Below w2.heap.size w2 W → (Instr.loadAt 29 (.pointer (some ⟨s0, 0, none⟩))).run Tryz.prog W = .ok GV W) := Lib.hid (fun W h => by rw [hGV, grpV_is]; exact (HGB.out.up h).rg.load 0 29 (grpC g) rfl _ Tryz.underlying29 rfl (by kernel_rfl))
 have HBC : Hid (Below w2.heap.size w2 w2) := Lib.hid (Below.refl _ _)
 have HBW : Hid (∀ W, Below w2.heap.size w2 W → Below w.heap.size w W) := Lib.hid (fun W h => HB2.out.trans (h.mono HB2.out.size))
 have HS2 : Hid (s0 + 1 ≤ w2.heap.size) := Lib.hid (by rw [← hw2, ← hs0]; simp)
 have HVO := Lib.hid (fun W (hb : Below w2.heap.size w2 W) => ryvalid_any g L G A c X p W ((hk.up HB2.out).up hb) hs hw ((hz.up HB2.out).up hb) hl)
 have HSH := Lib.hid (fun c d W (hb : Below w2.heap.size w2 W) => ryshown_any g L G c d p W ((hk.up HB2.out).up hb) hs)
 have HZ : Hid (LnkAt w2 A X) := Lib.hid (hz.up HB2.out)
 have HZC : Hid (AccAt w2 g.A L) := Lib.hid (hk.hz.up HB2.out)
 have HC4 : Hid (∀ W, Below w2.heap.size w2 W → W.cell? ⟨s0, 4, none⟩ = some (.slice g.A g.n g.c)) := Lib.hid (fun W hb => (HGB.out.up hb).at 4 _ rfl)
 have HLN : Hid (L.length = g.n) := Lib.hid hk.ln
 have HM6 : Hid (g.n ≤ 60) := Lib.hid hs.n
 have hGS : GV = .agg gs := by rw [hGV, grpV_is, hgs]
 rw [← hGV] at HVO HSH ⊢
 rw [hGS]
 clear hGS hGV
 have hams := fun h => (cvE_ok (g := g) (L := L) (G := G) (X := X) (p := p) h).2.2
 obtain ⟨E, hE⟩ : ∃ E, cvE g L G X p = E := ⟨_, rfl⟩
 rw [hE] at HVO hams ⊢
 obtain ⟨n, hn⟩ : ∃ n, X.length = n := ⟨_, rfl⟩
 have HN := Lib.hid hn
 rw [hn] at HVO hl ⊢
 have HL := Lib.hid hl
 have HAMS := Lib.hid hams
 obtain ⟨m, hm⟩ : ∃ m, g.n = m := ⟨_, rfl⟩
 rw [hm] at HC4 HLN HM6
 obtain ⟨gA, hgA⟩ : ∃ gA, g.A = gA := ⟨_, rfl⟩
 rw [hgA] at HZC HC4
 obtain ⟨gc, hgc⟩ : ∃ gc, g.c = gc := ⟨_, rfl⟩
 rw [hgc] at HC4
 clear hk hs hw hz hE hn hl hams hm hgA hgc
 have HM1 : True := trivial
 by_cases hE0 : E = 0
 ·subst hE0
  have HAM := Lib.hid (HAMS.out rfl)
  have z1 : ((0 : Int) != 0) = false := rfl
  simp only [if_true]
  generalize cyB g p = b at *
  generalize g.r6 = r6 at *
  have HOF := Lib.hid (fun (cc : Int) => ofS_plL (L := L) (r := r6) (b := b) (c := cc) (X := X))
  obtain ⟨P, hP⟩ : ∃ P, plL L r6 b X = P := ⟨_, rfl⟩
  rw [hP] at HOF ⊢
  have HNO := Lib.hid (fun i hi h => rf_no (L := L) (P := P) (i := i) hi h)
  have HYE := Lib.hid (fun h => rf_yes (L := L) (P := P) h)
  generalize rfE L P = re at *
  generalize rfL L P = rl at *
  have HRB := Lib.hid (fun k hk => rowsB_succ (L := L) (f := ofS P) (k := k) hk)
  have HRL := Lib.hid (fun k => rowsB_len (L := L.take k) (f := ofS P))
  have HTB : Hid (∀ (q : Lnk → Bool) k, -1000000000000000 ≤ totS q (X.take k) ∧ totS q (X.take k) ≤ 1000000000000000) := Lib.hid (fun q k => by
   have h1 : amsB (X.take k) = true := List.all_eq_true.2 (fun d hd => List.all_eq_true.1 HAM.out d (List.mem_of_mem_take hd))
   have h2 := totS_bound (q := q) h1
   have h3 : (X.take k).length ≤ 1000 := by rw [List.length_take, HN.out]; have := HL.out; omega
   omega)
  generalize hF : ofS P = F at *
  clear hP hF HAMS
  obtain ⟨i0, hi9, hz1, hz2, hz3⟩ := info_parts infoI_bal
  have C4 := HC4.out
  go_enter Tryz.func9, Tryz.ntmps9
  go_wp2_with (first
   | (clear HM1; refine wpList_load_is rfl 29 _ rfl (.pointer (some ⟨s0, 0, none⟩)) rfl GV (HLG.out _ HBC.out) ?_)
   | (go_at_call 21; refine (HVO.out _ HBC.out).mono ?_; rintro r w3 ⟨rfl, hb⟩; have hB3 := Lib.hid (HBC.out.trans (hb.mono HBC.out.size)); clear HBC; have HBC := hB3; clear hB3; clear hb))
  clear C4
  have HBG := Lib.hid HBC.out.size
  have HO0 : Hid (OwnB 72 w3 w2.heap.size (.slice none 0 0) (rowsB (L.take 0) F)) := Lib.hid OwnB.nil
  go_loopg [9, 10] m (fun kx s9 s10 wr => ∃ i : Nat, s10 = .int .i64 i ∧ i ≤ m ∧ m - i ≤ kx ∧ Hid (∀ t, t < i → amtB (F (L.getD t acc0).code) = true) ∧ Hid (OwnB 72 wr w2.heap.size s9 (rowsB (L.take i) F)) ∧ Hid (Below w2.heap.size w2 wr))
  case atStart => exact ⟨0, rfl, by omega, by omega, Lib.hid (fun t h => absurd h (by omega)), HO0, HBC⟩
  case round =>
   clear HBC HO0 HBG
   obtain ⟨i, rfl, him, hix, HK, HO, HBC⟩ := hrel
   have hm6 : m ≤ 60 := HM6.out
   have hn6 : n ≤ 1000 := HL.out
   have C4 := HC4.out _ HBC.out
   by_cases hlt : i < m
   ·have hltz : (i : Int) < (m : Int) := by omega
    have HIM : Hid ((i : Int) < (m : Int)) := Lib.hid hltz
    obtain ⟨cb, co, hA, hcw, hcs⟩ := HZC.out (by rw [HLN.out]; omega)
    have HA4 := Lib.hid (hcs i (by rw [HLN.out]; exact hlt))
    have HCW := Lib.hid hcw
    have hno := HNO.out i (by rw [HLN.out]; exact hlt)
    have hrb := HRB.out i (by rw [HLN.out]; exact hlt)
    have HKS : Hid (amtB (F (L.getD i acc0).code) = true → ∀ t, t < i + 1 → amtB (F (L.getD t acc0).code) = true) := Lib.hid (fun h t ht => by
     rcases Nat.lt_or_ge t i with h9 | h9
     ·exact HK.out t h9
     ·obtain rfl : t = i := by omega
      exact h)
    subst hA
    have HCD : Hid (∀ W, Below w2.heap.size w2 W → W.cell? ⟨cb, co + i * 4, none⟩ = some (.int .i64 (L.getD i acc0).code)) := Lib.hid (fun W h => (HA4.out.up h HCW.out).1)
    obtain ⟨cd0, hcd⟩ : ∃ cd0, (L.getD i acc0).code = cd0 := ⟨_, rfl⟩
    rw [hcd] at HCD hno hrb HKS
    have hof := HOF.out cd0
    obtain ⟨q, hq⟩ : ∃ q : Lnk → Bool, (fun d : Lnk => decide (plI L r6 b d.frm d.tgt = cd0)) = q := ⟨_, rfl⟩
    rw [hq] at hof
    have HQD : Hid (∀ d : Lnk, q d = decide (plI L r6 b d.frm d.tgt = cd0)) := Lib.hid (fun d => by rw [← hq])
    have HTK := Lib.hid (fun k hk => totS_take (q := q) (X := X) (k := k) hk)
    have HTC := Lib.hid (HTB.out q)
    have HTE : Hid (totS q (X.take n) = F cd0) := Lib.hid (by rw [List.take_of_length_le (by rw [HN.out]; omega)]; exact hof.symm)
    have HT0 : Hid (totS q (X.take 0) = 0) := Lib.hid rfl
    have HLR := Lib.hid (Nat.le_trans (HRL.out i) (show (L.take i).length ≤ 100000000 by rw [List.length_take, HLN.out]; omega))
    generalize totS q = T at *
    generalize F cd0 = S at *
    clear hcs hcw hof hq hcd
    have HOS := HO
    go_wp2_with fail
    clear C4
    go_loopg [11, 12] n (fun kx s11 s12 wr => ∃ (j : Nat) (S0 : Int), s12 = .int .i64 j ∧ s11 = .int .i64 S0 ∧ j ≤ n ∧ n - j ≤ kx ∧ Hid (T (X.take j) = S0) ∧ Hid (OwnB 72 wr w2.heap.size u9 (rowsB (L.take i) F)) ∧ Hid (Below w2.heap.size w2 wr))
    case atStart => exact ⟨0, 0, rfl, rfl, by omega, by omega, HT0, HO, HBC⟩
    case round =>
     clear HBC HT0 HO HOS
     rename World => wr
     obtain ⟨j, S0, rfl, rfl, hj, hjx, HS, HO, HBC⟩ := hrel
     by_cases hjt : j < n
     ·have hjtz : (j : Int) < (n : Int) := by omega
      obtain ⟨bb, off, hA, hbw, hcs⟩ := HZ.out (by rw [HN.out]; omega)
      have HA3 := Lib.hid (hcs j (by rw [HN.out]; exact hjt))
      have htk := HTK.out j (by rw [HN.out]; exact hjt)
      rw [HS.out] at htk
      have hb0 := HTC.out (j + 1)
      rw [htk] at hb0
      obtain ⟨x, hx⟩ : ∃ x, X.getD j lnk0 = x := ⟨_, rfl⟩
      rw [hx] at HA3 htk hb0
      have HQX := Lib.hid (HQD.out x)
      have HSX := Lib.hid (fun W hb => HSH.out x.frm x.tgt W hb)
      generalize plI L r6 b x.frm x.tgt = te at *
      subst hA
      have HBW2 := Lib.hid hbw
      clear hcs hx hbw
      go_upto_region 12 with fail
      generalize hw4 : wr = w4 at *
      have HWB : Hid (∀ W, Below w4.heap.size w4 W → Below w2.heap.size w2 W) := Lib.hid (fun W h => HBC.out.trans (h.mono HBC.out.size))
      have HX0 : Hid (∀ W, Below w4.heap.size w4 W → W.cell? ⟨bb, off + j * 3, none⟩ = some (.int .i64 x.frm)) := Lib.hid (fun W h => (HA3.out.up (HWB.out W h) HBW2.out).1)
      have HX1 : Hid (∀ W, Below w4.heap.size w4 W → W.cell? ⟨bb, off + j * 3 + 1, none⟩ = some (.int .i64 x.tgt)) := Lib.hid (fun W h => (HA3.out.up (HWB.out W h) HBW2.out).2)
      have HX2 : Hid (∀ W, Below w4.heap.size w4 W → W.cell? ⟨bb, off + j * 3 + 2, none⟩ = some (.int .i64 x.since)) := Lib.hid (fun W h => (HA3.out.up (HWB.out W h) HBW2.out).3)
      clear hw4
      refine AK.region_facts (Rp := Below0) (Kp := Below0) (rycF s0 bb off n c j cb co m gc i p GV x te cd0) (fun _ _ W => Below w4.heap.size w4 W) [[], [], [], [34, 35], [36], [37], [], [], [39, 40], [41], [42], [], [33, 38, 43, 44], [], [46], [], [47, 48], [49], [50], [45, 51]] [] [[]] [0, 0, 0, 0, 0, 0, 0, 0, 0, 0, 0, 0, 0, 0, 0, 0, 0, 0, 0, 0] [0, 0, 0, 0, 0, 0, 0, 0, 0, 0, 0, 0, 0, 0, 0, 0, 0, 0, 0, 0] [] (fun u => by simp only [rycF, AK.temps, List.map_cons, List.map_nil, fillL, List.setIfInBounds_toArray, List.set_cons_zero, List.set_cons_succ]; rfl) (by kernel_rfl) (by kernel_rfl) (fun _ _ h => h.size) (fun _ _ h => h) (fun _ _ _ _ hb h => h.trans (hb.mono h.size)) (dc_drew (Below.refl _ _)) ?_ ?_
      ·refine AK.sc (lim := 0) (lo := 0) rfl rfl rfl rfl ?_ ?_
       ·intro k_ u w_ hk_ hl_ hJ hF K hK
        clear hF
        refine wp_load_is 29 _ rfl (.pointer (some ⟨s0, 0, none⟩)) rfl GV (HLG.out _ (HWB.out _ hJ)) ?_
        exact hK.out _ _ (Below.refl _ _) rfl trivial
       refine AK.sc (lim := 0) (lo := 0) rfl rfl rfl rfl ?_ ?_
       ·intro k_ u w_ hk_ hl_ hJ hF K hK
        clear hF
        go_simp
        exact hK.out _ _ (Below.refl _ _) (rfl) trivial
       refine AK.sc (lim := 0) (lo := 0) rfl rfl rfl rfl ?_ ?_
       ·intro k_ u w_ hk_ hl_ hJ hF K hK
        clear hF
        go_simp
        exact hK.out _ _ (Below.refl _ _) (rfl) trivial
       refine AK.sc (lim := 0) (lo := 0) rfl rfl rfl rfl ?_ ?_
       ·intro k_ u w_ hk_ hl_ hJ hF K hK
        have h34 : u 34 = .slice (some ⟨bb, off, none⟩) n c := AK.facts_get hF 34 (by simp)
        have h35 : u 35 = .int .i64 (j : Int) := AK.facts_get hF 35 (by simp)
        clear hF
        simp only [h34, h35] at hK ⊢
        clear h34 h35
        go_simp
        exact hK.out _ _ (Below.refl _ _) (rfl) trivial
       refine AK.sc (lim := 0) (lo := 0) rfl rfl rfl rfl ?_ ?_
       ·intro k_ u w_ hk_ hl_ hJ hF K hK
        have h36 : u 36 = .pointer (some ⟨bb, off + j * 3, none⟩) := AK.facts_get hF 36 (by simp)
        clear hF
        simp only [h36] at hK ⊢
        clear h36
        go_simp
        exact hK.out _ _ (Below.refl _ _) (rfl) trivial
       refine AK.sc (lim := 0) (lo := 0) rfl rfl rfl rfl ?_ ?_
       ·intro k_ u w_ hk_ hl_ hJ hF K hK
        have h37 : u 37 = .pointer (some ⟨bb, off + j * 3, none⟩) := AK.facts_get hF 37 (by simp)
        clear hF
        simp only [h37] at hK ⊢
        clear h37
        have c_ := HX0.out _ hJ
        go_simp
        exact hK.out _ _ (Below.refl _ _) (rfl) trivial
       refine AK.sc (lim := 0) (lo := 0) rfl rfl rfl rfl ?_ ?_
       ·intro k_ u w_ hk_ hl_ hJ hF K hK
        clear hF
        go_simp
        exact hK.out _ _ (Below.refl _ _) (rfl) trivial
       refine AK.sc (lim := 0) (lo := 0) rfl rfl rfl rfl ?_ ?_
       ·intro k_ u w_ hk_ hl_ hJ hF K hK
        clear hF
        go_simp
        exact hK.out _ _ (Below.refl _ _) (rfl) trivial
       refine AK.sc (lim := 0) (lo := 0) rfl rfl rfl rfl ?_ ?_
       ·intro k_ u w_ hk_ hl_ hJ hF K hK
        have h39 : u 39 = .slice (some ⟨bb, off, none⟩) n c := AK.facts_get hF 39 (by simp)
        have h40 : u 40 = .int .i64 (j : Int) := AK.facts_get hF 40 (by simp)
        clear hF
        simp only [h39, h40] at hK ⊢
        clear h39 h40
        go_simp
        exact hK.out _ _ (Below.refl _ _) (rfl) trivial
       refine AK.sc (lim := 0) (lo := 0) rfl rfl rfl rfl ?_ ?_
       ·intro k_ u w_ hk_ hl_ hJ hF K hK
        have h41 : u 41 = .pointer (some ⟨bb, off + j * 3, none⟩) := AK.facts_get hF 41 (by simp)
        clear hF
        simp only [h41] at hK ⊢
        clear h41
        go_simp
        exact hK.out _ _ (Below.refl _ _) (rfl) trivial
       refine AK.sc (lim := 0) (lo := 0) rfl rfl rfl rfl ?_ ?_
       ·intro k_ u w_ hk_ hl_ hJ hF K hK
        have h42 : u 42 = .pointer (some ⟨bb, off + j * 3 + 1, none⟩) := AK.facts_get hF 42 (by simp)
        clear hF
        simp only [h42] at hK ⊢
        clear h42
        have c_ := HX1.out _ hJ
        go_simp
        exact hK.out _ _ (Below.refl _ _) (rfl) trivial
       refine AK.sc (lim := 0) (lo := 0) rfl rfl rfl rfl ?_ ?_
       ·intro k_ u w_ hk_ hl_ hJ hF K hK
        clear hF
        go_simp
        exact hK.out _ _ (Below.refl _ _) (rfl) trivial
       refine AK.sc (lim := 0) (lo := 0) rfl rfl rfl rfl ?_ ?_
       ·intro k_ u w_ hk_ hl_ hJ hF K hK
        have h33 : u 33 = GV := AK.facts_get hF 33 (by simp)
        have h38 : u 38 = .int .i64 x.frm := AK.facts_get hF 38 (by simp)
        have h43 : u 43 = .int .i64 x.tgt := AK.facts_get hF 43 (by simp)
        have h44 : u 44 = .int .i64 p := AK.facts_get hF 44 (by simp)
        clear hF
        simp only [h33, h38, h43, h44] at hK ⊢
        clear h33 h38 h43 h44
        go_simp
        refine (HSX.out _ (HWB.out _ hJ)).mono ?_
        rintro r_ w6_ ⟨rfl, hb6_⟩
        exact hK.out _ _ hb6_ rfl trivial
       refine AK.sc (lim := 0) (lo := 0) rfl rfl rfl rfl ?_ ?_
       ·intro k_ u w_ hk_ hl_ hJ hF K hK
        clear hF
        go_simp
        exact hK.out _ _ (Below.refl _ _) (rfl) trivial
       refine AK.sc (lim := 0) (lo := 0) rfl rfl rfl rfl ?_ ?_
       ·intro k_ u w_ hk_ hl_ hJ hF K hK
        have h46 : u 46 = .pointer (some ⟨s0, 4, none⟩) := AK.facts_get hF 46 (by simp)
        clear hF
        simp only [h46] at hK ⊢
        clear h46
        have c_ := HC4.out _ (HWB.out _ hJ)
        go_simp
        exact hK.out _ _ (Below.refl _ _) (rfl) trivial
       refine AK.sc (lim := 0) (lo := 0) rfl rfl rfl rfl ?_ ?_
       ·intro k_ u w_ hk_ hl_ hJ hF K hK
        clear hF
        go_simp
        exact hK.out _ _ (Below.refl _ _) (rfl) trivial
       refine AK.sc (lim := 0) (lo := 0) rfl rfl rfl rfl ?_ ?_
       ·intro k_ u w_ hk_ hl_ hJ hF K hK
        have h47 : u 47 = .slice (some ⟨cb, co, none⟩) m gc := AK.facts_get hF 47 (by simp)
        have h48 : u 48 = .int .i64 (i : Int) := AK.facts_get hF 48 (by simp)
        clear hF
        simp only [h47, h48] at hK ⊢
        clear h47 h48
        have hi_ := HIM.out
        go_simp
        exact hK.out _ _ (Below.refl _ _) (rfl) trivial
       refine AK.sc (lim := 0) (lo := 0) rfl rfl rfl rfl ?_ ?_
       ·intro k_ u w_ hk_ hl_ hJ hF K hK
        have h49 : u 49 = .pointer (some ⟨cb, co + i * 4, none⟩) := AK.facts_get hF 49 (by simp)
        clear hF
        simp only [h49] at hK ⊢
        clear h49
        go_simp
        exact hK.out _ _ (Below.refl _ _) (rfl) trivial
       refine AK.sc (lim := 0) (lo := 0) rfl rfl rfl rfl ?_ ?_
       ·intro k_ u w_ hk_ hl_ hJ hF K hK
        have h50 : u 50 = .pointer (some ⟨cb, co + i * 4, none⟩) := AK.facts_get hF 50 (by simp)
        clear hF
        simp only [h50] at hK ⊢
        clear h50
        have c_ := HCD.out _ (HWB.out _ hJ)
        go_simp
        exact hK.out _ _ (Below.refl _ _) (rfl) trivial
       refine AK.sc (lim := 0) (lo := 0) rfl rfl rfl rfl ?_ ?_
       ·intro k_ u w_ hk_ hl_ hJ hF K hK
        have h45 : u 45 = .int .i64 te := AK.facts_get hF 45 (by simp)
        have h51 : u 51 = .int .i64 cd0 := AK.facts_get hF 51 (by simp)
        clear hF
        simp only [h45, h51] at hK ⊢
        clear h45 h51
        have e9_ : (te == cd0) = decide (te = cd0) := rfl
        go_simp
        exact hK.out _ _ (Below.refl _ _) (by first | rfl | (simp; done)) trivial
       exact AK.StepsOk.nil
      ·intro u W9 hJ9 hF
       have h52 : u 52 = .bool (decide (te = cd0)) := AK.facts_get hF 52 (by simp [rycF, AK.temps])
       clear hF
       have HB9 : Hid (Below w2.heap.size w2 W9) := Lib.hid (HWB.out _ hJ9)
       have HO9 := Lib.hid (HO.out.up hJ9)
       have y2 := HX2.out _ hJ9
       clear hJ9 HBC HO
       have HBC := HB9
       clear HB9
       obtain ⟨qx, hqx⟩ : ∃ qx, q x = qx := ⟨_, rfl⟩
       rw [hqx] at htk hb0
       have HQ2 := Lib.hid (hqx.symm.trans HQX.out)
       rw [← HQ2.out] at h52
       simp only [h52]
       clear h52 hqx
       cases qx
       ·have HT2 : Hid (T (X.take (j + 1)) = S0) := Lib.hid (by rw [htk]; simp)
        clear htk hb0 y2
        go_wp2_with fail
        go_roundg (n - (j + 1))
        case measure => omega
        case rel => exact ⟨j + 1, S0, by go_num, rfl, by omega, by omega, HT2, HO9, HBC⟩
       ·simp only [if_true] at htk hb0
        obtain ⟨S1, hS1⟩ : ∃ S1, S0 + x.since = S1 := ⟨_, rfl⟩
        rw [hS1] at htk hb0
        have HT2 : Hid (T (X.take (j + 1)) = S1) := Lib.hid htk
        have hw1 : IntKind.i64.wrap (S0 + x.since) = S1 := by rw [hS1, IntKind.wrap_i64]; omega
        have hw2' : wrap64 (S0 + x.since) = S1 := by rw [hS1]; unfold wrap64; omega
        clear htk hb0 hS1
        go_wp2_with fail
        go_roundg (n - (j + 1))
        case measure => omega
        case rel => exact ⟨j + 1, S1, by go_num, by first | rfl | simp [hw1] | simp [hw2'], by omega, by omega, HT2, HO9, HBC⟩
     ·obtain rfl : j = n := by omega
      have hjtz : ¬ (j : Int) < (j : Int) := by omega
      have hSE := HS.out
      rw [HTE.out] at hSE
      subst hSE
      have HAN := Lib.hid (fun w => ramt_any S w)
      have C4 := HC4.out _ HBC.out
      have D0 := HCD.out _ HBC.out
      have hsz9 := HBC.out.size
      obtain ⟨qa, hqa⟩ : ∃ qa, amtB S = qa := ⟨_, rfl⟩
      rw [hqa] at HAN HKS hno
      cases qa
      ·have HE := Lib.hid (hno rfl).1
       have HR := Lib.hid (hno rfl).2
       clear hno hrb hqa hsz9
       go_wp2_with (first
        | (go_at_call 23; refine (HAN.out _).mono ?_; rintro r w3 ⟨rfl, rfl⟩))
       go_ret2
       exact ⟨⟨_, by rw [HE.out]; rfl, by rw [HR.out]; exact SlB.nil⟩, by have h9 := HBW.out _ HBC.out; first | exact h9 | (rw [← HS0.out]; exact h9)⟩
      ·have HKT := Lib.hid (HKS.out (by simp))
       clear hno
       by_cases h0 : S = 0
       ·rw [if_pos h0] at hrb
        have e0 : (S != 0) = false := by simp [h0]
        have HRT := Lib.hid hrb
        clear hrb h0 hqa hsz9
        go_wp2_with (first
         | (go_at_call 23; refine (HAN.out _).mono ?_; rintro r w3 ⟨rfl, rfl⟩))
        go_roundg (m - (i + 1))
        case measure => omega
        case rel => exact ⟨i + 1, by go_num, by omega, by omega, HKT, Lib.hid (by rw [HRT.out]; exact HO.out), HBC⟩
       ·rw [if_neg h0] at hrb
        have e0 : (S != 0) = true := by simp [h0]
        have HRT := Lib.hid hrb
        clear hrb h0 hqa
        go_wp2_with (first
         | (go_at_call 23; refine (HAN.out _).mono ?_; rintro r w3 ⟨rfl, rfl⟩)
         | (at_builtin; refine wpList_append_bg _ rfl (.tmp 65) (.tmp 74) 33 rfl w2.heap.size 72 i0 16 Tryz.underlying33 hi9 hz1 hz2 hz3 (by omega) u9 _ (by rfl) HO.out cd0 S _ 1 (by first | rfl | simp) rfl HLR.out hsz9 ?_; intro v2 w4 ho2 hb2; have HO4 : Hid (OwnB 72 w4 w2.heap.size v2 (rowsB (L.take (i + 1)) F)) := Lib.hid (by rw [HRT.out]; exact ho2.out); have HBN := Lib.hid (HBC.out.trans hb2); clear ho2 hb2))
        go_roundg (m - (i + 1))
        case measure => omega
        case rel => exact ⟨i + 1, by go_num, by omega, by omega, HKT, HO4, HBN⟩
   ·obtain rfl : i = m := by omega
    have hltz : ¬ (i : Int) < (i : Int) := by omega
    obtain ⟨h8, h9⟩ := HYE.out (by rw [HLN.out]; exact HK.out)
    have HE := Lib.hid h8
    have HR := Lib.hid h9
    have HOE : Hid (SlB wr u9 rl) := Lib.hid (by have h7 := HO.out.slb; rw [List.take_of_length_le (by rw [HLN.out]; omega)] at h7; rw [HR.out]; exact h7)
    clear h8 h9
    go_wp2_with fail
    go_ret2
    exact ⟨⟨_, by rw [HE.out]; rfl, HOE.out⟩, by have h9 := HBW.out _ HBC.out; first | exact h9 | (rw [← HS0.out]; exact h9)⟩
 ·have z1 : (E != 0) = true := by simp [hE0]
  simp only [if_neg hE0]
  clear hE0 HAMS
  go_enter Tryz.func9, Tryz.ntmps9
  go_wp2_with (first
   | (clear HM1; refine wpList_load_is rfl 29 _ rfl (.pointer (some ⟨s0, 0, none⟩)) rfl GV (HLG.out _ HBC.out) ?_)
   | (go_at_call 21; refine (HVO.out _ HBC.out).mono ?_; rintro r w3 ⟨rfl, hb⟩; have hB3 := Lib.hid (HBC.out.trans (hb.mono HBC.out.size)); clear HBC; have HBC := hB3; clear hB3; clear hb))
  go_ret2
  exact ⟨⟨_, rfl, SlB.nil⟩, by have h9 := HBW.out _ HBC.out; first | exact h9 | (rw [← HS0.out]; exact h9)⟩
theorem caL_len {g : Grp} {L : List Acc} {G : List Ent} {X : List Lnk} {p : Int} : (caL g L G X p).length ≤ X.length := by
 unfold caL
 split
 ·unfold lisL
  split
  ·exact Nat.le_trans pick0_len (by have := sumsL_len (P := plL L g.r6 (cyB g p) X); rw [plL_len] at this; exact this)
  ·exact Nat.zero_le _
 ·exact Nat.zero_le _
def cs3F (_s0 n c : Nat) (A : Option Addr) (p E : Int) (cl : List Bal) (GV : Value) (X : List Lnk) : List (Nat × AK.Fact (Below0)) := [(25, AK.Fact.is (GV)), (26, AK.Fact.is (.slice A n c)), (27, cyTo X), (28, AK.Fact.is (.int .i64 p)), (29, cyCa E cl), (24, cyCa E cl), (30, cySl cl), (31, AK.Fact.is (.int .i64 E)), (7, cySl cl), (8, AK.Fact.is (.int .i64 E))]
set_option maxRecDepth 100000 in
set_option maxHeartbeats 12800000 in
theorem law_cysums (g : Grp) (L : List Acc) (G : List Ent) (A : Option Addr) (n c : Nat) (X : List Lnk) (p : Int) (w : World) (hk : GrK w g L G) (hw : GrW g L G) (hmx : g.m ≤ 9223372036854775807) (hn : X.length = n) (hnm : n ≤ 9223372036854775807) (hz : LnkAt w A X) (hx : ∀ l ∈ X, WfL l) :
  Calls Tryz.prog 3 #[grpV g, .slice A n c, .int .i64 p] w fun e w' => e = .returned (.bool true) ∧ Below w.heap.size w w' := by
 obtain ⟨GV, hGV⟩ : ∃ GV, GV = grpV g := ⟨_, rfl⟩
 obtain ⟨gs, hgs⟩ : ∃ gs, (grpC g).toArray = gs := ⟨_, rfl⟩
 obtain ⟨s0, hs0⟩ : ∃ s0, w.heap.size = s0 := ⟨_, rfl⟩
 obtain ⟨w2, hw2⟩ : ∃ w2, w.alloc (.cells gs 29) = w2 := ⟨_, rfl⟩
 have HGB : Hid (Wh 29 w2 s0 (grpC g)) := Lib.hid (by rw [← hw2, ← hgs, ← hs0]; exact (Wh.new w 29 (grpC g)))
 have HB2 : Hid (Below w.heap.size w w2) := Lib.hid (by rw [← hw2]; exact below_alloc_new _)
 have HS0 := Lib.hid hs0
 have HLG : Hid (∀ W, Below w2.heap.size w2 W → (Instr.loadAt 29 (.pointer (some ⟨s0, 0, none⟩))).run Tryz.prog W = .ok GV W) := Lib.hid (fun W h => by rw [hGV, grpV_is]; exact (HGB.out.up h).rg.load 0 29 (grpC g) rfl _ Tryz.underlying29 rfl (by kernel_rfl))
 have HBC : Hid (Below w2.heap.size w2 w2) := Lib.hid (Below.refl _ _)
 have HBW : Hid (∀ W, Below w2.heap.size w2 W → Below w.heap.size w W) := Lib.hid (fun W h => HB2.out.trans (h.mono HB2.out.size))
 have HS2 : Hid (s0 + 1 ≤ w2.heap.size) := Lib.hid (by rw [← hw2, ← hs0]; simp)
 have HAW := Lib.hid yawake_any
 have HFW := Lib.hid (fun W (hb : Below w2.heap.size w2 W) => rfew10_is g G W ((hk.up HB2.out).up hb).he hk.lg hmx)
 have HTO := Lib.hid (fun (hl : n ≤ 60) W (hb : Below w2.heap.size w2 W) => by have h9 := yto_any A c X W ((hz.up HB2.out).up hb) (by omega); rw [hn] at h9; exact h9)
 have HPL := Lib.hid (fun (hs : Sm g G) (hl : n ≤ 60) A2 c2 W (hb : Below w2.heap.size w2 W) (hz2 : LnkAt W A2 X) => ycarry_any g L G A2 c2 X p W ((hk.up HB2.out).up hb) hs hw hz2 (by omega) (fun d hd => (hx d hd).frm))
 have HRP := Lib.hid (fun (hs : Sm g G) (hl : n ≤ 60) W (hb : Below w2.heap.size w2 W) => by have h9 := rycarry_any g L G A c X p W ((hk.up HB2.out).up hb) hs hw ((hz.up HB2.out).up hb) (by omega); rw [hn] at h9; exact h9)
 have hGS : GV = .agg gs := by rw [hGV, grpV_is, hgs]
 rw [← hGV] at HFW HPL HRP ⊢
 rw [hGS]
 clear hGS hGV
 have hcl := caL_len (g := g) (L := L) (G := G) (X := X) (p := p)
 generalize caE g L G X p = E at *
 generalize caL g L G X p = cl at *
 have hsm := fun h => few_sm (g := g) (G := G) h
 obtain ⟨q, hq⟩ : ∃ q, few10 g G = q := ⟨_, rfl⟩
 rw [hq] at HFW hsm
 rw [hn] at hcl
 have HCL := Lib.hid hcl
 clear hk hw hmx hq hz hx hnm hn hcl
 have HM1 : True := trivial
 cases q
 ·clear hsm
  go_enter Tryz.func3, Tryz.ntmps3
  go_wp2_with (first
   | (clear HM1; first | (refine wpList_load_if rfl 29 _ rfl (.pointer (some ⟨s0, 0, none⟩)) rfl GV (HLG.out _ HBC.out) ?_) | (refine wpList_load_is rfl 29 _ rfl (.pointer (some ⟨s0, 0, none⟩)) rfl GV (HLG.out _ HBC.out) ?_))
   | (go_at_call 5; refine (HAW.out _).mono ?_; rintro r w3 ⟨rfl, hb⟩; have hB3 := Lib.hid (HBC.out.trans (hb.mono HBC.out.size)); clear HBC; have HBC := hB3; clear hB3; clear hb)
   | (go_at_call 6; refine (HFW.out _ HBC.out).mono ?_; rintro r w3 ⟨rfl, hb⟩; have hB3 := Lib.hid (HBC.out.trans (hb.mono HBC.out.size)); clear HBC; have HBC := hB3; clear hB3; clear hb))
  go_ret
  exact ⟨rfl, by have h9 := HBW.out _ HBC.out; first | exact h9 | (rw [← HS0.out]; exact h9)⟩
 ·by_cases hl : n ≤ 60
  ·have hd : decide ((60 : Int) < (n : Int)) = false := decide_eq_false (by omega)
   have HP := Lib.hid (HPL.out (hsm rfl) hl)
   have HR := Lib.hid (HRP.out (hsm rfl) hl)
   have HTX := Lib.hid (HTO.out hl)
   have HCM : Hid (cl.length ≤ 100000) := Lib.hid (by have := HCL.out; omega)
   clear hsm HPL HRP hl HTO
   have HTO := HTX
   clear HTX
   have HM2 : True := trivial
   have z1 : (E == E) = true := by simp
   have HSA := Lib.hid (fun A B c d W hz hy => rsameb_any A B c d cl cl W hz hy HCM.out HCM.out)
   rw [decide_eq_true (show cl = cl from rfl)] at HSA
   go_enter Tryz.func3, Tryz.ntmps3
   go_upto_region 3 with (first
    | (clear HM1; first | (refine wpList_load_if rfl 29 _ rfl (.pointer (some ⟨s0, 0, none⟩)) rfl GV (HLG.out _ HBC.out) ?_) | (refine wpList_load_is rfl 29 _ rfl (.pointer (some ⟨s0, 0, none⟩)) rfl GV (HLG.out _ HBC.out) ?_))
    | (go_at_call 5; refine (HAW.out _).mono ?_; rintro r w3 ⟨rfl, hb⟩; have hB3 := Lib.hid (HBC.out.trans (hb.mono HBC.out.size)); clear HBC; have HBC := hB3; clear hB3; clear hb)
    | (go_at_call 6; refine (HFW.out _ HBC.out).mono ?_; rintro r w3 ⟨rfl, hb⟩; have hB3 := Lib.hid (HBC.out.trans (hb.mono HBC.out.size)); clear HBC; have HBC := hB3; clear hB3; clear hb))
   have HWB : Hid (∀ W, Below w3.heap.size w3 W → Below w2.heap.size w2 W) := Lib.hid (fun W h => HBC.out.trans (h.mono HBC.out.size))
   refine AK.region_facts (Rp := Below0) (Kp := Below0) (cs3F s0 n c A p E cl GV X) (fun _ _ W => Below w3.heap.size w3 W) [[], [], [26], [], [25, 27, 28], [29], [24], [24], [30], [31]] [] [[]] [0, 0, 0, 0, 0, 0, 0, 0, 0, 0] [0, 0, 0, 0, 0, 0, 0, 0, 0, 0] [] (fun u => by simp only [cs3F, AK.temps, List.map_cons, List.map_nil, fillL, List.setIfInBounds_toArray, List.set_cons_zero, List.set_cons_succ]; rfl) (by kernel_rfl) (by kernel_rfl) (fun _ _ h => h.size) (fun _ _ h => h) (fun _ _ _ _ hb h => h.trans (hb.mono h.size)) (dc_drew (Below.refl _ _)) ?_ ?_
   ·refine AK.sc (lim := 0) (lo := 0) rfl rfl rfl rfl ?_ ?_
    ·intro k_ u w_ hk_ hl_ hJ hF K hK
     clear hF
     refine wp_load_is 29 _ rfl (.pointer (some ⟨s0, 0, none⟩)) rfl GV (HLG.out _ (HWB.out _ hJ)) ?_
     exact hK.out _ _ (Below.refl _ _) rfl trivial
    refine AK.sc (lim := 0) (lo := 0) rfl rfl rfl rfl ?_ ?_
    ·intro k_ u w_ hk_ hl_ hJ hF K hK
     clear hF
     go_simp
     exact hK.out _ _ (Below.refl _ _) (rfl) trivial
    refine AK.sc (lim := 0) (lo := 0) rfl rfl rfl rfl ?_ ?_
    ·intro k_ u w_ hk_ hl_ hJ hF K hK
     have h26 : u 26 = .slice A n c := AK.facts_get hF 26 (by simp)
     clear hF
     simp only [h26] at hK ⊢
     clear h26
     go_simp
     refine (HTO.out _ (HWB.out _ hJ)).mono ?_
     rintro r_ w6_ ⟨⟨v_, rfl, ht_⟩, hb6_⟩
     exact hK.out _ _ hb6_ ht_ trivial
    refine AK.sc (lim := 0) (lo := 0) rfl rfl rfl rfl ?_ ?_
    ·intro k_ u w_ hk_ hl_ hJ hF K hK
     clear hF
     go_simp
     exact hK.out _ _ (Below.refl _ _) (rfl) trivial
    refine AK.sc (lim := 0) (lo := 0) rfl rfl rfl rfl ?_ ?_
    ·intro k_ u w_ hk_ hl_ hJ hF K hK
     have h25 : u 25 = GV := AK.facts_get hF 25 (by simp)
     have h27 : toP X (u 27) w_ := AK.facts_get hF 27 (by simp)
     have h28 : u 28 = .int .i64 p := AK.facts_get hF 28 (by simp)
     clear hF
     obtain ⟨A2_, c2_, h27, hz2_⟩ := h27
     simp only [h25, h27, h28] at hK ⊢
     clear h25 h27 h28
     go_simp
     refine (HP.out _ _ _ (HWB.out _ hJ) hz2_).mono ?_
     rintro r_ w6_ ⟨⟨v9_, rfl, hs9_⟩, hb6_⟩
     exact hK.out _ _ hb6_ ⟨_, rfl, hs9_⟩ trivial
    refine AK.sc (lim := 0) (lo := 0) rfl rfl rfl rfl ?_ ?_
    ·intro k_ u w_ hk_ hl_ hJ hF K hK
     have h29 : caP E cl (u 29) w_ := AK.facts_get hF 29 (by simp)
     clear hF
     obtain ⟨v9_, h29, hs9_⟩ := h29
     simp only [h29] at hK ⊢
     clear h29
     go_simp
     exact hK.out _ _ (Below.refl _ _) ⟨_, rfl, hs9_⟩ trivial
    refine AK.sc (lim := 0) (lo := 0) rfl rfl rfl rfl ?_ ?_
    ·intro k_ u w_ hk_ hl_ hJ hF K hK
     have h24 : caP E cl (u 24) w_ := AK.facts_get hF 24 (by simp)
     clear hF
     obtain ⟨v9_, h24, hs9_⟩ := h24
     simp only [h24] at hK ⊢
     clear h24
     go_simp
     exact hK.out _ _ (Below.refl _ _) hs9_ trivial
    refine AK.sc (lim := 0) (lo := 0) rfl rfl rfl rfl ?_ ?_
    ·intro k_ u w_ hk_ hl_ hJ hF K hK
     have h24 : caP E cl (u 24) w_ := AK.facts_get hF 24 (by simp)
     clear hF
     obtain ⟨v9_, h24, hs9_⟩ := h24
     simp only [h24] at hK ⊢
     clear h24
     go_simp
     exact hK.out _ _ (Below.refl _ _) (rfl) trivial
    refine AK.sc (lim := 0) (lo := 0) rfl rfl rfl rfl ?_ ?_
    ·intro k_ u w_ hk_ hl_ hJ hF K hK
     have h30 : SlB w_ (u 30) cl := AK.facts_get hF 30 (by simp)
     clear hF
     go_simp
     exact hK.out _ _ (Below.refl _ _) h30 trivial
    refine AK.sc (lim := 0) (lo := 0) rfl rfl rfl rfl ?_ ?_
    ·intro k_ u w_ hk_ hl_ hJ hF K hK
     have h31 : u 31 = .int .i64 E := AK.facts_get hF 31 (by simp)
     clear hF
     simp only [h31] at hK ⊢
     clear h31
     go_simp
     exact hK.out _ _ (Below.refl _ _) (rfl) trivial
    exact AK.StepsOk.nil
   ·intro u W9 hJ9 hF
    have h7 : SlB W9 (u 7) cl := AK.facts_get hF 7 (by simp [cs3F, AK.temps])
    have h8 : u 8 = .int .i64 E := AK.facts_get hF 8 (by simp [cs3F, AK.temps])
    clear hF
    obtain ⟨A7, c7, h7, hz7⟩ := h7
    have HZ7 := Lib.hid hz7
    clear hz7
    have HB9 : Hid (Below w2.heap.size w2 W9) := Lib.hid (HWB.out _ hJ9)
    clear hJ9 HBC
    have HBC := HB9
    clear HB9 HWB
    simp only [h7, h8]
    clear h7 h8
    go_wp2_with (first
     | (clear HM2; refine wpList_load_is rfl 29 _ rfl (.pointer (some ⟨s0, 0, none⟩)) rfl GV (HLG.out _ HBC.out) ?_)
     | (go_at_call 9; refine (HR.out _ HBC.out).mono ?_; rintro r w5 ⟨⟨v8, rfl, hs8⟩, hb⟩; have hB3 := Lib.hid (HBC.out.trans (hb.mono HBC.out.size)); clear HBC; have HBC := hB3; clear hB3; obtain ⟨A8, c8, hv8, hz8⟩ := hs8; subst hv8; have HZ8 := Lib.hid hz8; have HZ9 := Lib.hid (HZ7.out.up hb); clear hz8; clear hb)
     | (go_at_call 10; refine (HSA.out _ _ _ _ _ HZ9.out HZ8.out).mono ?_; rintro r w6 ⟨rfl, hb⟩; have hB3 := Lib.hid (HBC.out.trans (hb.mono HBC.out.size)); clear HBC; have HBC := hB3; clear hB3; clear hb))
    go_ret
    exact ⟨by first | rfl | simp, by have h9 := HBW.out _ HBC.out; first | exact h9 | (rw [← HS0.out]; exact h9)⟩
  ·have hd : decide ((60 : Int) < (n : Int)) = true := decide_eq_true (by omega)
   clear hsm HPL HRP hl HTO
   go_enter Tryz.func3, Tryz.ntmps3
   go_wp2_with (first
    | (clear HM1; first | (refine wpList_load_if rfl 29 _ rfl (.pointer (some ⟨s0, 0, none⟩)) rfl GV (HLG.out _ HBC.out) ?_) | (refine wpList_load_is rfl 29 _ rfl (.pointer (some ⟨s0, 0, none⟩)) rfl GV (HLG.out _ HBC.out) ?_))
    | (go_at_call 5; refine (HAW.out _).mono ?_; rintro r w3 ⟨rfl, hb⟩; have hB3 := Lib.hid (HBC.out.trans (hb.mono HBC.out.size)); clear HBC; have HBC := hB3; clear hB3; clear hb)
    | (go_at_call 6; refine (HFW.out _ HBC.out).mono ?_; rintro r w3 ⟨rfl, hb⟩; have hB3 := Lib.hid (HBC.out.trans (hb.mono HBC.out.size)); clear HBC; have HBC := hB3; clear hB3; clear hb))
   go_ret
   exact ⟨rfl, by have h9 := HBW.out _ HBC.out; first | exact h9 | (rw [← HS0.out]; exact h9)⟩
end Go.Proofs.YtompehjecamdiaaGreat
