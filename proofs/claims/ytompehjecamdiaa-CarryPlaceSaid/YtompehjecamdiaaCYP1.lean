/- Contracts and the law of CarryPlace, part 1: what was proved of each, callees first. -/
import Derived.Test.YtompehjecamdiaaCY7
namespace Go.Proofs.Ytompehjecamdiaa
open Go.RowKit Go.Maps
theorem cy_store_wh {P : Program} {o : Oper} {a : Act} {w : World} {K : Act → World → Prop} {Q : Exit → Act → World → Prop} (ty : TypeId) (x y : Operand) (hop : o.op = .store ty x y)
  (b : Nat) (hx : a.eval x = .pointer (some ⟨b, 0, none⟩)) (t : TypeId) (cs vs : List Value) (hy : a.eval y = .agg vs.toArray) (hw : Wh t w b cs) (hl : vs.length = cs.length)
  (hi : (P.info? ty).map (·.size) = some vs.toArray.size) (h1 : vs.toArray.all (·.oneCell') = true)
  (h : ∀ W, Hid (Wh t W b vs) → Hid (Only (fun k => k = b) w W) → W.heap.size = w.heap.size → K (a.put o.dst undef) W) : Oper.wp P o a w K Q :=
 wp_store_mid ty x y hop b 0 vs.toArray hx hy (hw.there (by simp [hl])) hi h1 (h _ (Lib.hid (hw.put vs hl)) (Lib.hid (Only.setCells (S := fun k => k = b) rfl vs 0 w)) (by
  have : ∀ (vs : List Value) (o : Nat) (w : World), (w.setCells b o vs).heap.size = w.heap.size := by
   intro vs
   induction vs with
   | nil => intro o w; rfl
   | cons v r ih => intro o w; rw [World.setCells, ih]; exact World.size_setCell _ _ _
  exact this _ _ _))
def cyK (t : TypeId) (zs : List Value) (w0 : World) : Nat → List Value → World → Prop
 | 0, _, W => Below w0.heap.size w0 W
 | 1, l, W => Below w0.heap.size w0 W ∧ ∀ v, l = [v] → ∃ g, v = .pointer (some ⟨g, 0, none⟩) ∧ w0.heap.size ≤ g ∧ Wh t W g zs
 | _ + 2, _, W => Below w0.heap.size w0 W
theorem cyK.low {t : TypeId} {zs : List Value} {w0 W : World} : ∀ {k : Nat} {l : List Value}, cyK t zs w0 k l W → Below w0.heap.size w0 W
 | 0, _, h => h
 | 1, _, h => h.1
 | _ + 2, _, h => h
theorem cyK.st {t : TypeId} {zs : List Value} {w0 W W' : World} (hb : Below W.heap.size W W') : ∀ {k : Nat} {l : List Value}, cyK t zs w0 k l W → cyK t zs w0 k l W'
 | 0, _, h => Below.trans h (hb.mono (Below.size h))
 | 1, _, h => ⟨h.1.trans (hb.mono h.1.size), fun v hv => by obtain ⟨g, h1, h2, h3⟩ := h.2 v hv; exact ⟨g, h1, h2, h3.up hb⟩⟩
 | _ + 2, _, h => Below.trans h (hb.mono (Below.size h))
theorem cyK.one {t : TypeId} {zs : List Value} {w0 W : World} (h : Below w0.heap.size w0 W) : cyK t zs w0 1 [.pointer (some ⟨W.heap.size, 0, none⟩)] (W.alloc (.cells zs.toArray t)) :=
 ⟨h.trans ((below_alloc_new _).mono h.size), fun v hv => by cases hv; exact ⟨_, rfl, h.size, Wh.new W t zs⟩⟩
set_option maxRecDepth 100000 in
set_option maxHeartbeats 6400000 in
theorem rycheck_any (g : Grp) (L : List Acc) (G : List Ent) (p : Int) (w : World) (hk : GrK w g L G) (hs : Sm g G) (hw : GrW g L G) : Calls Try.prog 24 #[grpV g, .int .i64 p] w fun e w' => e = .returned (.int .i64 (cyE g L G p)) ∧ Below w.heap.size w w' := by
 obtain ⟨GV, hGV⟩ : ∃ GV, GV = grpV g := ⟨_, rfl⟩
 obtain ⟨gs, hgs⟩ : ∃ gs, (grpC g).toArray = gs := ⟨_, rfl⟩
 obtain ⟨s0, hs0⟩ : ∃ s0, w.heap.size = s0 := ⟨_, rfl⟩
 obtain ⟨w2, hw2⟩ : ∃ w2, w.alloc (.cells gs 29) = w2 := ⟨_, rfl⟩
 have HGB : Hid (Wh 29 w2 s0 (grpC g)) := Lib.hid (by rw [← hw2, ← hgs, ← hs0]; exact (Wh.new w 29 (grpC g)))
 have HB2 : Hid (Below w.heap.size w w2) := Lib.hid (by rw [← hw2]; exact below_alloc_new _)
 have HS0 := Lib.hid hs0
 have HLG : Hid (∀ W, Below w2.heap.size w2 W → (Instr.loadAt 29 (.pointer (some ⟨s0, 0, none⟩))).run Try.prog W = .ok GV W) := Lib.hid (fun W h => by rw [hGV, grpV_is]; exact (HGB.out.up h).rg.load 0 29 (grpC g) rfl _ Try.underlying29 rfl (by kernel_rfl))
 have HBC : Hid (Below w2.heap.size w2 w2) := Lib.hid (Below.refl _ _)
 have HBW : Hid (∀ W, Below w2.heap.size w2 W → Below w.heap.size w W) := Lib.hid (fun W h => HB2.out.trans (h.mono HB2.out.size))
 have HS2 : Hid (s0 + 1 ≤ w2.heap.size) := Lib.hid (by rw [← hw2, ← hs0]; simp)
 have HVL := Lib.hid (fun W (hb : Below w2.heap.size w2 W) => by have h9 := rvalid10_any g L G W ((hk.up HB2.out).up hb) hs hw; rw [← grp_eq] at h9; exact h9)
 have HC3 : Hid (∀ W, Below w2.heap.size w2 W → W.cell? ⟨s0, 3, none⟩ = some (.int .i64 g.cp)) := Lib.hid (fun W hb => (HGB.out.up hb).at 3 _ rfl)
 have hGS : GV = .agg gs := by rw [hGV, grpV_is, hgs]
 rw [← hGV] at HVL ⊢
 rw [hGS]
 clear hGS hGV
 have hbad := fun h => cyE_bad (g := g) (L := L) (G := G) (p := p) h
 have hout := fun h h2 => cyE_out (g := g) (L := L) (G := G) (p := p) h h2
 have hin := fun h h2 => cyE_in (g := g) (L := L) (G := G) (p := p) h h2
 generalize cyE g L G p = E at *
 generalize grpP g L G = q at *
 obtain ⟨cp, hcp⟩ : ∃ cp, g.cp = cp := ⟨_, rfl⟩
 rw [hcp] at HC3 hout hin
 clear hk hs hw hcp
 have HM1 : True := trivial
 cases q
 ·have HE := Lib.hid (hbad rfl)
  clear hbad hout hin
  go_enter Try.func24, Try.ntmps24
  go_wp2_with (first
   | (clear HM1; refine wpList_load_is rfl 29 _ rfl (.pointer (some ⟨s0, 0, none⟩)) rfl GV (HLG.out _ HBC.out) ?_)
   | (go_at_call 18; refine (HVL.out _ HBC.out).mono ?_; rintro r w3 ⟨rfl, hb⟩; have hB3 := Lib.hid (HBC.out.trans (hb.mono HBC.out.size)); clear HBC; have HBC := hB3; clear hB3; have C3 := HC3.out _ HBC.out; clear hb))
  go_ret
  exact ⟨by rw [HE.out]; rfl, by have h9 := HBW.out _ HBC.out; first | exact h9 | (rw [← HS0.out]; exact h9)⟩
 ·by_cases h0 : p < 0
  ·have HE := Lib.hid (hout rfl (by omega))
   have h1 : decide (p < 0) = true := decide_eq_true h0
   clear hbad hout hin h0
   go_enter Try.func24, Try.ntmps24
   go_wp2_with (first
    | (clear HM1; refine wpList_load_is rfl 29 _ rfl (.pointer (some ⟨s0, 0, none⟩)) rfl GV (HLG.out _ HBC.out) ?_)
    | (go_at_call 18; refine (HVL.out _ HBC.out).mono ?_; rintro r w3 ⟨rfl, hb⟩; have hB3 := Lib.hid (HBC.out.trans (hb.mono HBC.out.size)); clear HBC; have HBC := hB3; clear hB3; have C3 := HC3.out _ HBC.out; clear hb))
   go_ret
   exact ⟨by rw [HE.out]; rfl, by have h9 := HBW.out _ HBC.out; first | exact h9 | (rw [← HS0.out]; exact h9)⟩
  ·have h1 : decide (p < 0) = false := decide_eq_false h0
   by_cases h2 : cp ≤ p
   ·have HE := Lib.hid (hout rfl (by omega))
    have h3 : decide (cp ≤ p) = true := decide_eq_true h2
    clear hbad hout hin h0 h2
    go_enter Try.func24, Try.ntmps24
    go_wp2_with (first
     | (clear HM1; refine wpList_load_is rfl 29 _ rfl (.pointer (some ⟨s0, 0, none⟩)) rfl GV (HLG.out _ HBC.out) ?_)
     | (go_at_call 18; refine (HVL.out _ HBC.out).mono ?_; rintro r w3 ⟨rfl, hb⟩; have hB3 := Lib.hid (HBC.out.trans (hb.mono HBC.out.size)); clear HBC; have HBC := hB3; clear hB3; have C3 := HC3.out _ HBC.out; clear hb))
    go_ret
    exact ⟨by rw [HE.out]; rfl, by have h9 := HBW.out _ HBC.out; first | exact h9 | (rw [← HS0.out]; exact h9)⟩
   ·have HE := Lib.hid (hin rfl (by omega))
    have h3 : decide (cp ≤ p) = false := decide_eq_false h2
    clear hbad hout hin h0 h2
    go_enter Try.func24, Try.ntmps24
    go_wp2_with (first
     | (clear HM1; refine wpList_load_is rfl 29 _ rfl (.pointer (some ⟨s0, 0, none⟩)) rfl GV (HLG.out _ HBC.out) ?_)
     | (go_at_call 18; refine (HVL.out _ HBC.out).mono ?_; rintro r w3 ⟨rfl, hb⟩; have hB3 := Lib.hid (HBC.out.trans (hb.mono HBC.out.size)); clear HBC; have HBC := hB3; clear hB3; have C3 := HC3.out _ HBC.out; clear hb))
    go_ret
    exact ⟨by rw [HE.out]; rfl, by have h9 := HBW.out _ HBC.out; first | exact h9 | (rw [← HS0.out]; exact h9)⟩
set_option maxRecDepth 100000 in
set_option maxHeartbeats 6400000 in
theorem ryshown_any (g : Grp) (L : List Acc) (G : List Ent) (c d p : Int) (w : World) (hk : GrK w g L G) (hs : Sm g G) : Calls Try.prog 25 #[grpV g, .int .i64 c, .int .i64 d, .int .i64 p] w fun e w' => e = .returned (.int .i64 (plI L g.r6 (cyB g p) c d)) ∧ Below w.heap.size w w' := by
 obtain ⟨GV, hGV⟩ : ∃ GV, GV = grpV g := ⟨_, rfl⟩
 obtain ⟨gs, hgs⟩ : ∃ gs, (grpC g).toArray = gs := ⟨_, rfl⟩
 obtain ⟨s0, hs0⟩ : ∃ s0, w.heap.size = s0 := ⟨_, rfl⟩
 obtain ⟨w2, hw2⟩ : ∃ w2, w.alloc (.cells gs 29) = w2 := ⟨_, rfl⟩
 have HGB : Hid (Wh 29 w2 s0 (grpC g)) := Lib.hid (by rw [← hw2, ← hgs, ← hs0]; exact (Wh.new w 29 (grpC g)))
 have HB2 : Hid (Below w.heap.size w w2) := Lib.hid (by rw [← hw2]; exact below_alloc_new _)
 have HS0 := Lib.hid hs0
 have HLG : Hid (∀ W, Below w2.heap.size w2 W → (Instr.loadAt 29 (.pointer (some ⟨s0, 0, none⟩))).run Try.prog W = .ok GV W) := Lib.hid (fun W h => by rw [hGV, grpV_is]; exact (HGB.out.up h).rg.load 0 29 (grpC g) rfl _ Try.underlying29 rfl (by kernel_rfl))
 have HBC : Hid (Below w2.heap.size w2 w2) := Lib.hid (Below.refl _ _)
 have HBW : Hid (∀ W, Below w2.heap.size w2 W → Below w.heap.size w W) := Lib.hid (fun W h => HB2.out.trans (h.mono HB2.out.size))
 have HS2 : Hid (s0 + 1 ≤ w2.heap.size) := Lib.hid (by rw [← hw2, ← hs0]; simp)
 have HRS := Lib.hid (fun W (hb : Below w2.heap.size w2 W) => rres_any g L c W ((hk.up HB2.out).up hb).hz hk.ln (by have := hs.n; omega))
 have HBG := Lib.hid (fun W => rbegin7_any g.cy g.cm g.cp p W)
 have HLC : Hid (∀ W, Below w2.heap.size w2 W → (Instr.loadAt 23 (.pointer (some ⟨s0, 1, none⟩))).run Try.prog W = .ok (calV g.cy g.cm g.cp) W) := Lib.hid (fun W h => (HGB.out.up h).rg.load 1 23 [.int .i64 g.cy, .int .i64 g.cm, .int .i64 g.cp] rfl _ Try.underlying23 rfl (by kernel_rfl))
 have HC11 : Hid (∀ W, Below w2.heap.size w2 W → W.cell? ⟨s0, 11, none⟩ = some (.int .i64 g.r6)) := Lib.hid (fun W hb => (HGB.out.up hb).at 11 _ rfl)
 have hGS : GV = .agg gs := by rw [hGV, grpV_is, hgs]
 rw [← hGV] at HRS ⊢
 rw [hGS]
 clear hGS hGV
 have hcb : cyB g p = pdB g.cy g.cm g.cp p := rfl
 have hp : plI L g.r6 (cyB g p) c d = if (resB L c && decide (d < cyB g p)) = true then g.r6 else c := rfl
 rw [hp, hcb]
 obtain ⟨b, hb⟩ : ∃ b, pdB g.cy g.cm g.cp p = b := ⟨_, rfl⟩
 rw [hb] at HBG ⊢
 generalize resB L c = q at *
 obtain ⟨r6, hr6⟩ : ∃ r6, g.r6 = r6 := ⟨_, rfl⟩
 rw [hr6] at HC11 ⊢
 generalize clE g.cy g.cm g.cp p = E0 at *
 clear hk hs hcb hp hb hr6
 have HM1 : True := trivial
 cases q
 ·go_enter Try.func25, Try.ntmps25
  go_wp2_with (first
   | (refine wpList_load_is rfl 23 _ rfl (.pointer (some ⟨s0, 1, none⟩)) rfl (calV g.cy g.cm g.cp) (HLC.out _ HBC.out) ?_)
   | (clear HM1; refine wpList_load_is rfl 29 _ rfl (.pointer (some ⟨s0, 0, none⟩)) rfl GV (HLG.out _ HBC.out) ?_)
   | (go_at_call 44; refine (HBG.out _).mono ?_; rintro r w3 ⟨rfl, hb⟩; have hB3 := Lib.hid (HBC.out.trans (hb.mono HBC.out.size)); clear HBC; have HBC := hB3; clear hB3; clear hb)
   | (go_at_call 17; refine (HRS.out _ HBC.out).mono ?_; rintro r w3 ⟨rfl, hb⟩; have hB3 := Lib.hid (HBC.out.trans (hb.mono HBC.out.size)); clear HBC; have HBC := hB3; clear hB3; have C11 := HC11.out _ HBC.out; clear hb))
  go_ret
  exact ⟨rfl, by have h9 := HBW.out _ HBC.out; first | exact h9 | (rw [← HS0.out]; exact h9)⟩
 ·by_cases hd : d < b
  ·have hd1 : decide (d < b) = true := decide_eq_true hd
   rw [hd1]
   clear hd
   go_enter Try.func25, Try.ntmps25
   go_wp2_with (first
    | (refine wpList_load_is rfl 23 _ rfl (.pointer (some ⟨s0, 1, none⟩)) rfl (calV g.cy g.cm g.cp) (HLC.out _ HBC.out) ?_)
    | (clear HM1; refine wpList_load_is rfl 29 _ rfl (.pointer (some ⟨s0, 0, none⟩)) rfl GV (HLG.out _ HBC.out) ?_)
    | (go_at_call 44; refine (HBG.out _).mono ?_; rintro r w3 ⟨rfl, hb⟩; have hB3 := Lib.hid (HBC.out.trans (hb.mono HBC.out.size)); clear HBC; have HBC := hB3; clear hB3; clear hb)
    | (go_at_call 17; refine (HRS.out _ HBC.out).mono ?_; rintro r w3 ⟨rfl, hb⟩; have hB3 := Lib.hid (HBC.out.trans (hb.mono HBC.out.size)); clear HBC; have HBC := hB3; clear hB3; have C11 := HC11.out _ HBC.out; clear hb))
   go_ret
   exact ⟨rfl, by have h9 := HBW.out _ HBC.out; first | exact h9 | (rw [← HS0.out]; exact h9)⟩
  ·have hd1 : decide (d < b) = false := decide_eq_false hd
   rw [hd1]
   clear hd
   go_enter Try.func25, Try.ntmps25
   go_wp2_with (first
    | (refine wpList_load_is rfl 23 _ rfl (.pointer (some ⟨s0, 1, none⟩)) rfl (calV g.cy g.cm g.cp) (HLC.out _ HBC.out) ?_)
    | (clear HM1; refine wpList_load_is rfl 29 _ rfl (.pointer (some ⟨s0, 0, none⟩)) rfl GV (HLG.out _ HBC.out) ?_)
    | (go_at_call 44; refine (HBG.out _).mono ?_; rintro r w3 ⟨rfl, hb⟩; have hB3 := Lib.hid (HBC.out.trans (hb.mono HBC.out.size)); clear HBC; have HBC := hB3; clear hB3; clear hb)
    | (go_at_call 17; refine (HRS.out _ HBC.out).mono ?_; rintro r w3 ⟨rfl, hb⟩; have hB3 := Lib.hid (HBC.out.trans (hb.mono HBC.out.size)); clear HBC; have HBC := hB3; clear hB3; have C11 := HC11.out _ HBC.out; clear hb))
   go_ret
   exact ⟨rfl, by have h9 := HBW.out _ HBC.out; first | exact h9 | (rw [← HS0.out]; exact h9)⟩
set_option maxRecDepth 100000 in
set_option maxHeartbeats 6400000 in
theorem ryplac_any (g : Grp) (L : List Acc) (G : List Ent) (c d p : Int) (w : World) (hk : GrK w g L G) (hs : Sm g G) (hw : GrW g L G) : Calls Try.prog 10 #[grpV g, .int .i64 c, .int .i64 d, .int .i64 p] w fun e w' => e = .returned (.tuple #[.int .i64 (plN g L G c d p), .int .i64 (plE g L G c p)]) ∧ Below w.heap.size w w' := by
 obtain ⟨GV, hGV⟩ : ∃ GV, GV = grpV g := ⟨_, rfl⟩
 obtain ⟨gs, hgs⟩ : ∃ gs, (grpC g).toArray = gs := ⟨_, rfl⟩
 obtain ⟨s0, hs0⟩ : ∃ s0, w.heap.size = s0 := ⟨_, rfl⟩
 obtain ⟨w2, hw2⟩ : ∃ w2, w.alloc (.cells gs 29) = w2 := ⟨_, rfl⟩
 have HGB : Hid (Wh 29 w2 s0 (grpC g)) := Lib.hid (by rw [← hw2, ← hgs, ← hs0]; exact (Wh.new w 29 (grpC g)))
 have HB2 : Hid (Below w.heap.size w w2) := Lib.hid (by rw [← hw2]; exact below_alloc_new _)
 have HS0 := Lib.hid hs0
 have HLG : Hid (∀ W, Below w2.heap.size w2 W → (Instr.loadAt 29 (.pointer (some ⟨s0, 0, none⟩))).run Try.prog W = .ok GV W) := Lib.hid (fun W h => by rw [hGV, grpV_is]; exact (HGB.out.up h).rg.load 0 29 (grpC g) rfl _ Try.underlying29 rfl (by kernel_rfl))
 have HBC : Hid (Below w2.heap.size w2 w2) := Lib.hid (Below.refl _ _)
 have HBW : Hid (∀ W, Below w2.heap.size w2 W → Below w.heap.size w W) := Lib.hid (fun W h => HB2.out.trans (h.mono HB2.out.size))
 have HS2 : Hid (s0 + 1 ≤ w2.heap.size) := Lib.hid (by rw [← hw2, ← hs0]; simp)
 have HCK := Lib.hid (fun W (hb : Below w2.heap.size w2 W) => rycheck_any g L G p W ((hk.up HB2.out).up hb) hs hw)
 have HAC := Lib.hid (fun W (hb : Below w2.heap.size w2 W) => racct_any g L c W ((hk.up HB2.out).up hb).hz hk.ln (by have := hs.n; omega))
 have HSH := Lib.hid (fun W (hb : Below w2.heap.size w2 W) => ryshown_any g L G c d p W ((hk.up HB2.out).up hb) hs)
 have hGS : GV = .agg gs := by rw [hGV, grpV_is, hgs]
 rw [← hGV] at HCK HAC HSH ⊢
 rw [hGS]
 clear hGS hGV
 have hpe : plE g L G c p = if cyE g L G p = 0 then (if (fnd L c).isSome = true then 0 else 8) else cyE g L G p := rfl
 have hpn : plN g L G c d p = if plE g L G c p = 0 then plI L g.r6 (cyB g p) c d else 0 := rfl
 rw [hpn, hpe]
 generalize cyE g L G p = E at *
 generalize plI L g.r6 (cyB g p) c d = te at *
 generalize (fnd L c).isSome = q at *
 generalize fndA L c = fa at *
 clear hk hs hw hpe hpn
 have HM1 : True := trivial
 have HM2 : True := trivial
 have HM3 : True := trivial
 by_cases hE0 : E = 0
 ·subst hE0
  have z1 : ((0 : Int) != 0) = false := rfl
  simp only [if_true]
  cases q
  ·go_enter Try.func10, Try.ntmps10
   go_wp2_with (first
    | (clear HM1; refine wpList_load_is rfl 29 _ rfl (.pointer (some ⟨s0, 0, none⟩)) rfl GV (HLG.out _ HBC.out) ?_)
    | (go_at_call 24; refine (HCK.out _ HBC.out).mono ?_; rintro r w3 ⟨rfl, hb⟩; have hB3 := Lib.hid (HBC.out.trans (hb.mono HBC.out.size)); clear HBC; have HBC := hB3; clear hB3; clear hb)
    | (clear HM2; refine wpList_load_is rfl 29 _ rfl (.pointer (some ⟨s0, 0, none⟩)) rfl GV (HLG.out _ HBC.out) ?_)
    | (go_at_call 19; refine (HAC.out _ HBC.out).mono ?_; rintro r w3 ⟨rfl, hb⟩; have hB3 := Lib.hid (HBC.out.trans (hb.mono HBC.out.size)); clear HBC; have HBC := hB3; clear hB3; obtain ⟨sv, hsv⟩ : ∃ sv, w3.heap.size = sv := ⟨_, rfl⟩; have HSV := Lib.hid hsv; clear hb)
    | (refine wpList_store_wh rfl 52 _ _ rfl sv rfl 52 [.int .i64 0, .int .i64 0, .int .i64 0, .int .i64 0] (celA fa) rfl (by rw [← HSV.out]; exact Wh.new w3 52 [.int .i64 0, .int .i64 0, .int .i64 0, .int .i64 0]) rfl (by kernel_rfl) (by kernel_rfl) ?_; intro w5 hr5 ho5 hz5; have hb5 : Below w3.heap.size w3 w5 := only_new (by rw [HSV.out]; exact ho5.out); have hB3 := Lib.hid (HBC.out.trans (hb5.mono HBC.out.size)); clear HBC hr5 ho5 hz5 hb5; have HBC := hB3; clear hB3))
   go_ret2
   exact ⟨by first | rfl | simp, by have h9 := HBW.out _ HBC.out; first | exact h9 | (rw [← HS0.out]; exact h9)⟩
  ·go_enter Try.func10, Try.ntmps10
   go_wp2_with (first
    | (clear HM1; refine wpList_load_is rfl 29 _ rfl (.pointer (some ⟨s0, 0, none⟩)) rfl GV (HLG.out _ HBC.out) ?_)
    | (go_at_call 24; refine (HCK.out _ HBC.out).mono ?_; rintro r w3 ⟨rfl, hb⟩; have hB3 := Lib.hid (HBC.out.trans (hb.mono HBC.out.size)); clear HBC; have HBC := hB3; clear hB3; clear hb)
    | (clear HM2; refine wpList_load_is rfl 29 _ rfl (.pointer (some ⟨s0, 0, none⟩)) rfl GV (HLG.out _ HBC.out) ?_)
    | (go_at_call 19; refine (HAC.out _ HBC.out).mono ?_; rintro r w3 ⟨rfl, hb⟩; have hB3 := Lib.hid (HBC.out.trans (hb.mono HBC.out.size)); clear HBC; have HBC := hB3; clear hB3; obtain ⟨sv, hsv⟩ : ∃ sv, w3.heap.size = sv := ⟨_, rfl⟩; have HSV := Lib.hid hsv; clear hb)
    | (refine wpList_store_wh rfl 52 _ _ rfl sv rfl 52 [.int .i64 0, .int .i64 0, .int .i64 0, .int .i64 0] (celA fa) rfl (by rw [← HSV.out]; exact Wh.new w3 52 [.int .i64 0, .int .i64 0, .int .i64 0, .int .i64 0]) rfl (by kernel_rfl) (by kernel_rfl) ?_; intro w5 hr5 ho5 hz5; have hb5 : Below w3.heap.size w3 w5 := only_new (by rw [HSV.out]; exact ho5.out); have hB3 := Lib.hid (HBC.out.trans (hb5.mono HBC.out.size)); clear HBC hr5 ho5 hz5 hb5; have HBC := hB3; clear hB3)
    | (clear HM3; refine wpList_load_is rfl 29 _ rfl (.pointer (some ⟨s0, 0, none⟩)) rfl GV (HLG.out _ HBC.out) ?_)
    | (go_at_call 25; refine (HSH.out _ HBC.out).mono ?_; rintro r w3 ⟨rfl, hb⟩; have hB3 := Lib.hid (HBC.out.trans (hb.mono HBC.out.size)); clear HBC; have HBC := hB3; clear hB3; clear hb))
   go_ret2
   exact ⟨by first | rfl | simp, by have h9 := HBW.out _ HBC.out; first | exact h9 | (rw [← HS0.out]; exact h9)⟩
 ·have z1 : (E != 0) = true := by simp [hE0]
  simp only [if_neg hE0]
  clear hE0
  go_enter Try.func10, Try.ntmps10
  go_wp2_with (first
   | (clear HM1; refine wpList_load_is rfl 29 _ rfl (.pointer (some ⟨s0, 0, none⟩)) rfl GV (HLG.out _ HBC.out) ?_)
   | (go_at_call 24; refine (HCK.out _ HBC.out).mono ?_; rintro r w3 ⟨rfl, hb⟩; have hB3 := Lib.hid (HBC.out.trans (hb.mono HBC.out.size)); clear HBC; have HBC := hB3; clear hB3; clear hb))
  go_ret2
  exact ⟨rfl, by have h9 := HBW.out _ HBC.out; first | exact h9 | (rw [← HS0.out]; exact h9)⟩
theorem rkno_no {L : List Acc} {X : List Lnk} {k : Nat} (hk : k < X.length) (h : (fnd L (X.getD k lnk0).frm).isSome = false) : cvN L X = 8 := by
 unfold cvN knoB
 rw [all_false_getD (d := lnk0) hk h]; rfl
theorem rkno_yes {L : List Acc} {X : List Lnk} (h : ∀ i, i < X.length → (fnd L (X.getD i lnk0).frm).isSome = true) : cvN L X = if amsB X = true then 0 else 1 := by
 unfold cvN knoB
 rw [(all_getD (d := lnk0)).2 h]; rfl
theorem rams_no {X : List Lnk} {k : Nat} (hk : k < X.length) (h : amtB (X.getD k lnk0).since = false) : amsB X = false := all_false_getD (d := lnk0) hk h
theorem rams_yes {X : List Lnk} (h : ∀ i, i < X.length → amtB (X.getD i lnk0).since = true) : amsB X = true := (all_getD (d := lnk0)).2 h
def rvaF (_s0 bb off n c k : Nat) (GV : Value) (x : Lnk) (fa : Acc) (q : Bool) : List (Nat × AK.Fact (SizeUp)) := [(25, AK.Fact.is (GV)), (26, AK.Fact.is (.slice (some ⟨bb, off, none⟩) n c)), (27, AK.Fact.is (.int .i64 (k : Int))), (28, AK.Fact.is (.pointer (some ⟨bb, off + k * 3, none⟩))), (29, AK.Fact.is (.pointer (some ⟨bb, off + k * 3, none⟩))), (30, AK.Fact.is (.int .i64 x.frm)), (31, AK.Fact.is (.tuple #[accV fa, .bool q])), (24, AK.Fact.is (.tuple #[accV fa, .bool q])), (32, AK.Fact.is (accV fa)), (33, AK.Fact.is (.bool q)), (9, AK.Fact.triv), (10, AK.Fact.is (.bool q))]
set_option maxRecDepth 100000 in
set_option maxHeartbeats 6400000 in
theorem ryvalid_any (g : Grp) (L : List Acc) (G : List Ent) (A : Option Addr) (c : Nat) (X : List Lnk) (p : Int) (w : World) (hk : GrK w g L G) (hs : Sm g G) (hw : GrW g L G) (hz : LnkAt w A X) (hl : X.length ≤ 1000) : Calls Try.prog 28 #[grpV g, .slice A X.length c, .int .i64 p] w fun e w' => e = .returned (.int .i64 (cvE g L G X p)) ∧ Below w.heap.size w w' := by
 obtain ⟨GV, hGV⟩ : ∃ GV, GV = grpV g := ⟨_, rfl⟩
 obtain ⟨gs, hgs⟩ : ∃ gs, (grpC g).toArray = gs := ⟨_, rfl⟩
 obtain ⟨s0, hs0⟩ : ∃ s0, w.heap.size = s0 := ⟨_, rfl⟩
 obtain ⟨w2, hw2⟩ : ∃ w2, w.alloc (.cells gs 29) = w2 := ⟨_, rfl⟩
 have HGB : Hid (Wh 29 w2 s0 (grpC g)) := Lib.hid (by rw [← hw2, ← hgs, ← hs0]; exact (Wh.new w 29 (grpC g)))
 have HB2 : Hid (Below w.heap.size w w2) := Lib.hid (by rw [← hw2]; exact below_alloc_new _)
 have HS0 := Lib.hid hs0
 have HLG : Hid (∀ W, Below w2.heap.size w2 W → (Instr.loadAt 29 (.pointer (some ⟨s0, 0, none⟩))).run Try.prog W = .ok GV W) := Lib.hid (fun W h => by rw [hGV, grpV_is]; exact (HGB.out.up h).rg.load 0 29 (grpC g) rfl _ Try.underlying29 rfl (by kernel_rfl))
 have HBC : Hid (Below w2.heap.size w2 w2) := Lib.hid (Below.refl _ _)
 have HBW : Hid (∀ W, Below w2.heap.size w2 W → Below w.heap.size w W) := Lib.hid (fun W h => HB2.out.trans (h.mono HB2.out.size))
 have HS2 : Hid (s0 + 1 ≤ w2.heap.size) := Lib.hid (by rw [← hw2, ← hs0]; simp)
 have HCK := Lib.hid (fun W (hb : Below w2.heap.size w2 W) => rycheck_any g L G p W ((hk.up HB2.out).up hb) hs hw)
 have HAC := Lib.hid (fun c W (hb : Below w2.heap.size w2 W) => racct_any g L c W ((hk.up HB2.out).up hb).hz hk.ln (by have := hs.n; omega))
 have HZ : Hid (LnkAt w2 A X) := Lib.hid (hz.up HB2.out)
 have hGS : GV = .agg gs := by rw [hGV, grpV_is, hgs]
 rw [← hGV] at HCK HAC ⊢
 rw [hGS]
 clear hGS hGV
 have hcv : cvE g L G X p = if cyE g L G p = 0 then cvN L X else cyE g L G p := rfl
 rw [hcv]
 have HNO := Lib.hid (fun k hk h => rkno_no (L := L) (X := X) (k := k) hk h)
 have HYE := Lib.hid (fun h => rkno_yes (L := L) (X := X) h)
 obtain ⟨E, hE⟩ : ∃ E, cvN L X = E := ⟨_, rfl⟩
 rw [hE] at HNO HYE ⊢
 obtain ⟨n, hn⟩ : ∃ n, X.length = n := ⟨_, rfl⟩
 have HN := Lib.hid hn
 rw [hn] at HNO HYE hl ⊢
 have HL := Lib.hid hl
 generalize cyE g L G p = E1 at *
 clear hk hs hw hz hcv hE hn hl
 have HM1 : True := trivial
 by_cases hE0 : E1 = 0
 ·subst hE0
  have z1 : ((0 : Int) != 0) = false := rfl
  simp only [if_true]
  go_enter Try.func28, Try.ntmps28
  go_wp2_with (first
   | (clear HM1; refine wpList_load_is rfl 29 _ rfl (.pointer (some ⟨s0, 0, none⟩)) rfl GV (HLG.out _ HBC.out) ?_)
   | (go_at_call 24; refine (HCK.out _ HBC.out).mono ?_; rintro r w3 ⟨rfl, hb⟩; have hB3 := Lib.hid (HBC.out.trans (hb.mono HBC.out.size)); clear HBC; have HBC := hB3; clear hB3; clear hb))
  go_loopg [8] n (fun kx s8 wr => ∃ k : Nat, s8 = .int .i64 k ∧ k ≤ n ∧ n - k ≤ kx ∧ Hid (∀ i, i < k → (fnd L (X.getD i lnk0).frm).isSome = true) ∧ Hid (Below w2.heap.size w2 wr))
  case atStart => exact ⟨0, rfl, by omega, by omega, Lib.hid (fun i h => absurd h (by omega)), HBC⟩
  case round =>
   clear HBC
   obtain ⟨k, rfl, hk, hkx, HK, HBC⟩ := hrel
   have hn6 : n ≤ 1000 := HL.out
   by_cases hlt : k < n
   ·have hltz : (k : Int) < (n : Int) := by omega
    obtain ⟨bb, off, hA, hbw, hcs⟩ := HZ.out (by rw [HN.out]; omega)
    have HA3 := Lib.hid (hcs k (by rw [HN.out]; exact hlt))
    have hno := HNO.out k hlt
    have HKS : Hid ((fnd L (X.getD k lnk0).frm).isSome = true → ∀ i, i < k + 1 → (fnd L (X.getD i lnk0).frm).isSome = true) := Lib.hid (fun h i hi => by
     rcases Nat.lt_or_ge i k with h9 | h9
     ·exact HK.out i h9
     ·obtain rfl : i = k := by omega
      exact h)
    obtain ⟨x, hx⟩ : ∃ x, X.getD k lnk0 = x := ⟨_, rfl⟩
    rw [hx] at HA3 hno HKS
    have HAX := Lib.hid (fun W hb => HAC.out x.frm W hb)
    obtain ⟨q, hq⟩ : ∃ q, (fnd L x.frm).isSome = q := ⟨_, rfl⟩
    rw [hq] at hno HKS HAX
    generalize fndA L x.frm = fa at *
    subst hA
    have HBW2 := Lib.hid hbw
    clear hcs hx hq hbw
    go_upto_region 7 with fail
    generalize hw4 : wr = w4 at *
    have HWB : Hid (∀ W, Below w4.heap.size w4 W → Below w2.heap.size w2 W) := Lib.hid (fun W h => HBC.out.trans (h.mono HBC.out.size))
    have HX0 : Hid (∀ W, Below w4.heap.size w4 W → W.cell? ⟨bb, off + k * 3, none⟩ = some (.int .i64 x.frm)) := Lib.hid (fun W h => (HA3.out.up (HWB.out W h) HBW2.out).1)
    refine AK.region_facts (Rp := Below0) (Kp := SizeUp) (rvaF s0 bb off n c k GV x fa q) (cyK 52 [.int .i64 0, .int .i64 0, .int .i64 0, .int .i64 0] w4) [[], [], [], [26, 27], [28], [29], [25, 30], [31], [24], [24], [], [9, 32], [33]] [10, 11] [[], [9], []] [1, 1, 1, 1, 1, 1, 1, 1, 1, 2, 2, 2, 2] [0, 0, 0, 0, 0, 0, 0, 0, 0, 0, 0, 0, 0] [] (fun u => by simp only [rvaF, AK.temps, List.map_cons, List.map_nil, fillL, List.setIfInBounds_toArray, List.set_cons_zero, List.set_cons_succ]; rfl) (by kernel_rfl) (by kernel_rfl) (fun _ _ h => h) (fun _ _ h => h.size) (fun _ _ _ _ hb h => cyK.st hb h) (dc_drew (Below.refl _ _)) ?_ ?_
    ·refine AK.sc (lim := 1) (lo := 0) rfl rfl rfl rfl ?_ ?_
     ·intro k_ u w_ hk_ hl_ hJ hF K hK
      clear hF
      refine wp_load_is 29 _ rfl (.pointer (some ⟨s0, 0, none⟩)) rfl GV (HLG.out _ (HWB.out _ (cyK.low hJ))) ?_
      exact hK.out _ _ (Below.refl _ _) rfl trivial
     refine AK.sc (lim := 1) (lo := 0) rfl rfl rfl rfl ?_ ?_
     ·intro k_ u w_ hk_ hl_ hJ hF K hK
      clear hF
      go_simp
      exact hK.out _ _ (Below.refl _ _) (rfl) trivial
     refine AK.sc (lim := 1) (lo := 0) rfl rfl rfl rfl ?_ ?_
     ·intro k_ u w_ hk_ hl_ hJ hF K hK
      clear hF
      go_simp
      exact hK.out _ _ (Below.refl _ _) (rfl) trivial
     refine AK.sc (lim := 1) (lo := 0) rfl rfl rfl rfl ?_ ?_
     ·intro k_ u w_ hk_ hl_ hJ hF K hK
      have h26 : u 26 = .slice (some ⟨bb, off, none⟩) n c := AK.facts_get hF 26 (by simp)
      have h27 : u 27 = .int .i64 (k : Int) := AK.facts_get hF 27 (by simp)
      clear hF
      simp only [h26, h27] at hK ⊢
      clear h26 h27
      go_simp
      exact hK.out _ _ (Below.refl _ _) (rfl) trivial
     refine AK.sc (lim := 1) (lo := 0) rfl rfl rfl rfl ?_ ?_
     ·intro k_ u w_ hk_ hl_ hJ hF K hK
      have h28 : u 28 = .pointer (some ⟨bb, off + k * 3, none⟩) := AK.facts_get hF 28 (by simp)
      clear hF
      simp only [h28] at hK ⊢
      clear h28
      go_simp
      exact hK.out _ _ (Below.refl _ _) (rfl) trivial
     refine AK.sc (lim := 1) (lo := 0) rfl rfl rfl rfl ?_ ?_
     ·intro k_ u w_ hk_ hl_ hJ hF K hK
      have h29 : u 29 = .pointer (some ⟨bb, off + k * 3, none⟩) := AK.facts_get hF 29 (by simp)
      clear hF
      simp only [h29] at hK ⊢
      clear h29
      have c_ := HX0.out _ (cyK.low hJ)
      go_simp
      exact hK.out _ _ (Below.refl _ _) (rfl) trivial
     refine AK.sc (lim := 1) (lo := 0) rfl rfl rfl rfl ?_ ?_
     ·intro k_ u w_ hk_ hl_ hJ hF K hK
      have h25 : u 25 = GV := AK.facts_get hF 25 (by simp)
      have h30 : u 30 = .int .i64 x.frm := AK.facts_get hF 30 (by simp)
      clear hF
      simp only [h25, h30] at hK ⊢
      clear h25 h30
      go_simp
      refine (HAX.out _ (HWB.out _ (cyK.low hJ))).mono ?_
      rintro r_ w6_ ⟨rfl, hb6_⟩
      exact hK.out _ _ hb6_ rfl trivial
     refine AK.sc (lim := 1) (lo := 0) rfl rfl rfl rfl ?_ ?_
     ·intro k_ u w_ hk_ hl_ hJ hF K hK
      have h31 : u 31 = .tuple #[accV fa, .bool q] := AK.facts_get hF 31 (by simp)
      clear hF
      simp only [h31] at hK ⊢
      clear h31
      go_simp
      exact hK.out _ _ (Below.refl _ _) (rfl) trivial
     refine AK.sc (lim := 1) (lo := 0) rfl rfl rfl rfl ?_ ?_
     ·intro k_ u w_ hk_ hl_ hJ hF K hK
      have h24 : u 24 = .tuple #[accV fa, .bool q] := AK.facts_get hF 24 (by simp)
      clear hF
      simp only [h24] at hK ⊢
      clear h24
      go_simp
      exact hK.out _ _ (Below.refl _ _) (rfl) trivial
     refine AK.sc (lim := 2) (lo := 0) rfl rfl rfl rfl ?_ ?_
     ·intro k_ u w_ hk_ hl_ hJ hF K hK
      have h24 : u 24 = .tuple #[accV fa, .bool q] := AK.facts_get hF 24 (by simp)
      clear hF
      simp only [h24] at hK ⊢
      clear h24
      go_simp
      exact hK.out _ _ (Below.refl _ _) (rfl) trivial
     refine AK.ss rfl rfl ?_ ?_
     ·intro u w_ hJ hA_ hF K hK
      clear hF
      go_simp
      exact hK.out _ _ (cyK.one (zs := [.int .i64 0, .int .i64 0, .int .i64 0, .int .i64 0]) (cyK.low hJ)) (by simp) trivial
     refine AK.ss rfl rfl ?_ ?_
     ·intro u w_ hJ hA_ hF K hK
      have h32 : u 32 = accV fa := AK.facts_get hF 32 (by simp)
      clear hF
      obtain ⟨hb9, hl9⟩ := hJ
      obtain ⟨g9, hv9, hg9, hw9⟩ := hl9 _ rfl
      simp only [h32, hv9] at hK ⊢
      clear h32 hv9
      refine cy_store_wh 52 _ _ rfl g9 rfl 52 [.int .i64 0, .int .i64 0, .int .i64 0, .int .i64 0] (celA fa) rfl hw9 rfl (by kernel_rfl) (by kernel_rfl) ?_
      intro W hr ho hz
      exact hK.out undef _ (hb9.trans (ho.out.below (fun k hk => by rw [hk]; exact hg9) hb9.size)) (Nat.le_of_eq hz.symm) trivial
     refine AK.sc (lim := 2) (lo := 0) rfl rfl rfl rfl ?_ ?_
     ·intro k_ u w_ hk_ hl_ hJ hF K hK
      have h33 : u 33 = .bool q := AK.facts_get hF 33 (by simp)
      clear hF
      simp only [h33] at hK ⊢
      clear h33
      go_simp
      exact hK.out _ _ (Below.refl _ _) (rfl) trivial
     exact AK.StepsOk.nil
    ·intro u W9 hJ9 hF
     have h10 : u 10 = .bool q := AK.facts_get hF 10 (by simp [rvaF, AK.temps])
     clear hF
     have HB9 : Hid (Below w2.heap.size w2 W9) := Lib.hid (HWB.out _ (cyK.low hJ9))
     clear hJ9 HBC
     have HBC := HB9
     clear HB9
     simp only [h10]
     clear h10
     cases q
     ·have HE := Lib.hid (hno rfl)
      clear hno
      go_wp2_with fail
      go_ret
      exact ⟨by rw [HE.out]; rfl, by have h9 := HBW.out _ HBC.out; first | exact h9 | (rw [← HS0.out]; exact h9)⟩
     ·clear hno
      go_wp2_with fail
      go_roundg (n - (k + 1))
      case measure => omega
      case rel => exact ⟨k + 1, by go_num, by omega, by omega, Lib.hid (HKS.out (by simp)), HBC⟩
   ·obtain rfl : k = n := by omega
    have hltz : ¬ (k : Int) < (k : Int) := by omega
    have HYF := Lib.hid (HYE.out HK.out)
    clear HYE HNO HK
    go_wp2_with fail
    go_loopg [11] k (fun kx s11 wr => ∃ j : Nat, s11 = .int .i64 j ∧ j ≤ k ∧ k - j ≤ kx ∧ Hid (∀ i, i < j → amtB (X.getD i lnk0).since = true) ∧ Hid (Below w2.heap.size w2 wr))
    case atStart => exact ⟨0, rfl, by omega, by omega, Lib.hid (fun i h => absurd h (by omega)), HBC⟩
    case round =>
     clear HBC
     rename World => wr
     obtain ⟨j, rfl, hj, hjx, HK, HBC⟩ := hrel
     by_cases hlt : j < k
     ·have hltz : (j : Int) < (k : Int) := by omega
      obtain ⟨bb, off, hA, hbw, hcs⟩ := HZ.out (by rw [HN.out]; omega)
      have HA3 := Lib.hid (hcs j (by rw [HN.out]; exact hlt))
      have hno := rams_no (X := X) (k := j) (by rw [HN.out]; exact hlt)
      have HKS : Hid (amtB (X.getD j lnk0).since = true → ∀ i, i < j + 1 → amtB (X.getD i lnk0).since = true) := Lib.hid (fun h i hi => by
       rcases Nat.lt_or_ge i j with h9 | h9
       ·exact HK.out i h9
       ·obtain rfl : i = j := by omega
        exact h)
      obtain ⟨x, hx⟩ : ∃ x, X.getD j lnk0 = x := ⟨_, rfl⟩
      rw [hx] at HA3 hno HKS
      obtain ⟨r0, r1, r2⟩ := HA3.out.up HBC.out hbw
      have HAM := Lib.hid (fun W => ramt_any x.since W)
      obtain ⟨q, hq⟩ : ∃ q, amtB x.since = q := ⟨_, rfl⟩
      rw [hq] at hno HKS HAM
      subst hA
      clear hcs hx hq
      cases q
      ·have HE := Lib.hid (hno rfl)
       clear hno
       go_wp2_with (first
        | (go_at_call 29; refine (HAM.out _).mono ?_; rintro r w3 ⟨rfl, rfl⟩))
       go_ret
       exact ⟨by rw [HYF.out, HE.out]; rfl, by have h9 := HBW.out _ HBC.out; first | exact h9 | (rw [← HS0.out]; exact h9)⟩
      ·clear hno
       go_wp2_with (first
        | (go_at_call 29; refine (HAM.out _).mono ?_; rintro r w3 ⟨rfl, rfl⟩))
       go_roundg (k - (j + 1))
       case measure => omega
       case rel => exact ⟨j + 1, by go_num, by omega, by omega, Lib.hid (HKS.out (by simp)), HBC⟩
     ·obtain rfl : j = k := by omega
      have hltz : ¬ (j : Int) < (j : Int) := by omega
      have HE := Lib.hid (rams_yes (X := X) (by rw [HN.out]; exact HK.out))
      go_wp2_with fail
      go_ret
      exact ⟨by rw [HYF.out, HE.out]; rfl, by have h9 := HBW.out _ HBC.out; first | exact h9 | (rw [← HS0.out]; exact h9)⟩
 ·have z1 : (E1 != 0) = true := by simp [hE0]
  simp only [if_neg hE0]
  clear hE0
  go_enter Try.func28, Try.ntmps28
  go_wp2_with (first
   | (clear HM1; refine wpList_load_is rfl 29 _ rfl (.pointer (some ⟨s0, 0, none⟩)) rfl GV (HLG.out _ HBC.out) ?_)
   | (go_at_call 24; refine (HCK.out _ HBC.out).mono ?_; rintro r w3 ⟨rfl, hb⟩; have hB3 := Lib.hid (HBC.out.trans (hb.mono HBC.out.size)); clear HBC; have HBC := hB3; clear hB3; clear hb))
  go_ret
  exact ⟨rfl, by have h9 := HBW.out _ HBC.out; first | exact h9 | (rw [← HS0.out]; exact h9)⟩
set_option maxRecDepth 100000 in
set_option maxHeartbeats 12800000 in
theorem law_cyplace (g : Grp) (L : List Acc) (G : List Ent) (a b p : Int) (w : World) (hwa : (Lit.int .i64 a).wf = true) (hk : GrK w g L G) (hw : GrW g L G) (hmx : g.m ≤ 9223372036854775807) :
  Calls Try.prog 3 #[grpV g, .agg #[.int .i64 a, .int .i64 b], .int .i64 p] w fun e w' => e = .returned (.bool true) ∧ Below w.heap.size w w' := by
 obtain ⟨GV, hGV⟩ : ∃ GV, GV = grpV g := ⟨_, rfl⟩
 obtain ⟨gs, hgs⟩ : ∃ gs, (grpC g).toArray = gs := ⟨_, rfl⟩
 obtain ⟨s0, hs0⟩ : ∃ s0, w.heap.size = s0 := ⟨_, rfl⟩
 obtain ⟨w2, hw2⟩ : ∃ w2, (w.alloc (.cells gs 29)).alloc (.cells #[.int .i64 a, .int .i64 b] 30) = w2 := ⟨_, rfl⟩
 have HGB : Hid (Wh 29 w2 s0 (grpC g)) := Lib.hid (by rw [← hw2, ← hgs, ← hs0]; exact ((Wh.new w 29 (grpC g)).up (below_alloc_new _)))
 have HB2 : Hid (Below w.heap.size w w2) := Lib.hid (by rw [← hw2]; exact below_new (below_alloc_new _) _)
 have HV : Hid (Wh 30 w2 (s0 + 1) [.int .i64 a, .int .i64 b]) := Lib.hid (by
  rw [← hw2, ← hs0]
  have h9 := (Wh.new (w.alloc (.cells gs 29)) 30 [.int .i64 a, .int .i64 b])
  simp only [World.size_alloc] at h9
  exact h9)
 have HS0 := Lib.hid hs0
 have HLG : Hid (∀ W, Below w2.heap.size w2 W → (Instr.loadAt 29 (.pointer (some ⟨s0, 0, none⟩))).run Try.prog W = .ok GV W) := Lib.hid (fun W h => by rw [hGV, grpV_is]; exact (HGB.out.up h).rg.load 0 29 (grpC g) rfl _ Try.underlying29 rfl (by kernel_rfl))
 have HBC : Hid (Below w2.heap.size w2 w2) := Lib.hid (Below.refl _ _)
 have HBW : Hid (∀ W, Below w2.heap.size w2 W → Below w.heap.size w W) := Lib.hid (fun W h => HB2.out.trans (h.mono HB2.out.size))
 have HS2 : Hid (s0 + 2 ≤ w2.heap.size) := Lib.hid (by rw [← hw2, ← hs0]; simp)
 have HAW := Lib.hid yawake_any
 have HFW := Lib.hid (fun W (hb : Below w2.heap.size w2 W) => rfew10_is g G W ((hk.up HB2.out).up hb).he hk.lg hmx)
 have HPL := Lib.hid (fun (hs : Sm g G) W (hb : Below w2.heap.size w2 W) => yplac_any g L G a b p W ((hk.up HB2.out).up hb) hs hw hwa)
 have HRP := Lib.hid (fun (hs : Sm g G) W (hb : Below w2.heap.size w2 W) => ryplac_any g L G a b p W ((hk.up HB2.out).up hb) hs hw)
 have HAT : Hid (∀ W, Below w2.heap.size w2 W → W.cell? ⟨s0 + 1, 0, none⟩ = some (.int .i64 a) ∧ W.cell? ⟨s0 + 1, 1, none⟩ = some (.int .i64 b)) := Lib.hid (fun W h => ⟨(HV.out.up h).at 0 _ rfl, (HV.out.up h).at 1 _ rfl⟩)
 have hGS : GV = .agg gs := by rw [hGV, grpV_is, hgs]
 rw [← hGV] at HFW HPL HRP ⊢
 rw [hGS]
 clear hGS hGV
 generalize plN g L G a b p = v1 at *
 generalize plE g L G a p = v2 at *
 have hsm := fun h => few_sm (g := g) (G := G) h
 obtain ⟨q, hq⟩ : ∃ q, few10 g G = q := ⟨_, rfl⟩
 rw [hq] at HFW hsm
 clear hk hw hmx hwa hq
 have HM1 : True := trivial
 have HM2 : True := trivial
 have HM3 : True := trivial
 have z1 : (v1 == v1) = true := by simp
 have z2 : (v2 == v2) = true := by simp
 cases q
 ·clear hsm
  go_enter Try.func3, Try.ntmps3
  go_wp2_with (first
   | (clear HM1; first | (refine wpList_load_if rfl 29 _ rfl (.pointer (some ⟨s0, 0, none⟩)) rfl GV (HLG.out _ HBC.out) ?_) | (refine wpList_load_is rfl 29 _ rfl (.pointer (some ⟨s0, 0, none⟩)) rfl GV (HLG.out _ HBC.out) ?_))
   | (go_at_call 7; refine (HAW.out _).mono ?_; rintro r w3 ⟨rfl, hb⟩; have hB3 := Lib.hid (HBC.out.trans (hb.mono HBC.out.size)); clear HBC; have HBC := hB3; clear hB3; clear hb)
   | (go_at_call 8; refine (HFW.out _ HBC.out).mono ?_; rintro r w3 ⟨rfl, hb⟩; have hB3 := Lib.hid (HBC.out.trans (hb.mono HBC.out.size)); clear HBC; have HBC := hB3; clear hB3; clear hb))
  go_ret
  exact ⟨rfl, by have h9 := HBW.out _ HBC.out; first | exact h9 | (rw [← HS0.out]; exact h9)⟩
 ·have HP := Lib.hid (HPL.out (hsm rfl))
  have HR := Lib.hid (HRP.out (hsm rfl))
  clear hsm HPL HRP
  go_enter Try.func3, Try.ntmps3
  go_wp2_with (first
   | (clear HM1; first | (refine wpList_load_if rfl 29 _ rfl (.pointer (some ⟨s0, 0, none⟩)) rfl GV (HLG.out _ HBC.out) ?_) | (refine wpList_load_is rfl 29 _ rfl (.pointer (some ⟨s0, 0, none⟩)) rfl GV (HLG.out _ HBC.out) ?_))
   | (clear HM2; refine wpList_load_is rfl 29 _ rfl (.pointer (some ⟨s0, 0, none⟩)) rfl GV (HLG.out _ HBC.out) ?_)
   | (clear HM3; refine wpList_load_is rfl 29 _ rfl (.pointer (some ⟨s0, 0, none⟩)) rfl GV (HLG.out _ HBC.out) ?_)
   | (go_at_call 7; refine (HAW.out _).mono ?_; rintro r w3 ⟨rfl, hb⟩; have hB3 := Lib.hid (HBC.out.trans (hb.mono HBC.out.size)); clear HBC; have HBC := hB3; clear hB3; clear hb)
   | (go_at_call 8; refine (HFW.out _ HBC.out).mono ?_; rintro r w3 ⟨rfl, hb⟩; have hB3 := Lib.hid (HBC.out.trans (hb.mono HBC.out.size)); clear HBC; have HBC := hB3; clear hB3; obtain ⟨q0, q1⟩ := HAT.out _ HBC.out; clear hb)
   | (go_at_call 9; refine (HP.out _ HBC.out).mono ?_; rintro r w3 ⟨rfl, hb⟩; have hB3 := Lib.hid (HBC.out.trans (hb.mono HBC.out.size)); clear HBC; have HBC := hB3; clear hB3; clear q0 q1; obtain ⟨q0, q1⟩ := HAT.out _ HBC.out; clear hb)
   | (go_at_call 10; refine (HR.out _ HBC.out).mono ?_; rintro r w3 ⟨rfl, hb⟩; have hB3 := Lib.hid (HBC.out.trans (hb.mono HBC.out.size)); clear HBC; have HBC := hB3; clear hB3; clear q0 q1; clear hb))
  go_ret
  exact ⟨by first | rfl | simp, by have h9 := HBW.out _ HBC.out; first | exact h9 | (rw [← HS0.out]; exact h9)⟩
end Go.Proofs.Ytompehjecamdiaa
