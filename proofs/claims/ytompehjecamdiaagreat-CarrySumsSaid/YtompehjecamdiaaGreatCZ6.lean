/- Contracts of the functions that the statements reach, part 6: what was proved of each, callees first. -/
import Derived.Shelf.SlGeneric
import Derived.Test.YtompehjecamdiaaGreatCZ5
namespace Go.Proofs.YtompehjecamdiaaGreat
open Go.RowKit Go.Maps
set_option maxRecDepth 20000 in
theorem ysamt_any (n : Int) (w : World) : Calls Tryz.prog 57 #[.int .i64 n] w fun e w' => e = .returned (.bool (amtB n)) ∧ w = w' := by
 unfold amtB
 rcases Int.lt_or_le n (-1000000000000) with h | h
 ·have h1 : decide (-1000000000000 ≤ n) = false := decide_eq_false (by omega)
  rw [h1]
  go_enter Tryz.func57, Tryz.ntmps57
  go_wp2_with fail
  go_ret
  exact ⟨rfl, rfl⟩
 ·have h1 : decide (-1000000000000 ≤ n) = true := decide_eq_true h
  rw [h1]
  go_enter Tryz.func57, Tryz.ntmps57
  go_wp2_with fail
  go_ret
  exact ⟨rfl, rfl⟩
set_option maxRecDepth 20000 in
set_option maxHeartbeats 1600000 in
theorem yplus_any (g r a : Int) (w : World) (hg : -1000000 ≤ g ∧ g ≤ 1000000) (hr : -1000000000000 < r ∧ r < 1000000000000) (ha : -1000000000000 ≤ a ∧ a ≤ 1000000000000) :
  Calls Tryz.prog 19 #[sumV g r, .int .i64 a] w fun e w' => e = .returned (sumV (plusG g r a) (plusR r a)) ∧ Below w.heap.size w w' := by
 have hbd := plus_bd (g := g) hr ha
 have hB := ((Below.refl w.heap.size w).alloc (Nat.le_refl _) (.cells #[.int .i64 g, .int .i64 r] 63)).alloc (by simp) (.cells #[.int .i64 0, .int .i64 0] 63)
 obtain ⟨c0, c1⟩ := two_at w g r 63
 obtain ⟨d0, d1⟩ := two_at (w.alloc (.cells #[.int .i64 g, .int .i64 r] 63)) 0 0 63
 have f0 := two_fz (w.alloc (.cells #[.int .i64 g, .int .i64 r] 63)) 0 0 63 0
 have f1 := two_fz (w.alloc (.cells #[.int .i64 g, .int .i64 r] 63)) 0 0 63 1
 have hup := below_alloc_new (w := w.alloc (.cells #[.int .i64 g, .int .i64 r] 63)) (.cells #[.int .i64 0, .int .i64 0] 63)
 replace c0 := (hup.cell (p := ⟨w.heap.size, 0, none⟩) (by simp)).trans c0
 replace c1 := (hup.cell (p := ⟨w.heap.size, 1, none⟩) (by simp)).trans c1
 have hgq := hbd
 unfold plusG at hgq
 unfold plusG plusR
 obtain ⟨s, hs⟩ : ∃ s, r + a = s := ⟨_, rfl⟩
 rw [hs] at hgq ⊢
 have hs1 : -2000000000000 < s ∧ s < 2000000000000 := by omega
 have hw1 : IntKind.i64.wrap (r + a) = s := by rw [hs, IntKind.wrap_i64]; omega
 obtain ⟨q, hq⟩ : ∃ q, s.tdiv 1000000000000 = q := ⟨_, rfl⟩
 obtain ⟨p, hp⟩ : ∃ p, s.tmod 1000000000000 = p := ⟨_, rfl⟩
 rw [hq] at hgq ⊢
 rw [hp]
 have hq2 : IntKind.i64.wrap (s.tdiv 1000000000000) = q := by rw [hq, IntKind.wrap_i64]; omega
 obtain ⟨g2, hg2⟩ : ∃ g2, g + q = g2 := ⟨_, rfl⟩
 rw [hg2] at hgq ⊢
 have hw3 : IntKind.i64.wrap (g + q) = g2 := by rw [hg2, IntKind.wrap_i64]; omega
 have hnz : ¬ (1000000000000 : Int) = 0 := by decide
 clear hs hq hg2 hgq hs1 hbd hg hr ha
 go_enter Tryz.func19, Tryz.ntmps19
 go_wp2_with fail
 obtain ⟨y0, y1⟩ := two_at (w.alloc (.cells #[.int .i64 g, .int .i64 r] 63)) g2 p 63
 have e9 : (w.alloc (.cells #[.int .i64 g, .int .i64 r] 63)).heap.size = w.heap.size + 1 := by simp
 rw [e9] at y0 y1
 exact bodyPost_ret (v := sumV g2 p) (by simp [results, Tryz.results19, go_sem, y0, y1]) rfl ⟨rfl, ((Below.refl w.heap.size w).alloc (Nat.le_refl _) (.cells #[.int .i64 g, .int .i64 r] 63)).alloc (by simp) (.cells #[.int .i64 g2, .int .i64 p] 63)⟩
set_option maxRecDepth 20000 in
set_option maxHeartbeats 1600000 in
theorem yamount_any (g r z : Int) (w : World) (h : SumZ g r z) :
  Calls Tryz.prog 40 #[sumV g r] w fun e w' => e = .returned (.tuple #[.int .i64 (if amtB z = true then z else 0), .int .i64 (if amtB z = true then 0 else 2)]) ∧ Below w.heap.size w w' := by
 obtain ⟨he, h1, h2⟩ := h
 obtain ⟨zv, hzv⟩ : ∃ zv, (if amtB z = true then z else 0) = zv := ⟨_, rfl⟩
 obtain ⟨q, hq⟩ : ∃ q, amtB z = q := ⟨_, rfl⟩
 rw [hzv, hq]
 rw [hq] at hzv
 have HQ := Lib.hid hq
 have HZV := Lib.hid hzv
 have hc := fun w => ysamt_any z w
 rw [hq] at hc
 clear hq hzv
 have hB := (Below.refl w.heap.size w).alloc (Nat.le_refl _) (.cells #[.int .i64 g, .int .i64 r] 63)
 obtain ⟨c0, c1⟩ := two_at w g r 63
 rcases Int.lt_or_le g (-1) with hg | hg
 ·have hd : decide (g < -1) = true := decide_eq_true hg
  have ha : Hid (q = false) := Lib.hid (by rw [← HQ.out]; unfold amtB; rw [decide_eq_false (by omega)]; rfl)
  obtain rfl := ha.out
  have ev : Hid (zv = 0) := Lib.hid HZV.out.symm
  clear hg he h1 h2 hc ha HQ
  go_enter Tryz.func40, Tryz.ntmps40
  go_wp2_with fail
  go_ret2
  exact ⟨by rw [ev.out]; rfl, hB⟩
 have hd : decide (g < -1) = false := decide_eq_false (by omega)
 rcases Int.lt_or_le 1 g with hg2 | hg2
 ·have hd2 : decide (1 < g) = true := decide_eq_true hg2
  have ha : Hid (q = false) := Lib.hid (by rw [← HQ.out]; unfold amtB; rw [decide_eq_false (show ¬ z ≤ 1000000000000 by omega), Bool.and_false])
  obtain rfl := ha.out
  have ev : Hid (zv = 0) := Lib.hid HZV.out.symm
  clear hg hg2 he h1 h2 hc ha HQ
  go_enter Tryz.func40, Tryz.ntmps40
  go_wp2_with fail
  go_ret2
  exact ⟨by rw [ev.out]; rfl, hB⟩
 have hd2 : decide (1 < g) = false := decide_eq_false (by omega)
 obtain ⟨t, ht⟩ : ∃ t, g * 1000000000000 = t := ⟨_, rfl⟩
 have hw1 : IntKind.i64.wrap (g * 1000000000000) = t := by rw [ht, IntKind.wrap_i64]; omega
 rw [ht] at he
 have hw2 : IntKind.i64.wrap (t + r) = z := by rw [he, IntKind.wrap_i64]; omega
 clear ht he hg hg2 h1 h2 HQ
 cases q
 ·have ev : Hid (zv = 0) := Lib.hid HZV.out.symm
  have HC := Lib.hid hc
  clear hc
  go_enter Tryz.func40, Tryz.ntmps40
  go_wp2_with (go_at_call 57; refine (HC.out _).mono ?_; rintro e w1 ⟨rfl, rfl⟩)
  go_ret2
  exact ⟨by rw [ev.out]; rfl, hB⟩
 ·have ev : Hid (zv = z) := Lib.hid HZV.out.symm
  have HC := Lib.hid hc
  clear hc
  go_enter Tryz.func40, Tryz.ntmps40
  go_wp2_with (go_at_call 57; refine (HC.out _).mono ?_; rintro e w1 ⟨rfl, rfl⟩)
  go_ret2
  exact ⟨by rw [ev.out]; rfl, hB⟩
abbrev vwC (mb : Nat) (b r : Int) : List Value := [.map (some mb), .int .i64 b, .int .i64 r]
abbrev vwV (mb : Nat) (b r : Int) : Value := .agg #[.map (some mb), .int .i64 b, .int .i64 r]
abbrev vw0 : Value := .agg #[.map none, .int .i64 0, .int .i64 0]
def resM (L : List Acc) (c : Int) : Option Value := if (fnd L c).isSome = true then some (.bool (resB L c)) else none
theorem resM_some {L : List Acc} {c : Int} : (resM L c).isSome = (fnd L c).isSome := by
 unfold resM
 cases (fnd L c).isSome <;> rfl
theorem resM_get {L : List Acc} {c : Int} : (resM L c).getD (.bool false) = .bool (resB L c) := by
 unfold resM
 cases h : (fnd L c).isSome
 ·cases h2 : resB L c
  ·rfl
  ·rw [resB_fnd h2] at h; cases h
 ·rfl
theorem tb_zero (w : World) : (zeroValue 4).run Tryz.prog w = .ok (.bool false) w := by kernel_rfl
theorem wpList_mapb_ok {w : World} {ops : Array Oper} {rest : List Oper} {o : Oper} {a : Act} {Q : Exit → Act → World → Prop} (hg : o.guard = none) (m x : Operand) (hop : o.op = Op.lookup 54 m x true)
  (b n : Nat) (f : Int → Option Value) (hm : a.eval m = .map (some b)) (hs : MapV w b n f) (c : Int) (hx : a.eval x = .int .i64 c) (hw : (Lit.int .i64 c).wf = true)
  (hK : wpList Tryz.prog ops Q rest (a.put o.dst (.tuple #[(f c).getD (.bool false), .bool (f c).isSome])) w) : wpList Tryz.prog ops Q (o :: rest) a w := by
 obtain ⟨D, h1, h3⟩ := hs
 refine wpList_plain hg fun K' hK' => ?_
 obtain ⟨v, ps, hrun, hv⟩ := h1.look_ok ti_keyed Tryz.underlying54 (tb_zero w) (zd := .held (.bool false)) (zp := []) rfl (keyOf_int_mk Tryz.underlying3 hw)
 have he : v = (f c).getD (.bool false) := by
  rw [(h3 c).2] at hv
  simp only [heldE, Option.some.injEq, Prod.mk.injEq] at hv
  have h4 := hv.1
  cases hf : f c with
  | none => rw [hf] at h4; injection h4
  | some u => rw [hf] at h4; injection h4
 rw [(h3 c).1] at hrun
 unfold Oper.wp
 simp [execOp, hop, hm, hx, hrun, Result.andThen]
 exact hK' _ _ (he ▸ hK)
theorem wp_mapg_put {w : World} {o : Oper} {a : Act} {K : Act → World → Prop} {Q : Exit → Act → World → Prop} (t e : TypeId) (ht : Tryz.prog.underlying t = some (.map 3 e)) (m x y : Operand) (hop : o.op = Op.mapUpdate t m x y)
  (b n : Nat) (f : Int → Option Value) (hm : a.eval m = .map (some b)) (hs : MapV w b n f) (c : Int) (hx : a.eval x = .int .i64 c) (v : Value) (hy : a.eval y = v) (hw : (Lit.int .i64 c).wf = true) (hn : n ≤ 1000000)
  (hK : ∀ w', MapV w' b (n + 1) (fun x => if x = c then some v else f x) → w.grownBy w' (some b) → K (a.put o.dst undef) w') : Oper.wp Tryz.prog o a w K Q := by
 obtain ⟨D, h1, h3⟩ := hs
 have h2 := h1.isMap
 obtain ⟨w', hrun, h4, h5⟩ := h1.update ti_keyed ht (by unfold maxLen; omega) (val := v) (d := .held v) (ps := []) (keyOf_int_mk Tryz.underlying3 hw) rfl
 unfold Oper.wp
 simp [execOp, hop, hm, hx, hy, hrun, Result.andThen]
 refine hK w' ⟨_, h4, fun x => ?_⟩ h5
 have hkl : ∀ z : Int, WideAt.IsKeyLit (Lit.int .i64 z) := fun z => by simp [WideAt.IsKeyLit]
 by_cases hxc : x = c
 ·subst hxc
  simp only [if_true]
  exact ⟨by rw [has_put_same h2 (hkl _)]; rfl, fun z => atKey_put_same h2 (hkl _) _ _⟩
 ·simp only [if_neg hxc]
  have hne : Lit.int .i64 x ≠ Lit.int .i64 c := fun e => hxc (by injection e)
  refine ⟨by rw [has_put_other hne]; exact (h3 x).1, fun z => ?_⟩
  rw [atKey_put_other hne]
  exact (h3 x).2 z
theorem cy_end {w w2 W w8 : World} {s1 : Nat} (hB2 : Below w.heap.size w w2) (hb : Below w2.heap.size w2 W) (ho : Only (fun k => k = s1) W w8) (h1 : w.heap.size ≤ s1) : Below w.heap.size w w8 := by
 have h3 := hB2.size
 have h4 := hb.size
 exact (hB2.trans (hb.mono hB2.size)).trans (ho.below (fun k hk => by rw [hk]; exact h1) (by omega))
set_option maxRecDepth 100000 in
theorem yhas_any (L : List Acc) (mb n : Nat) (b r c : Int) (w : World) (hm : MapV w mb n (resM L)) (hw : (Lit.int .i64 c).wf = true) : Calls Tryz.prog 33 #[vwV mb b r, .int .i64 c] w fun e w' => e = .returned (.bool (fnd L c).isSome) ∧ Below w.heap.size w w' := by
 obtain ⟨s0, hs0⟩ : ∃ s0, w.heap.size = s0 := ⟨_, rfl⟩
 obtain ⟨w2, hw2⟩ : ∃ w2, w.alloc (.cells #[.map (some mb), .int .i64 b, .int .i64 r] 56) = w2 := ⟨_, rfl⟩
 have HXB : Wh 56 w2 s0 (vwC mb b r) := by rw [← hw2, ← hs0]; exact Wh.new w _ _
 have HB2 : Hid (Below w.heap.size w w2) := Lib.hid (by rw [← hw2]; exact below_alloc_new _)
 have HS0 := Lib.hid hs0
 have p0 := HXB.at 0 _ rfl
 have HM := Lib.hid (hm.up HB2.out)
 have HW := Lib.hid hw
 have HQ := Lib.hid (resM_some (L := L) (c := c))
 have HV := Lib.hid (resM_get (L := L) (c := c))
 generalize (fnd L c).isSome = q at *
 generalize resB L c = q2 at *
 clear hm hw HXB
 go_enter Tryz.func33, Tryz.ntmps33
 go_wp2_with (first
  | (at_lookup; refine wpList_mapb_ok rfl _ _ rfl mb n (resM L) rfl HM.out c rfl HW.out ?_; rw [HV.out, HQ.out]))
 go_ret
 exact ⟨rfl, by have h9 := HB2.out; first | exact h9 | (rw [← HS0.out]; exact h9)⟩
set_option maxRecDepth 100000 in
theorem yplace_any (L : List Acc) (mb n : Nat) (b r c d : Int) (w : World) (hm : MapV w mb n (resM L)) (hw : (Lit.int .i64 c).wf = true) : Calls Tryz.prog 18 #[vwV mb b r, .int .i64 c, .int .i64 d] w fun e w' => e = .returned (.int .i64 (plI L r b c d)) ∧ Below w.heap.size w w' := by
 obtain ⟨s0, hs0⟩ : ∃ s0, w.heap.size = s0 := ⟨_, rfl⟩
 obtain ⟨w2, hw2⟩ : ∃ w2, w.alloc (.cells #[.map (some mb), .int .i64 b, .int .i64 r] 56) = w2 := ⟨_, rfl⟩
 have HXB : Wh 56 w2 s0 (vwC mb b r) := by rw [← hw2, ← hs0]; exact Wh.new w _ _
 have HB2 : Hid (Below w.heap.size w w2) := Lib.hid (by rw [← hw2]; exact below_alloc_new _)
 have HS0 := Lib.hid hs0
 have p0 := HXB.at 0 _ rfl
 have p1 := HXB.at 1 _ rfl
 have p2 := HXB.at 2 _ rfl
 have HM := Lib.hid (hm.up HB2.out)
 have HW := Lib.hid hw
 have HV := Lib.hid (resM_get (L := L) (c := c))
 have hp : plI L r b c d = if (resB L c && decide (d < b)) = true then r else c := rfl
 rw [hp]
 generalize resB L c = q at *
 clear hm hw HXB hp
 cases q
 ·go_enter Tryz.func18, Tryz.ntmps18
  go_wp2_with (first
   | (at_lookup; refine wpList_mapv_look rfl _ _ _ 4 rfl Tryz.underlying54 tb_zero mb n (resM L) rfl HM.out c rfl HW.out ?_; rw [HV.out]))
  go_ret
  exact ⟨rfl, by have h9 := HB2.out; first | exact h9 | (rw [← HS0.out]; exact h9)⟩
 by_cases hd : d < b
 ·have hd1 : decide (d < b) = true := decide_eq_true hd
  rw [hd1]
  clear hd
  go_enter Tryz.func18, Tryz.ntmps18
  go_wp2_with (first
   | (at_lookup; refine wpList_mapv_look rfl _ _ _ 4 rfl Tryz.underlying54 tb_zero mb n (resM L) rfl HM.out c rfl HW.out ?_; rw [HV.out]))
  go_ret
  exact ⟨rfl, by have h9 := HB2.out; first | exact h9 | (rw [← HS0.out]; exact h9)⟩
 ·have hd1 : decide (d < b) = false := decide_eq_false hd
  rw [hd1]
  clear hd
  go_enter Tryz.func18, Tryz.ntmps18
  go_wp2_with (first
   | (at_lookup; refine wpList_mapv_look rfl _ _ _ 4 rfl Tryz.underlying54 tb_zero mb n (resM L) rfl HM.out c rfl HW.out ?_; rw [HV.out]))
  go_ret
  exact ⟨rfl, by have h9 := HB2.out; first | exact h9 | (rw [← HS0.out]; exact h9)⟩
def rsT (L : List Acc) (k : Nat) (c : Int) : Option Value := if c ∈ (L.take k).map (·.code) then some (.bool (resB L c)) else none
theorem rsT_succ {L : List Acc} {k : Nat} (hk : k < L.length) (c : Int) : rsT L (k + 1) c = if c = (L.getD k acc0).code then some (.bool (resB L (L.getD k acc0).code)) else rsT L k c := by
 unfold rsT
 rw [take_succ_getD (d := acc0) hk, List.map_append, List.map_cons, List.map_nil]
 by_cases h : c = (L.getD k acc0).code
 ·rw [if_pos h, if_pos (by simp [h]), h]
 ·rw [if_neg h]
  by_cases h2 : c ∈ (L.take k).map (·.code)
  ·rw [if_pos h2, if_pos (List.mem_append_left _ h2)]
  ·rw [if_neg h2, if_neg (fun h3 => by rcases List.mem_append.1 h3 with h4 | h4; exact h2 h4; simp at h4; exact h h4)]
theorem rsT_all {L : List Acc} (c : Int) : rsT L L.length c = resM L c := by
 unfold rsT resM
 rw [List.take_length]
 by_cases h : c ∈ L.map (·.code)
 ·obtain ⟨a, ha, rfl⟩ := List.mem_map.1 h
  obtain ⟨b, hb⟩ := fnd_is ha
  rw [if_pos h, hb]; rfl
 ·cases hf : fnd L c with
  | none => rw [if_neg h]; rfl
  | some a => exact absurd (List.mem_map.2 ⟨a, (fnd_some hf).1, (fnd_some hf).2⟩) h
def cyJ (b n : Nat) (f g : Int → Option Value) (w0 : World) (k : Nat) (_ : List Value) (W : World) : Prop := Only (fun i => i = b) w0 W ∧ (match k with | 0 => MapV W b n f | _ + 1 => MapV W b (n + 1) g)
theorem cyJ.st (b n : Nat) (f g : Int → Option Value) (w0 : World) : ∀ k l W W', Below W.heap.size W W' → cyJ b n f g w0 k l W → cyJ b n f g w0 k l W'
 | 0, _, _, _, hb, h => ⟨h.1.trans (Only.of hb), h.2.up hb⟩
 | _ + 1, _, _, _, hb, h => ⟨h.1.trans (Only.of hb), h.2.up hb⟩
def VwQ (g : Grp) (L : List Acc) (E p : Int) (e : Ending) (W : World) : Prop := if E = 0 then ∃ mb n, e = .returned (.tuple #[vwV mb (cyB g p) g.r6, .int .i64 0]) ∧ MapV W mb n (resM L) else e = .returned (.tuple #[vw0, .int .i64 E])
def vwFa (mb _s0 sr : Nat) (x : Acc) (GV : Value) (L : List Acc) : List (Nat × AK.Fact (SizeUp)) := [(34, AK.Fact.is (.map (some mb))), (35, AK.Fact.is (.pointer (some ⟨sr, 0, none⟩))), (36, AK.Fact.is (.int .i64 x.code)), (37, AK.Fact.is (GV)), (38, AK.Fact.is (.pointer (some ⟨sr, 0, none⟩))), (39, AK.Fact.is (.int .i64 x.code)), (40, AK.Fact.is (.bool (resB L x.code)))]
theorem grp_codes {g : Grp} {L : List Acc} {G : List Ent} (h : grpP g L G = true) : codesB L = true := by
 have h1 := (grp_parts h).2.1
 unfold vB at h1
 simp only [Bool.and_eq_true] at h1
 exact h1.1.1.1.2
theorem codesB_wfc {L : List Acc} (h : codesB L = true) {a : Acc} (ha : a ∈ L) : (Lit.int .i64 a.code).wf = true := by
 obtain ⟨i, hi, rfl⟩ := mem_getD_acc (d := acc0) ha
 have hs := codesB_srt h
 have h1 := hs.pos i hi
 unfold codesB at h
 rw [Bool.and_eq_true, decide_eq_true_eq] at h
 have h2 : (L.getD i acc0).code ≤ 99999 := by
  obtain ⟨m, hm⟩ : ∃ m, L.length = m + 1 := ⟨L.length - 1, by omega⟩
  have h3 := h.2
  rw [hm, lastC_succ] at h3
  rcases Nat.lt_or_ge i m with h4 | h4
  ·have := hs.mono i m h4 (by omega); omega
  ·obtain rfl : i = m := by omega
   exact h3
 exact wf64 (by omega) (by omega)
set_option maxRecDepth 100000 in
set_option maxHeartbeats 6400000 in
theorem yview_any (g : Grp) (L : List Acc) (G : List Ent) (p : Int) (w : World) (hk : GrK w g L G) (hs : Sm g G) (hw : GrW g L G) : Calls Tryz.prog 32 #[grpV g, .int .i64 p] w fun e w' => VwQ g L (cyE g L G p) p e w' ∧ Below w.heap.size w w' := by
 obtain ⟨GV, hGV⟩ : ∃ GV, GV = grpV g := ⟨_, rfl⟩
 obtain ⟨gs, hgs⟩ : ∃ gs, (grpC g).toArray = gs := ⟨_, rfl⟩
 obtain ⟨s0, hs0⟩ : ∃ s0, w.heap.size = s0 := ⟨_, rfl⟩
 obtain ⟨w2, hw2⟩ : ∃ w2, (w.alloc (.cells gs 29)).alloc (.cells #[.map none, .int .i64 0, .int .i64 0] 56) = w2 := ⟨_, rfl⟩
 have HGB : Hid (Wh 29 w2 s0 (grpC g)) := Lib.hid (by rw [← hw2, ← hgs, ← hs0]; exact ((Wh.new w 29 (grpC g)).up (below_alloc_new _)))
 have HB2 : Hid (Below w.heap.size w w2) := Lib.hid (by rw [← hw2]; exact below_new (below_alloc_new _) _)
 have HV : Hid (Wh 56 w2 (s0 + 1) [.map none, .int .i64 0, .int .i64 0]) := Lib.hid (by
  rw [← hw2, ← hs0]
  have h9 := (Wh.new (w.alloc (.cells gs 29)) 56 [.map none, .int .i64 0, .int .i64 0])
  simp only [World.size_alloc] at h9
  exact h9)
 have HS0 := Lib.hid hs0
 have HLG : Hid (∀ W, Below w2.heap.size w2 W → (Instr.loadAt 29 (.pointer (some ⟨s0, 0, none⟩))).run Tryz.prog W = .ok GV W) := Lib.hid (fun W h => by rw [hGV, grpV_is]; exact (HGB.out.up h).rg.load 0 29 (grpC g) rfl _ Tryz.underlying29 rfl (by kernel_rfl))
 have HBC : Hid (Below w2.heap.size w2 w2) := Lib.hid (Below.refl _ _)
 have HBW : Hid (∀ W, Below w2.heap.size w2 W → Below w.heap.size w W) := Lib.hid (fun W h => HB2.out.trans (h.mono HB2.out.size))
 have HS2 : Hid (s0 + 2 ≤ w2.heap.size) := Lib.hid (by rw [← hw2, ← hs0]; simp)
 have HVL := Lib.hid (fun W (hb : Below w2.heap.size w2 W) => gvalid_any g L G W ((hk.up HB2.out).up hb) hs hw)
 have HRS := Lib.hid (fun c W (hb : Below w2.heap.size w2 W) => gres_any g L c W ((hk.up HB2.out).up hb).hz hk.ln (by have := hs.n; omega))
 have HBG := Lib.hid (fun W => cbegin7_any g.cy g.cm g.cp p W)
 have HLC : Hid (∀ W, Below w2.heap.size w2 W → (Instr.loadAt 23 (.pointer (some ⟨s0, 1, none⟩))).run Tryz.prog W = .ok (calV g.cy g.cm g.cp) W) := Lib.hid (fun W h => (HGB.out.up h).rg.load 1 23 [.int .i64 g.cy, .int .i64 g.cm, .int .i64 g.cp] rfl _ Tryz.underlying23 rfl (by kernel_rfl))
 have HC11 : Hid (∀ W, Below w2.heap.size w2 W → W.cell? ⟨s0, 11, none⟩ = some (.int .i64 g.r6)) := Lib.hid (fun W hb => (HGB.out.up hb).at 11 _ rfl)
 have HC4 : Hid (∀ W, Below w2.heap.size w2 W → W.cell? ⟨s0, 4, none⟩ = some (.slice g.A g.n g.c)) := Lib.hid (fun W hb => (HGB.out.up hb).at 4 _ rfl)
 have HZ : Hid (AccAt w2 g.A L) := Lib.hid (hk.hz.up HB2.out)
 have HLN : Hid (L.length = g.n) := Lib.hid hk.ln
 have HN6 : Hid (g.n ≤ 60) := Lib.hid hs.n
 have HGQ : Hid (grpP g L G = true → ∀ a ∈ L, (Lit.int .i64 a.code).wf = true) := Lib.hid (fun h a ha => (codesB_wfc (grp_codes h) ha))
 have hGS : GV = .agg gs := by rw [hGV, grpV_is, hgs]
 rw [← hGV] at HVL HRS ⊢
 rw [hGS]
 clear hGS hGV
 have hcy : cyE g L G p = if grpP g L G = true then clE g.cy g.cm g.cp p else 1 := rfl
 have hcb : cyB g p = pdB g.cy g.cm g.cp p := rfl
 rw [hcy]
 obtain ⟨q, hq⟩ : ∃ q, grpP g L G = q := ⟨_, rfl⟩
 rw [hq] at HVL HGQ ⊢
 obtain ⟨E, hE⟩ : ∃ E, clE g.cy g.cm g.cp p = E := ⟨_, rfl⟩
 rw [hE] at HBG ⊢
 have HCB := Lib.hid hcb
 clear hk hs hw hcy hq hcb
 have HM1 : True := trivial
 cases q
 ·clear hE
  go_enter Tryz.func32, Tryz.ntmps32
  go_wp2_with (first
   | (clear HM1; refine wpList_load_is rfl 29 _ rfl (.pointer (some ⟨s0, 0, none⟩)) rfl GV (HLG.out _ HBC.out) ?_)
   | (go_at_call 54; refine (HVL.out _ HBC.out).mono ?_; rintro r w3 ⟨rfl, hb⟩; have hB3 := Lib.hid (HBC.out.trans (hb.mono HBC.out.size)); clear HBC; have HBC := hB3; clear hB3; clear hb)
   | (refine wpList_store_wh rfl 56 _ _ rfl (s0 + 1) rfl 56 [.map none, .int .i64 0, .int .i64 0] [.map none, .int .i64 0, .int .i64 0] rfl (HV.out.up HBC.out) rfl (by kernel_rfl) (by kernel_rfl) ?_; intro w8 hr8 ho8 hz8; have HR8 := Lib.hid hr8.out; have HE8 := Lib.hid (cy_end HB2.out HBC.out ho8.out (by have := HS0.out; omega)); clear hr8 ho8 hz8))
  obtain ⟨z0, z1, z2⟩ : w8.cell? ⟨s0 + 1, 0, none⟩ = some (.map none) ∧ w8.cell? ⟨s0 + 1, 1, none⟩ = some (.int .i64 0) ∧ w8.cell? ⟨s0 + 1, 2, none⟩ = some (.int .i64 0) := ⟨HR8.out.at 0 _ rfl, HR8.out.at 1 _ rfl, HR8.out.at 2 _ rfl⟩
  exact bodyPost_ret (v := .tuple #[vw0, .int .i64 1]) (by simp [results, Tryz.results32, go_sem, z0, z1, z2]) rfl ⟨by unfold VwQ; rfl, by first | exact HE8.out | (rw [← HS0.out]; exact HE8.out)⟩
 simp only [if_true]
 by_cases hE0 : E = 0
 ·subst hE0
  have HXW := Lib.hid (HGQ.out rfl)
  have z1 : ((0 : Int) != 0) = false := rfl
  have hmm := @run_makeMap Tryz.prog
  have C4 := HC4.out
  obtain ⟨n, hn⟩ : ∃ n, g.n = n := ⟨_, rfl⟩
  rw [hn] at HC4 HLN HN6
  obtain ⟨gA, hgA⟩ : ∃ gA, g.A = gA := ⟨_, rfl⟩
  rw [hgA] at HC4 HZ
  clear hn C4 hgA
  go_enter Tryz.func32, Tryz.ntmps32
  go_wp2_with (first
   | (clear HM1; refine wpList_load_is rfl 29 _ rfl (.pointer (some ⟨s0, 0, none⟩)) rfl GV (HLG.out _ HBC.out) ?_)
   | (go_at_call 54; refine (HVL.out _ HBC.out).mono ?_; rintro r w3 ⟨rfl, hb⟩; have hB3 := Lib.hid (HBC.out.trans (hb.mono HBC.out.size)); clear HBC; have HBC := hB3; clear hB3; clear hb)
   | (refine wpList_load_is rfl 23 _ rfl (.pointer (some ⟨s0, 1, none⟩)) rfl (calV g.cy g.cm g.cp) (HLC.out _ HBC.out) ?_)
   | (go_at_call 55; refine (HBG.out _).mono ?_; rintro r w3 ⟨rfl, hb⟩; have hB3 := Lib.hid (HBC.out.trans (hb.mono HBC.out.size)); clear HBC; have HBC := hB3; clear hB3; have C4 := HC4.out _ (HBC.out.trans ((below_alloc_new (w := w3) (.map #[] 0)).mono HBC.out.size)); clear hb))
  obtain ⟨mb, hmb⟩ : ∃ mb, w3.heap.size = mb := ⟨_, rfl⟩
  have HMB := Lib.hid hmb
  have HM0 : Hid (MapV (w3.alloc (.map #[] 0)) mb 0 (rsT L 0)) := Lib.hid (by rw [← hmb]; exact (MapV.made w3).ext (fun c => rfl))
  have HB3 : Hid (Below mb w3 (w3.alloc (.map #[] 0))) := Lib.hid (by rw [← hmb]; exact below_alloc_new _)
  have HBB := Lib.hid (fun W (h : Below mb w3 W) => HBC.out.trans (h.mono (by rw [← hmb]; exact HBC.out.size)))
  have HMW : Hid (w2.heap.size ≤ mb) := Lib.hid (by rw [← hmb]; exact HBC.out.size)
  rw [hmb]
  clear hmb C4
  go_loopg [30] n (fun kx s30 wr => ∃ k : Nat, s30 = .int .i64 k ∧ k ≤ n ∧ n - k ≤ kx ∧ Hid (MapV wr mb k (rsT L k)) ∧ Hid (Below mb w3 wr))
  case atStart => exact ⟨0, rfl, by omega, by omega, HM0, HB3⟩
  case round =>
   clear HM0 HB3 HBC
   obtain ⟨k, rfl, hk, hkx, HMV, HB3⟩ := hrel
   have HBC := Lib.hid (HBB.out _ HB3.out)
   by_cases hlt : k < n
   ·have hltz : (k : Int) < (n : Int) := by omega
    obtain ⟨bb, off, hA, hbw, hcs⟩ := HZ.out (by rw [HLN.out]; omega)
    have HA4 := Lib.hid (hcs k (by rw [HLN.out]; exact hlt))
    have HWX := Lib.hid (HXW.out _ (getD_mem_acc (d := acc0) (i := k) (by rw [HLN.out]; exact hlt)))
    have HTK := Lib.hid (fun c => rsT_succ (L := L) (k := k) (by rw [HLN.out]; exact hlt) c)
    generalize L.getD k acc0 = x at *
    obtain ⟨r0, r1, r2, r3⟩ := HA4.out.up HBC.out hbw
    have HNX : Hid (k ≤ 60) := Lib.hid (by have := HN6.out; omega)
    subst hA
    clear hcs
    go_upto_region 10 with fail
    obtain ⟨sr, hsr⟩ : ∃ sr, wr.heap.size = sr := ⟨_, rfl⟩
    obtain ⟨W5, hW5⟩ : ∃ W5, wr.alloc (.cells #[.int .i64 x.code, .int .i64 x.kind, .int .i64 x.basis, .int .i64 x.par] 69) = W5 := ⟨_, rfl⟩
    have HAB : Hid (Wh 69 W5 sr [.int .i64 x.code, .int .i64 x.kind, .int .i64 x.basis, .int .i64 x.par]) := Lib.hid (by rw [← hW5, ← hsr]; exact Wh.new wr _ _)
    have HB5 : Hid (Below wr.heap.size wr W5) := Lib.hid (by rw [← hW5]; exact below_alloc_new _)
    have HMV5 := Lib.hid (HMV.out.up HB5.out)
    have HNA : Hid (¬ sr = mb) := Lib.hid (by have := HMV.out.lt; omega)
    have HBC5 := Lib.hid (HBC.out.trans (HB5.out.mono HBC.out.size))
    have HB35 := Lib.hid (HB3.out.trans (HB5.out.mono (by have := HB3.out.size; have := HMB.out; omega)))
    have HJB : Hid (∀ W, Only (fun i => i = mb) W5 W → Below w2.heap.size w2 W) := Lib.hid (fun W h => HBC5.out.trans (h.below (fun k hk => by have := HMW.out; omega) HBC5.out.size))
    have HJ3 : Hid (∀ W, Only (fun i => i = mb) W5 W → Below mb w3 W) := Lib.hid (fun W h => HB35.out.trans (h.below (fun k hk => by omega) (by have := HB35.out.size; have := HMB.out; omega)))
    rw [hW5, hsr]
    clear hW5 hsr r0 r1 r2 r3 HB5 HB35 HBC5 HMV HB3 HBC hbw
    refine AK.region_facts (Rp := Below0) (Kp := SizeUp) (vwFa mb s0 sr x GV L) (cyJ mb k (rsT L k) (fun c => if c = x.code then some (.bool (resB L x.code)) else rsT L k c) W5) [[], [], [35], [], [], [38], [37, 39], [34, 36, 40]] [7] [[], []] [0, 0, 0, 0, 0, 0, 0, 1] [0, 0, 0, 0, 0, 0, 0, 0] [] (fun u => by simp only [vwFa, AK.temps, List.map_cons, List.map_nil, fillL, List.setIfInBounds_toArray, List.set_cons_zero, List.set_cons_succ]; rfl) (by kernel_rfl) (by kernel_rfl) (fun _ _ h => h) (fun _ _ h => h.size) (cyJ.st _ _ _ _ _) (⟨(Only.refl _).drew, HMV5.out.up (dc_drew (Below.refl _ _))⟩) ?_ ?_
    ·refine AK.sc (lim := 0) (lo := 0) rfl rfl rfl rfl ?_ ?_
     ·intro k_ u w_ hk_ hl_ hJ hF K hK
      obtain rfl : k_ = 0 := by omega
      clear hF
      go_simp
      exact hK.out _ _ (Below.refl _ _) (rfl) trivial
     refine AK.sc (lim := 0) (lo := 0) rfl rfl rfl rfl ?_ ?_
     ·intro k_ u w_ hk_ hl_ hJ hF K hK
      obtain rfl : k_ = 0 := by omega
      clear hF
      go_simp
      exact hK.out _ _ (Below.refl _ _) (rfl) trivial
     refine AK.sc (lim := 0) (lo := 0) rfl rfl rfl rfl ?_ ?_
     ·intro k_ u w_ hk_ hl_ hJ hF K hK
      obtain rfl : k_ = 0 := by omega
      have h35 : u 35 = .pointer (some ⟨sr, 0, none⟩) := AK.facts_get hF 35 (by simp)
      clear hF
      simp only [h35] at hK ⊢
      clear h35
      have c_ := (HAB.out.only hJ.1 HNA.out).at 0 _ rfl
      go_simp
      exact hK.out _ _ (Below.refl _ _) (rfl) trivial
     refine AK.sc (lim := 0) (lo := 0) rfl rfl rfl rfl ?_ ?_
     ·intro k_ u w_ hk_ hl_ hJ hF K hK
      obtain rfl : k_ = 0 := by omega
      clear hF
      refine wp_load_is 29 _ rfl (.pointer (some ⟨s0, 0, none⟩)) rfl GV (HLG.out _ (HJB.out _ hJ.1)) ?_
      exact hK.out _ _ (Below.refl _ _) rfl trivial
     refine AK.sc (lim := 0) (lo := 0) rfl rfl rfl rfl ?_ ?_
     ·intro k_ u w_ hk_ hl_ hJ hF K hK
      obtain rfl : k_ = 0 := by omega
      clear hF
      go_simp
      exact hK.out _ _ (Below.refl _ _) (rfl) trivial
     refine AK.sc (lim := 0) (lo := 0) rfl rfl rfl rfl ?_ ?_
     ·intro k_ u w_ hk_ hl_ hJ hF K hK
      obtain rfl : k_ = 0 := by omega
      have h38 : u 38 = .pointer (some ⟨sr, 0, none⟩) := AK.facts_get hF 38 (by simp)
      clear hF
      simp only [h38] at hK ⊢
      clear h38
      have c_ := (HAB.out.only hJ.1 HNA.out).at 0 _ rfl
      go_simp
      exact hK.out _ _ (Below.refl _ _) (rfl) trivial
     refine AK.sc (lim := 0) (lo := 0) rfl rfl rfl rfl ?_ ?_
     ·intro k_ u w_ hk_ hl_ hJ hF K hK
      obtain rfl : k_ = 0 := by omega
      have h37 : u 37 = GV := AK.facts_get hF 37 (by simp)
      have h39 : u 39 = .int .i64 x.code := AK.facts_get hF 39 (by simp)
      clear hF
      simp only [h37, h39] at hK ⊢
      clear h37 h39
      go_simp
      refine (HRS.out x.code _ (HJB.out _ hJ.1)).mono ?_
      rintro r w6 ⟨rfl, hb6⟩
      exact hK.out _ _ hb6 rfl trivial
     refine AK.ss rfl rfl ?_ ?_
     ·intro u w_ hJ hA_ hF K hK
      have h34 : u 34 = .map (some mb) := AK.facts_get hF 34 (by simp)
      have h36 : u 36 = .int .i64 x.code := AK.facts_get hF 36 (by simp)
      have h40 : u 40 = .bool (resB L x.code) := AK.facts_get hF 40 (by simp)
      clear hF
      simp only [h34, h36, h40] at hK ⊢
      clear h34 h36 h40
      have hJ1 := hJ.1
      refine wp_mapg_put 54 4 Tryz.underlying54 _ _ _ rfl mb k (rsT L k) rfl hJ.2 x.code rfl (.bool (resB L x.code)) rfl HWX.out (by have := HNX.out; omega) ?_
      intro w' hm' hg'
      exact hK.out _ _ ⟨hJ1.trans (Only.grown hg' (fun k hk => by injection hk with hk; exact hk.symm)), hm'⟩ (hg'.size) trivial
     exact AK.StepsOk.nil
    ·intro u W9 hJ9 hF
     clear hF
     have HMV9 : Hid (MapV W9 mb (k + 1) (rsT L (k + 1))) := Lib.hid (hJ9.2.ext (fun c => HTK.out c))
     have HB9 := Lib.hid (HJ3.out _ hJ9.1)
     clear hJ9
     have hk60 := HNX.out
     go_wp2_with fail
     go_roundg (n - (k + 1))
     case measure => omega
     case rel => exact ⟨k + 1, by go_num, by omega, by omega, HMV9, HB9⟩
   ·obtain rfl : k = n := by omega
    have hltz : ¬ (k : Int) < (k : Int) := by omega
    have HME : Hid (MapV wr mb k (resM L)) := Lib.hid (HMV.out.ext (fun c => by rw [← HLN.out]; exact (rsT_all c).symm))
    have C11 := HC11.out _ HBC.out
    obtain ⟨b, hb⟩ : ∃ b, pdB g.cy g.cm g.cp p = b := ⟨_, rfl⟩
    rw [hb] at HCB ⊢
    clear hb
    go_wp2_with (first
     | (refine wpList_store_wh rfl 56 _ _ rfl (s0 + 1) rfl 56 [.map none, .int .i64 0, .int .i64 0] (vwC mb b g.r6) rfl (HV.out.up HBC.out) rfl (by kernel_rfl) (by kernel_rfl) ?_; intro w8 hr8 ho8 hz8; have HR8 := Lib.hid hr8.out; have HE8 := Lib.hid (cy_end HB2.out HBC.out ho8.out (by have := HS0.out; omega)); have HM8 := Lib.hid (HME.out.blk (ho8.out.blk mb HME.out.lt (by show ¬ mb = s0 + 1; have := HMW.out; have := HS2.out; omega))); clear hr8 ho8 hz8))
    obtain ⟨z0, z1, z2⟩ : w8.cell? ⟨s0 + 1, 0, none⟩ = some (.map (some mb)) ∧ w8.cell? ⟨s0 + 1, 1, none⟩ = some (.int .i64 b) ∧ w8.cell? ⟨s0 + 1, 2, none⟩ = some (.int .i64 g.r6) := ⟨HR8.out.at 0 _ rfl, HR8.out.at 1 _ rfl, HR8.out.at 2 _ rfl⟩
    exact bodyPost_ret (v := .tuple #[vwV mb b g.r6, .int .i64 0]) (by simp [results, Tryz.results32, go_sem, z0, z1, z2]) rfl ⟨⟨mb, k, by rw [HCB.out], HM8.out⟩, by first | exact HE8.out | (rw [← HS0.out]; exact HE8.out)⟩
 ·have hEn : (E != 0) = true := by simp [hE0]
  have HEN := Lib.hid hE0
  clear hE hE0
  go_enter Tryz.func32, Tryz.ntmps32
  go_wp2_with (first
   | (clear HM1; refine wpList_load_is rfl 29 _ rfl (.pointer (some ⟨s0, 0, none⟩)) rfl GV (HLG.out _ HBC.out) ?_)
   | (go_at_call 54; refine (HVL.out _ HBC.out).mono ?_; rintro r w3 ⟨rfl, hb⟩; have hB3 := Lib.hid (HBC.out.trans (hb.mono HBC.out.size)); clear HBC; have HBC := hB3; clear hB3; clear hb)
   | (refine wpList_load_is rfl 23 _ rfl (.pointer (some ⟨s0, 1, none⟩)) rfl (calV g.cy g.cm g.cp) (HLC.out _ HBC.out) ?_)
   | (go_at_call 55; refine (HBG.out _).mono ?_; rintro r w3 ⟨rfl, hb⟩; have hB3 := Lib.hid (HBC.out.trans (hb.mono HBC.out.size)); clear HBC; have HBC := hB3; clear hB3; clear hb)
   | (refine wpList_store_wh rfl 56 _ _ rfl (s0 + 1) rfl 56 [.map none, .int .i64 0, .int .i64 0] [.map none, .int .i64 0, .int .i64 0] rfl (HV.out.up HBC.out) rfl (by kernel_rfl) (by kernel_rfl) ?_; intro w8 hr8 ho8 hz8; have HR8 := Lib.hid hr8.out; have HE8 := Lib.hid (cy_end HB2.out HBC.out ho8.out (by have := HS0.out; omega)); clear hr8 ho8 hz8))
  obtain ⟨z0, z1, z2⟩ : w8.cell? ⟨s0 + 1, 0, none⟩ = some (.map none) ∧ w8.cell? ⟨s0 + 1, 1, none⟩ = some (.int .i64 0) ∧ w8.cell? ⟨s0 + 1, 2, none⟩ = some (.int .i64 0) := ⟨HR8.out.at 0 _ rfl, HR8.out.at 1 _ rfl, HR8.out.at 2 _ rfl⟩
  exact bodyPost_ret (v := .tuple #[vw0, .int .i64 E]) (by simp [results, Tryz.results32, go_sem, z0, z1, z2]) rfl ⟨by unfold VwQ; rw [if_neg HEN.out], by first | exact HE8.out | (rw [← HS0.out]; exact HE8.out)⟩
theorem kno_no {L : List Acc} {X : List Lnk} {k : Nat} (hk : k < X.length) (h : (fnd L (X.getD k lnk0).frm).isSome = false) : cvN L X = 8 := by
 unfold cvN knoB
 rw [all_false_getD (d := lnk0) hk h]; rfl
theorem kno_yes {L : List Acc} {X : List Lnk} (h : ∀ i, i < X.length → (fnd L (X.getD i lnk0).frm).isSome = true) : cvN L X = if amsB X = true then 0 else 1 := by
 unfold cvN knoB
 rw [(all_getD (d := lnk0)).2 h]; rfl
theorem ams_no {X : List Lnk} {k : Nat} (hk : k < X.length) (h : amtB (X.getD k lnk0).since = false) : amsB X = false := all_false_getD (d := lnk0) hk h
theorem ams_yes {X : List Lnk} (h : ∀ i, i < X.length → amtB (X.getD i lnk0).since = true) : amsB X = true := (all_getD (d := lnk0)).2 h
set_option maxRecDepth 100000 in
set_option maxHeartbeats 6400000 in
theorem ychk_any (L : List Acc) (mb n9 : Nat) (b r : Int) (A : Option Addr) (c : Nat) (X : List Lnk) (w : World) (hm : MapV w mb n9 (resM L)) (hz : LnkAt w A X) (hl : X.length ≤ 1000000) (hw : ∀ d ∈ X, (Lit.int .i64 d.frm).wf = true) : Calls Tryz.prog 37 #[vwV mb b r, .slice A X.length c] w fun e w' => e = .returned (.int .i64 (cvN L X)) ∧ Below w.heap.size w w' := by
 obtain ⟨s0, hs0⟩ : ∃ s0, w.heap.size = s0 := ⟨_, rfl⟩
 obtain ⟨w2, hw2⟩ : ∃ w2, w.alloc (.cells #[.map (some mb), .int .i64 b, .int .i64 r] 56) = w2 := ⟨_, rfl⟩
 have HXB : Hid (Wh 56 w2 s0 (vwC mb b r)) := Lib.hid (by rw [← hw2, ← hs0]; exact Wh.new w _ _)
 have HB2 : Hid (Below w.heap.size w w2) := Lib.hid (by rw [← hw2]; exact below_alloc_new _)
 have HS0 := Lib.hid hs0
 have HBC : Hid (Below w2.heap.size w2 w2) := Lib.hid (Below.refl _ _)
 have HBW : Hid (∀ W, Below w2.heap.size w2 W → Below w.heap.size w W) := Lib.hid (fun W h => HB2.out.trans (h.mono HB2.out.size))
 have HM := Lib.hid (hm.up HB2.out)
 have HLV : Hid (∀ W, Below w2.heap.size w2 W → (Instr.loadAt 56 (.pointer (some ⟨s0, 0, none⟩))).run Tryz.prog W = .ok (vwV mb b r) W) := Lib.hid (fun W h => (HXB.out.up h).rg.load 0 56 (vwC mb b r) rfl _ Tryz.underlying56 rfl (by kernel_rfl))
 have HHA : Hid (∀ W x, Below w2.heap.size w2 W → (Lit.int .i64 x).wf = true → Calls Tryz.prog 33 #[vwV mb b r, .int .i64 x] W fun e w' => e = .returned (.bool (fnd L x).isSome) ∧ Below W.heap.size W w') := Lib.hid (fun W x hb hx => yhas_any L mb n9 b r x W (HM.out.up hb) hx)
 have HZ := Lib.hid (hz.up HB2.out)
 have HWF := Lib.hid hw
 have HNO := Lib.hid (fun k hk h => kno_no (L := L) (X := X) (k := k) hk h)
 have HYE := Lib.hid (fun h => kno_yes (L := L) (X := X) h)
 obtain ⟨E, hE⟩ : ∃ E, cvN L X = E := ⟨_, rfl⟩
 rw [hE] at HNO HYE ⊢
 obtain ⟨n, hn⟩ : ∃ n, X.length = n := ⟨_, rfl⟩
 have HN := Lib.hid hn
 rw [hn] at HNO HYE hl ⊢
 obtain ⟨VV, hVV⟩ : ∃ VV, VV = vwV mb b r := ⟨_, rfl⟩
 rw [← hVV] at HLV HHA
 clear hm hz hw hE hn hVV
 go_enter Tryz.func37, Tryz.ntmps37
 go_wp2_with fail
 go_loopg [11] n (fun kx s11 wr => ∃ k : Nat, s11 = .int .i64 k ∧ k ≤ n ∧ n - k ≤ kx ∧ Hid (∀ i, i < k → (fnd L (X.getD i lnk0).frm).isSome = true) ∧ Hid (Below w2.heap.size w2 wr))
 case atStart => exact ⟨0, rfl, by omega, by omega, Lib.hid (fun i h => absurd h (by omega)), HBC⟩
 case round =>
  clear HBC
  obtain ⟨k, rfl, hk, hkx, HK, HBC⟩ := hrel
  by_cases hlt : k < n
  ·have hltz : (k : Int) < (n : Int) := by omega
   obtain ⟨bb, off, hA, hbw, hcs⟩ := HZ.out (by rw [HN.out]; omega)
   have HA3 := Lib.hid (hcs k (by rw [HN.out]; exact hlt))
   have HWX := Lib.hid (HWF.out _ (getD_mem_acc (d := lnk0) (i := k) (by rw [HN.out]; exact hlt)))
   have hno := HNO.out k hlt
   have HKS : Hid ((fnd L (X.getD k lnk0).frm).isSome = true → ∀ i, i < k + 1 → (fnd L (X.getD i lnk0).frm).isSome = true) := Lib.hid (fun h i hi => by
    rcases Nat.lt_or_ge i k with h9 | h9
    ·exact HK.out i h9
    ·obtain rfl : i = k := by omega
     exact h)
   obtain ⟨x, hx⟩ : ∃ x, X.getD k lnk0 = x := ⟨_, rfl⟩
   rw [hx] at HA3 HWX hno HKS
   obtain ⟨r0, r1, r2⟩ := HA3.out.up HBC.out hbw
   obtain ⟨q, hq⟩ : ∃ q, (fnd L x.frm).isSome = q := ⟨_, rfl⟩
   have HHX := Lib.hid (fun W hb => HHA.out W x.frm hb HWX.out)
   rw [hq] at hno HKS HHX
   subst hA
   have HB5 : Hid (Below w2.heap.size w2 (wr.alloc (.cells #[.int .i64 x.frm, .int .i64 x.tgt, .int .i64 x.since] 60))) := Lib.hid (below_new HBC.out _)
   have HC5 : Hid (Wh 60 (wr.alloc (.cells #[.int .i64 x.frm, .int .i64 x.tgt, .int .i64 x.since] 60)) wr.heap.size [.int .i64 x.frm, .int .i64 x.tgt, .int .i64 x.since]) := Lib.hid (Wh.new wr _ _)
   have y0 := HC5.out.at 0 _ rfl
   clear HBC hcs hx hq
   have HBC := HB5
   clear HB5
   have HM1 : True := trivial
   cases q
   ·have HE := Lib.hid (hno rfl)
    clear hno
    go_wp2_with (first
     | (clear HM1; refine wpList_load_is rfl 56 _ rfl (.pointer (some ⟨s0, 0, none⟩)) rfl VV (HLV.out _ HBC.out) ?_)
     | (go_at_call 33; refine (HHX.out _ HBC.out).mono ?_; rintro r w3 ⟨rfl, hb⟩; have hB3 := Lib.hid (HBC.out.trans (hb.mono HBC.out.size)); clear HBC; have HBC := hB3; clear hB3; clear hb))
    go_ret
    exact ⟨by rw [HE.out]; rfl, by have h9 := HBW.out _ HBC.out; first | exact h9 | (rw [← HS0.out]; exact h9)⟩
   ·clear hno
    go_wp2_with (first
     | (clear HM1; refine wpList_load_is rfl 56 _ rfl (.pointer (some ⟨s0, 0, none⟩)) rfl VV (HLV.out _ HBC.out) ?_)
     | (go_at_call 33; refine (HHX.out _ HBC.out).mono ?_; rintro r w3 ⟨rfl, hb⟩; have hB3 := Lib.hid (HBC.out.trans (hb.mono HBC.out.size)); clear HBC; have HBC := hB3; clear hB3; clear hb))
    go_roundg (n - (k + 1))
    case measure => omega
    case rel => exact ⟨k + 1, by go_num, by omega, by omega, Lib.hid (HKS.out (by simp)), HBC⟩
  ·obtain rfl : k = n := by omega
   have hltz : ¬ (k : Int) < (k : Int) := by omega
   have HYF := Lib.hid (HYE.out HK.out)
   have HBB := HBC
   clear HYE HNO HK
   go_wp2_with fail
   go_loopg [23] k (fun kx s23 wr => ∃ j : Nat, s23 = .int .i64 j ∧ j ≤ k ∧ k - j ≤ kx ∧ Hid (∀ i, i < j → amtB (X.getD i lnk0).since = true) ∧ Hid (Below w2.heap.size w2 wr))
   case atStart => exact ⟨0, rfl, by omega, by omega, Lib.hid (fun i h => absurd h (by omega)), HBC⟩
   case round =>
    clear HBC HBB
    rename World => wr
    obtain ⟨j, rfl, hj, hjx, HK, HBC⟩ := hrel
    by_cases hlt : j < k
    ·have hltz : (j : Int) < (k : Int) := by omega
     obtain ⟨bb, off, hA, hbw, hcs⟩ := HZ.out (by rw [HN.out]; omega)
     have HA3 := Lib.hid (hcs j (by rw [HN.out]; exact hlt))
     have hno := ams_no (X := X) (k := j) (by rw [HN.out]; exact hlt)
     have HKS : Hid (amtB (X.getD j lnk0).since = true → ∀ i, i < j + 1 → amtB (X.getD i lnk0).since = true) := Lib.hid (fun h i hi => by
      rcases Nat.lt_or_ge i j with h9 | h9
      ·exact HK.out i h9
      ·obtain rfl : i = j := by omega
       exact h)
     obtain ⟨x, hx⟩ : ∃ x, X.getD j lnk0 = x := ⟨_, rfl⟩
     rw [hx] at HA3 hno HKS
     obtain ⟨r0, r1, r2⟩ := HA3.out.up HBC.out hbw
     have HAM := Lib.hid (fun W => ysamt_any x.since W)
     obtain ⟨q, hq⟩ : ∃ q, amtB x.since = q := ⟨_, rfl⟩
     rw [hq] at hno HKS HAM
     subst hA
     have HB5 : Hid (Below w2.heap.size w2 (wr.alloc (.cells #[.int .i64 x.frm, .int .i64 x.tgt, .int .i64 x.since] 60))) := Lib.hid (below_new HBC.out _)
     have HC5 : Hid (Wh 60 (wr.alloc (.cells #[.int .i64 x.frm, .int .i64 x.tgt, .int .i64 x.since] 60)) wr.heap.size [.int .i64 x.frm, .int .i64 x.tgt, .int .i64 x.since]) := Lib.hid (Wh.new wr _ _)
     have y2 := HC5.out.at 2 _ rfl
     clear HBC hcs hx hq
     have HBC := HB5
     clear HB5
     cases q
     ·have HE := Lib.hid (hno rfl)
      clear hno
      go_wp2_with (first
       | (go_at_call 57; refine (HAM.out _).mono ?_; rintro r w3 ⟨rfl, rfl⟩))
      go_ret
      exact ⟨by rw [HYF.out, HE.out]; rfl, by have h9 := HBW.out _ HBC.out; first | exact h9 | (rw [← HS0.out]; exact h9)⟩
     ·clear hno
      go_wp2_with (first
       | (go_at_call 57; refine (HAM.out _).mono ?_; rintro r w3 ⟨rfl, rfl⟩))
      go_roundg (k - (j + 1))
      case measure => omega
      case rel => exact ⟨j + 1, by go_num, by omega, by omega, Lib.hid (HKS.out (by simp)), HBC⟩
    ·obtain rfl : j = k := by omega
     have hltz : ¬ (j : Int) < (j : Int) := by omega
     have HE := Lib.hid (ams_yes (X := X) (by rw [HN.out]; exact HK.out))
     go_wp2_with fail
     go_ret
     exact ⟨by rw [HYF.out, HE.out]; rfl, by have h9 := HBW.out _ HBC.out; first | exact h9 | (rw [← HS0.out]; exact h9)⟩
set_option maxRecDepth 100000 in
set_option maxHeartbeats 6400000 in
theorem yviewall_any (g : Grp) (L : List Acc) (G : List Ent) (A : Option Addr) (c : Nat) (X : List Lnk) (p : Int) (w : World) (hk : GrK w g L G) (hs : Sm g G) (hw : GrW g L G) (hz : LnkAt w A X) (hl : X.length ≤ 1000) (hx : ∀ d ∈ X, (Lit.int .i64 d.frm).wf = true) : Calls Tryz.prog 17 #[grpV g, .slice A X.length c, .int .i64 p] w fun e w' => VwQ g L (cvE g L G X p) p e w' ∧ Below w.heap.size w w' := by
 obtain ⟨GV, hGV⟩ : ∃ GV, GV = grpV g := ⟨_, rfl⟩
 obtain ⟨gs, hgs⟩ : ∃ gs, (grpC g).toArray = gs := ⟨_, rfl⟩
 obtain ⟨s0, hs0⟩ : ∃ s0, w.heap.size = s0 := ⟨_, rfl⟩
 obtain ⟨w2, hw2⟩ : ∃ w2, (w.alloc (.cells gs 29)).alloc (.cells #[.map none, .int .i64 0, .int .i64 0] 56) = w2 := ⟨_, rfl⟩
 have HGB : Hid (Wh 29 w2 s0 (grpC g)) := Lib.hid (by rw [← hw2, ← hgs, ← hs0]; exact ((Wh.new w 29 (grpC g)).up (below_alloc_new _)))
 have HB2 : Hid (Below w.heap.size w w2) := Lib.hid (by rw [← hw2]; exact below_new (below_alloc_new _) _)
 have HV : Hid (Wh 56 w2 (s0 + 1) [.map none, .int .i64 0, .int .i64 0]) := Lib.hid (by
  rw [← hw2, ← hs0]
  have h9 := (Wh.new (w.alloc (.cells gs 29)) 56 [.map none, .int .i64 0, .int .i64 0])
  simp only [World.size_alloc] at h9
  exact h9)
 have HS0 := Lib.hid hs0
 have HLG : Hid (∀ W, Below w2.heap.size w2 W → (Instr.loadAt 29 (.pointer (some ⟨s0, 0, none⟩))).run Tryz.prog W = .ok GV W) := Lib.hid (fun W h => by rw [hGV, grpV_is]; exact (HGB.out.up h).rg.load 0 29 (grpC g) rfl _ Tryz.underlying29 rfl (by kernel_rfl))
 have HBC : Hid (Below w2.heap.size w2 w2) := Lib.hid (Below.refl _ _)
 have HBW : Hid (∀ W, Below w2.heap.size w2 W → Below w.heap.size w W) := Lib.hid (fun W h => HB2.out.trans (h.mono HB2.out.size))
 have HS2 : Hid (s0 + 2 ≤ w2.heap.size) := Lib.hid (by rw [← hw2, ← hs0]; simp)
 have HVO := Lib.hid (fun W (hb : Below w2.heap.size w2 W) => yview_any g L G p W ((hk.up HB2.out).up hb) hs hw)
 have HCK := Lib.hid (fun W mb n9 b r (hb : Below w2.heap.size w2 W) (hm : MapV W mb n9 (resM L)) => ychk_any L mb n9 b r A c X W hm ((hz.up HB2.out).up hb) (by omega) hx)
 have hGS : GV = .agg gs := by rw [hGV, grpV_is, hgs]
 rw [← hGV] at HVO ⊢
 rw [hGS]
 clear hGS hGV
 have hcv : cvE g L G X p = if cyE g L G p = 0 then cvN L X else cyE g L G p := rfl
 rw [hcv]
 obtain ⟨E, hE⟩ : ∃ E, cyE g L G p = E := ⟨_, rfl⟩
 rw [hE] at HVO ⊢
 obtain ⟨N, hN⟩ : ∃ N, cvN L X = N := ⟨_, rfl⟩
 rw [hN] at HCK ⊢
 clear hk hs hw hz hx hcv hE hN hl
 have HM1 : True := trivial
 by_cases hE0 : E = 0
 ·subst hE0
  have HVP : Hid (∀ W, Below w2.heap.size w2 W → Calls Tryz.prog 32 #[GV, .int .i64 p] W fun e w' => (∃ mb n, e = .returned (.tuple #[vwV mb (cyB g p) g.r6, .int .i64 0]) ∧ MapV w' mb n (resM L)) ∧ Below W.heap.size W w') := Lib.hid (fun W hb => (HVO.out W hb).mono fun e w' ⟨h1, h2⟩ => ⟨by unfold VwQ at h1; rw [if_pos rfl] at h1; exact h1, h2⟩)
  simp only [if_true]
  obtain ⟨b, hb⟩ : ∃ b, cyB g p = b := ⟨_, rfl⟩
  rw [hb] at HVP
  obtain ⟨r6, hr6⟩ : ∃ r6, g.r6 = r6 := ⟨_, rfl⟩
  rw [hr6] at HVP
  have HVQ : Hid (∀ mb n W N e, ((N = 0 → e = .returned (.tuple #[vwV mb b r6, .int .i64 0]) ∧ MapV W mb n (resM L)) ∧ (N ≠ 0 → e = .returned (.tuple #[vw0, .int .i64 N]))) → VwQ g L N p e W) := Lib.hid (fun mb n W N e h => by
   unfold VwQ
   by_cases h0 : N = 0
   ·rw [if_pos h0]; obtain ⟨h1, h2⟩ := h.1 h0; exact ⟨mb, n, by rw [hb, hr6]; exact h1, h2⟩
   ·rw [if_neg h0]; exact h.2 h0)
  clear hb hr6 HVO
  have HM2 : True := trivial
  have HM3 : True := trivial
  have HM4 : True := trivial
  by_cases hN0 : N = 0
  ·subst hN0
   have z1 : ((0 : Int) != 0) = false := rfl
   have z2 : ((0 : Int) == 0) = true := rfl
   go_enter Tryz.func17, Tryz.ntmps17
   go_wp2_with (first
    | (clear HM1; refine wpList_load_is rfl 29 _ rfl (.pointer (some ⟨s0, 0, none⟩)) rfl GV (HLG.out _ HBC.out) ?_)
    | (go_at_call 32; refine (HVP.out _ HBC.out).mono ?_; rintro r w3 ⟨⟨mb, n9, rfl, hm3⟩, hb⟩; have hB3 := Lib.hid (HBC.out.trans (hb.mono HBC.out.size)); clear HBC hb; have HBC := hB3; clear hB3; have HM3 := Lib.hid hm3; clear hm3; obtain ⟨sv, hsv⟩ : ∃ sv, w3.heap.size = sv := ⟨_, rfl⟩; have HSV := Lib.hid hsv)
    | (clear HM2; refine wpList_store_wh rfl 56 _ _ rfl sv rfl 56 [.map none, .int .i64 0, .int .i64 0] (vwC mb b r6) rfl (by rw [← HSV.out]; exact Wh.new w3 56 [.map none, .int .i64 0, .int .i64 0]) rfl (by kernel_rfl) (by kernel_rfl) ?_; intro w5 hr5 ho5 hz5; have HR5 := Lib.hid hr5.out; have hb5 : Below w3.heap.size w3 w5 := only_new (by rw [HSV.out]; exact ho5.out); have HM5 := Lib.hid (HM3.out.up hb5); have hB3 := Lib.hid (HBC.out.trans (hb5.mono HBC.out.size)); clear HBC HM3 hr5 ho5 hz5 hb5; have HBC := hB3; clear hB3; obtain ⟨VV, hVV⟩ : ∃ VV, VV = vwV mb b r6 := ⟨_, rfl⟩; have HLV : Hid (∀ W, Below w5.heap.size w5 W → (Instr.loadAt 56 (.pointer (some ⟨sv, 0, none⟩))).run Tryz.prog W = .ok VV W) := Lib.hid (fun W h => by rw [hVV]; exact (HR5.out.up h).rg.load 0 56 (vwC mb b r6) rfl _ Tryz.underlying56 rfl (by kernel_rfl)); have HC5 := Lib.hid (HCK.out w5 mb n9 b r6 HBC.out HM5.out); rw [← hVV] at HC5; have HVV := Lib.hid hVV; clear hVV; have HB5 : Hid (Below w5.heap.size w5 w5) := Lib.hid (Below.refl _ _))
    | (clear HM3; refine wpList_load_is rfl 56 _ rfl (.pointer (some ⟨sv, 0, none⟩)) rfl VV (HLV.out _ HB5.out) ?_)
    | (go_at_call 37; refine HC5.out.mono ?_; rintro r w6 ⟨rfl, hb⟩; have hB3 := Lib.hid (HBC.out.trans (hb.mono HBC.out.size)); clear HBC; have HBC := hB3; clear hB3; have HB6 := Lib.hid (HB5.out.trans hb); clear HB5; have HB5 := HB6; clear HB6; have HM6 := Lib.hid (HM5.out.up hb); clear hb; have HNE : Hid (¬ mb = s0 + 1) := Lib.hid (fun e => by obtain ⟨D9, ⟨es9, k9, h8, -⟩, -⟩ := HM6.out; have h7 := (HV.out.up HBC.out).blk; rw [← e, h8] at h7; cases h7))
    | (clear HM4; refine wpList_load_is rfl 56 _ rfl (.pointer (some ⟨sv, 0, none⟩)) rfl (vwV mb b r6) (by rw [← HVV.out]; exact HLV.out _ HB5.out) ?_)
    | (refine wpList_store_wh rfl 56 _ _ rfl (s0 + 1) rfl 56 [.map none, .int .i64 0, .int .i64 0] (vwC mb b r6) rfl (HV.out.up HBC.out) rfl (by kernel_rfl) (by kernel_rfl) ?_; intro w8 hr8 ho8 hz8; have HR8 := Lib.hid hr8.out; have HE8 := Lib.hid (cy_end HB2.out HBC.out ho8.out (by have := HS0.out; omega)); have HM8 := Lib.hid (HM6.out.blk (ho8.out.blk mb HM6.out.lt (HNE.out))); clear hr8 ho8 hz8))
   obtain ⟨z0, z1, z2⟩ : w8.cell? ⟨s0 + 1, 0, none⟩ = some (.map (some mb)) ∧ w8.cell? ⟨s0 + 1, 1, none⟩ = some (.int .i64 b) ∧ w8.cell? ⟨s0 + 1, 2, none⟩ = some (.int .i64 r6) := ⟨HR8.out.at 0 _ rfl, HR8.out.at 1 _ rfl, HR8.out.at 2 _ rfl⟩
   exact bodyPost_ret (v := .tuple #[vwV mb b r6, .int .i64 0]) (by simp [results, Tryz.results17, go_sem, z0, z1, z2]) rfl ⟨HVQ.out mb n9 _ _ _ ⟨fun _ => ⟨rfl, HM8.out⟩, fun h => absurd rfl h⟩, by first | exact HE8.out | (rw [← HS0.out]; exact HE8.out)⟩
  ·have z1 : (N != 0) = true := by simp [hN0]
   have z2 : ((0 : Int) == 0) = true := rfl
   have HNN := Lib.hid hN0
   clear hN0
   go_enter Tryz.func17, Tryz.ntmps17
   go_wp2_with (first
    | (clear HM1; refine wpList_load_is rfl 29 _ rfl (.pointer (some ⟨s0, 0, none⟩)) rfl GV (HLG.out _ HBC.out) ?_)
    | (go_at_call 32; refine (HVP.out _ HBC.out).mono ?_; rintro r w3 ⟨⟨mb, n9, rfl, hm3⟩, hb⟩; have hB3 := Lib.hid (HBC.out.trans (hb.mono HBC.out.size)); clear HBC hb; have HBC := hB3; clear hB3; have HM3 := Lib.hid hm3; clear hm3; obtain ⟨sv, hsv⟩ : ∃ sv, w3.heap.size = sv := ⟨_, rfl⟩; have HSV := Lib.hid hsv)
    | (clear HM2; refine wpList_store_wh rfl 56 _ _ rfl sv rfl 56 [.map none, .int .i64 0, .int .i64 0] (vwC mb b r6) rfl (by rw [← HSV.out]; exact Wh.new w3 56 [.map none, .int .i64 0, .int .i64 0]) rfl (by kernel_rfl) (by kernel_rfl) ?_; intro w5 hr5 ho5 hz5; have HR5 := Lib.hid hr5.out; have hb5 : Below w3.heap.size w3 w5 := only_new (by rw [HSV.out]; exact ho5.out); have HM5 := Lib.hid (HM3.out.up hb5); have hB3 := Lib.hid (HBC.out.trans (hb5.mono HBC.out.size)); clear HBC HM3 hr5 ho5 hz5 hb5; have HBC := hB3; clear hB3; obtain ⟨VV, hVV⟩ : ∃ VV, VV = vwV mb b r6 := ⟨_, rfl⟩; have HLV : Hid (∀ W, Below w5.heap.size w5 W → (Instr.loadAt 56 (.pointer (some ⟨sv, 0, none⟩))).run Tryz.prog W = .ok VV W) := Lib.hid (fun W h => by rw [hVV]; exact (HR5.out.up h).rg.load 0 56 (vwC mb b r6) rfl _ Tryz.underlying56 rfl (by kernel_rfl)); have HC5 := Lib.hid (HCK.out w5 mb n9 b r6 HBC.out HM5.out); rw [← hVV] at HC5; have HVV := Lib.hid hVV; clear hVV; have HB5 : Hid (Below w5.heap.size w5 w5) := Lib.hid (Below.refl _ _))
    | (clear HM3; refine wpList_load_is rfl 56 _ rfl (.pointer (some ⟨sv, 0, none⟩)) rfl VV (HLV.out _ HB5.out) ?_)
    | (go_at_call 37; refine HC5.out.mono ?_; rintro r w6 ⟨rfl, hb⟩; have hB3 := Lib.hid (HBC.out.trans (hb.mono HBC.out.size)); clear HBC; have HBC := hB3; clear hB3; have HB6 := Lib.hid (HB5.out.trans hb); clear HB5; have HB5 := HB6; clear HB6; have HM6 := Lib.hid (HM5.out.up hb); clear hb)
    | (refine wpList_store_wh rfl 56 _ _ rfl (s0 + 1) rfl 56 [.map none, .int .i64 0, .int .i64 0] [.map none, .int .i64 0, .int .i64 0] rfl (HV.out.up HBC.out) rfl (by kernel_rfl) (by kernel_rfl) ?_; intro w8 hr8 ho8 hz8; have HR8 := Lib.hid hr8.out; have HE8 := Lib.hid (cy_end HB2.out HBC.out ho8.out (by have := HS0.out; omega)); clear hr8 ho8 hz8))
   obtain ⟨z0, z1, z2⟩ : w8.cell? ⟨s0 + 1, 0, none⟩ = some (.map none) ∧ w8.cell? ⟨s0 + 1, 1, none⟩ = some (.int .i64 0) ∧ w8.cell? ⟨s0 + 1, 2, none⟩ = some (.int .i64 0) := ⟨HR8.out.at 0 _ rfl, HR8.out.at 1 _ rfl, HR8.out.at 2 _ rfl⟩
   exact bodyPost_ret (v := .tuple #[vw0, .int .i64 N]) (by simp [results, Tryz.results17, go_sem, z0, z1, z2]) rfl ⟨HVQ.out 0 0 _ _ _ ⟨fun h => absurd h HNN.out, fun _ => rfl⟩, by first | exact HE8.out | (rw [← HS0.out]; exact HE8.out)⟩
 ·have z1 : (E != 0) = true := by simp [hE0]
  have z2 : (E == 0) = false := by simp [hE0]
  have HVP : Hid (∀ W, Below w2.heap.size w2 W → Calls Tryz.prog 32 #[GV, .int .i64 p] W fun e w' => e = .returned (.tuple #[vw0, .int .i64 E]) ∧ Below W.heap.size W w') := Lib.hid (fun W hb => (HVO.out W hb).mono fun e w' ⟨h1, h2⟩ => ⟨by unfold VwQ at h1; rw [if_neg hE0] at h1; exact h1, h2⟩)
  have HVQ : Hid (∀ W, VwQ g L E p (.returned (.tuple #[vw0, .int .i64 E])) W) := Lib.hid (fun W => by unfold VwQ; rw [if_neg hE0])
  simp only [if_neg hE0]
  clear HVO hE0
  have HM2 : True := trivial
  go_enter Tryz.func17, Tryz.ntmps17
  go_wp2_with (first
   | (clear HM1; refine wpList_load_is rfl 29 _ rfl (.pointer (some ⟨s0, 0, none⟩)) rfl GV (HLG.out _ HBC.out) ?_)
   | (go_at_call 32; refine (HVP.out _ HBC.out).mono ?_; rintro r w3 ⟨rfl, hb⟩; have hB3 := Lib.hid (HBC.out.trans (hb.mono HBC.out.size)); clear HBC; have HBC := hB3; clear hB3; obtain ⟨sv, hsv⟩ : ∃ sv, w3.heap.size = sv := ⟨_, rfl⟩; have HSV := Lib.hid hsv; clear hb)
   | (clear HM2; refine wpList_store_wh rfl 56 _ _ rfl sv rfl 56 [.map none, .int .i64 0, .int .i64 0] [.map none, .int .i64 0, .int .i64 0] rfl (by rw [← HSV.out]; exact Wh.new w3 56 [.map none, .int .i64 0, .int .i64 0]) rfl (by kernel_rfl) (by kernel_rfl) ?_; intro w5 hr5 ho5 hz5; have hb5 : Below w3.heap.size w3 w5 := only_new (by rw [HSV.out]; exact ho5.out); have hB3 := Lib.hid (HBC.out.trans (hb5.mono HBC.out.size)); clear HBC hr5 ho5 hz5 hb5; have HBC := hB3; clear hB3)
   | (refine wpList_store_wh rfl 56 _ _ rfl (s0 + 1) rfl 56 [.map none, .int .i64 0, .int .i64 0] [.map none, .int .i64 0, .int .i64 0] rfl (HV.out.up HBC.out) rfl (by kernel_rfl) (by kernel_rfl) ?_; intro w8 hr8 ho8 hz8; have HR8 := Lib.hid hr8.out; have HE8 := Lib.hid (cy_end HB2.out HBC.out ho8.out (by have := HS0.out; omega)); clear hr8 ho8 hz8))
  obtain ⟨z0, z1, z2⟩ : w8.cell? ⟨s0 + 1, 0, none⟩ = some (.map none) ∧ w8.cell? ⟨s0 + 1, 1, none⟩ = some (.int .i64 0) ∧ w8.cell? ⟨s0 + 1, 2, none⟩ = some (.int .i64 0) := ⟨HR8.out.at 0 _ rfl, HR8.out.at 1 _ rfl, HR8.out.at 2 _ rfl⟩
  exact bodyPost_ret (v := .tuple #[vw0, .int .i64 E]) (by simp [results, Tryz.results17, go_sem, z0, z1, z2]) rfl ⟨HVQ.out _, by first | exact HE8.out | (rw [← HS0.out]; exact HE8.out)⟩
open Go.RowKit Go.Maps Go.Sort Go.Shelf
theorem sumy_zero (w : World) : (zeroValue 63).run Tryz.prog w = .ok (.agg #[.int .i64 0, .int .i64 0]) w := by kernel_rfl
theorem keysy_any (b : Nat) (w : World) : Calls Tryz.prog 39 #[.map (some b)] w fun e w' => e = .returned (.func (.func 60) #[] #[.pointer (some ⟨w.heap.size, 0, none⟩)]) ∧ w' = w.alloc (.cells #[.map (some b)] 59) :=
 (callsIn_wide (n := 5)).1 (AnyZI.keys_in Tryz.keys39 Fence.wide 5 trivial rfl (some b) w)
set_option maxHeartbeats 1000000 in
theorem sortedy_any (b n : Nat) (f : Int → Option Value) (w : World) (h : MapV w b n f) (hn : n ≤ 1000000) :
  Calls Tryz.prog 38 #[.func (.func 60) #[] #[.pointer (some ⟨w.heap.size, 0, none⟩)]] (w.alloc (.cells #[.map (some b)] 59)) fun e w' => ∃ (v : Value) (L : List Int), e = .returned v ∧ SlI w' v L ∧ Asc L ∧ (∀ x, x ∈ L ↔ (f x).isSome = true) ∧ Below w.heap.size w w' := by
 obtain ⟨D, hown, hD⟩ := h
 obtain ⟨hnd, hmem⟩ := intKeys_is hown
 have hbl := hown.lt
 have hsz := hown.size_le
 have hseq : SeqGives Fence.wide 2 Tryz.prog 60 #[.pointer (some ⟨w.heap.size, 0, none⟩)] encZ (fun ss => ss.Perm (intKeys D)) (Maps.size D) (w.alloc (.cells #[.map (some b)] 59)) :=
  AnyZI.keys_gives (ρ := Tryz.keys39_ren) { Tryz.keys39 with } Fence.wide _ trivial rfl (by omega) w.heap.size b n D _ (by simp) (by simp) (by
   obtain ⟨es, clock, hb, Ft, hs, hD⟩ := hown
   exact ⟨es, clock, (Below.heap_alloc _ _ b hbl).trans hb, Ft, hs, hD⟩)
 have cS := AnyZI.sorted_in Tryz.sorted38 Fence.wide 5 trivial trivial trivial trivial rfl (by omega) (sorts_any _) (enters_of Tryz.func59 (by kernel_rfl) rfl) 60 #[.pointer (some ⟨w.heap.size, 0, none⟩)] trivial (enters_of Tryz.func60 (by kernel_rfl) rfl) _ _ (by unfold maxLen; omega) (by omega) _ hseq
 refine ((callsIn_wide (n := 5)).1 cS).mono ?_
 rintro e w' ⟨v, ss, rfl, hp, hrow, _, hb⟩
 have hnd2 : ss.Nodup := hp.nodup_iff.2 hnd
 have hpm := List.mergeSort_perm ss (fun x y => decide (x ≤ y))
 refine ⟨v, ss.mergeSort (fun x y => decide (x ≤ y)), rfl, ?_, sort_asc hnd2, fun x => ?_, ?_⟩
 ·refine OwnI.sli (e := 3) (base := (w.alloc (.cells #[.map (some b)] 59)).heap.size) ?_
  unfold OwnI
  rw [List.length_mergeSort]
  exact hrow
 ·rw [hpm.mem_iff, hp.mem_iff, hmem, (hD x).1]
 ·exact ((Below.refl _ w).alloc (Nat.le_refl _) _).trans (hb.mono (by simp))
set_option maxRecDepth 20000 in
set_option maxHeartbeats 3200000 in
theorem ybal_any (sb m : Nat) (f : Int → Option Value) (P : List Bal) (w : World) (h : SI w sb m f P) (hm : m ≤ 1000000) (hp : P.length ≤ 1000) :
  Calls Tryz.prog 20 #[.map (some sb)] w fun e w' => ∃ v, e = .returned (.tuple #[v, .int .i64 (lisE P)]) ∧ SlB w' v (lisL P) ∧ Below w.heap.size w w' := by
 have hB := Below.refl w.heap.size w
 have hsb := h.map.lt
 have hE1 : amtsB (sumsL P) = false → lisE P = 2 ∧ lisL P = [] := fun h => by unfold lisE lisL; rw [h]; exact ⟨rfl, rfl⟩
 have hE0 : amtsB (sumsL P) = true → lisE P = 0 ∧ lisL P = pick0 (sumsL P) := fun h => by unfold lisE lisL; rw [h]; exact ⟨rfl, rfl⟩
 have hsl := sumsL_len (P := P)
 obtain ⟨hasc, hmem⟩ := keysL_is (l := P.map (·.acct))
 have hDK : ∀ D : List Int, Asc D → (∀ x, x ∈ D ↔ (f x).isSome = true) → D = keysL (P.map (·.acct)) := fun D h1 h2 => keysL_ext h1 fun x => by rw [h2 x, h.dom x]
 have hg : ∀ i, i < (sumsL P).length → (sumsL P).getD i bal0 = ⟨(keysL (P.map (·.acct))).getD i 0, ofS P ((keysL (P.map (·.acct))).getD i 0)⟩ := by
  intro i hi
  have hi' : i < (keysL (P.map (·.acct))).length := by unfold sumsL at hi; rwa [List.length_map] at hi
  unfold sumsL
  rw [List.getD_eq_getElem?_getD, List.getElem?_map, List.getD_eq_getElem?_getD, List.getElem?_eq_getElem hi']; rfl
 have hlen : (keysL (P.map (·.acct))).length = (sumsL P).length := by unfold sumsL; rw [List.length_map]
 have hT : ∀ i, i < (sumsL P).length → (keysL (P.map (·.acct))).getD i 0 = ((sumsL P).getD i bal0).acct := fun i hi => by rw [hg i hi]
 have hV : ∀ i, i < (sumsL P).length → ∃ g r, (f ((sumsL P).getD i bal0).acct).getD (.agg #[.int .i64 0, .int .i64 0]) = sumV g r ∧ SumZ g r ((sumsL P).getD i bal0).amt := fun i hi => by
  obtain ⟨g, r, e1, e2, -⟩ := h.val ((sumsL P).getD i bal0).acct
  refine ⟨g, r, e1, ?_⟩
  rw [hg i hi] at e2 ⊢
  exact e2
 have hWF : ∀ i, i < (sumsL P).length → (Lit.int .i64 ((sumsL P).getD i bal0).acct).wf = true := fun i hi => by
  refine h.wf _ ((hmem _).1 ?_)
  rw [← hT i hi]
  exact getD_mem_acc (by rw [hlen]; exact hi)
 have hmap := h.map
 generalize lisE P = re at *
 generalize lisL P = rl at *
 generalize keysL (P.map (·.acct)) = D0 at *
 generalize sumsL P = S at *
 obtain ⟨n, hn⟩ : ∃ n, S.length = n := ⟨_, rfl⟩
 rw [hn] at hsl hlen hT hV hWF
 have hn1 : n ≤ 1000 := by omega
 have HN := Lib.hid hn
 have HLEN := Lib.hid hlen
 have HT := Lib.hid hT
 have HV := Lib.hid hV
 have HWF := Lib.hid hWF
 have HDK := Lib.hid hDK
 have HE1 := Lib.hid hE1
 have HE0 := Lib.hid hE0
 have HMP := Lib.hid hmap
 obtain ⟨i0, hi, hz1, hz2, hz3⟩ := info_parts infoI_bal
 clear h hE1 hE0 hsl hasc hmem hDK hg hlen hT hV hWF hmap hn hp
 go_enter Tryz.func20, Tryz.ntmps20
 go_wp2_with (first
  | (go_at_call 39; refine (keysy_any _ _).mono ?_; rintro e w1 ⟨rfl, rfl⟩)
  | (go_at_call 38; refine (sortedy_any sb m f w HMP.out hm).mono ?_; rintro e w2 ⟨v, D, rfl, h1, h2, h3, hb⟩; have hDD := HDK.out D h2 h3; subst hDD; obtain ⟨AD, cD, hvD, hiD⟩ := h1; rw [HLEN.out] at hvD; subst hvD; have HID := Lib.hid hiD; have HBA := Lib.hid hb; clear hb h2 h3 hiD))
 obtain ⟨s1, hs1⟩ : ∃ s1, w2.heap.size = s1 := ⟨_, rfl⟩
 have hws : w.heap.size ≤ s1 := by rw [← hs1]; exact HBA.out.size
 have hB1 : Below s1 w2 w2 := Below.refl _ _
 have HM2 := Lib.hid (HMP.out.up HBA.out)
 have HS1 := Lib.hid hs1
 clear hs1
 have hO : Hid (OwnB 72 w2 s1 (.slice none 0 0) (pick0 (S.take 0))) := Lib.hid OwnB.nil
 go_loopg [4, 13] n (fun kx s4 s13 wr => ∃ k : Nat, s13 = .int .i64 k ∧ k ≤ n ∧ n - k ≤ kx ∧ Hid (amtsB (S.take k) = true) ∧ Hid (OwnB 72 wr s1 s4 (pick0 (S.take k))) ∧ Below s1 w2 wr)
 case atStart => exact ⟨0, rfl, by omega, by omega, Lib.hid rfl, hO, hB1⟩
 case round =>
  clear hB1 hO hB
  obtain ⟨k, rfl, hk, hkx, HA, hO, hB⟩ := hrel
  have hsz : s1 ≤ wr.heap.size := by have := hB.size; have := HS1.out; omega
  by_cases hlt : k < n
  ·have hltz : (k : Int) < (n : Int) := by omega
   obtain ⟨bD, offD, rfl, hbD, hcD⟩ := HID.out (by rw [HLEN.out]; omega)
   have hcell := (hB.cell (p := ⟨bD, offD + k, none⟩) (by rw [← HS1.out]; exact hbD)).trans (hcD k (by rw [HLEN.out]; exact hlt))
   rw [HT.out k hlt] at hcell
   obtain ⟨g, r, hv, hz⟩ := HV.out k hlt
   have hwf := HWF.out k hlt
   have htk := pick0_succ (l := S) (k := k) (by rw [HN.out]; exact hlt)
   have hno := fun h => all_false_getD (d := bal0) (p := fun x : Bal => amtB x.amt) (L := S) (k := k) (by rw [HN.out]; exact hlt) h
   have h9 := take_all_getD (d := bal0) (p := fun x : Bal => amtB x.amt) S k (by rw [HN.out]; exact hlt)
   have hln : Hid ((pick0 (S.take k)).length ≤ 100000000) := Lib.hid (by have := pick0_len (l := S.take k); rw [List.length_take] at this; omega)
   generalize S.getD k bal0 = x at *
   obtain ⟨t, z⟩ := x
   dsimp only at hcell hv hz hwf htk hno h9
   have ha := fun w => yamount_any g r z w hz
   have HVV := Lib.hid hv
   have HWX := Lib.hid hwf
   have HNo := Lib.hid hno
   have H9 := Lib.hid h9
   have HMR := Lib.hid (HM2.out.up (by rw [HS1.out]; exact hB))
   clear hcD hv hz hwf hno h9
   cases hq : amtB z
   ·rw [hq] at ha
    replace ha : ∀ w, Calls Tryz.prog 40 #[sumV g r] w fun e w' => e = .returned (.tuple #[.int .i64 0, .int .i64 2]) ∧ Below w.heap.size w w' := ha
    have q1 : ((2 : Int) != 0) = true := rfl
    have E := Lib.hid (HE1.out (HNo.out hq)).1
    have R := Lib.hid (HE1.out (HNo.out hq)).2
    have HAm := Lib.hid ha
    clear ha hq htk
    go_wp2_with (first
     | (at_lookup; refine wpList_mapv_look rfl _ _ _ 63 rfl Tryz.underlying59 sumy_zero sb m f rfl HMR.out t rfl HWX.out ?_; rw [HVV.out])
     | (go_at_call 40; (with_reducible refine (HAm.out _).mono ?_); rintro e w3 ⟨rfl, hb⟩; replace hB := hB.trans (hb.mono hsz); clear hb))
    go_ret2
    exact ⟨_, by rw [E.out]; rfl, by rw [R.out]; exact SlB.nil, HBA.out.trans (hB.mono hws)⟩
   ·rw [hq] at ha
    replace ha : ∀ w, Calls Tryz.prog 40 #[sumV g r] w fun e w' => e = .returned (.tuple #[.int .i64 z, .int .i64 0]) ∧ Below w.heap.size w w' := ha
    have q1 : ((0 : Int) != 0) = false := rfl
    have HAm := Lib.hid ha
    have HA2 : Hid (amtsB (S.take (k + 1)) = true) := Lib.hid (by show (S.take (k + 1)).all _ = true; rw [H9.out]; show (amtsB (S.take k) && amtB z) = true; rw [HA.out, hq]; rfl)
    clear ha hq
    by_cases h0 : z = 0
    ·rw [if_pos h0] at htk
     have e0 : (z != 0) = false := by simp [h0]
     have HTK := Lib.hid htk
     clear h0 htk
     go_wp2_with (first
      | (at_lookup; refine wpList_mapv_look rfl _ _ _ 63 rfl Tryz.underlying59 sumy_zero sb m f rfl HMR.out t rfl HWX.out ?_; rw [HVV.out])
      | (go_at_call 40; (with_reducible refine (HAm.out _).mono ?_); rintro e w3 ⟨rfl, hb⟩; have hO2 : Hid (OwnB 72 w3 s1 u4 (pick0 (S.take (k + 1)))) := Lib.hid (by (rw [HTK.out]; exact hO.out.up hb)); replace hB := hB.trans (hb.mono hsz); clear hb))
     go_roundg (n - (k + 1))
     case measure => omega
     case rel => exact ⟨k + 1, by go_num, by omega, by omega, HA2, hO2, hB⟩
    ·rw [if_neg h0] at htk
     have e0 : (z != 0) = true := by simp [h0]
     have HTK := Lib.hid htk
     clear h0 htk
     go_wp2_with (first
      | (at_lookup; refine wpList_mapv_look rfl _ _ _ 63 rfl Tryz.underlying59 sumy_zero sb m f rfl HMR.out t rfl HWX.out ?_; rw [HVV.out])
      | (go_at_call 40; (with_reducible refine (HAm.out _).mono ?_); rintro e w3 ⟨rfl, hb⟩; have hO2 : Hid (OwnB 72 w3 s1 u4 (pick0 (S.take k))) := Lib.hid (hO.out.up hb); have hsz3 := hb.size; replace hsz3 := Nat.le_trans hsz hsz3; replace hB := hB.trans (hb.mono hsz); clear hb)
      | (at_builtin; refine wpList_append_bg _ rfl (.tmp 29) (.tmp 33) 33 rfl s1 72 i0 16 Tryz.underlying33 hi hz1 hz2 hz3 (by omega) u4 _ (by rfl) hO2.out t z _ 1 (by first | rfl | simp) rfl hln.out hsz3 ?_; intro v2 w4 ho2 hb2; replace ho2 := ho2.out; rw [← HTK.out] at ho2; replace ho2 := Lib.hid ho2; replace hB := hB.trans hb2; clear hb2))
     go_roundg (n - (k + 1))
     case measure => omega
     case rel => exact ⟨k + 1, by go_num, by omega, by omega, HA2, ho2, hB⟩
  ·obtain rfl : k = n := by omega
   have hltz : ¬ (k : Int) < (k : Int) := by omega
   have hA := HA.out
   rw [List.take_of_length_le (by rw [HN.out]; omega)] at hA
   obtain ⟨hE, hR⟩ := HE0.out hA
   have ho := hO.out.slb
   rw [List.take_of_length_le (by rw [HN.out]; omega), ← hR] at ho
   have HO := Lib.hid ho
   have E := Lib.hid hE
   clear ho hA hE hR
   go_wp2_with fail
   go_ret2
   exact ⟨_, by rw [E.out]; rfl, HO.out, HBA.out.trans (hB.mono hws)⟩
theorem plI_wf {L : List Acc} {r b c d : Int} (hr : (Lit.int .i64 r).wf = true) (hc : (Lit.int .i64 c).wf = true) : (Lit.int .i64 (plI L r b c d)).wf = true := by
 unfold plI
 split
 ·exact hr
 ·exact hc
theorem r6_wf {g : Grp} {L : List Acc} {G : List Ent} (h : GrW g L G) : (Lit.int .i64 g.r6).wf = true := h.rol _ (by simp [Grp.R])
set_option maxRecDepth 100000 in
set_option maxHeartbeats 6400000 in
theorem ycarry_any (g : Grp) (L : List Acc) (G : List Ent) (A : Option Addr) (c : Nat) (X : List Lnk) (p : Int) (w : World) (hk : GrK w g L G) (hs : Sm g G) (hw : GrW g L G) (hz : LnkAt w A X) (hl : X.length ≤ 1000) (hx : ∀ d ∈ X, (Lit.int .i64 d.frm).wf = true) : Calls Tryz.prog 7 #[grpV g, .slice A X.length c, .int .i64 p] w fun e w' => (∃ v, e = .returned (.tuple #[v, .int .i64 (caE g L G X p)]) ∧ SlB w' v (caL g L G X p)) ∧ Below w.heap.size w w' := by
 obtain ⟨GV, hGV⟩ : ∃ GV, GV = grpV g := ⟨_, rfl⟩
 obtain ⟨gs, hgs⟩ : ∃ gs, (grpC g).toArray = gs := ⟨_, rfl⟩
 obtain ⟨s0, hs0⟩ : ∃ s0, w.heap.size = s0 := ⟨_, rfl⟩
 obtain ⟨w2, hw2⟩ : ∃ w2, w.alloc (.cells gs 29) = w2 := ⟨_, rfl⟩
 have HGB : Hid (Wh 29 w2 s0 (grpC g)) := Lib.hid (by rw [← hw2, ← hgs, ← hs0]; exact (Wh.new w 29 (grpC g)))
 have HB2 : Hid (Below w.heap.size w w2) := Lib.hid (by rw [← hw2]; exact below_alloc_new _)
 have HS0 := Lib.hid hs0
 have HLG : Hid (∀ W, Below w2.heap.size w2 W → (Instr.loadAt 29 (.pointer (some ⟨s0, 0, none⟩))).run Tryz.prog W = .ok GV W) := Lib.hid (fun W h => by rw [hGV, grpV_is]; exact (HGB.out.up h).rg.load 0 29 (grpC g) rfl _ Tryz.underlying29 rfl (by kernel_rfl))
 have HBC : Hid (Below w2.heap.size w2 w2) := Lib.hid (Below.refl _ _)
 have HBW : Hid (∀ W, Below w2.heap.size w2 W → Below w.heap.size w W) := Lib.hid (fun W h => HB2.out.trans (h.mono HB2.out.size))
 have HS2 : Hid (s0 + 1 ≤ w2.heap.size) := Lib.hid (by rw [← hw2, ← hs0]; simp)
 have HVO := Lib.hid (fun W (hb : Below w2.heap.size w2 W) => yviewall_any g L G A c X p W ((hk.up HB2.out).up hb) hs hw ((hz.up HB2.out).up hb) hl hx)
 have HZ : Hid (LnkAt w2 A X) := Lib.hid (hz.up HB2.out)
 have HR6 := Lib.hid (r6_wf hw)
 have HWF := Lib.hid hx
 have hGS : GV = .agg gs := by rw [hGV, grpV_is, hgs]
 rw [← hGV] at HVO ⊢
 rw [hGS]
 clear hGS hGV
 have hce : caE g L G X p = if cvE g L G X p = 0 then lisE (plL L g.r6 (cyB g p) X) else cvE g L G X p := rfl
 have hcl : caL g L G X p = if cvE g L G X p = 0 then lisL (plL L g.r6 (cyB g p) X) else [] := rfl
 rw [hce, hcl]
 have hams := fun h => (cvE_ok (g := g) (L := L) (G := G) (X := X) (p := p) h).2.2
 obtain ⟨E, hE⟩ : ∃ E, cvE g L G X p = E := ⟨_, rfl⟩
 rw [hE] at HVO hams ⊢
 obtain ⟨n, hn⟩ : ∃ n, X.length = n := ⟨_, rfl⟩
 have HN := Lib.hid hn
 rw [hn] at HVO hl ⊢
 have HL := Lib.hid hl
 have HAMS := Lib.hid hams
 clear hk hs hw hz hx hce hcl hE hn hl hams
 have HM1 : True := trivial
 have HM2 : True := trivial
 by_cases hE0 : E = 0
 ·subst hE0
  simp only [if_true]
  have HAM := Lib.hid (fun k (hk : k < n) => amtB_is.1 (all_getD (d := lnk0).1 (HAMS.out rfl) k (by rw [HN.out]; exact hk)))
  have z1 : ((0 : Int) != 0) = false := rfl
  have HVP : Hid (∀ W, Below w2.heap.size w2 W → Calls Tryz.prog 17 #[GV, .slice A n c, .int .i64 p] W fun e w' => (∃ mb n, e = .returned (.tuple #[vwV mb (cyB g p) g.r6, .int .i64 0]) ∧ MapV w' mb n (resM L)) ∧ Below W.heap.size W w') := Lib.hid (fun W hb => (HVO.out W hb).mono fun e w' ⟨h1, h2⟩ => ⟨by unfold VwQ at h1; rw [if_pos rfl] at h1; exact h1, h2⟩)
  obtain ⟨b, hb⟩ : ∃ b, cyB g p = b := ⟨_, rfl⟩
  rw [hb] at HVP ⊢
  obtain ⟨r6, hr6⟩ : ∃ r6, g.r6 = r6 := ⟨_, rfl⟩
  rw [hr6] at HVP HR6 ⊢
  obtain ⟨P, hP⟩ : ∃ P, plL L r6 b X = P := ⟨_, rfl⟩
  rw [hP]
  have HPE := Lib.hid hP
  clear hb hr6 HVO HAMS hP
  have hmm := @run_makeMap Tryz.prog
  go_enter Tryz.func7, Tryz.ntmps7
  go_wp2_with (first
   | (clear HM1; refine wpList_load_is rfl 29 _ rfl (.pointer (some ⟨s0, 0, none⟩)) rfl GV (HLG.out _ HBC.out) ?_)
   | (go_at_call 17; refine (HVP.out _ HBC.out).mono ?_; rintro r w3 ⟨⟨mb, n9, rfl, hm3⟩, hb⟩; have hB3 := Lib.hid (HBC.out.trans (hb.mono HBC.out.size)); clear HBC hb; have HBC := hB3; clear hB3; have HM3 := Lib.hid hm3; clear hm3; obtain ⟨sv, hsv⟩ : ∃ sv, w3.heap.size = sv := ⟨_, rfl⟩; have HSV := Lib.hid hsv)
   | (clear HM2; refine wpList_store_wh rfl 56 _ _ rfl sv rfl 56 [.map none, .int .i64 0, .int .i64 0] (vwC mb b r6) rfl (by rw [← HSV.out]; exact Wh.new w3 56 [.map none, .int .i64 0, .int .i64 0]) rfl (by kernel_rfl) (by kernel_rfl) ?_; intro w5 hr5 ho5 hz5; have HR5 := Lib.hid hr5.out; have hb5 : Below w3.heap.size w3 w5 := only_new (by rw [HSV.out]; exact ho5.out); have HM5 := Lib.hid (HM3.out.up hb5); have hB3 := Lib.hid (HBC.out.trans (hb5.mono HBC.out.size)); clear HBC HM3 hr5 ho5 hz5 hb5; have HBC := hB3; clear hB3; obtain ⟨VV, hVV⟩ : ∃ VV, VV = vwV mb b r6 := ⟨_, rfl⟩; have HLV : Hid (∀ W, Below w5.heap.size w5 W → (Instr.loadAt 56 (.pointer (some ⟨sv, 0, none⟩))).run Tryz.prog W = .ok VV W) := Lib.hid (fun W h => by rw [hVV]; exact (HR5.out.up h).rg.load 0 56 (vwC mb b r6) rfl _ Tryz.underlying56 rfl (by kernel_rfl))))
  have HPL := Lib.hid (fun x d W (hb : Below w5.heap.size w5 W) (hx : (Lit.int .i64 x).wf = true) => yplace_any L mb n9 b r6 x d W (HM5.out.up hb) hx)
  rw [← hVV] at HPL
  obtain ⟨s3, hs3⟩ : ∃ s3, w5.heap.size = s3 := ⟨_, rfl⟩
  have HS3 := Lib.hid hs3
  have hSI := SI.start (MapV.made w5)
  have HB3 : Hid (Below s3 w5 (w5.alloc (.map #[] 0))) := Lib.hid (by rw [← hs3]; exact below_alloc_new _)
  have HBB := Lib.hid (fun W (h : Below s3 w5 W) => HBC.out.trans (h.mono (by rw [← hs3]; exact HBC.out.size)))
  rw [hs3] at hSI HPL HLV ⊢
  have HSI : Hid (SI (w5.alloc (.map #[] 0)) s3 0 (fun _ => none) (plL L r6 b (X.take 0))) := Lib.hid (by show SI _ _ _ _ []; exact hSI)
  have HTK := Lib.hid (fun k hk => plL_take (L := L) (r := r6) (b := b) (X := X) (k := k) hk)
  have HTL : Hid (∀ k, (plL L r6 b (X.take k)).length ≤ n) := Lib.hid (fun k => by rw [plL_len, List.length_take, HN.out]; omega)
  have HTE : Hid (plL L r6 b (X.take n) = P) := Lib.hid (by rw [List.take_of_length_le (by rw [HN.out]; omega)]; exact HPE.out)
  clear HPE
  generalize hT : plL L r6 b = T at *
  clear hVV hSI hs3 hT HVP HSV HR5
  go_loopg [27] n (fun kx s27 wr => ∃ (k n2 : Nat) (f2 : Int → Option Value), s27 = .int .i64 k ∧ k ≤ n ∧ n - k ≤ kx ∧ n2 ≤ k ∧ Hid (SI wr s3 n2 f2 (T (X.take k))) ∧ Hid (Below s3 w5 wr))
  case atStart => exact ⟨0, 0, _, rfl, by omega, by omega, by omega, HSI, HB3⟩
  case round =>
   clear HSI HB3 HBC
   obtain ⟨k, n2, f2, rfl, hk, hkx, hn2, HSI, HB3⟩ := hrel
   have HBC := Lib.hid (HBB.out _ HB3.out)
   have HSZ : Hid (s3 ≤ wr.heap.size) := Lib.hid (by have := HB3.out.size; have := HS3.out; omega)
   by_cases hlt : k < n
   ·have hltz : (k : Int) < (n : Int) := by omega
    obtain ⟨bb, off, hA, hbw, hcs⟩ := HZ.out (by rw [HN.out]; omega)
    have HA3 := Lib.hid (hcs k (by rw [HN.out]; exact hlt))
    have HWX := Lib.hid (HWF.out _ (getD_mem_acc (d := lnk0) (i := k) (by rw [HN.out]; exact hlt)))
    have htk := HTK.out k (by rw [HN.out]; exact hlt)
    have HAX := Lib.hid (HAM.out k hlt)
    generalize X.getD k lnk0 = x at *
    obtain ⟨r0, r1, r2⟩ := HA3.out.up HBC.out hbw
    have HWT : Hid ((Lit.int .i64 (plI L r6 b x.frm x.tgt)).wf = true) := Lib.hid (plI_wf HR6.out HWX.out)
    have HPX := Lib.hid (fun W hb => HPL.out x.frm x.tgt W hb HWX.out)
    generalize plI L r6 b x.frm x.tgt = te at *
    have HB5 : Hid (Below wr.heap.size wr (wr.alloc (.cells #[.int .i64 x.frm, .int .i64 x.tgt, .int .i64 x.since] 60))) := Lib.hid (below_alloc_new _)
    have HC5 : Hid (Wh 60 (wr.alloc (.cells #[.int .i64 x.frm, .int .i64 x.tgt, .int .i64 x.since] 60)) wr.heap.size [.int .i64 x.frm, .int .i64 x.tgt, .int .i64 x.since]) := Lib.hid (Wh.new wr _ _)
    have HS1 := Lib.hid (HSI.out.up HB5.out)
    have HB1 := Lib.hid (HB3.out.trans (HB5.out.mono HSZ.out))
    have HSW : Hid (s3 ≤ (wr.alloc (.cells #[.int .i64 x.frm, .int .i64 x.tgt, .int .i64 x.since] 60)).heap.size) := Lib.hid (Nat.le_trans HSZ.out HB5.out.size)
    obtain ⟨gg, rr, hv, hzz, hg⟩ := HS1.out.val te
    have hlen := HTL.out k
    have HV2 := Lib.hid hv
    have HCP := Lib.hid (fun w => yplus_any gg rr x.since w (by have := HL.out; omega) ⟨hzz.lo, hzz.hi⟩ HAX.out)
    have HSTEP := Lib.hid (fun w4 hm => HS1.out.step (w4 := w4) hv hzz hg HAX.out HWT.out hm)
    have HT2 := Lib.hid htk
    have hn9 : n2 ≤ 1000000 := by have := HL.out; omega
    have y0 := HC5.out.at 0 _ rfl
    have y1 := HC5.out.at 1 _ rfl
    have HM3 : True := trivial
    have hn6 : n ≤ 1000 := HL.out
    subst hA
    clear hcs hv hzz hg htk hlen HSI HB3 HBC
    go_wp2_with (first
     | (clear HM3; refine wpList_load_is rfl 56 _ rfl (.pointer (some ⟨sv, 0, none⟩)) rfl VV (HLV.out _ HB1.out) ?_)
     | (go_at_call 18; refine (HPX.out _ HB1.out).mono ?_; rintro r w6 ⟨rfl, hb⟩; have HSA := Lib.hid (HS1.out.up hb); have y2 := (HC5.out.up hb).at 2 _ rfl; have HBT := Lib.hid (HB1.out.trans (hb.mono HSW.out)); have HSX := Lib.hid (Nat.le_trans HSW.out hb.size); clear hb y0 y1)
     | (at_lookup; refine wpList_mapv_look rfl _ _ _ 63 rfl Tryz.underlying59 sumy_zero s3 n2 f2 rfl HSA.out.map te rfl HWT.out ?_; rw [HV2.out])
     | (go_at_call 19; (with_reducible refine (HCP.out _).mono ?_); rintro r w7 ⟨rfl, hb⟩; have HSB := Lib.hid (HSA.out.up hb); have HBU := Lib.hid (HBT.out.trans (hb.mono HSX.out)); have HSY := Lib.hid (Nat.le_trans HSX.out hb.size); clear hb)
     | (at_mapUpdate; refine wpList_mapv_put rfl _ _ _ _ 63 rfl Tryz.underlying59 s3 n2 f2 rfl HSB.out.map te rfl (sumV (plusG gg rr x.since) (plusR rr x.since)) rfl HWT.out hn9 ?_; intro w8 hm8 hg8; have HB8 := Lib.hid (grown_below HBU.out hg8.out (Nat.le_refl _) HSY.out); clear hg8))
    have HSI8 := Lib.hid (HSTEP.out _ hm8.out)
    rw [← HT2.out] at HSI8
    go_roundg (n - (k + 1))
    case measure => omega
    case rel => exact ⟨k + 1, n2 + 1, _, by go_num, by omega, by omega, by omega, HSI8, HB8⟩
   ·obtain rfl : k = n := by omega
    have hltz : ¬ (k : Int) < (k : Int) := by omega
    have hS := HSI.out
    have hPL := HTL.out k
    rw [HTE.out] at hS hPL
    have HLS := Lib.hid (ybal_any s3 n2 f2 P wr hS (by have := HL.out; omega) (by have := HL.out; omega))
    clear hS hPL
    go_wp2_with (first
     | (go_at_call 20; (with_reducible refine HLS.out.mono ?_); rintro r w8 ⟨v, rfl, hs8, hb⟩; have hB3 := Lib.hid (HBC.out.trans (hb.mono HBC.out.size)); clear HBC; have HBC := hB3; clear hB3; have HS8 := Lib.hid hs8; clear hb hs8))
    go_ret2
    exact ⟨⟨_, rfl, HS8.out⟩, by have h9 := HBW.out _ HBC.out; first | exact h9 | (rw [← HS0.out]; exact h9)⟩
 ·have z1 : (E != 0) = true := by simp [hE0]
  have HVP : Hid (∀ W, Below w2.heap.size w2 W → Calls Tryz.prog 17 #[GV, .slice A n c, .int .i64 p] W fun e w' => e = .returned (.tuple #[vw0, .int .i64 E]) ∧ Below W.heap.size W w') := Lib.hid (fun W hb => (HVO.out W hb).mono fun e w' ⟨h1, h2⟩ => ⟨by unfold VwQ at h1; rw [if_neg hE0] at h1; exact h1, h2⟩)
  simp only [if_neg hE0]
  clear HVO hE0 HAMS
  go_enter Tryz.func7, Tryz.ntmps7
  go_wp2_with (first
   | (clear HM1; refine wpList_load_is rfl 29 _ rfl (.pointer (some ⟨s0, 0, none⟩)) rfl GV (HLG.out _ HBC.out) ?_)
   | (go_at_call 17; refine (HVP.out _ HBC.out).mono ?_; rintro r w3 ⟨rfl, hb⟩; have hB3 := Lib.hid (HBC.out.trans (hb.mono HBC.out.size)); clear HBC; have HBC := hB3; clear hB3; obtain ⟨sv, hsv⟩ : ∃ sv, w3.heap.size = sv := ⟨_, rfl⟩; have HSV := Lib.hid hsv; clear hb)
   | (clear HM2; refine wpList_store_wh rfl 56 _ _ rfl sv rfl 56 [.map none, .int .i64 0, .int .i64 0] [.map none, .int .i64 0, .int .i64 0] rfl (by rw [← HSV.out]; exact Wh.new w3 56 [.map none, .int .i64 0, .int .i64 0]) rfl (by kernel_rfl) (by kernel_rfl) ?_; intro w5 hr5 ho5 hz5; have hb5 : Below w3.heap.size w3 w5 := only_new (by rw [HSV.out]; exact ho5.out); have hB3 := Lib.hid (HBC.out.trans (hb5.mono HBC.out.size)); clear HBC hr5 ho5 hz5 hb5; have HBC := hB3; clear hB3))
  go_ret2
  exact ⟨⟨_, rfl, SlB.nil⟩, by have h9 := HBW.out _ HBC.out; first | exact h9 | (rw [← HS0.out]; exact h9)⟩
theorem wp_mapg_look {w : World} {o : Oper} {a : Act} {K : Act → World → Prop} {Q : Exit → Act → World → Prop} (t e : TypeId) (ht : Tryz.prog.underlying t = some (.map 3 e)) {zv : Value} (hz : ∀ w : World, (zeroValue e).run Tryz.prog w = .ok zv w) (m x : Operand) (hop : o.op = Op.lookup t m x false)
  (b n : Nat) (f : Int → Option Value) (hm : a.eval m = .map (some b)) (hs : MapV w b n f) (c : Int) (hx : a.eval x = .int .i64 c) (hw : (Lit.int .i64 c).wf = true)
  (hK : K (a.put o.dst ((f c).getD zv)) w) : Oper.wp Tryz.prog o a w K Q := by
 obtain ⟨D, h1, h3⟩ := hs
 obtain ⟨v, ps, hrun, hv⟩ := h1.lookup ti_keyed ht (hz w) (zd := .held zv) (zp := []) rfl (keyOf_int_mk Tryz.underlying3 hw)
 have he : v = (f c).getD zv := by
  rw [(h3 c).2] at hv
  simp only [heldE, Option.some.injEq, Prod.mk.injEq] at hv
  have h4 := hv.1
  cases hf : f c with
  | none => rw [hf] at h4; injection h4
  | some u => rw [hf] at h4; injection h4
 unfold Oper.wp
 simp [execOp, hop, hm, hx, hrun, Result.andThen]
 exact he ▸ hK
theorem toE_zero {S : Int} : toE 0 S = (if amtB S = true then 0 else 2) ∧ toN 0 S = (if amtB S = true then S else 0) := by
 unfold toN toE
 rw [if_pos rfl]
 refine ⟨rfl, ?_⟩
 by_cases h : amtB S = true
 ·simp [h]
 ·simp [h]
theorem toE_bad {E S : Int} (h : E ≠ 0) : toE E S = E ∧ toN E S = 0 := by
 unfold toN toE
 rw [if_neg h, if_neg h]
 exact ⟨rfl, rfl⟩
def yr1F (s0 mb : Nat) (VV : Value) (d : Lnk) (te : Int) (L : List Acc) : List (Nat × AK.Fact (Below0)) := [(5, AK.Fact.is (.pointer (some ⟨s0, 0, none⟩))), (6, AK.Fact.is (.map (some mb))), (7, AK.Fact.is (VV)), (8, AK.Fact.is (.pointer (some ⟨s0 + 1, 0, none⟩))), (9, AK.Fact.is (.int .i64 d.frm)), (10, AK.Fact.is (.pointer (some ⟨s0 + 1, 1, none⟩))), (11, AK.Fact.is (.int .i64 d.tgt)), (12, AK.Fact.is (.int .i64 te)), (13, AK.Fact.is (.bool (resB L te))), (4, AK.Fact.is (.bool (resB L te)))]
set_option maxRecDepth 100000 in
set_option maxHeartbeats 6400000 in
theorem yres1_any (L : List Acc) (mb n : Nat) (b r : Int) (d : Lnk) (w : World) (hm : MapV w mb n (resM L)) (hw : (Lit.int .i64 d.frm).wf = true) (hr : (Lit.int .i64 r).wf = true) : Calls Tryz.prog 31 #[vwV mb b r, .agg #[.int .i64 d.frm, .int .i64 d.tgt, .int .i64 d.since]] w fun e w' => e = .returned (.bool (qRes L r b d)) ∧ Below w.heap.size w w' := by
 obtain ⟨s0, hs0⟩ : ∃ s0, w.heap.size = s0 := ⟨_, rfl⟩
 obtain ⟨w2, hw2⟩ : ∃ w2, (w.alloc (.cells #[.map (some mb), .int .i64 b, .int .i64 r] 56)).alloc (.cells #[.int .i64 d.frm, .int .i64 d.tgt, .int .i64 d.since] 60) = w2 := ⟨_, rfl⟩
 have HXB : Hid (Wh 56 w2 s0 (vwC mb b r)) := Lib.hid (by rw [← hw2, ← hs0]; exact (Wh.new w 56 (vwC mb b r)).up (below_alloc_new _))
 have HDB : Hid (Wh 60 w2 (s0 + 1) [.int .i64 d.frm, .int .i64 d.tgt, .int .i64 d.since]) := Lib.hid (by
  rw [← hw2, ← hs0]
  have h9 := Wh.new (w.alloc (.cells #[.map (some mb), .int .i64 b, .int .i64 r] 56)) 60 [.int .i64 d.frm, .int .i64 d.tgt, .int .i64 d.since]
  simp only [World.size_alloc] at h9
  exact h9)
 have HB2 : Hid (Below w.heap.size w w2) := Lib.hid (by rw [← hw2]; exact below_new (below_alloc_new _) _)
 have HS0 := Lib.hid hs0
 have HM := Lib.hid (hm.up HB2.out)
 obtain ⟨VV, hVV⟩ : ∃ VV, VV = vwV mb b r := ⟨_, rfl⟩
 have HLV : Hid (∀ W, Below w2.heap.size w2 W → (Instr.loadAt 56 (.pointer (some ⟨s0, 0, none⟩))).run Tryz.prog W = .ok VV W) := Lib.hid (fun W h => by rw [hVV]; exact (HXB.out.up h).rg.load 0 56 (vwC mb b r) rfl _ Tryz.underlying56 rfl (by kernel_rfl))
 have HPL := Lib.hid (fun W (hb : Below w2.heap.size w2 W) => yplace_any L mb n b r d.frm d.tgt W (HM.out.up hb) hw)
 rw [← hVV] at HPL
 have HTW := Lib.hid (plI_wf (L := L) (b := b) (d := d.tgt) hr hw)
 have hq : qRes L r b d = resB L (plI L r b d.frm d.tgt) := rfl
 rw [hq]
 generalize plI L r b d.frm d.tgt = te at *
 have HV := Lib.hid (resM_get (L := L) (c := te))
 clear hVV hm hw hr hq
 go_enter Tryz.func31, Tryz.ntmps31
 go_upto_region 1 with fail
 clear hw2
 refine AK.region_facts (Rp := Below0) (Kp := Below0) (yr1F s0 mb VV d te L) (fun _ _ W => Below w2.heap.size w2 W) [[], [5], [], [], [8], [], [10], [7, 9, 11], [6, 12], [13]] [] [[]] [0, 0, 0, 0, 0, 0, 0, 0, 0, 0] [0, 0, 0, 0, 0, 0, 0, 0, 0, 0] [] (fun u => by simp only [yr1F, AK.temps, List.map_cons, List.map_nil, fillL, List.setIfInBounds_toArray, List.set_cons_zero, List.set_cons_succ]; rfl) (by kernel_rfl) (by kernel_rfl) (fun _ _ h => h.size) (fun _ _ h => h) (fun _ _ _ _ hb h => h.trans (hb.mono h.size)) (dc_drew (Below.refl _ _)) ?_ ?_
 ·refine AK.sc (lim := 0) (lo := 0) rfl rfl rfl rfl ?_ ?_
  ·intro k_ u w_ hk_ hl_ hJ hF K hK
   clear hF
   go_simp
   exact hK.out _ _ (Below.refl _ _) (rfl) trivial
  refine AK.sc (lim := 0) (lo := 0) rfl rfl rfl rfl ?_ ?_
  ·intro k_ u w_ hk_ hl_ hJ hF K hK
   have h5 : u 5 = .pointer (some ⟨s0, 0, none⟩) := AK.facts_get hF 5 (by simp)
   clear hF
   simp only [h5] at hK ⊢
   clear h5
   have c_ := (HXB.out.up hJ).at 0 _ rfl
   go_simp
   exact hK.out _ _ (Below.refl _ _) (rfl) trivial
  refine AK.sc (lim := 0) (lo := 0) rfl rfl rfl rfl ?_ ?_
  ·intro k_ u w_ hk_ hl_ hJ hF K hK
   clear hF
   refine wp_load_is 56 _ rfl (.pointer (some ⟨s0, 0, none⟩)) rfl VV (HLV.out _ hJ) ?_
   exact hK.out _ _ (Below.refl _ _) rfl trivial
  refine AK.sc (lim := 0) (lo := 0) rfl rfl rfl rfl ?_ ?_
  ·intro k_ u w_ hk_ hl_ hJ hF K hK
   clear hF
   go_simp
   exact hK.out _ _ (Below.refl _ _) (rfl) trivial
  refine AK.sc (lim := 0) (lo := 0) rfl rfl rfl rfl ?_ ?_
  ·intro k_ u w_ hk_ hl_ hJ hF K hK
   have h8 : u 8 = .pointer (some ⟨s0 + 1, 0, none⟩) := AK.facts_get hF 8 (by simp)
   clear hF
   simp only [h8] at hK ⊢
   clear h8
   have c_ := (HDB.out.up hJ).at 0 _ rfl
   go_simp
   exact hK.out _ _ (Below.refl _ _) (rfl) trivial
  refine AK.sc (lim := 0) (lo := 0) rfl rfl rfl rfl ?_ ?_
  ·intro k_ u w_ hk_ hl_ hJ hF K hK
   clear hF
   go_simp
   exact hK.out _ _ (Below.refl _ _) (rfl) trivial
  refine AK.sc (lim := 0) (lo := 0) rfl rfl rfl rfl ?_ ?_
  ·intro k_ u w_ hk_ hl_ hJ hF K hK
   have h10 : u 10 = .pointer (some ⟨s0 + 1, 1, none⟩) := AK.facts_get hF 10 (by simp)
   clear hF
   simp only [h10] at hK ⊢
   clear h10
   have c_ := (HDB.out.up hJ).at 1 _ rfl
   go_simp
   exact hK.out _ _ (Below.refl _ _) (rfl) trivial
  refine AK.sc (lim := 0) (lo := 0) rfl rfl rfl rfl ?_ ?_
  ·intro k_ u w_ hk_ hl_ hJ hF K hK
   have h7 : u 7 = VV := AK.facts_get hF 7 (by simp)
   have h9 : u 9 = .int .i64 d.frm := AK.facts_get hF 9 (by simp)
   have h11 : u 11 = .int .i64 d.tgt := AK.facts_get hF 11 (by simp)
   clear hF
   simp only [h7, h9, h11] at hK ⊢
   clear h7 h9 h11
   go_simp
   refine (HPL.out _ hJ).mono ?_
   rintro r_ w6_ ⟨rfl, hb6_⟩
   exact hK.out _ _ hb6_ rfl trivial
  refine AK.sc (lim := 0) (lo := 0) rfl rfl rfl rfl ?_ ?_
  ·intro k_ u w_ hk_ hl_ hJ hF K hK
   have h6 : u 6 = .map (some mb) := AK.facts_get hF 6 (by simp)
   have h12 : u 12 = .int .i64 te := AK.facts_get hF 12 (by simp)
   clear hF
   simp only [h6, h12] at hK ⊢
   clear h6 h12
   refine wp_mapg_look 54 4 Tryz.underlying54 tb_zero _ _ rfl mb n (resM L) rfl (HM.out.up hJ) te rfl HTW.out ?_
   rw [HV.out]
   exact hK.out _ _ (Below.refl _ _) rfl trivial
  refine AK.sc (lim := 0) (lo := 0) rfl rfl rfl rfl ?_ ?_
  ·intro k_ u w_ hk_ hl_ hJ hF K hK
   have h13 : u 13 = .bool (resB L te) := AK.facts_get hF 13 (by simp)
   clear hF
   simp only [h13] at hK ⊢
   clear h13
   go_simp
   exact hK.out _ _ (Below.refl _ _) (rfl) trivial
  exact AK.StepsOk.nil
 ·intro u W9 hJ9 hF
  have h4 : u 4 = .bool (resB L te) := AK.facts_get hF 4 (by simp [yr1F, AK.temps])
  clear hF
  have HE := Lib.hid (HB2.out.trans (hJ9.mono HB2.out.size))
  clear hJ9
  simp only [h4]
  clear h4
  go_wp2_with fail
  go_ret
  exact ⟨rfl, by first | exact HE.out | (rw [← HS0.out]; exact HE.out)⟩
def yt1F (s0 _mb : Nat) (VV : Value) (d : Lnk) (te : Int) (_L : List Acc) : List (Nat × AK.Fact (Below0)) := [(5, AK.Fact.is (VV)), (6, AK.Fact.is (.pointer (some ⟨s0 + 1, 0, none⟩))), (7, AK.Fact.is (.int .i64 d.frm)), (8, AK.Fact.is (.pointer (some ⟨s0 + 1, 1, none⟩))), (9, AK.Fact.is (.int .i64 d.tgt)), (10, AK.Fact.is (.int .i64 te)), (11, AK.Fact.is (.pointer (some ⟨s0 + 1, 0, none⟩))), (12, AK.Fact.is (.int .i64 d.frm)), (13, AK.Fact.is (.bool (!decide (te = d.frm)))), (4, AK.Fact.is (.bool (!decide (te = d.frm))))]
set_option maxRecDepth 100000 in
set_option maxHeartbeats 6400000 in
theorem yret1_any (L : List Acc) (mb n : Nat) (b r : Int) (d : Lnk) (w : World) (hm : MapV w mb n (resM L)) (hw : (Lit.int .i64 d.frm).wf = true) (hr : (Lit.int .i64 r).wf = true) : Calls Tryz.prog 30 #[vwV mb b r, .agg #[.int .i64 d.frm, .int .i64 d.tgt, .int .i64 d.since]] w fun e w' => e = .returned (.bool (qRet L r b d)) ∧ Below w.heap.size w w' := by
 obtain ⟨s0, hs0⟩ : ∃ s0, w.heap.size = s0 := ⟨_, rfl⟩
 obtain ⟨w2, hw2⟩ : ∃ w2, (w.alloc (.cells #[.map (some mb), .int .i64 b, .int .i64 r] 56)).alloc (.cells #[.int .i64 d.frm, .int .i64 d.tgt, .int .i64 d.since] 60) = w2 := ⟨_, rfl⟩
 have HXB : Hid (Wh 56 w2 s0 (vwC mb b r)) := Lib.hid (by rw [← hw2, ← hs0]; exact (Wh.new w 56 (vwC mb b r)).up (below_alloc_new _))
 have HDB : Hid (Wh 60 w2 (s0 + 1) [.int .i64 d.frm, .int .i64 d.tgt, .int .i64 d.since]) := Lib.hid (by
  rw [← hw2, ← hs0]
  have h9 := Wh.new (w.alloc (.cells #[.map (some mb), .int .i64 b, .int .i64 r] 56)) 60 [.int .i64 d.frm, .int .i64 d.tgt, .int .i64 d.since]
  simp only [World.size_alloc] at h9
  exact h9)
 have HB2 : Hid (Below w.heap.size w w2) := Lib.hid (by rw [← hw2]; exact below_new (below_alloc_new _) _)
 have HS0 := Lib.hid hs0
 have HM := Lib.hid (hm.up HB2.out)
 obtain ⟨VV, hVV⟩ : ∃ VV, VV = vwV mb b r := ⟨_, rfl⟩
 have HLV : Hid (∀ W, Below w2.heap.size w2 W → (Instr.loadAt 56 (.pointer (some ⟨s0, 0, none⟩))).run Tryz.prog W = .ok VV W) := Lib.hid (fun W h => by rw [hVV]; exact (HXB.out.up h).rg.load 0 56 (vwC mb b r) rfl _ Tryz.underlying56 rfl (by kernel_rfl))
 have HPL := Lib.hid (fun W (hb : Below w2.heap.size w2 W) => yplace_any L mb n b r d.frm d.tgt W (HM.out.up hb) hw)
 rw [← hVV] at HPL
 have HTW := Lib.hid (plI_wf (L := L) (b := b) (d := d.tgt) hr hw)
 have hq : qRet L r b d = !decide (plI L r b d.frm d.tgt = d.frm) := rfl
 rw [hq]
 generalize plI L r b d.frm d.tgt = te at *
 have HV := Lib.hid (resM_get (L := L) (c := te))
 clear hVV hm hw hr hq
 go_enter Tryz.func30, Tryz.ntmps30
 go_upto_region 1 with fail
 clear hw2
 refine AK.region_facts (Rp := Below0) (Kp := Below0) (yt1F s0 mb VV d te L) (fun _ _ W => Below w2.heap.size w2 W) [[], [], [6], [], [8], [5, 7, 9], [], [11], [10, 12], [13]] [] [[]] [0, 0, 0, 0, 0, 0, 0, 0, 0, 0] [0, 0, 0, 0, 0, 0, 0, 0, 0, 0] [] (fun u => by simp only [yt1F, AK.temps, List.map_cons, List.map_nil, fillL, List.setIfInBounds_toArray, List.set_cons_zero, List.set_cons_succ]; rfl) (by kernel_rfl) (by kernel_rfl) (fun _ _ h => h.size) (fun _ _ h => h) (fun _ _ _ _ hb h => h.trans (hb.mono h.size)) (dc_drew (Below.refl _ _)) ?_ ?_
 ·refine AK.sc (lim := 0) (lo := 0) rfl rfl rfl rfl ?_ ?_
  ·intro k_ u w_ hk_ hl_ hJ hF K hK
   clear hF
   refine wp_load_is 56 _ rfl (.pointer (some ⟨s0, 0, none⟩)) rfl VV (HLV.out _ hJ) ?_
   exact hK.out _ _ (Below.refl _ _) rfl trivial
  refine AK.sc (lim := 0) (lo := 0) rfl rfl rfl rfl ?_ ?_
  ·intro k_ u w_ hk_ hl_ hJ hF K hK
   clear hF
   go_simp
   exact hK.out _ _ (Below.refl _ _) (rfl) trivial
  refine AK.sc (lim := 0) (lo := 0) rfl rfl rfl rfl ?_ ?_
  ·intro k_ u w_ hk_ hl_ hJ hF K hK
   have h6 : u 6 = .pointer (some ⟨s0 + 1, 0, none⟩) := AK.facts_get hF 6 (by simp)
   clear hF
   simp only [h6] at hK ⊢
   clear h6
   have c_ := (HDB.out.up hJ).at 0 _ rfl
   go_simp
   exact hK.out _ _ (Below.refl _ _) (rfl) trivial
  refine AK.sc (lim := 0) (lo := 0) rfl rfl rfl rfl ?_ ?_
  ·intro k_ u w_ hk_ hl_ hJ hF K hK
   clear hF
   go_simp
   exact hK.out _ _ (Below.refl _ _) (rfl) trivial
  refine AK.sc (lim := 0) (lo := 0) rfl rfl rfl rfl ?_ ?_
  ·intro k_ u w_ hk_ hl_ hJ hF K hK
   have h8 : u 8 = .pointer (some ⟨s0 + 1, 1, none⟩) := AK.facts_get hF 8 (by simp)
   clear hF
   simp only [h8] at hK ⊢
   clear h8
   have c_ := (HDB.out.up hJ).at 1 _ rfl
   go_simp
   exact hK.out _ _ (Below.refl _ _) (rfl) trivial
  refine AK.sc (lim := 0) (lo := 0) rfl rfl rfl rfl ?_ ?_
  ·intro k_ u w_ hk_ hl_ hJ hF K hK
   have h5 : u 5 = VV := AK.facts_get hF 5 (by simp)
   have h7 : u 7 = .int .i64 d.frm := AK.facts_get hF 7 (by simp)
   have h9 : u 9 = .int .i64 d.tgt := AK.facts_get hF 9 (by simp)
   clear hF
   simp only [h5, h7, h9] at hK ⊢
   clear h5 h7 h9
   go_simp
   refine (HPL.out _ hJ).mono ?_
   rintro r_ w6_ ⟨rfl, hb6_⟩
   exact hK.out _ _ hb6_ rfl trivial
  refine AK.sc (lim := 0) (lo := 0) rfl rfl rfl rfl ?_ ?_
  ·intro k_ u w_ hk_ hl_ hJ hF K hK
   clear hF
   go_simp
   exact hK.out _ _ (Below.refl _ _) (rfl) trivial
  refine AK.sc (lim := 0) (lo := 0) rfl rfl rfl rfl ?_ ?_
  ·intro k_ u w_ hk_ hl_ hJ hF K hK
   have h11 : u 11 = .pointer (some ⟨s0 + 1, 0, none⟩) := AK.facts_get hF 11 (by simp)
   clear hF
   simp only [h11] at hK ⊢
   clear h11
   have c_ := (HDB.out.up hJ).at 0 _ rfl
   go_simp
   exact hK.out _ _ (Below.refl _ _) (rfl) trivial
  refine AK.sc (lim := 0) (lo := 0) rfl rfl rfl rfl ?_ ?_
  ·intro k_ u w_ hk_ hl_ hJ hF K hK
   have h10 : u 10 = .int .i64 te := AK.facts_get hF 10 (by simp)
   have h12 : u 12 = .int .i64 d.frm := AK.facts_get hF 12 (by simp)
   clear hF
   simp only [h10, h12] at hK ⊢
   clear h10 h12
   have e9_ : (te != d.frm) = (!decide (te = d.frm)) := rfl
   go_simp
   exact hK.out _ _ (Below.refl _ _) (by first | rfl | (simp; done) | (simp [bne])) trivial
  refine AK.sc (lim := 0) (lo := 0) rfl rfl rfl rfl ?_ ?_
  ·intro k_ u w_ hk_ hl_ hJ hF K hK
   have h13 : u 13 = .bool (!decide (te = d.frm)) := AK.facts_get hF 13 (by simp)
   clear hF
   simp only [h13] at hK ⊢
   clear h13
   go_simp
   exact hK.out _ _ (Below.refl _ _) (rfl) trivial
  exact AK.StepsOk.nil
 ·intro u W9 hJ9 hF
  have h4 : u 4 = .bool (!decide (te = d.frm)) := AK.facts_get hF 4 (by simp [yt1F, AK.temps])
  clear hF
  have HE := Lib.hid (HB2.out.trans (hJ9.mono HB2.out.size))
  clear hJ9
  simp only [h4]
  clear h4
  go_wp2_with fail
  go_ret
  exact ⟨rfl, by first | exact HE.out | (rw [← HS0.out]; exact HE.out)⟩
set_option maxRecDepth 100000 in
set_option maxHeartbeats 6400000 in
theorem ytotr_any (g : Grp) (L : List Acc) (G : List Ent) (A : Option Addr) (c : Nat) (X : List Lnk) (p : Int) (w : World) (hk : GrK w g L G) (hs : Sm g G) (hw : GrW g L G) (hz : LnkAt w A X) (hl : X.length ≤ 1000) (hx : ∀ d ∈ X, (Lit.int .i64 d.frm).wf = true) : Calls Tryz.prog 29 #[grpV g, .slice A X.length c, .int .i64 p, .func (.func 31) #[] #[]] w fun e w' => e = .returned (.tuple #[.int .i64 (toN (cvE g L G X p) (totS (qRes L g.r6 (cyB g p)) X)), .int .i64 (toE (cvE g L G X p) (totS (qRes L g.r6 (cyB g p)) X))]) ∧ Below w.heap.size w w' := by
 obtain ⟨GV, hGV⟩ : ∃ GV, GV = grpV g := ⟨_, rfl⟩
 obtain ⟨gs, hgs⟩ : ∃ gs, (grpC g).toArray = gs := ⟨_, rfl⟩
 obtain ⟨s0, hs0⟩ : ∃ s0, w.heap.size = s0 := ⟨_, rfl⟩
 obtain ⟨w2, hw2⟩ : ∃ w2, w.alloc (.cells gs 29) = w2 := ⟨_, rfl⟩
 have HGB : Hid (Wh 29 w2 s0 (grpC g)) := Lib.hid (by rw [← hw2, ← hgs, ← hs0]; exact (Wh.new w 29 (grpC g)))
 have HB2 : Hid (Below w.heap.size w w2) := Lib.hid (by rw [← hw2]; exact below_alloc_new _)
 have HS0 := Lib.hid hs0
 have HLG : Hid (∀ W, Below w2.heap.size w2 W → (Instr.loadAt 29 (.pointer (some ⟨s0, 0, none⟩))).run Tryz.prog W = .ok GV W) := Lib.hid (fun W h => by rw [hGV, grpV_is]; exact (HGB.out.up h).rg.load 0 29 (grpC g) rfl _ Tryz.underlying29 rfl (by kernel_rfl))
 have HBC : Hid (Below w2.heap.size w2 w2) := Lib.hid (Below.refl _ _)
 have HBW : Hid (∀ W, Below w2.heap.size w2 W → Below w.heap.size w W) := Lib.hid (fun W h => HB2.out.trans (h.mono HB2.out.size))
 have HS2 : Hid (s0 + 1 ≤ w2.heap.size) := Lib.hid (by rw [← hw2, ← hs0]; simp)
 have HVO := Lib.hid (fun W (hb : Below w2.heap.size w2 W) => yviewall_any g L G A c X p W ((hk.up HB2.out).up hb) hs hw ((hz.up HB2.out).up hb) hl hx)
 have HZ : Hid (LnkAt w2 A X) := Lib.hid (hz.up HB2.out)
 have HR6 := Lib.hid (r6_wf hw)
 have HWF := Lib.hid hx
 have hGS : GV = .agg gs := by rw [hGV, grpV_is, hgs]
 rw [← hGV] at HVO ⊢
 rw [hGS]
 clear hGS hGV
 have hams := fun h => (cvE_ok (g := g) (L := L) (G := G) (X := X) (p := p) h).2.2
 obtain ⟨E, hE⟩ : ∃ E, cvE g L G X p = E := ⟨_, rfl⟩
 rw [hE] at HVO hams ⊢
 obtain ⟨n, hn⟩ : ∃ n, X.length = n := ⟨_, rfl⟩
 have HN := Lib.hid hn
 rw [hn] at HVO hl ⊢
 have HL := Lib.hid hl
 have HAMS := Lib.hid hams
 clear hk hs hw hz hx hE hn hl hams
 have HM1 : True := trivial
 have HM2 : True := trivial
 by_cases hE0 : E = 0
 ·subst hE0
  have HAM := Lib.hid (fun k (hk : k < n) => amtB_is.1 (all_getD (d := lnk0).1 (HAMS.out rfl) k (by rw [HN.out]; exact hk)))
  have z1 : ((0 : Int) != 0) = false := rfl
  have HVP : Hid (∀ W, Below w2.heap.size w2 W → Calls Tryz.prog 17 #[GV, .slice A n c, .int .i64 p] W fun e w' => (∃ mb n, e = .returned (.tuple #[vwV mb (cyB g p) g.r6, .int .i64 0]) ∧ MapV w' mb n (resM L)) ∧ Below W.heap.size W w') := Lib.hid (fun W hb => (HVO.out W hb).mono fun e w' ⟨h1, h2⟩ => ⟨by unfold VwQ at h1; rw [if_pos rfl] at h1; exact h1, h2⟩)
  obtain ⟨b, hb⟩ : ∃ b, cyB g p = b := ⟨_, rfl⟩
  rw [hb] at HVP ⊢
  obtain ⟨r6, hr6⟩ : ∃ r6, g.r6 = r6 := ⟨_, rfl⟩
  rw [hr6] at HVP HR6 ⊢
  obtain ⟨q, hq⟩ : ∃ q, qRes L r6 b = q := ⟨_, rfl⟩
  rw [hq]
  have HTZ := Lib.hid (toE_zero (S := totS q X))
  obtain ⟨S, hS⟩ : ∃ S, totS q X = S := ⟨_, rfl⟩
  rw [hS] at HTZ ⊢
  have HSS := Lib.hid hS
  have HQ := Lib.hid hq
  clear hb hr6 HVO HAMS hq hS
  go_enter Tryz.func29, Tryz.ntmps29
  go_wp2_with (first
   | (clear HM1; refine wpList_load_is rfl 29 _ rfl (.pointer (some ⟨s0, 0, none⟩)) rfl GV (HLG.out _ HBC.out) ?_)
   | (go_at_call 17; refine (HVP.out _ HBC.out).mono ?_; rintro r w3 ⟨⟨mb, n9, rfl, hm3⟩, hb⟩; have hB3 := Lib.hid (HBC.out.trans (hb.mono HBC.out.size)); clear HBC hb; have HBC := hB3; clear hB3; have HM3 := Lib.hid hm3; clear hm3; obtain ⟨sv, hsv⟩ : ∃ sv, w3.heap.size = sv := ⟨_, rfl⟩; have HSV := Lib.hid hsv)
   | (clear HM2; refine wpList_store_wh rfl 56 _ _ rfl sv rfl 56 [.map none, .int .i64 0, .int .i64 0] (vwC mb b r6) rfl (by rw [← HSV.out]; exact Wh.new w3 56 [.map none, .int .i64 0, .int .i64 0]) rfl (by kernel_rfl) (by kernel_rfl) ?_; intro w5 hr5 ho5 hz5; have HR5 := Lib.hid hr5.out; have hb5 : Below w3.heap.size w3 w5 := only_new (by rw [HSV.out]; exact ho5.out); have HM5 := Lib.hid (HM3.out.up hb5); have hB3 := Lib.hid (HBC.out.trans (hb5.mono HBC.out.size)); clear HBC HM3 hr5 ho5 hz5 hb5; have HBC := hB3; clear hB3; obtain ⟨VV, hVV⟩ : ∃ VV, VV = vwV mb b r6 := ⟨_, rfl⟩; have HLV : Hid (∀ W, Below w5.heap.size w5 W → (Instr.loadAt 56 (.pointer (some ⟨sv, 0, none⟩))).run Tryz.prog W = .ok VV W) := Lib.hid (fun W h => by rw [hVV]; exact (HR5.out.up h).rg.load 0 56 (vwC mb b r6) rfl _ Tryz.underlying56 rfl (by kernel_rfl))))
  have HPL := Lib.hid (fun (d : Lnk) W (hb : Below w5.heap.size w5 W) (hx : (Lit.int .i64 d.frm).wf = true) => yres1_any L mb n9 b r6 d W (HM5.out.up hb) hx HR6.out)
  rw [← hVV, HQ.out] at HPL
  obtain ⟨s3, hs3⟩ : ∃ s3, w5.heap.size = s3 := ⟨_, rfl⟩
  have HS3 := Lib.hid hs3
  have HSB : Hid (Wh 63 (w5.alloc (.cells #[.int .i64 0, .int .i64 0] 63)) s3 [.int .i64 0, .int .i64 0]) := Lib.hid (by rw [← hs3]; exact Wh.new w5 63 [.int .i64 0, .int .i64 0])
  have HB3 : Hid (Below s3 w5 (w5.alloc (.cells #[.int .i64 0, .int .i64 0] 63))) := Lib.hid (by rw [← hs3]; exact below_alloc_new _)
  have HBB := Lib.hid (fun W (h : Below s3 w5 W) => HBC.out.trans (h.mono (by rw [← hs3]; exact HBC.out.size)))
  rw [hs3] at HPL HLV ⊢
  have HZ0 : Hid (SumZ 0 0 (totS q (X.take 0))) := Lib.hid ⟨rfl, by omega, by omega⟩
  have HTK := Lib.hid (fun k hk => totS_take (q := q) (X := X) (k := k) hk)
  have HTE : Hid (totS q (X.take n) = S) := Lib.hid (by rw [List.take_of_length_le (by rw [HN.out]; omega)]; exact HSS.out)
  clear hVV hs3 HVP HSV HR5 HSS HQ
  generalize totS q = T at *
  have HG0 : Hid (-(2 * (0 : Nat) : Int) ≤ (0 : Int) ∧ (0 : Int) ≤ 2 * (0 : Nat)) := Lib.hid (by omega)
  go_loopg [27] n (fun kx s27 wr => ∃ (k : Nat) (gg rr : Int), s27 = .int .i64 k ∧ k ≤ n ∧ n - k ≤ kx ∧ Hid (Wh 63 wr s3 [.int .i64 gg, .int .i64 rr]) ∧ Hid (SumZ gg rr (T (X.take k))) ∧ Hid (-(2 * k : Int) ≤ gg ∧ gg ≤ 2 * k) ∧ Hid (Below s3 w5 wr))
  case atStart => exact ⟨0, 0, 0, rfl, by omega, by omega, HSB, HZ0, HG0, HB3⟩
  case round =>
   clear HSB HZ0 HG0 HB3 HBC
   obtain ⟨k, gg, rr, rfl, hk, hkx, HSB, HZK, HGK, HB3⟩ := hrel
   have HBC := Lib.hid (HBB.out _ HB3.out)
   have HSZ : Hid (s3 ≤ wr.heap.size) := Lib.hid (by have := HB3.out.size; have := HS3.out; omega)
   have hn6 : n ≤ 1000 := HL.out
   by_cases hlt : k < n
   ·have hltz : (k : Int) < (n : Int) := by omega
    obtain ⟨bb, off, hA, hbw, hcs⟩ := HZ.out (by rw [HN.out]; omega)
    have HA3 := Lib.hid (hcs k (by rw [HN.out]; exact hlt))
    have HWX := Lib.hid (HWF.out _ (getD_mem_acc (d := lnk0) (i := k) (by rw [HN.out]; exact hlt)))
    have htk := HTK.out k (by rw [HN.out]; exact hlt)
    have HAX := Lib.hid (HAM.out k hlt)
    generalize X.getD k lnk0 = x at *
    obtain ⟨r0, r1, r2⟩ := HA3.out.up HBC.out hbw
    obtain ⟨sr, hsr⟩ : ∃ sr, wr.heap.size = sr := ⟨_, rfl⟩
    obtain ⟨w4, hw4⟩ : ∃ w4, wr.alloc (.cells #[.int .i64 x.frm, .int .i64 x.tgt, .int .i64 x.since] 60) = w4 := ⟨_, rfl⟩
    have HB5 : Hid (Below wr.heap.size wr w4) := Lib.hid (by rw [← hw4]; exact below_alloc_new _)
    have HC5 : Hid (Wh 60 w4 sr [.int .i64 x.frm, .int .i64 x.tgt, .int .i64 x.since]) := Lib.hid (by rw [← hw4, ← hsr]; exact Wh.new wr _ _)
    have HSB4 := Lib.hid (HSB.out.up HB5.out)
    have HB1 := Lib.hid (HB3.out.trans (HB5.out.mono HSZ.out))
    have HSW : Hid (s3 ≤ w4.heap.size) := Lib.hid (Nat.le_trans HSZ.out HB5.out.size)
    have HNE : Hid (¬ s3 = sr) := Lib.hid (by have := HSB.out.lt; omega)
    obtain ⟨DV, hDV⟩ : ∃ DV : Value, DV = .agg #[.int .i64 x.frm, .int .i64 x.tgt, .int .i64 x.since] := ⟨_, rfl⟩
    have HLD : Hid (∀ W, Below w4.heap.size w4 W → (Instr.loadAt 60 (.pointer (some ⟨sr, 0, none⟩))).run Tryz.prog W = .ok DV W) := Lib.hid (fun W h => by rw [hDV]; exact (HC5.out.up h).rg.load 0 60 [.int .i64 x.frm, .int .i64 x.tgt, .int .i64 x.since] rfl _ Tryz.underlying60 rfl (by kernel_rfl))
    have HPX := Lib.hid (fun W hb => HPL.out x W hb HWX.out)
    rw [← hDV] at HPX
    have HB4 : Hid (Below w4.heap.size w4 w4) := Lib.hid (Below.refl _ _)
    subst hA
    clear hcs hDV hbw
    go_upto_region 8 with fail
    clear hw4 hsr r0 r1 r2
    have HM3 : True := trivial
    have HM4 : True := trivial
    obtain ⟨qx, hqx⟩ : ∃ qx, q x = qx := ⟨_, rfl⟩
    rw [hqx] at HPX htk
    clear hqx
    cases qx
    ·have HT2 : Hid (T (X.take (k + 1)) = T (X.take k)) := Lib.hid (by rw [htk]; simp)
     clear htk
     go_wp2_with (first
      | (clear HM3; refine wpList_load_is rfl 56 _ rfl (.pointer (some ⟨sv, 0, none⟩)) rfl VV (HLV.out _ HB1.out) ?_)
      | (clear HM4; refine wpList_load_is rfl 60 _ rfl (.pointer (some ⟨sr, 0, none⟩)) rfl DV (HLD.out _ HB4.out) ?_)
      | (go_at_call 31; refine (HPX.out _ HB1.out).mono ?_; rintro r w6 ⟨rfl, hb⟩; have HSB6 := Lib.hid (HSB4.out.up hb); have HC6 := Lib.hid (HC5.out.up hb); have HBT := Lib.hid (HB1.out.trans (hb.mono HSW.out)); have HSX := Lib.hid (Nat.le_trans HSW.out hb.size); clear hb))
     go_roundg (n - (k + 1))
     case measure => omega
     case rel => exact ⟨k + 1, gg, rr, by go_num, by omega, by omega, HSB6, Lib.hid (by rw [HT2.out]; exact HZK.out), Lib.hid (by have := HGK.out; omega), HBT⟩
    ·have HT2 : Hid (T (X.take (k + 1)) = T (X.take k) + x.since) := Lib.hid (by rw [htk]; simp)
     have HCP := Lib.hid (fun w => yplus_any gg rr x.since w (by have := HGK.out; omega) ⟨HZK.out.lo, HZK.out.hi⟩ HAX.out)
     have HBD := Lib.hid (plus_bd (g := gg) (r := rr) (a := x.since) ⟨HZK.out.lo, HZK.out.hi⟩ HAX.out)
     have HZ2 := Lib.hid (plus_z (a := x.since) HZK.out)
     generalize plusG gg rr x.since = g2 at *
     generalize plusR rr x.since = r2 at *
     clear htk
     have HM5 : True := trivial
     go_wp2_with (first
      | (clear HM3; refine wpList_load_is rfl 56 _ rfl (.pointer (some ⟨sv, 0, none⟩)) rfl VV (HLV.out _ HB1.out) ?_)
      | (clear HM4; refine wpList_load_is rfl 60 _ rfl (.pointer (some ⟨sr, 0, none⟩)) rfl DV (HLD.out _ HB4.out) ?_)
      | (go_at_call 31; refine (HPX.out _ HB1.out).mono ?_; rintro r w6 ⟨rfl, hb⟩; have HSB6 := Lib.hid (HSB4.out.up hb); have HC6 := Lib.hid (HC5.out.up hb); have HBT := Lib.hid (HB1.out.trans (hb.mono HSW.out)); have HSX := Lib.hid (Nat.le_trans HSW.out hb.size); clear hb; have y2 := HC6.out.at 2 _ rfl)
      | (clear HM5; refine wpList_load_is rfl 63 _ rfl (.pointer (some ⟨s3, 0, none⟩)) rfl (sumV gg rr) (HSB6.out.rg.load 0 63 [.int .i64 gg, .int .i64 rr] rfl _ Tryz.underlying63 rfl (by kernel_rfl)) ?_)
      | (go_at_call 19; (with_reducible refine (HCP.out _).mono ?_); rintro r w7 ⟨rfl, hb⟩; have HSB7 := Lib.hid (HSB6.out.up hb); have HBU := Lib.hid (HBT.out.trans (hb.mono HSX.out)); have HSY := Lib.hid (Nat.le_trans HSX.out hb.size); clear hb)
      | (refine wpList_store_wh rfl 63 _ _ rfl s3 rfl 63 [.int .i64 gg, .int .i64 rr] [.int .i64 g2, .int .i64 r2] rfl HSB7.out rfl (by kernel_rfl) (by kernel_rfl) ?_; intro w8 hr8 ho8 hz8; have HR8 := Lib.hid hr8.out; have HE8 : Hid (Below s3 w5 w8) := Lib.hid (HBU.out.trans (ho8.out.below (fun k hk => by rw [hk]; omega) HSY.out)); clear hr8 ho8 hz8))
     go_roundg (n - (k + 1))
     case measure => omega
     case rel => exact ⟨k + 1, g2, r2, by go_num, by omega, by omega, HR8, Lib.hid (by rw [HT2.out]; exact HZ2.out), Lib.hid (by have := HGK.out; have := HBD.out; omega), HE8⟩
   ·obtain rfl : k = n := by omega
    have hltz : ¬ (k : Int) < (k : Int) := by omega
    have hZ := HZK.out
    rw [HTE.out] at hZ
    have HAN := Lib.hid (fun w => yamount_any gg rr S w hZ)
    have HT0 := Lib.hid HTZ.out.1
    have HT1 := Lib.hid HTZ.out.2
    obtain ⟨v1, hv1⟩ : ∃ v1, (if amtB S = true then S else 0) = v1 := ⟨_, rfl⟩
    obtain ⟨v2, hv2⟩ : ∃ v2 : Int, (if amtB S = true then 0 else 2) = v2 := ⟨_, rfl⟩
    rw [hv1, hv2] at HAN
    rw [hv1] at HT1
    rw [hv2] at HT0
    clear hZ hv1 hv2 HTZ
    go_wp2_with (first
     | (refine wpList_load_is rfl 63 _ rfl (.pointer (some ⟨s3, 0, none⟩)) rfl (sumV gg rr) (HSB.out.rg.load 0 63 [.int .i64 gg, .int .i64 rr] rfl _ Tryz.underlying63 rfl (by kernel_rfl)) ?_)
     | (go_at_call 40; refine (HAN.out _).mono ?_; rintro r w3 ⟨rfl, hb⟩; have hB3 := Lib.hid (HBC.out.trans (hb.mono HBC.out.size)); clear HBC; have HBC := hB3; clear hB3; clear hb))
    go_ret2
    exact ⟨by rw [HT0.out, HT1.out]; rfl, by have h9 := HBW.out _ HBC.out; first | exact h9 | (rw [← HS0.out]; exact h9)⟩
 ·have z1 : (E != 0) = true := by simp [hE0]
  have HVP : Hid (∀ W, Below w2.heap.size w2 W → Calls Tryz.prog 17 #[GV, .slice A n c, .int .i64 p] W fun e w' => e = .returned (.tuple #[vw0, .int .i64 E]) ∧ Below W.heap.size W w') := Lib.hid (fun W hb => (HVO.out W hb).mono fun e w' ⟨h1, h2⟩ => ⟨by unfold VwQ at h1; rw [if_neg hE0] at h1; exact h1, h2⟩)
  have HTB := Lib.hid (fun S => toE_bad (S := S) hE0)
  clear HVO hE0 HAMS
  go_enter Tryz.func29, Tryz.ntmps29
  go_wp2_with (first
   | (clear HM1; refine wpList_load_is rfl 29 _ rfl (.pointer (some ⟨s0, 0, none⟩)) rfl GV (HLG.out _ HBC.out) ?_)
   | (go_at_call 17; refine (HVP.out _ HBC.out).mono ?_; rintro r w3 ⟨rfl, hb⟩; have hB3 := Lib.hid (HBC.out.trans (hb.mono HBC.out.size)); clear HBC; have HBC := hB3; clear hB3; obtain ⟨sv, hsv⟩ : ∃ sv, w3.heap.size = sv := ⟨_, rfl⟩; have HSV := Lib.hid hsv; clear hb)
   | (clear HM2; refine wpList_store_wh rfl 56 _ _ rfl sv rfl 56 [.map none, .int .i64 0, .int .i64 0] [.map none, .int .i64 0, .int .i64 0] rfl (by rw [← HSV.out]; exact Wh.new w3 56 [.map none, .int .i64 0, .int .i64 0]) rfl (by kernel_rfl) (by kernel_rfl) ?_; intro w5 hr5 ho5 hz5; have hb5 : Below w3.heap.size w3 w5 := only_new (by rw [HSV.out]; exact ho5.out); have hB3 := Lib.hid (HBC.out.trans (hb5.mono HBC.out.size)); clear HBC hr5 ho5 hz5 hb5; have HBC := hB3; clear hB3))
  go_ret2
  exact ⟨by rw [(HTB.out _).1, (HTB.out _).2]; rfl, by have h9 := HBW.out _ HBC.out; first | exact h9 | (rw [← HS0.out]; exact h9)⟩
set_option maxRecDepth 100000 in
set_option maxHeartbeats 6400000 in
theorem ytott_any (g : Grp) (L : List Acc) (G : List Ent) (A : Option Addr) (c : Nat) (X : List Lnk) (p : Int) (w : World) (hk : GrK w g L G) (hs : Sm g G) (hw : GrW g L G) (hz : LnkAt w A X) (hl : X.length ≤ 1000) (hx : ∀ d ∈ X, (Lit.int .i64 d.frm).wf = true) : Calls Tryz.prog 29 #[grpV g, .slice A X.length c, .int .i64 p, .func (.func 30) #[] #[]] w fun e w' => e = .returned (.tuple #[.int .i64 (toN (cvE g L G X p) (totS (qRet L g.r6 (cyB g p)) X)), .int .i64 (toE (cvE g L G X p) (totS (qRet L g.r6 (cyB g p)) X))]) ∧ Below w.heap.size w w' := by
 obtain ⟨GV, hGV⟩ : ∃ GV, GV = grpV g := ⟨_, rfl⟩
 obtain ⟨gs, hgs⟩ : ∃ gs, (grpC g).toArray = gs := ⟨_, rfl⟩
 obtain ⟨s0, hs0⟩ : ∃ s0, w.heap.size = s0 := ⟨_, rfl⟩
 obtain ⟨w2, hw2⟩ : ∃ w2, w.alloc (.cells gs 29) = w2 := ⟨_, rfl⟩
 have HGB : Hid (Wh 29 w2 s0 (grpC g)) := Lib.hid (by rw [← hw2, ← hgs, ← hs0]; exact (Wh.new w 29 (grpC g)))
 have HB2 : Hid (Below w.heap.size w w2) := Lib.hid (by rw [← hw2]; exact below_alloc_new _)
 have HS0 := Lib.hid hs0
 have HLG : Hid (∀ W, Below w2.heap.size w2 W → (Instr.loadAt 29 (.pointer (some ⟨s0, 0, none⟩))).run Tryz.prog W = .ok GV W) := Lib.hid (fun W h => by rw [hGV, grpV_is]; exact (HGB.out.up h).rg.load 0 29 (grpC g) rfl _ Tryz.underlying29 rfl (by kernel_rfl))
 have HBC : Hid (Below w2.heap.size w2 w2) := Lib.hid (Below.refl _ _)
 have HBW : Hid (∀ W, Below w2.heap.size w2 W → Below w.heap.size w W) := Lib.hid (fun W h => HB2.out.trans (h.mono HB2.out.size))
 have HS2 : Hid (s0 + 1 ≤ w2.heap.size) := Lib.hid (by rw [← hw2, ← hs0]; simp)
 have HVO := Lib.hid (fun W (hb : Below w2.heap.size w2 W) => yviewall_any g L G A c X p W ((hk.up HB2.out).up hb) hs hw ((hz.up HB2.out).up hb) hl hx)
 have HZ : Hid (LnkAt w2 A X) := Lib.hid (hz.up HB2.out)
 have HR6 := Lib.hid (r6_wf hw)
 have HWF := Lib.hid hx
 have hGS : GV = .agg gs := by rw [hGV, grpV_is, hgs]
 rw [← hGV] at HVO ⊢
 rw [hGS]
 clear hGS hGV
 have hams := fun h => (cvE_ok (g := g) (L := L) (G := G) (X := X) (p := p) h).2.2
 obtain ⟨E, hE⟩ : ∃ E, cvE g L G X p = E := ⟨_, rfl⟩
 rw [hE] at HVO hams ⊢
 obtain ⟨n, hn⟩ : ∃ n, X.length = n := ⟨_, rfl⟩
 have HN := Lib.hid hn
 rw [hn] at HVO hl ⊢
 have HL := Lib.hid hl
 have HAMS := Lib.hid hams
 clear hk hs hw hz hx hE hn hl hams
 have HM1 : True := trivial
 have HM2 : True := trivial
 by_cases hE0 : E = 0
 ·subst hE0
  have HAM := Lib.hid (fun k (hk : k < n) => amtB_is.1 (all_getD (d := lnk0).1 (HAMS.out rfl) k (by rw [HN.out]; exact hk)))
  have z1 : ((0 : Int) != 0) = false := rfl
  have HVP : Hid (∀ W, Below w2.heap.size w2 W → Calls Tryz.prog 17 #[GV, .slice A n c, .int .i64 p] W fun e w' => (∃ mb n, e = .returned (.tuple #[vwV mb (cyB g p) g.r6, .int .i64 0]) ∧ MapV w' mb n (resM L)) ∧ Below W.heap.size W w') := Lib.hid (fun W hb => (HVO.out W hb).mono fun e w' ⟨h1, h2⟩ => ⟨by unfold VwQ at h1; rw [if_pos rfl] at h1; exact h1, h2⟩)
  obtain ⟨b, hb⟩ : ∃ b, cyB g p = b := ⟨_, rfl⟩
  rw [hb] at HVP ⊢
  obtain ⟨r6, hr6⟩ : ∃ r6, g.r6 = r6 := ⟨_, rfl⟩
  rw [hr6] at HVP HR6 ⊢
  obtain ⟨q, hq⟩ : ∃ q, qRet L r6 b = q := ⟨_, rfl⟩
  rw [hq]
  have HTZ := Lib.hid (toE_zero (S := totS q X))
  obtain ⟨S, hS⟩ : ∃ S, totS q X = S := ⟨_, rfl⟩
  rw [hS] at HTZ ⊢
  have HSS := Lib.hid hS
  have HQ := Lib.hid hq
  clear hb hr6 HVO HAMS hq hS
  go_enter Tryz.func29, Tryz.ntmps29
  go_wp2_with (first
   | (clear HM1; refine wpList_load_is rfl 29 _ rfl (.pointer (some ⟨s0, 0, none⟩)) rfl GV (HLG.out _ HBC.out) ?_)
   | (go_at_call 17; refine (HVP.out _ HBC.out).mono ?_; rintro r w3 ⟨⟨mb, n9, rfl, hm3⟩, hb⟩; have hB3 := Lib.hid (HBC.out.trans (hb.mono HBC.out.size)); clear HBC hb; have HBC := hB3; clear hB3; have HM3 := Lib.hid hm3; clear hm3; obtain ⟨sv, hsv⟩ : ∃ sv, w3.heap.size = sv := ⟨_, rfl⟩; have HSV := Lib.hid hsv)
   | (clear HM2; refine wpList_store_wh rfl 56 _ _ rfl sv rfl 56 [.map none, .int .i64 0, .int .i64 0] (vwC mb b r6) rfl (by rw [← HSV.out]; exact Wh.new w3 56 [.map none, .int .i64 0, .int .i64 0]) rfl (by kernel_rfl) (by kernel_rfl) ?_; intro w5 hr5 ho5 hz5; have HR5 := Lib.hid hr5.out; have hb5 : Below w3.heap.size w3 w5 := only_new (by rw [HSV.out]; exact ho5.out); have HM5 := Lib.hid (HM3.out.up hb5); have hB3 := Lib.hid (HBC.out.trans (hb5.mono HBC.out.size)); clear HBC HM3 hr5 ho5 hz5 hb5; have HBC := hB3; clear hB3; obtain ⟨VV, hVV⟩ : ∃ VV, VV = vwV mb b r6 := ⟨_, rfl⟩; have HLV : Hid (∀ W, Below w5.heap.size w5 W → (Instr.loadAt 56 (.pointer (some ⟨sv, 0, none⟩))).run Tryz.prog W = .ok VV W) := Lib.hid (fun W h => by rw [hVV]; exact (HR5.out.up h).rg.load 0 56 (vwC mb b r6) rfl _ Tryz.underlying56 rfl (by kernel_rfl))))
  have HPL := Lib.hid (fun (d : Lnk) W (hb : Below w5.heap.size w5 W) (hx : (Lit.int .i64 d.frm).wf = true) => yret1_any L mb n9 b r6 d W (HM5.out.up hb) hx HR6.out)
  rw [← hVV, HQ.out] at HPL
  obtain ⟨s3, hs3⟩ : ∃ s3, w5.heap.size = s3 := ⟨_, rfl⟩
  have HS3 := Lib.hid hs3
  have HSB : Hid (Wh 63 (w5.alloc (.cells #[.int .i64 0, .int .i64 0] 63)) s3 [.int .i64 0, .int .i64 0]) := Lib.hid (by rw [← hs3]; exact Wh.new w5 63 [.int .i64 0, .int .i64 0])
  have HB3 : Hid (Below s3 w5 (w5.alloc (.cells #[.int .i64 0, .int .i64 0] 63))) := Lib.hid (by rw [← hs3]; exact below_alloc_new _)
  have HBB := Lib.hid (fun W (h : Below s3 w5 W) => HBC.out.trans (h.mono (by rw [← hs3]; exact HBC.out.size)))
  rw [hs3] at HPL HLV ⊢
  have HZ0 : Hid (SumZ 0 0 (totS q (X.take 0))) := Lib.hid ⟨rfl, by omega, by omega⟩
  have HTK := Lib.hid (fun k hk => totS_take (q := q) (X := X) (k := k) hk)
  have HTE : Hid (totS q (X.take n) = S) := Lib.hid (by rw [List.take_of_length_le (by rw [HN.out]; omega)]; exact HSS.out)
  clear hVV hs3 HVP HSV HR5 HSS HQ
  generalize totS q = T at *
  have HG0 : Hid (-(2 * (0 : Nat) : Int) ≤ (0 : Int) ∧ (0 : Int) ≤ 2 * (0 : Nat)) := Lib.hid (by omega)
  go_loopg [27] n (fun kx s27 wr => ∃ (k : Nat) (gg rr : Int), s27 = .int .i64 k ∧ k ≤ n ∧ n - k ≤ kx ∧ Hid (Wh 63 wr s3 [.int .i64 gg, .int .i64 rr]) ∧ Hid (SumZ gg rr (T (X.take k))) ∧ Hid (-(2 * k : Int) ≤ gg ∧ gg ≤ 2 * k) ∧ Hid (Below s3 w5 wr))
  case atStart => exact ⟨0, 0, 0, rfl, by omega, by omega, HSB, HZ0, HG0, HB3⟩
  case round =>
   clear HSB HZ0 HG0 HB3 HBC
   obtain ⟨k, gg, rr, rfl, hk, hkx, HSB, HZK, HGK, HB3⟩ := hrel
   have HBC := Lib.hid (HBB.out _ HB3.out)
   have HSZ : Hid (s3 ≤ wr.heap.size) := Lib.hid (by have := HB3.out.size; have := HS3.out; omega)
   have hn6 : n ≤ 1000 := HL.out
   by_cases hlt : k < n
   ·have hltz : (k : Int) < (n : Int) := by omega
    obtain ⟨bb, off, hA, hbw, hcs⟩ := HZ.out (by rw [HN.out]; omega)
    have HA3 := Lib.hid (hcs k (by rw [HN.out]; exact hlt))
    have HWX := Lib.hid (HWF.out _ (getD_mem_acc (d := lnk0) (i := k) (by rw [HN.out]; exact hlt)))
    have htk := HTK.out k (by rw [HN.out]; exact hlt)
    have HAX := Lib.hid (HAM.out k hlt)
    generalize X.getD k lnk0 = x at *
    obtain ⟨r0, r1, r2⟩ := HA3.out.up HBC.out hbw
    obtain ⟨sr, hsr⟩ : ∃ sr, wr.heap.size = sr := ⟨_, rfl⟩
    obtain ⟨w4, hw4⟩ : ∃ w4, wr.alloc (.cells #[.int .i64 x.frm, .int .i64 x.tgt, .int .i64 x.since] 60) = w4 := ⟨_, rfl⟩
    have HB5 : Hid (Below wr.heap.size wr w4) := Lib.hid (by rw [← hw4]; exact below_alloc_new _)
    have HC5 : Hid (Wh 60 w4 sr [.int .i64 x.frm, .int .i64 x.tgt, .int .i64 x.since]) := Lib.hid (by rw [← hw4, ← hsr]; exact Wh.new wr _ _)
    have HSB4 := Lib.hid (HSB.out.up HB5.out)
    have HB1 := Lib.hid (HB3.out.trans (HB5.out.mono HSZ.out))
    have HSW : Hid (s3 ≤ w4.heap.size) := Lib.hid (Nat.le_trans HSZ.out HB5.out.size)
    have HNE : Hid (¬ s3 = sr) := Lib.hid (by have := HSB.out.lt; omega)
    obtain ⟨DV, hDV⟩ : ∃ DV : Value, DV = .agg #[.int .i64 x.frm, .int .i64 x.tgt, .int .i64 x.since] := ⟨_, rfl⟩
    have HLD : Hid (∀ W, Below w4.heap.size w4 W → (Instr.loadAt 60 (.pointer (some ⟨sr, 0, none⟩))).run Tryz.prog W = .ok DV W) := Lib.hid (fun W h => by rw [hDV]; exact (HC5.out.up h).rg.load 0 60 [.int .i64 x.frm, .int .i64 x.tgt, .int .i64 x.since] rfl _ Tryz.underlying60 rfl (by kernel_rfl))
    have HPX := Lib.hid (fun W hb => HPL.out x W hb HWX.out)
    rw [← hDV] at HPX
    have HB4 : Hid (Below w4.heap.size w4 w4) := Lib.hid (Below.refl _ _)
    subst hA
    clear hcs hDV hbw
    go_upto_region 8 with fail
    clear hw4 hsr r0 r1 r2
    have HM3 : True := trivial
    have HM4 : True := trivial
    obtain ⟨qx, hqx⟩ : ∃ qx, q x = qx := ⟨_, rfl⟩
    rw [hqx] at HPX htk
    clear hqx
    cases qx
    ·have HT2 : Hid (T (X.take (k + 1)) = T (X.take k)) := Lib.hid (by rw [htk]; simp)
     clear htk
     go_wp2_with (first
      | (clear HM3; refine wpList_load_is rfl 56 _ rfl (.pointer (some ⟨sv, 0, none⟩)) rfl VV (HLV.out _ HB1.out) ?_)
      | (clear HM4; refine wpList_load_is rfl 60 _ rfl (.pointer (some ⟨sr, 0, none⟩)) rfl DV (HLD.out _ HB4.out) ?_)
      | (go_at_call 30; refine (HPX.out _ HB1.out).mono ?_; rintro r w6 ⟨rfl, hb⟩; have HSB6 := Lib.hid (HSB4.out.up hb); have HC6 := Lib.hid (HC5.out.up hb); have HBT := Lib.hid (HB1.out.trans (hb.mono HSW.out)); have HSX := Lib.hid (Nat.le_trans HSW.out hb.size); clear hb))
     go_roundg (n - (k + 1))
     case measure => omega
     case rel => exact ⟨k + 1, gg, rr, by go_num, by omega, by omega, HSB6, Lib.hid (by rw [HT2.out]; exact HZK.out), Lib.hid (by have := HGK.out; omega), HBT⟩
    ·have HT2 : Hid (T (X.take (k + 1)) = T (X.take k) + x.since) := Lib.hid (by rw [htk]; simp)
     have HCP := Lib.hid (fun w => yplus_any gg rr x.since w (by have := HGK.out; omega) ⟨HZK.out.lo, HZK.out.hi⟩ HAX.out)
     have HBD := Lib.hid (plus_bd (g := gg) (r := rr) (a := x.since) ⟨HZK.out.lo, HZK.out.hi⟩ HAX.out)
     have HZ2 := Lib.hid (plus_z (a := x.since) HZK.out)
     generalize plusG gg rr x.since = g2 at *
     generalize plusR rr x.since = r2 at *
     clear htk
     have HM5 : True := trivial
     go_wp2_with (first
      | (clear HM3; refine wpList_load_is rfl 56 _ rfl (.pointer (some ⟨sv, 0, none⟩)) rfl VV (HLV.out _ HB1.out) ?_)
      | (clear HM4; refine wpList_load_is rfl 60 _ rfl (.pointer (some ⟨sr, 0, none⟩)) rfl DV (HLD.out _ HB4.out) ?_)
      | (go_at_call 30; refine (HPX.out _ HB1.out).mono ?_; rintro r w6 ⟨rfl, hb⟩; have HSB6 := Lib.hid (HSB4.out.up hb); have HC6 := Lib.hid (HC5.out.up hb); have HBT := Lib.hid (HB1.out.trans (hb.mono HSW.out)); have HSX := Lib.hid (Nat.le_trans HSW.out hb.size); clear hb; have y2 := HC6.out.at 2 _ rfl)
      | (clear HM5; refine wpList_load_is rfl 63 _ rfl (.pointer (some ⟨s3, 0, none⟩)) rfl (sumV gg rr) (HSB6.out.rg.load 0 63 [.int .i64 gg, .int .i64 rr] rfl _ Tryz.underlying63 rfl (by kernel_rfl)) ?_)
      | (go_at_call 19; (with_reducible refine (HCP.out _).mono ?_); rintro r w7 ⟨rfl, hb⟩; have HSB7 := Lib.hid (HSB6.out.up hb); have HBU := Lib.hid (HBT.out.trans (hb.mono HSX.out)); have HSY := Lib.hid (Nat.le_trans HSX.out hb.size); clear hb)
      | (refine wpList_store_wh rfl 63 _ _ rfl s3 rfl 63 [.int .i64 gg, .int .i64 rr] [.int .i64 g2, .int .i64 r2] rfl HSB7.out rfl (by kernel_rfl) (by kernel_rfl) ?_; intro w8 hr8 ho8 hz8; have HR8 := Lib.hid hr8.out; have HE8 : Hid (Below s3 w5 w8) := Lib.hid (HBU.out.trans (ho8.out.below (fun k hk => by rw [hk]; omega) HSY.out)); clear hr8 ho8 hz8))
     go_roundg (n - (k + 1))
     case measure => omega
     case rel => exact ⟨k + 1, g2, r2, by go_num, by omega, by omega, HR8, Lib.hid (by rw [HT2.out]; exact HZ2.out), Lib.hid (by have := HGK.out; have := HBD.out; omega), HE8⟩
   ·obtain rfl : k = n := by omega
    have hltz : ¬ (k : Int) < (k : Int) := by omega
    have hZ := HZK.out
    rw [HTE.out] at hZ
    have HAN := Lib.hid (fun w => yamount_any gg rr S w hZ)
    have HT0 := Lib.hid HTZ.out.1
    have HT1 := Lib.hid HTZ.out.2
    obtain ⟨v1, hv1⟩ : ∃ v1, (if amtB S = true then S else 0) = v1 := ⟨_, rfl⟩
    obtain ⟨v2, hv2⟩ : ∃ v2 : Int, (if amtB S = true then 0 else 2) = v2 := ⟨_, rfl⟩
    rw [hv1, hv2] at HAN
    rw [hv1] at HT1
    rw [hv2] at HT0
    clear hZ hv1 hv2 HTZ
    go_wp2_with (first
     | (refine wpList_load_is rfl 63 _ rfl (.pointer (some ⟨s3, 0, none⟩)) rfl (sumV gg rr) (HSB.out.rg.load 0 63 [.int .i64 gg, .int .i64 rr] rfl _ Tryz.underlying63 rfl (by kernel_rfl)) ?_)
     | (go_at_call 40; refine (HAN.out _).mono ?_; rintro r w3 ⟨rfl, hb⟩; have hB3 := Lib.hid (HBC.out.trans (hb.mono HBC.out.size)); clear HBC; have HBC := hB3; clear hB3; clear hb))
    go_ret2
    exact ⟨by rw [HT0.out, HT1.out]; rfl, by have h9 := HBW.out _ HBC.out; first | exact h9 | (rw [← HS0.out]; exact h9)⟩
 ·have z1 : (E != 0) = true := by simp [hE0]
  have HVP : Hid (∀ W, Below w2.heap.size w2 W → Calls Tryz.prog 17 #[GV, .slice A n c, .int .i64 p] W fun e w' => e = .returned (.tuple #[vw0, .int .i64 E]) ∧ Below W.heap.size W w') := Lib.hid (fun W hb => (HVO.out W hb).mono fun e w' ⟨h1, h2⟩ => ⟨by unfold VwQ at h1; rw [if_neg hE0] at h1; exact h1, h2⟩)
  have HTB := Lib.hid (fun S => toE_bad (S := S) hE0)
  clear HVO hE0 HAMS
  go_enter Tryz.func29, Tryz.ntmps29
  go_wp2_with (first
   | (clear HM1; refine wpList_load_is rfl 29 _ rfl (.pointer (some ⟨s0, 0, none⟩)) rfl GV (HLG.out _ HBC.out) ?_)
   | (go_at_call 17; refine (HVP.out _ HBC.out).mono ?_; rintro r w3 ⟨rfl, hb⟩; have hB3 := Lib.hid (HBC.out.trans (hb.mono HBC.out.size)); clear HBC; have HBC := hB3; clear hB3; obtain ⟨sv, hsv⟩ : ∃ sv, w3.heap.size = sv := ⟨_, rfl⟩; have HSV := Lib.hid hsv; clear hb)
   | (clear HM2; refine wpList_store_wh rfl 56 _ _ rfl sv rfl 56 [.map none, .int .i64 0, .int .i64 0] [.map none, .int .i64 0, .int .i64 0] rfl (by rw [← HSV.out]; exact Wh.new w3 56 [.map none, .int .i64 0, .int .i64 0]) rfl (by kernel_rfl) (by kernel_rfl) ?_; intro w5 hr5 ho5 hz5; have hb5 : Below w3.heap.size w3 w5 := only_new (by rw [HSV.out]; exact ho5.out); have hB3 := Lib.hid (HBC.out.trans (hb5.mono HBC.out.size)); clear HBC hr5 ho5 hz5 hb5; have HBC := hB3; clear hB3))
  go_ret2
  exact ⟨by rw [(HTB.out _).1, (HTB.out _).2]; rfl, by have h9 := HBW.out _ HBC.out; first | exact h9 | (rw [← HS0.out]; exact h9)⟩
set_option maxRecDepth 100000 in
set_option maxHeartbeats 6400000 in
theorem yresult_any (g : Grp) (L : List Acc) (G : List Ent) (A : Option Addr) (c : Nat) (X : List Lnk) (p : Int) (w : World) (hk : GrK w g L G) (hs : Sm g G) (hw : GrW g L G) (hz : LnkAt w A X) (hl : X.length ≤ 1000) (hx : ∀ d ∈ X, (Lit.int .i64 d.frm).wf = true) : Calls Tryz.prog 14 #[grpV g, .slice A X.length c, .int .i64 p] w fun e w' => e = .returned (.tuple #[.int .i64 (toN (cvE g L G X p) (totS (qRes L g.r6 (cyB g p)) X)), .int .i64 (toE (cvE g L G X p) (totS (qRes L g.r6 (cyB g p)) X))]) ∧ Below w.heap.size w w' := by
 obtain ⟨GV, hGV⟩ : ∃ GV, GV = grpV g := ⟨_, rfl⟩
 obtain ⟨gs, hgs⟩ : ∃ gs, (grpC g).toArray = gs := ⟨_, rfl⟩
 obtain ⟨s0, hs0⟩ : ∃ s0, w.heap.size = s0 := ⟨_, rfl⟩
 obtain ⟨w2, hw2⟩ : ∃ w2, w.alloc (.cells gs 29) = w2 := ⟨_, rfl⟩
 have HGB : Hid (Wh 29 w2 s0 (grpC g)) := Lib.hid (by rw [← hw2, ← hgs, ← hs0]; exact (Wh.new w 29 (grpC g)))
 have HB2 : Hid (Below w.heap.size w w2) := Lib.hid (by rw [← hw2]; exact below_alloc_new _)
 have HS0 := Lib.hid hs0
 have HLG : Hid (∀ W, Below w2.heap.size w2 W → (Instr.loadAt 29 (.pointer (some ⟨s0, 0, none⟩))).run Tryz.prog W = .ok GV W) := Lib.hid (fun W h => by rw [hGV, grpV_is]; exact (HGB.out.up h).rg.load 0 29 (grpC g) rfl _ Tryz.underlying29 rfl (by kernel_rfl))
 have HBC : Hid (Below w2.heap.size w2 w2) := Lib.hid (Below.refl _ _)
 have HBW : Hid (∀ W, Below w2.heap.size w2 W → Below w.heap.size w W) := Lib.hid (fun W h => HB2.out.trans (h.mono HB2.out.size))
 have HS2 : Hid (s0 + 1 ≤ w2.heap.size) := Lib.hid (by rw [← hw2, ← hs0]; simp)
 have HTO := Lib.hid (fun W (hb : Below w2.heap.size w2 W) => ytotr_any g L G A c X p W ((hk.up HB2.out).up hb) hs hw ((hz.up HB2.out).up hb) hl hx)
 have hGS : GV = .agg gs := by rw [hGV, grpV_is, hgs]
 rw [← hGV] at HTO ⊢
 rw [hGS]
 clear hGS hGV
 generalize totS (qRes L g.r6 (cyB g p)) X = S at *
 generalize cvE g L G X p = E at *
 obtain ⟨v1, hv1⟩ : ∃ v1, toN E S = v1 := ⟨_, rfl⟩
 obtain ⟨v2, hv2⟩ : ∃ v2, toE E S = v2 := ⟨_, rfl⟩
 rw [hv1, hv2] at HTO ⊢
 obtain ⟨n, hn⟩ : ∃ n, X.length = n := ⟨_, rfl⟩
 rw [hn] at HTO ⊢
 clear hk hs hw hz hl hx hv1 hv2 hn
 have HM1 : True := trivial
 go_enter Tryz.func14, Tryz.ntmps14
 go_wp2_with (first
  | (clear HM1; refine wpList_load_is rfl 29 _ rfl (.pointer (some ⟨s0, 0, none⟩)) rfl GV (HLG.out _ HBC.out) ?_)
  | (go_at_call 29; refine (HTO.out _ HBC.out).mono ?_; rintro r w3 ⟨rfl, hb⟩; have hB3 := Lib.hid (HBC.out.trans (hb.mono HBC.out.size)); clear HBC; have HBC := hB3; clear hB3; clear hb))
 go_ret2
 exact ⟨rfl, by have h9 := HBW.out _ HBC.out; first | exact h9 | (rw [← HS0.out]; exact h9)⟩
set_option maxRecDepth 100000 in
set_option maxHeartbeats 6400000 in
theorem yretained_any (g : Grp) (L : List Acc) (G : List Ent) (A : Option Addr) (c : Nat) (X : List Lnk) (p : Int) (w : World) (hk : GrK w g L G) (hs : Sm g G) (hw : GrW g L G) (hz : LnkAt w A X) (hl : X.length ≤ 1000) (hx : ∀ d ∈ X, (Lit.int .i64 d.frm).wf = true) : Calls Tryz.prog 13 #[grpV g, .slice A X.length c, .int .i64 p] w fun e w' => e = .returned (.tuple #[.int .i64 (toN (cvE g L G X p) (totS (qRet L g.r6 (cyB g p)) X)), .int .i64 (toE (cvE g L G X p) (totS (qRet L g.r6 (cyB g p)) X))]) ∧ Below w.heap.size w w' := by
 obtain ⟨GV, hGV⟩ : ∃ GV, GV = grpV g := ⟨_, rfl⟩
 obtain ⟨gs, hgs⟩ : ∃ gs, (grpC g).toArray = gs := ⟨_, rfl⟩
 obtain ⟨s0, hs0⟩ : ∃ s0, w.heap.size = s0 := ⟨_, rfl⟩
 obtain ⟨w2, hw2⟩ : ∃ w2, w.alloc (.cells gs 29) = w2 := ⟨_, rfl⟩
 have HGB : Hid (Wh 29 w2 s0 (grpC g)) := Lib.hid (by rw [← hw2, ← hgs, ← hs0]; exact (Wh.new w 29 (grpC g)))
 have HB2 : Hid (Below w.heap.size w w2) := Lib.hid (by rw [← hw2]; exact below_alloc_new _)
 have HS0 := Lib.hid hs0
 have HLG : Hid (∀ W, Below w2.heap.size w2 W → (Instr.loadAt 29 (.pointer (some ⟨s0, 0, none⟩))).run Tryz.prog W = .ok GV W) := Lib.hid (fun W h => by rw [hGV, grpV_is]; exact (HGB.out.up h).rg.load 0 29 (grpC g) rfl _ Tryz.underlying29 rfl (by kernel_rfl))
 have HBC : Hid (Below w2.heap.size w2 w2) := Lib.hid (Below.refl _ _)
 have HBW : Hid (∀ W, Below w2.heap.size w2 W → Below w.heap.size w W) := Lib.hid (fun W h => HB2.out.trans (h.mono HB2.out.size))
 have HS2 : Hid (s0 + 1 ≤ w2.heap.size) := Lib.hid (by rw [← hw2, ← hs0]; simp)
 have HTO := Lib.hid (fun W (hb : Below w2.heap.size w2 W) => ytott_any g L G A c X p W ((hk.up HB2.out).up hb) hs hw ((hz.up HB2.out).up hb) hl hx)
 have hGS : GV = .agg gs := by rw [hGV, grpV_is, hgs]
 rw [← hGV] at HTO ⊢
 rw [hGS]
 clear hGS hGV
 generalize totS (qRet L g.r6 (cyB g p)) X = S at *
 generalize cvE g L G X p = E at *
 obtain ⟨v1, hv1⟩ : ∃ v1, toN E S = v1 := ⟨_, rfl⟩
 obtain ⟨v2, hv2⟩ : ∃ v2, toE E S = v2 := ⟨_, rfl⟩
 rw [hv1, hv2] at HTO ⊢
 obtain ⟨n, hn⟩ : ∃ n, X.length = n := ⟨_, rfl⟩
 rw [hn] at HTO ⊢
 clear hk hs hw hz hl hx hv1 hv2 hn
 have HM1 : True := trivial
 go_enter Tryz.func13, Tryz.ntmps13
 go_wp2_with (first
  | (clear HM1; refine wpList_load_is rfl 29 _ rfl (.pointer (some ⟨s0, 0, none⟩)) rfl GV (HLG.out _ HBC.out) ?_)
  | (go_at_call 29; refine (HTO.out _ HBC.out).mono ?_; rintro r w3 ⟨rfl, hb⟩; have hB3 := Lib.hid (HBC.out.trans (hb.mono HBC.out.size)); clear HBC; have HBC := hB3; clear hB3; clear hb))
 go_ret2
 exact ⟨rfl, by have h9 := HBW.out _ HBC.out; first | exact h9 | (rw [← HS0.out]; exact h9)⟩
set_option maxRecDepth 100000 in
set_option maxHeartbeats 6400000 in
theorem yplac_any (g : Grp) (L : List Acc) (G : List Ent) (c d p : Int) (w : World) (hk : GrK w g L G) (hs : Sm g G) (hw : GrW g L G) (hc : (Lit.int .i64 c).wf = true) : Calls Tryz.prog 15 #[grpV g, .int .i64 c, .int .i64 d, .int .i64 p] w fun e w' => e = .returned (.tuple #[.int .i64 (plN g L G c d p), .int .i64 (plE g L G c p)]) ∧ Below w.heap.size w w' := by
 obtain ⟨GV, hGV⟩ : ∃ GV, GV = grpV g := ⟨_, rfl⟩
 obtain ⟨gs, hgs⟩ : ∃ gs, (grpC g).toArray = gs := ⟨_, rfl⟩
 obtain ⟨s0, hs0⟩ : ∃ s0, w.heap.size = s0 := ⟨_, rfl⟩
 obtain ⟨w2, hw2⟩ : ∃ w2, w.alloc (.cells gs 29) = w2 := ⟨_, rfl⟩
 have HGB : Hid (Wh 29 w2 s0 (grpC g)) := Lib.hid (by rw [← hw2, ← hgs, ← hs0]; exact (Wh.new w 29 (grpC g)))
 have HB2 : Hid (Below w.heap.size w w2) := Lib.hid (by rw [← hw2]; exact below_alloc_new _)
 have HS0 := Lib.hid hs0
 have HLG : Hid (∀ W, Below w2.heap.size w2 W → (Instr.loadAt 29 (.pointer (some ⟨s0, 0, none⟩))).run Tryz.prog W = .ok GV W) := Lib.hid (fun W h => by rw [hGV, grpV_is]; exact (HGB.out.up h).rg.load 0 29 (grpC g) rfl _ Tryz.underlying29 rfl (by kernel_rfl))
 have HBC : Hid (Below w2.heap.size w2 w2) := Lib.hid (Below.refl _ _)
 have HBW : Hid (∀ W, Below w2.heap.size w2 W → Below w.heap.size w W) := Lib.hid (fun W h => HB2.out.trans (h.mono HB2.out.size))
 have HS2 : Hid (s0 + 1 ≤ w2.heap.size) := Lib.hid (by rw [← hw2, ← hs0]; simp)
 have HVO := Lib.hid (fun W (hb : Below w2.heap.size w2 W) => yview_any g L G p W ((hk.up HB2.out).up hb) hs hw)
 have hGS : GV = .agg gs := by rw [hGV, grpV_is, hgs]
 rw [← hGV] at HVO ⊢
 rw [hGS]
 clear hGS hGV
 have hpe : plE g L G c p = if cyE g L G p = 0 then (if (fnd L c).isSome = true then 0 else 8) else cyE g L G p := rfl
 have hpn : plN g L G c d p = if plE g L G c p = 0 then plI L g.r6 (cyB g p) c d else 0 := rfl
 rw [hpn, hpe]
 obtain ⟨E, hE⟩ : ∃ E, cyE g L G p = E := ⟨_, rfl⟩
 rw [hE] at HVO ⊢
 have HWC := Lib.hid hc
 clear hk hs hw hc hpe hpn hE
 have HM1 : True := trivial
 have HM2 : True := trivial
 by_cases hE0 : E = 0
 ·subst hE0
  have z1 : ((0 : Int) != 0) = false := rfl
  have HVP : Hid (∀ W, Below w2.heap.size w2 W → Calls Tryz.prog 32 #[GV, .int .i64 p] W fun e w' => (∃ mb n, e = .returned (.tuple #[vwV mb (cyB g p) g.r6, .int .i64 0]) ∧ MapV w' mb n (resM L)) ∧ Below W.heap.size W w') := Lib.hid (fun W hb => (HVO.out W hb).mono fun e w' ⟨h1, h2⟩ => ⟨by unfold VwQ at h1; rw [if_pos rfl] at h1; exact h1, h2⟩)
  simp only [if_true]
  obtain ⟨b, hb⟩ : ∃ b, cyB g p = b := ⟨_, rfl⟩
  rw [hb] at HVP ⊢
  obtain ⟨r6, hr6⟩ : ∃ r6, g.r6 = r6 := ⟨_, rfl⟩
  rw [hr6] at HVP ⊢
  clear hb hr6 HVO
  have HHA := Lib.hid (fun mb n9 W (hm : MapV W mb n9 (resM L)) => yhas_any L mb n9 b r6 c W hm HWC.out)
  have HPL := Lib.hid (fun mb n9 W (hm : MapV W mb n9 (resM L)) => yplace_any L mb n9 b r6 c d W hm HWC.out)
  generalize plI L r6 b c d = te at *
  generalize (fnd L c).isSome = q at *
  cases q
  ·have HX1 : True := trivial
   go_enter Tryz.func15, Tryz.ntmps15
   go_wp2_with (first
    | (clear HM1; refine wpList_load_is rfl 29 _ rfl (.pointer (some ⟨s0, 0, none⟩)) rfl GV (HLG.out _ HBC.out) ?_)
    | (go_at_call 32; refine (HVP.out _ HBC.out).mono ?_; rintro r w3 ⟨⟨mb, n9, rfl, hm3⟩, hb⟩; have hB3 := Lib.hid (HBC.out.trans (hb.mono HBC.out.size)); clear HBC hb; have HBC := hB3; clear hB3; have HM3 := Lib.hid hm3; clear hm3; obtain ⟨sv, hsv⟩ : ∃ sv, w3.heap.size = sv := ⟨_, rfl⟩; have HSV := Lib.hid hsv)
    | (clear HM2; refine wpList_store_wh rfl 56 _ _ rfl sv rfl 56 [.map none, .int .i64 0, .int .i64 0] (vwC mb b r6) rfl (by rw [← HSV.out]; exact Wh.new w3 56 [.map none, .int .i64 0, .int .i64 0]) rfl (by kernel_rfl) (by kernel_rfl) ?_; intro w5 hr5 ho5 hz5; have HR5 := Lib.hid hr5.out; have hb5 : Below w3.heap.size w3 w5 := only_new (by rw [HSV.out]; exact ho5.out); have HM5 := Lib.hid (HM3.out.up hb5); have hB3 := Lib.hid (HBC.out.trans (hb5.mono HBC.out.size)); clear HBC HM3 hr5 ho5 hz5 hb5; have HBC := hB3; clear hB3; obtain ⟨VV, hVV⟩ : ∃ VV, VV = vwV mb b r6 := ⟨_, rfl⟩; have HLV : Hid (∀ W, Below w5.heap.size w5 W → (Instr.loadAt 56 (.pointer (some ⟨sv, 0, none⟩))).run Tryz.prog W = .ok VV W) := Lib.hid (fun W h => by rw [hVV]; exact (HR5.out.up h).rg.load 0 56 (vwC mb b r6) rfl _ Tryz.underlying56 rfl (by kernel_rfl)); have HH5 := Lib.hid (fun W hb => HHA.out mb n9 W (HM5.out.up hb)); have HP5 := Lib.hid (fun W hb => HPL.out mb n9 W (HM5.out.up hb)); rw [← hVV] at HH5 HP5; clear hVV; have HB5 : Hid (Below w5.heap.size w5 w5) := Lib.hid (Below.refl _ _))
    | (clear HX1; refine wpList_load_is rfl 56 _ rfl (.pointer (some ⟨sv, 0, none⟩)) rfl VV (HLV.out _ HB5.out) ?_)
    | (go_at_call 33; refine (HH5.out _ HB5.out).mono ?_; rintro r w6 ⟨rfl, hb⟩; have hB3 := Lib.hid (HBC.out.trans (hb.mono HBC.out.size)); clear HBC; have HBC := hB3; clear hB3; have HB6 := Lib.hid (HB5.out.trans (hb.mono HB5.out.size)); clear HB5; have HB5 := HB6; clear HB6; clear hb))
   go_ret2
   exact ⟨by first | rfl | simp, by have h9 := HBW.out _ HBC.out; first | exact h9 | (rw [← HS0.out]; exact h9)⟩
  ·have HX1 : True := trivial
   have HX2 : True := trivial
   go_enter Tryz.func15, Tryz.ntmps15
   go_wp2_with (first
    | (clear HM1; refine wpList_load_is rfl 29 _ rfl (.pointer (some ⟨s0, 0, none⟩)) rfl GV (HLG.out _ HBC.out) ?_)
    | (go_at_call 32; refine (HVP.out _ HBC.out).mono ?_; rintro r w3 ⟨⟨mb, n9, rfl, hm3⟩, hb⟩; have hB3 := Lib.hid (HBC.out.trans (hb.mono HBC.out.size)); clear HBC hb; have HBC := hB3; clear hB3; have HM3 := Lib.hid hm3; clear hm3; obtain ⟨sv, hsv⟩ : ∃ sv, w3.heap.size = sv := ⟨_, rfl⟩; have HSV := Lib.hid hsv)
    | (clear HM2; refine wpList_store_wh rfl 56 _ _ rfl sv rfl 56 [.map none, .int .i64 0, .int .i64 0] (vwC mb b r6) rfl (by rw [← HSV.out]; exact Wh.new w3 56 [.map none, .int .i64 0, .int .i64 0]) rfl (by kernel_rfl) (by kernel_rfl) ?_; intro w5 hr5 ho5 hz5; have HR5 := Lib.hid hr5.out; have hb5 : Below w3.heap.size w3 w5 := only_new (by rw [HSV.out]; exact ho5.out); have HM5 := Lib.hid (HM3.out.up hb5); have hB3 := Lib.hid (HBC.out.trans (hb5.mono HBC.out.size)); clear HBC HM3 hr5 ho5 hz5 hb5; have HBC := hB3; clear hB3; obtain ⟨VV, hVV⟩ : ∃ VV, VV = vwV mb b r6 := ⟨_, rfl⟩; have HLV : Hid (∀ W, Below w5.heap.size w5 W → (Instr.loadAt 56 (.pointer (some ⟨sv, 0, none⟩))).run Tryz.prog W = .ok VV W) := Lib.hid (fun W h => by rw [hVV]; exact (HR5.out.up h).rg.load 0 56 (vwC mb b r6) rfl _ Tryz.underlying56 rfl (by kernel_rfl)); have HH5 := Lib.hid (fun W hb => HHA.out mb n9 W (HM5.out.up hb)); have HP5 := Lib.hid (fun W hb => HPL.out mb n9 W (HM5.out.up hb)); rw [← hVV] at HH5 HP5; clear hVV; have HB5 : Hid (Below w5.heap.size w5 w5) := Lib.hid (Below.refl _ _))
    | (clear HX1; refine wpList_load_is rfl 56 _ rfl (.pointer (some ⟨sv, 0, none⟩)) rfl VV (HLV.out _ HB5.out) ?_)
    | (go_at_call 33; refine (HH5.out _ HB5.out).mono ?_; rintro r w6 ⟨rfl, hb⟩; have hB3 := Lib.hid (HBC.out.trans (hb.mono HBC.out.size)); clear HBC; have HBC := hB3; clear hB3; have HB6 := Lib.hid (HB5.out.trans (hb.mono HB5.out.size)); clear HB5; have HB5 := HB6; clear HB6; clear hb)
    | (clear HX2; refine wpList_load_is rfl 56 _ rfl (.pointer (some ⟨sv, 0, none⟩)) rfl VV (HLV.out _ HB5.out) ?_)
    | (go_at_call 18; refine (HP5.out _ HB5.out).mono ?_; rintro r w7 ⟨rfl, hb⟩; have hB3 := Lib.hid (HBC.out.trans (hb.mono HBC.out.size)); clear HBC; have HBC := hB3; clear hB3; clear hb))
   go_ret2
   exact ⟨by first | rfl | simp, by have h9 := HBW.out _ HBC.out; first | exact h9 | (rw [← HS0.out]; exact h9)⟩
 ·have z1 : (E != 0) = true := by simp [hE0]
  have HVP : Hid (∀ W, Below w2.heap.size w2 W → Calls Tryz.prog 32 #[GV, .int .i64 p] W fun e w' => e = .returned (.tuple #[vw0, .int .i64 E]) ∧ Below W.heap.size W w') := Lib.hid (fun W hb => (HVO.out W hb).mono fun e w' ⟨h1, h2⟩ => ⟨by unfold VwQ at h1; rw [if_neg hE0] at h1; exact h1, h2⟩)
  simp only [if_neg hE0]
  clear HVO hE0
  go_enter Tryz.func15, Tryz.ntmps15
  go_wp2_with (first
   | (clear HM1; refine wpList_load_is rfl 29 _ rfl (.pointer (some ⟨s0, 0, none⟩)) rfl GV (HLG.out _ HBC.out) ?_)
   | (go_at_call 32; refine (HVP.out _ HBC.out).mono ?_; rintro r w3 ⟨rfl, hb⟩; have hB3 := Lib.hid (HBC.out.trans (hb.mono HBC.out.size)); clear HBC; have HBC := hB3; clear hB3; obtain ⟨sv, hsv⟩ : ∃ sv, w3.heap.size = sv := ⟨_, rfl⟩; have HSV := Lib.hid hsv; clear hb)
   | (clear HM2; refine wpList_store_wh rfl 56 _ _ rfl sv rfl 56 [.map none, .int .i64 0, .int .i64 0] [.map none, .int .i64 0, .int .i64 0] rfl (by rw [← HSV.out]; exact Wh.new w3 56 [.map none, .int .i64 0, .int .i64 0]) rfl (by kernel_rfl) (by kernel_rfl) ?_; intro w5 hr5 ho5 hz5; have hb5 : Below w3.heap.size w3 w5 := only_new (by rw [HSV.out]; exact ho5.out); have hB3 := Lib.hid (HBC.out.trans (hb5.mono HBC.out.size)); clear HBC hr5 ho5 hz5 hb5; have HBC := hB3; clear hB3))
  go_ret2
  exact ⟨rfl, by have h9 := HBW.out _ HBC.out; first | exact h9 | (rw [← HS0.out]; exact h9)⟩
open Go.RowKit
structure Two (wr wx : World) (p q : Nat) (g : Grp) : Prop where
 gp : GB wx p g
 gq : GB wx q g
 fp : wx.there p 0 21
 fq : wx.there q 0 21
 ne : p ≠ q
 hp : wr.heap.size ≤ p
 hq : wr.heap.size ≤ q
 below : Below wr.heap.size wr wx
def entC (e : Ent) : List Value := [.string e.nm, .string e.cur, .slice e.A e.n e.c, .slice e.B e.m e.d, .bool e.jt]
theorem entC_get : ∀ (G : List Ent) (i : Nat), i < G.length → ∀ j, j < 5 → (G.flatMap entC)[i * 5 + j]? = (entC (G.getD i ent0))[j]?
 | [], i, h => by simp at h
 | a :: G, 0, _ => fun j hj => by
  rw [List.flatMap_cons, Nat.zero_mul, Nat.zero_add, List.getElem?_append_left (by simpa [entC] using hj)]; rfl
 | a :: G, i + 1, h => fun j hj => by
  have := entC_get G i (by simpa using h) j hj
  have e1 : (i + 1) * 5 + j = i * 5 + j + (entC a).length := by simp [entC]; omega
  rw [List.flatMap_cons, e1, List.getElem?_append_right (by omega), Nat.add_sub_cancel]
  simpa using this
end Go.Proofs.YtompehjecamdiaaGreat
