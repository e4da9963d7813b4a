/- Contracts of the functions that the statements reach, part 4: what was proved of each, callees first. -/
import Derived.Shelf.SlGeneric
import Derived.Laws.RangeAny
import Derived.Test.YtompehjecamdiaaGreatCZ3
namespace Go.Proofs.YtompehjecamdiaaGreat
open Go.RowKit Go.Maps
set_option maxRecDepth 20000 in
set_option maxHeartbeats 3200000 in
theorem groles_any (g : Grp) (L : List Acc) (w : World) (hz : AccAt w g.A L) (ln : L.length = g.n) (hl : g.n ≤ 1000) (hw : ∀ x ∈ g.R, (Lit.int .i64 x).wf = true) :
    Calls Tryz.prog 72 #[grpV g] w fun e w' => e = .returned (.bool (rlsB L g.R)) ∧ Below w.heap.size w w' := by
  have hB := below_alloc_new (w := w) (.cells #[.string g.cur, .int .i64 g.cy, .int .i64 g.cm, .int .i64 g.cp, .slice g.A g.n g.c, .int .i64 g.r0, .int .i64 g.r1, .int .i64 g.r2, .int .i64 g.r3, .int .i64 g.r4, .int .i64 g.r5, .int .i64 g.r6, .int .i64 g.r7, .int .i64 g.r8, .int .i64 g.r9, .int .i64 g.r10, .int .i64 g.r11, .int .i64 g.r12, .int .i64 g.r13, .int .i64 g.r14, .slice g.E g.m g.d] 29)
  have hG := gb_new w 29 g
  have hwk : ∀ k, k < 15 → (Lit.int .i64 (g.R.getD k 0)).wf = true := fun k hk => hw _ (getD_mem_acc hk)
  have hno := fun k => rls_no (L := L) (R := g.R) (k := k)
  have hend := fun m S => rls_end (L := L) (R := g.R) (m := m) (S := S)
  have hix := fun i hi W => rol_index g i hi W
  have h1 := fun w => rolesof_any g w
  have h2 := fun x w h => gacct_any g L x w h ln hl
  obtain ⟨V, hV⟩ : ∃ V : Value, V = .agg (rpC g) := ⟨_, rfl⟩
  rw [← hV] at h1
  have hix2 : ∀ i : Nat, i < 15 → ∀ W, (Instr.index 128 V (.int .i64 (i : Int))).run Tryz.prog W = .ok (rowV g i) W := fun i hi W => by rw [hV]; exact hix i hi W
  obtain ⟨U, hU⟩ : ∃ U : Value, rolV g = U := ⟨_, rfl⟩
  rw [hU] at h1
  have hR := gb_roles hG
  rw [hU] at hR
  obtain ⟨X, hX⟩ : ∃ X : Value, X = grpV g := ⟨_, rfl⟩
  rw [← hX] at h2
  have hck : ∀ k, chkR L g.R k = ((fnd L (g.R.getD k 0)).isSome && (decide ((fndA L (g.R.getD k 0)).kind = rlK k) && decide ((fndA L (g.R.getD k 0)).basis = rlB k))) := fun _ => rfl
  generalize rlsB L g.R = r at *
  obtain ⟨P, hP⟩ : ∃ P : Nat → Bool, chkR L g.R = P := ⟨_, rfl⟩
  rw [hP] at hend hck
  simp only [hP] at hno
  obtain ⟨s0, hs0⟩ : ∃ s0, w.heap.size = s0 := ⟨_, rfl⟩
  have hs1 : s0 ≤ (w.alloc (.cells #[.string g.cur, .int .i64 g.cy, .int .i64 g.cm, .int .i64 g.cp, .slice g.A g.n g.c, .int .i64 g.r0, .int .i64 g.r1, .int .i64 g.r2, .int .i64 g.r3, .int .i64 g.r4, .int .i64 g.r5, .int .i64 g.r6, .int .i64 g.r7, .int .i64 g.r8, .int .i64 g.r9, .int .i64 g.r10, .int .i64 g.r11, .int .i64 g.r12, .int .i64 g.r13, .int .i64 g.r14, .slice g.E g.m g.d] 29)).heap.size := by simp; omega
  rw [hs0] at hB hR hG ⊢
  have HS0 := Lib.hid hs0
  have HZ := Lib.hid hz
  have HG := Lib.hid hG
  have HV := Lib.hid hV
  have HX := Lib.hid hX
  have HWK := Lib.hid hwk
  have HNo := Lib.hid hno
  have HE := Lib.hid hend
  have HIx := Lib.hid hix2
  have HR := Lib.hid hR
  have HCK := Lib.hid hck
  have H1 := Lib.hid h1
  have H2 := Lib.hid h2
  have HS1 := Lib.hid hs1
  have hmm := @run_makeMap Tryz.prog
  clear hz ln hl hG hno hend hix hix2 h1 h2 hV hU hR hX hck hP hs1 hwk hw
  go_enter Tryz.func72, Tryz.ntmps72
  go_wp2_with (first
    | (refine wpList_load_is rfl 26 _ rfl (.pointer (some ⟨s0, 5, none⟩)) rfl U HR.out ?_)
    | (go_at_call 86; refine (H1.out _).mono ?_; rintro e w1 ⟨rfl, hb⟩; have hB1 := hB.trans (hb.mono HS1.out); have HG1 := Lib.hid (HG.out.up hb); have hsz1 : s0 ≤ w1.heap.size := Nat.le_trans HS1.out hb.size; clear hb hB HG)
    | (refine wpList_store66 rfl _ _ rfl w1 g V rfl rfl HV.out ?_
       intro W2 hb2 HM HLD
       have hB2 := hB1.trans (hb2.out.mono hsz1)
       have HG2 := Lib.hid (HG1.out.up hb2.out)
       have HMS : Hid (s0 < w1.heap.size) := Lib.hid HG1.out.lt
       clear hB1 HG1 hsz1 hb2 H1)
    | (refine wpList_load_is rfl 128 _ rfl (.pointer (some ⟨w1.heap.size + 1, 0, none⟩)) rfl V HLD.out ?_))
  obtain ⟨mb, hmb⟩ : ∃ mb, w1.heap.size = mb := ⟨_, rfl⟩
  rw [hmb] at HM HMS ⊢
  clear hmb HLD hs0 HR HS1
  go_loopg [14] 15 (fun kx s14 wr => ∃ (k m : Nat) (S : Int → Bool), s14 = .int .i64 k ∧ k ≤ 15 ∧ 15 - k ≤ kx ∧ Hid (allTo P k = true) ∧ Hid (RI g.R k m S) ∧ Hid (SetI wr mb m S) ∧ Hid (GB wr s0 g) ∧ Below s0 w wr)
  case atStart => exact ⟨0, 0, _, rfl, by omega, by omega, Lib.hid rfl, Lib.hid RI.start, HM, HG2, hB2⟩
  case round =>
    clear hB2 HM HG2
    obtain ⟨k, m, S, rfl, hk, hkx, HA, HRI, HM, HG, hB⟩ := hrel
    by_cases hlt : k < 15
    · have hltz : (k : Int) < 15 := by omega
      have hsz : s0 ≤ wr.heap.size := by have := HG.out.lt; omega
      have hix := HIx.out k hlt
      have hno := HNo.out k hlt
      have hck := HCK.out k
      have hwx := HWK.out k hlt
      have hrs := HRI.out.step (x := g.R.getD k 0) rfl
      have hm1 : m ≤ 15 := by have := HRI.out.le; omega
      have hnx : P k = true → Hid (allTo P (k + 1) = true) := fun h => Lib.hid (by show (allTo P k && P k) = true; rw [HA.out, h]; rfl)
      unfold rowV at hix
      generalize g.R.getD k 0 = x at *
      generalize rlN k = y1 at *
      generalize rlK k = y2 at *
      generalize rlB k = y3 at *
      have h2x := fun w h => H2.out x w h
      have hwb := wx_new wr 127 y1 x y2 y3
      have HB1 : Hid (Below s0 w (wr.alloc (.cells #[.string y1, .int .i64 x, .int .i64 y2, .int .i64 y3] 127))) := Lib.hid (hB.alloc hsz _)
      have HSZ1 : Hid (s0 ≤ (wr.alloc (.cells #[.string y1, .int .i64 x, .int .i64 y2, .int .i64 y3] 127)).heap.size) := Lib.hid (by simp; omega)
      have HG1 := Lib.hid (HG.out.up (below_alloc_new (.cells #[.string y1, .int .i64 x, .int .i64 y2, .int .i64 y3] 127)))
      have HM1 := Lib.hid (HM.out.up (below_alloc_new (.cells #[.string y1, .int .i64 x, .int .i64 y2, .int .i64 y3] 127)))
      have HZ1 : Hid (AccAt (wr.alloc (.cells #[.string y1, .int .i64 x, .int .i64 y2, .int .i64 y3] 127)) g.A L) := Lib.hid (HZ.out.up (by rw [HS0.out]; exact HB1.out))
      have HW1 := Lib.hid hwb
      obtain ⟨y0', y1', y2', y3', ylt⟩ := hwb
      generalize (fnd L x).isSome = q1 at *
      generalize fndA L x = fa at *
      have e2 : (fa.kind != y2) = !decide (fa.kind = y2) := by by_cases h : fa.kind = y2 <;> simp [h]
      have e3 : (fa.basis != y3) = !decide (fa.basis = y3) := by by_cases h : fa.basis = y3 <;> simp [h]
      generalize decide (fa.kind = y2) = q2 at *
      generalize decide (fa.basis = y3) = q3 at *
      have HIx2 := Lib.hid hix
      have H2x := Lib.hid h2x
      have HWx := Lib.hid hwx
      have HRS := Lib.hid hrs
      clear hix h2x hwx hrs HA HG HM hB
      rcases (show q1 = false ∨ (q1 = true ∧ q2 = false) ∨ (q1 = true ∧ q2 = true ∧ q3 = false) ∨ (q1 = true ∧ q2 = true ∧ q3 = true) from by cases q1 <;> cases q2 <;> cases q3 <;> simp) with rfl | ⟨rfl, rfl⟩ | ⟨rfl, rfl, rfl⟩ | ⟨rfl, rfl, rfl⟩
      · have HR := Lib.hid (hno (by rw [hck]; rfl))
        clear hno hck hnx HRS
        go_wp2_with (first
          | (refine wpList_index_is rfl 128 _ _ rfl V (.int .i64 (k : Int)) rfl rfl _ (HIx2.out _) ?_)
          | (refine wpList_load_is rfl 29 _ rfl (.pointer (some ⟨s0, 0, none⟩)) rfl X (gb_lV HG1.out HX.out) ?_)
          | (go_at_call 76; (with_reducible refine (H2x.out _ HZ1.out).mono ?_); rintro e w3 ⟨rfl, hb⟩; have HG3 := Lib.hid ((HG1.out.up hb).up (below_alloc_new (.cells #[.int .i64 fa.code, .int .i64 fa.kind, .int .i64 fa.basis, .int .i64 fa.par] 69))); have HM3 := Lib.hid ((HM1.out.up hb).up (below_alloc_new (.cells #[.int .i64 fa.code, .int .i64 fa.kind, .int .i64 fa.basis, .int .i64 fa.par] 69))); have hsz3 : s0 ≤ (w3.alloc (.cells #[.int .i64 fa.code, .int .i64 fa.kind, .int .i64 fa.basis, .int .i64 fa.par] 69)).heap.size := Nat.le_trans (Nat.le_trans HSZ1.out hb.size) (by simp); have hB3 := (HB1.out.trans (hb.mono HSZ1.out)).alloc (Nat.le_trans HSZ1.out hb.size) (.cells #[.int .i64 fa.code, .int .i64 fa.kind, .int .i64 fa.basis, .int .i64 fa.par] 69); obtain ⟨z0, z1, z2, z3, zlt⟩ := (HW1.out.up hb).up (below_alloc_new (.cells #[.int .i64 fa.code, .int .i64 fa.kind, .int .i64 fa.basis, .int .i64 fa.par] 69)); obtain ⟨⟨v0, v1, v2, v3⟩, vlt, -⟩ := ab_new w3 69 fa; simp only [Nat.zero_add] at v1 v2 v3; clear hb y0' y1' y2' y3' ylt HG1 HZ1 HM1 HSZ1 HB1 HW1))
        go_ret
        exact ⟨by rw [HR.out]; rfl, hB3⟩
      · have HR := Lib.hid (hno (by rw [hck]; rfl))
        clear hno hck hnx HRS
        go_wp2_with (first
          | (refine wpList_index_is rfl 128 _ _ rfl V (.int .i64 (k : Int)) rfl rfl _ (HIx2.out _) ?_)
          | (refine wpList_load_is rfl 29 _ rfl (.pointer (some ⟨s0, 0, none⟩)) rfl X (gb_lV HG1.out HX.out) ?_)
          | (go_at_call 76; (with_reducible refine (H2x.out _ HZ1.out).mono ?_); rintro e w3 ⟨rfl, hb⟩; have HG3 := Lib.hid ((HG1.out.up hb).up (below_alloc_new (.cells #[.int .i64 fa.code, .int .i64 fa.kind, .int .i64 fa.basis, .int .i64 fa.par] 69))); have HM3 := Lib.hid ((HM1.out.up hb).up (below_alloc_new (.cells #[.int .i64 fa.code, .int .i64 fa.kind, .int .i64 fa.basis, .int .i64 fa.par] 69))); have hsz3 : s0 ≤ (w3.alloc (.cells #[.int .i64 fa.code, .int .i64 fa.kind, .int .i64 fa.basis, .int .i64 fa.par] 69)).heap.size := Nat.le_trans (Nat.le_trans HSZ1.out hb.size) (by simp); have hB3 := (HB1.out.trans (hb.mono HSZ1.out)).alloc (Nat.le_trans HSZ1.out hb.size) (.cells #[.int .i64 fa.code, .int .i64 fa.kind, .int .i64 fa.basis, .int .i64 fa.par] 69); obtain ⟨z0, z1, z2, z3, zlt⟩ := (HW1.out.up hb).up (below_alloc_new (.cells #[.int .i64 fa.code, .int .i64 fa.kind, .int .i64 fa.basis, .int .i64 fa.par] 69)); obtain ⟨⟨v0, v1, v2, v3⟩, vlt, -⟩ := ab_new w3 69 fa; simp only [Nat.zero_add] at v1 v2 v3; clear hb y0' y1' y2' y3' ylt HG1 HZ1 HM1 HSZ1 HB1 HW1))
        go_ret
        exact ⟨by rw [HR.out]; rfl, hB3⟩
      · have HR := Lib.hid (hno (by rw [hck]; rfl))
        clear hno hck hnx HRS
        go_wp2_with (first
          | (refine wpList_index_is rfl 128 _ _ rfl V (.int .i64 (k : Int)) rfl rfl _ (HIx2.out _) ?_)
          | (refine wpList_load_is rfl 29 _ rfl (.pointer (some ⟨s0, 0, none⟩)) rfl X (gb_lV HG1.out HX.out) ?_)
          | (go_at_call 76; (with_reducible refine (H2x.out _ HZ1.out).mono ?_); rintro e w3 ⟨rfl, hb⟩; have HG3 := Lib.hid ((HG1.out.up hb).up (below_alloc_new (.cells #[.int .i64 fa.code, .int .i64 fa.kind, .int .i64 fa.basis, .int .i64 fa.par] 69))); have HM3 := Lib.hid ((HM1.out.up hb).up (below_alloc_new (.cells #[.int .i64 fa.code, .int .i64 fa.kind, .int .i64 fa.basis, .int .i64 fa.par] 69))); have hsz3 : s0 ≤ (w3.alloc (.cells #[.int .i64 fa.code, .int .i64 fa.kind, .int .i64 fa.basis, .int .i64 fa.par] 69)).heap.size := Nat.le_trans (Nat.le_trans HSZ1.out hb.size) (by simp); have hB3 := (HB1.out.trans (hb.mono HSZ1.out)).alloc (Nat.le_trans HSZ1.out hb.size) (.cells #[.int .i64 fa.code, .int .i64 fa.kind, .int .i64 fa.basis, .int .i64 fa.par] 69); obtain ⟨z0, z1, z2, z3, zlt⟩ := (HW1.out.up hb).up (below_alloc_new (.cells #[.int .i64 fa.code, .int .i64 fa.kind, .int .i64 fa.basis, .int .i64 fa.par] 69)); obtain ⟨⟨v0, v1, v2, v3⟩, vlt, -⟩ := ab_new w3 69 fa; simp only [Nat.zero_add] at v1 v2 v3; clear hb y0' y1' y2' y3' ylt HG1 HZ1 HM1 HSZ1 HB1 HW1))
        go_ret
        exact ⟨by rw [HR.out]; rfl, hB3⟩
      · have HA2 := hnx (by rw [hck]; rfl)
        clear hno hck hnx
        go_wp2_with (first
          | (refine wpList_index_is rfl 128 _ _ rfl V (.int .i64 (k : Int)) rfl rfl _ (HIx2.out _) ?_)
          | (refine wpList_load_is rfl 29 _ rfl (.pointer (some ⟨s0, 0, none⟩)) rfl X (gb_lV HG1.out HX.out) ?_)
          | (go_at_call 76; (with_reducible refine (H2x.out _ HZ1.out).mono ?_); rintro e w3 ⟨rfl, hb⟩; have HG3 := Lib.hid ((HG1.out.up hb).up (below_alloc_new (.cells #[.int .i64 fa.code, .int .i64 fa.kind, .int .i64 fa.basis, .int .i64 fa.par] 69))); have HM3 := Lib.hid ((HM1.out.up hb).up (below_alloc_new (.cells #[.int .i64 fa.code, .int .i64 fa.kind, .int .i64 fa.basis, .int .i64 fa.par] 69))); have hsz3 : s0 ≤ (w3.alloc (.cells #[.int .i64 fa.code, .int .i64 fa.kind, .int .i64 fa.basis, .int .i64 fa.par] 69)).heap.size := Nat.le_trans (Nat.le_trans HSZ1.out hb.size) (by simp); have hB3 := (HB1.out.trans (hb.mono HSZ1.out)).alloc (Nat.le_trans HSZ1.out hb.size) (.cells #[.int .i64 fa.code, .int .i64 fa.kind, .int .i64 fa.basis, .int .i64 fa.par] 69); obtain ⟨z0, z1, z2, z3, zlt⟩ := (HW1.out.up hb).up (below_alloc_new (.cells #[.int .i64 fa.code, .int .i64 fa.kind, .int .i64 fa.basis, .int .i64 fa.par] 69)); obtain ⟨⟨v0, v1, v2, v3⟩, vlt, -⟩ := ab_new w3 69 fa; simp only [Nat.zero_add] at v1 v2 v3; clear hb y0' y1' y2' y3' ylt HG1 HZ1 HM1 HSZ1 HB1 HW1)
          | (at_mapUpdate; refine wpList_seti_put rfl _ _ _ _ 4 rfl Tryz.underlying54 mb m S rfl HM3.out x rfl _ rfl HWx.out (by omega) ?_; intro w4 hm4 hg4; have hb4 := grown_below hB3 hg4.out (Nat.le_of_lt HMS.out) hsz3; have HG4 := Lib.hid (HG3.out.blk (hg4.out.block s0 HG3.out.lt (by intro e; injection e with e; have := HMS.out; omega))); clear hg4))
        go_roundg (15 - (k + 1))
        case measure => omega
        case rel => exact ⟨k + 1, _, _, by go_num, by omega, by omega, HA2, HRS, hm4, HG4, hb4⟩
    · obtain rfl : k = 15 := by omega
      have HR := Lib.hid (HE.out m S HA.out HRI.out)
      go_wp2_with (at_len; refine wpList_seti_len rfl _ _ 4 rfl Tryz.underlying54 mb m S rfl HM.out ?_)
      go_ret
      exact ⟨by rw [HR.out]; rfl, hB⟩
open Go.RowKit
structure Tri (w : World) (g : Nat) (y m k : Int) : Prop where
 c0 : w.cell? ⟨g, 0, none⟩ = some (.int .i64 y)
 c1 : w.cell? ⟨g, 1, none⟩ = some (.int .i64 m)
 c2 : w.cell? ⟨g, 2, none⟩ = some (.int .i64 k)
 lt : g < w.heap.size
theorem Tri.up {w w' : World} {g : Nat} {y m k : Int} (h : Tri w g y m k) (hb : Below w.heap.size w w') : Tri w' g y m k :=
 ⟨(hb.cell (p := ⟨g, 0, none⟩) h.lt).trans h.c0, (hb.cell (p := ⟨g, 1, none⟩) h.lt).trans h.c1, (hb.cell (p := ⟨g, 2, none⟩) h.lt).trans h.c2, Nat.lt_of_lt_of_le h.lt hb.size⟩
theorem tri_new (w : World) (t : TypeId) (y m k : Int) : Tri (w.alloc (.cells #[.int .i64 y, .int .i64 m, .int .i64 k] t)) w.heap.size y m k ∧ Below w.heap.size w (w.alloc (.cells #[.int .i64 y, .int .i64 m, .int .i64 k] t)) := by
 refine ⟨⟨?_, ?_, ?_, by simp⟩, below_alloc_new _⟩ <;> (simp only [World.cell?]; rw [heap_alloc_new]; rfl)
abbrev calV (y m k : Int) : Value := .agg #[.int .i64 y, .int .i64 m, .int .i64 k]
theorem dec_nat {a b : Nat} : decide ((a : Int) ≤ (b : Int)) = decide (a ≤ b) := by
 by_cases h : a ≤ b
 ·rw [decide_eq_true h, decide_eq_true (by omega)]
 ·rw [decide_eq_false h, decide_eq_false (by omega)]
theorem gcap_any (b : UInt8) (w : World) : Calls Tryz.prog 80 #[.int .u8 (b.toNat : Int)] w fun e w' => e = .returned (.bool (capB b)) ∧ w = w' := by
 unfold capB
 rcases Nat.lt_or_ge b.toNat 65 with h1 | h1
 ·have e1 : decide ((65 : Int) ≤ (b.toNat : Int)) = false := decide_eq_false (by omega)
  have e2 : decide (65 ≤ b.toNat) = false := decide_eq_false (by omega)
  rw [e2]
  clear h1
  go_enter Tryz.func80, Tryz.ntmps80
  go_wp2_with fail
  go_ret
  exact ⟨rfl, rfl⟩
 ·have e1 : decide ((65 : Int) ≤ (b.toNat : Int)) = true := decide_eq_true (by omega)
  have e2 : decide (65 ≤ b.toNat) = true := decide_eq_true (by omega)
  have e3 : decide ((b.toNat : Int) ≤ (90 : Int)) = decide (b.toNat ≤ 90) := dec_nat (b := 90)
  rw [e2]
  clear h1
  go_enter Tryz.func80, Tryz.ntmps80
  go_wp2_with fail
  go_ret
  exact ⟨rfl, rfl⟩
theorem gdig_any (b : UInt8) (w : World) : Calls Tryz.prog 120 #[.int .u8 (b.toNat : Int)] w fun e w' => e = .returned (.bool (digB b)) ∧ w = w' := by
 unfold digB
 rcases Nat.lt_or_ge b.toNat 48 with h1 | h1
 ·have e1 : decide ((48 : Int) ≤ (b.toNat : Int)) = false := decide_eq_false (by omega)
  have e2 : decide (48 ≤ b.toNat) = false := decide_eq_false (by omega)
  rw [e2]
  clear h1
  go_enter Tryz.func120, Tryz.ntmps120
  go_wp2_with fail
  go_ret
  exact ⟨rfl, rfl⟩
 ·have e1 : decide ((48 : Int) ≤ (b.toNat : Int)) = true := decide_eq_true (by omega)
  have e2 : decide (48 ≤ b.toNat) = true := decide_eq_true (by omega)
  have e3 : decide ((b.toNat : Int) ≤ (57 : Int)) = decide (b.toNat ≤ 57) := dec_nat (b := 57)
  rw [e2]
  clear h1
  go_enter Tryz.func120, Tryz.ntmps120
  go_wp2_with fail
  go_ret
  exact ⟨rfl, rfl⟩
theorem glet_any (b : UInt8) (w : World) : Calls Tryz.prog 119 #[.int .u8 (b.toNat : Int)] w fun e w' => e = .returned (.bool (letB b)) ∧ w = w' := by
 have hc := fun w => gcap_any b w
 unfold letB
 cases hq : capB b
 ·rw [hq] at hc
  have HC := Lib.hid hc
  clear hc hq
  rcases Nat.lt_or_ge b.toNat 97 with h1 | h1
  ·have e1 : decide ((97 : Int) ≤ (b.toNat : Int)) = false := decide_eq_false (by omega)
   have e2 : decide (97 ≤ b.toNat) = false := decide_eq_false (by omega)
   rw [e2]
   clear h1
   go_enter Tryz.func119, Tryz.ntmps119
   go_wp2_with (go_at_call 80; refine (HC.out _).mono ?_; rintro e w1 ⟨rfl, rfl⟩)
   go_ret
   exact ⟨rfl, rfl⟩
  ·have e1 : decide ((97 : Int) ≤ (b.toNat : Int)) = true := decide_eq_true (by omega)
   have e2 : decide (97 ≤ b.toNat) = true := decide_eq_true (by omega)
   have e3 : decide ((b.toNat : Int) ≤ (122 : Int)) = decide (b.toNat ≤ 122) := dec_nat (b := 122)
   rw [e2]
   clear h1
   go_enter Tryz.func119, Tryz.ntmps119
   go_wp2_with (go_at_call 80; refine (HC.out _).mono ?_; rintro e w1 ⟨rfl, rfl⟩)
   go_ret
   exact ⟨rfl, rfl⟩
 ·rw [hq] at hc
  have HC := Lib.hid hc
  clear hc hq
  go_enter Tryz.func119, Tryz.ntmps119
  go_wp2_with (go_at_call 80; refine (HC.out _).mono ?_; rintro e w1 ⟨rfl, rfl⟩)
  go_ret
  exact ⟨rfl, rfl⟩
theorem rlet_any (b : UInt8) (w : World) : Calls Tryz.prog 64 #[.int .u8 (b.toNat : Int)] w fun e w' => e = .returned (.bool (letB b)) ∧ w = w' := by
 obtain ⟨z, hz⟩ : ∃ z : Int, (b.toNat : Int) = z := ⟨_, rfl⟩
 have hv : letB b = ((decide (65 ≤ z) && decide (z ≤ 90)) || (decide (97 ≤ z) && decide (z ≤ 122))) := by
  unfold letB capB
  rw [← hz]
  congr 1 <;> congr 1 <;> exact dec_nat.symm
 rw [hv, hz]
 clear hv hz
 have R : ∀ {r : Bool}, ((decide (65 ≤ z) && decide (z ≤ 90)) || (decide (97 ≤ z) && decide (z ≤ 122))) = r → Calls Tryz.prog 64 #[.int .u8 z] w fun e w' => e = .returned (.bool r) ∧ w = w' := by
  intro r hr
  rcases (show z < 65 ∨ (65 ≤ z ∧ z ≤ 90) ∨ (90 < z ∧ z < 97) ∨ (97 ≤ z ∧ z ≤ 122) ∨ 122 < z from by omega) with h | h | h | h | h
  ·have d0 : decide (97 ≤ z) = false := decide_eq_false (by omega)
   have d1 : decide (65 ≤ z) = false := decide_eq_false (by omega)
   obtain rfl : r = false := by rw [← hr]; simp; omega
   clear hr h
   go_enter Tryz.func64, Tryz.ntmps64
   go_wp2_with fail
   go_ret
   exact ⟨rfl, rfl⟩
  ·have d0 : decide (97 ≤ z) = false := decide_eq_false (by omega)
   have d1 : decide (65 ≤ z) = true := decide_eq_true (by omega)
   have d2 : decide (z ≤ 90) = true := decide_eq_true (by omega)
   obtain rfl : r = true := by rw [← hr]; simp; omega
   clear hr h
   go_enter Tryz.func64, Tryz.ntmps64
   go_wp2_with fail
   go_ret
   exact ⟨rfl, rfl⟩
  ·have d0 : decide (97 ≤ z) = false := decide_eq_false (by omega)
   have d1 : decide (65 ≤ z) = true := decide_eq_true (by omega)
   have d2 : decide (z ≤ 90) = false := decide_eq_false (by omega)
   obtain rfl : r = false := by rw [← hr]; simp; omega
   clear hr h
   go_enter Tryz.func64, Tryz.ntmps64
   go_wp2_with fail
   go_ret
   exact ⟨rfl, rfl⟩
  ·have d0 : decide (97 ≤ z) = true := decide_eq_true (by omega)
   have d1 : decide (z ≤ 122) = true := decide_eq_true (by omega)
   obtain rfl : r = true := by rw [← hr]; simp; omega
   clear hr h
   go_enter Tryz.func64, Tryz.ntmps64
   go_wp2_with fail
   go_ret
   exact ⟨rfl, rfl⟩
  ·have d0 : decide (97 ≤ z) = true := decide_eq_true (by omega)
   have d1 : decide (z ≤ 122) = false := decide_eq_false (by omega)
   have d2 : decide (65 ≤ z) = true := decide_eq_true (by omega)
   have d3 : decide (z ≤ 90) = false := decide_eq_false (by omega)
   obtain rfl : r = false := by rw [← hr]; simp; omega
   clear hr h
   go_enter Tryz.func64, Tryz.ntmps64
   go_wp2_with fail
   go_ret
   exact ⟨rfl, rfl⟩
 exact R rfl
theorem gcur_any (s : ByteArray) (w : World) : Calls Tryz.prog 69 #[.string s] w fun e w' => e = .returned (.bool (curB s)) ∧ w = w' := by
 have hc := fun b w => gcap_any b w
 by_cases h3 : s.size = 3
 ·have e3 : ((s.size : Int) != 3) = false := by rw [h3]; rfl
  have HC := Lib.hid hc
  have H3 := Lib.hid h3
  have hnz : s.size ≤ 1000 := by omega
  clear hc h3
  go_enter Tryz.func69, Tryz.ntmps69
  go_wp2_with fail
  go_loop [9] (fun v => ∃ i : Nat, i ≤ s.size ∧ v = .int .i64 i ∧ Hid (∀ j, j < i → (h2 : j < s.size) → capB (s[j]'h2) = true)) (fun v => s.size - (intOf v).toNat)
  case atStart => exact ⟨0, by omega, rfl, fun j h => absurd h (by omega)⟩
  case round =>
   obtain ⟨i, hi, rfl, hd⟩ := hrel
   by_cases hlt : i < s.size
   ·have hlt' : (i : Int) < (s.size : Int) := by omega
    have hno := fun h => curB_no (s := s) hlt h
    obtain ⟨b, hb⟩ : ∃ b, s[i]'hlt = b := ⟨_, rfl⟩
    have hcb : ∀ h, s[i]'h = b := fun h => hb
    rw [hb] at hno
    have HB := Lib.hid hb
    have hcc := HC.out b
    clear hb
    cases hq : capB b
    ·have he := Lib.hid (hno hq)
     rw [hq] at hcc
     have HCC := Lib.hid hcc
     clear hno hcc hq
     go_wp2_with (go_at_call 80; refine (HCC.out _).mono ?_; rintro e w1 ⟨rfl, rfl⟩)
     go_ret
     exact ⟨by rw [he.out]; rfl, rfl⟩
    ·rw [hq] at hcc
     have HCC := Lib.hid hcc
     have hd2 : Hid (∀ j, j < i + 1 → (h2 : j < s.size) → capB (s[j]'h2) = true) := Lib.hid fun j hj h2 => by
      rcases Nat.lt_or_ge j i with h4 | h4
      ·exact hd.out j h4 h2
      ·obtain rfl : j = i := by omega
       rw [HB.out]; exact hq
     clear hno hcc hq hd
     go_wp2_with (go_at_call 80; refine (HCC.out _).mono ?_; rintro e w1 ⟨rfl, rfl⟩)
     go_round
     case measure => simp [intOf]; omega
     case rel => exact ⟨i + 1, by omega, by go_num, hd2⟩
   ·obtain rfl : i = s.size := by omega
    have hlt' : ¬ ((s.size : Int) < (s.size : Int)) := by omega
    have he : Hid (curB s = true) := Lib.hid (by unfold curB; rw [decide_eq_true H3.out, allC_yes fun j h2 => hd.out j (by omega) h2]; rfl)
    go_wp2_with fail
    go_ret
    exact ⟨by rw [he.out]; rfl, rfl⟩
 ·have e3 : ((s.size : Int) != 3) = true := by simp; omega
  have he : Hid (curB s = false) := Lib.hid (by unfold curB; rw [decide_eq_false h3]; rfl)
  clear hc h3
  go_enter Tryz.func69, Tryz.ntmps69
  go_wp2_with fail
  go_ret
  exact ⟨by rw [he.out]; rfl, rfl⟩
theorem nam_or (b : UInt8) : namB b = (letB b || (digB b || decide ((b.toNat : Int) = 45))) := by
 unfold namB
 congr 2
 by_cases h : b.toNat = 45
 ·rw [decide_eq_true h, decide_eq_true (by omega)]
 ·rw [decide_eq_false h, decide_eq_false (by omega)]
theorem gnam_any (s : ByteArray) (w : World) : Calls Tryz.prog 108 #[.string s] w fun e w' => e = .returned (.bool (nameB s)) ∧ w = w' := by
 have hc := fun b w => glet_any b w
 have hg := fun b w => gdig_any b w
 by_cases h0 : s.size = 0
 ·have e0 : ((s.size : Int) == 0) = true := by rw [h0]; rfl
  have he := Lib.hid (nameB_nil h0)
  clear hc hg h0
  go_enter Tryz.func108, Tryz.ntmps108
  go_wp2_with fail
  go_ret
  exact ⟨by rw [he.out]; rfl, rfl⟩
 have e0 : ((s.size : Int) == 0) = false := beq_eq_false_iff_ne.2 (by omega)
 by_cases h16 : 16 < s.size
 ·have e1 : decide ((16 : Int) < (s.size : Int)) = true := decide_eq_true (by omega)
  have he := Lib.hid (nameB_long h16)
  clear hc hg h0 h16
  go_enter Tryz.func108, Tryz.ntmps108
  go_wp2_with fail
  go_ret
  exact ⟨by rw [he.out]; rfl, rfl⟩
 have e1 : decide ((16 : Int) < (s.size : Int)) = false := decide_eq_false (by omega)
 have h0' : 0 < s.size := by omega
 have h0z : (0 : Int) < (s.size : Int) := by omega
 obtain ⟨f, hf⟩ : ∃ f, s[0]'h0' = f := ⟨_, rfl⟩
 have hfb : ∀ h, s[0]'h = f := fun h => hf
 have hff := hc f
 cases hl : letB f
 ·have he := Lib.hid (nameB_fr h0' (by rw [hf]; exact hl))
  rw [hl] at hff
  have HFF := Lib.hid hff
  clear hc hg hff hl h0 h16 hf
  go_enter Tryz.func108, Tryz.ntmps108
  go_wp2_with (go_at_call 119; refine (HFF.out _).mono ?_; rintro e w1 ⟨rfl, rfl⟩)
  go_ret
  exact ⟨by rw [he.out]; rfl, rfl⟩
 rw [hl] at hff
 have HFF := Lib.hid hff
 have HF := Lib.hid (show letB (s[0]'h0') = true by rw [hf]; exact hl)
 have HC := Lib.hid hc
 have HG := Lib.hid hg
 have H16 := Lib.hid h16
 have HEnd := Lib.hid (fun ha => nameB_yes h0' (show s.size ≤ 16 by omega) HF.out ha)
 clear hc hg hff hl h0 h16 hf
 have hsz : s.size ≤ 1000 := by have := H16.out; omega
 go_enter Tryz.func108, Tryz.ntmps108
 go_wp2_with (go_at_call 119; refine (HFF.out _).mono ?_; rintro e w1 ⟨rfl, rfl⟩)
 clear hfb
 go_loop [20] (fun v => ∃ i : Nat, i ≤ s.size ∧ v = .int .i64 i ∧ Hid (∀ j, j < i → (h2 : j < s.size) → namB (s[j]'h2) = true)) (fun v => s.size - (intOf v).toNat)
 case atStart => exact ⟨0, by omega, rfl, fun j h => absurd h (by omega)⟩
 case round =>
  obtain ⟨i, hi, rfl, hd⟩ := hrel
  by_cases hlt : i < s.size
  ·have hlt' : (i : Int) < (s.size : Int) := by omega
   have hno := fun h => nameB_no (s := s) hlt h
   obtain ⟨b, hb⟩ : ∃ b, s[i]'hlt = b := ⟨_, rfl⟩
   have hcb : ∀ h, s[i]'h = b := fun h => hb
   have hnx : namB b = true → Hid (∀ j, j < i + 1 → (h2 : j < s.size) → namB (s[j]'h2) = true) := fun hq => Lib.hid fun j hj h2 => by
    rcases Nat.lt_or_ge j i with h4 | h4
    ·exact hd.out j h4 h2
    ·obtain rfl : j = i := by omega
     rw [hb]; exact hq
   rw [hb, nam_or] at hno
   rw [nam_or] at hnx
   have hcc := HC.out b
   have hgg := HG.out b
   clear hb
   generalize letB b = q1 at *
   generalize digB b = q2 at *
   obtain ⟨q3, hq3⟩ : ∃ q3, decide ((b.toNat : Int) = 45) = q3 := ⟨_, rfl⟩
   have e3 : ((b.toNat : Int) != 45) = !q3 := by rw [← hq3]; by_cases h : (b.toNat : Int) = 45 <;> simp [h]
   rw [hq3] at hno hnx
   have HCC := Lib.hid hcc
   have HGG := Lib.hid hgg
   clear hcc hgg hq3
   rcases (show q1 = true ∨ (q1 = false ∧ q2 = true) ∨ (q1 = false ∧ q2 = false ∧ q3 = true) ∨ (q1 = false ∧ q2 = false ∧ q3 = false) from by cases q1 <;> cases q2 <;> cases q3 <;> simp) with rfl | ⟨rfl, rfl⟩ | ⟨rfl, rfl, rfl⟩ | ⟨rfl, rfl, rfl⟩
   ·have hd2 := hnx rfl
    clear hno hnx hd
    go_wp2_with (go_at_call 119; refine (HCC.out _).mono ?_; rintro e w1 ⟨rfl, rfl⟩)
    go_round
    case measure => simp [intOf]; omega
    case rel => exact ⟨i + 1, by omega, by go_num, hd2⟩
   ·have hd2 := hnx rfl
    clear hno hnx hd
    go_wp2_with (first | (go_at_call 119; refine (HCC.out _).mono ?_; rintro e w1 ⟨rfl, rfl⟩) | (go_at_call 120; refine (HGG.out _).mono ?_; rintro e w1 ⟨rfl, rfl⟩))
    go_round
    case measure => simp [intOf]; omega
    case rel => exact ⟨i + 1, by omega, by go_num, hd2⟩
   ·have hd2 := hnx rfl
    clear hno hnx hd
    go_wp2_with (first | (go_at_call 119; refine (HCC.out _).mono ?_; rintro e w1 ⟨rfl, rfl⟩) | (go_at_call 120; refine (HGG.out _).mono ?_; rintro e w1 ⟨rfl, rfl⟩))
    go_round
    case measure => simp [intOf]; omega
    case rel => exact ⟨i + 1, by omega, by go_num, hd2⟩
   ·have he := Lib.hid (hno rfl)
    clear hno hnx hd
    go_wp2_with (first | (go_at_call 119; refine (HCC.out _).mono ?_; rintro e w1 ⟨rfl, rfl⟩) | (go_at_call 120; refine (HGG.out _).mono ?_; rintro e w1 ⟨rfl, rfl⟩))
    go_ret
    exact ⟨by rw [he.out]; rfl, rfl⟩
  ·obtain rfl : i = s.size := by omega
   have hlt' : ¬ ((s.size : Int) < (s.size : Int)) := by omega
   have he := Lib.hid (HEnd.out fun j h2 => hd.out j (by omega) h2)
   go_wp2_with fail
   go_ret
   exact ⟨by rw [he.out]; rfl, rfl⟩
theorem rcur_any (s : ByteArray) (w : World) (hs : s.size ≤ maxLen) : Calls Tryz.prog 45 #[.string s] w fun e w' => e = .returned (.bool (curB s)) ∧ w = w' := by
 have hs2 : s.size ≤ 9223372036854775807 := hs
 clear hs
 go_enter Tryz.func45, Tryz.ntmps45
 go_wp2_with fail
 go_loop [3] (fun v => ∃ i : Nat, i ≤ s.size ∧ v = .int .i64 i ∧ Hid (∀ j, j < i → (h2 : j < s.size) → capB (s[j]'h2) = true)) (fun v => s.size - (intOf v).toNat)
 case atStart => exact ⟨0, by omega, rfl, fun j h => absurd h (by omega)⟩
 case round =>
  obtain ⟨i, hi, rfl, hd⟩ := hrel
  by_cases hlt : i < s.size
  ·have hlt' : (i : Int) < (s.size : Int) := by omega
   have hno := fun h => curB_no (s := s) hlt h
   obtain ⟨b, hb⟩ : ∃ b, s[i]'hlt = b := ⟨_, rfl⟩
   have hcb : ∀ h, s[i]'h = b := fun h => hb
   have hnx : capB b = true → Hid (∀ j, j < i + 1 → (h2 : j < s.size) → capB (s[j]'h2) = true) := fun hq => Lib.hid fun j hj h2 => by
    rcases Nat.lt_or_ge j i with h4 | h4
    ·exact hd.out j h4 h2
    ·obtain rfl : j = i := by omega
     rw [hb]; exact hq
   rw [hb] at hno
   have hv : capB b = (decide (65 ≤ b.toNat) && decide (b.toNat ≤ 90)) := rfl
   clear hb
   rcases Nat.lt_or_ge b.toNat 65 with h1 | h1
   ·have e1 : decide ((b.toNat : Int) < 65) = true := decide_eq_true (by omega)
    have he := Lib.hid (hno (by rw [hv, decide_eq_false (show ¬ 65 ≤ b.toNat by omega)]; rfl))
    clear hno hnx hv hd h1
    go_wp2_with fail
    go_ret
    exact ⟨by rw [he.out]; rfl, rfl⟩
   have e1 : decide ((b.toNat : Int) < 65) = false := decide_eq_false (by omega)
   rcases Nat.lt_or_ge 90 b.toNat with h2 | h2
   ·have e2 : decide ((90 : Int) < (b.toNat : Int)) = true := decide_eq_true (by omega)
    have he := Lib.hid (hno (by rw [hv, decide_eq_false (show ¬ b.toNat ≤ 90 by omega)]; simp))
    clear hno hnx hv hd h1 h2
    go_wp2_with fail
    go_ret
    exact ⟨by rw [he.out]; rfl, rfl⟩
   ·have e2 : decide ((90 : Int) < (b.toNat : Int)) = false := decide_eq_false (by omega)
    have hd2 := hnx (by rw [hv, decide_eq_true h1, decide_eq_true h2]; rfl)
    clear hno hnx hv hd h1 h2
    go_wp2_with fail
    go_round
    case measure => simp [intOf]; omega
    case rel => exact ⟨i + 1, by omega, by go_num, hd2⟩
  ·obtain rfl : i = s.size := by omega
   have hlt' : ¬ ((s.size : Int) < (s.size : Int)) := by omega
   have he : Hid (curB s = ((s.size : Int) == 3)) := Lib.hid (by
    unfold curB; rw [allC_yes fun j h2 => hd.out j (by omega) h2]
    by_cases h : s.size = 3
    ·rw [h]; rfl
    ·rw [decide_eq_false h]; symm; simp; omega)
   go_wp2_with fail
   go_ret
   exact ⟨by rw [he.out]; rfl, rfl⟩
set_option maxRecDepth 20000 in
theorem rnam_any (s : ByteArray) (w : World) (hs : s.size ≤ maxLen) : Calls Tryz.prog 50 #[.string s] w fun e w' => e = .returned (.bool (nameB s)) ∧ w = w' := by
 have hs2 : s.size ≤ 9223372036854775807 := hs
 have hc := fun b w => rlet_any b w
 have HC := Lib.hid hc
 clear hs hc
 go_enter Tryz.func50, Tryz.ntmps50
 go_wp2_with fail
 go_loop [3] (fun v => ∃ i : Nat, i ≤ s.size ∧ v = .int .i64 i ∧ Hid ((∀ j, j < i → (h2 : j < s.size) → namB (s[j]'h2) = true) ∧ ((h : 0 < s.size) → 0 < i → letB (s[0]'h) = true))) (fun v => s.size - (intOf v).toNat)
 case atStart => exact ⟨0, by omega, rfl, ⟨fun j h => absurd h (by omega), fun _ h => absurd h (by omega)⟩⟩
 case round =>
  obtain ⟨i, hi, rfl, hd⟩ := hrel
  by_cases hlt : i < s.size
  ·have hlt' : (i : Int) < (s.size : Int) := by omega
   have hno := fun h => nameB_no (s := s) hlt h
   have hs0 : 0 < s.size := by omega
   have hno0 := fun h => nameB_fr (s := s) hs0 h
   obtain ⟨b, hb⟩ : ∃ b, s[i]'hlt = b := ⟨_, rfl⟩
   have hcb : ∀ h, s[i]'h = b := fun h => hb
   have hnx : namB b = true → (i = 0 → letB b = true) → Hid ((∀ j, j < i + 1 → (h2 : j < s.size) → namB (s[j]'h2) = true) ∧ ((h : 0 < s.size) → 0 < i + 1 → letB (s[0]'h) = true)) := fun hq hq0 => Lib.hid ⟨fun j hj h2 => by
    rcases Nat.lt_or_ge j i with h4 | h4
    ·exact hd.out.1 j h4 h2
    ·obtain rfl : j = i := by omega
     rw [hb]; exact hq, fun h _ => by
    rcases Nat.eq_zero_or_pos i with h4 | h4
    ·subst h4
     rw [hb]; exact hq0 rfl
    ·exact hd.out.2 h h4⟩
   have hno1 : i = 0 → letB b = false → nameB s = false := fun h1 h2 => by subst h1; exact hno0 (by rw [hb]; exact h2)
   rw [hb, nam_or] at hno
   rw [nam_or] at hnx
   have hcc := HC.out b
   have hdg : digB b = (decide (48 ≤ b.toNat) && decide (b.toNat ≤ 57)) := rfl
   clear hb hno0 hs0
   generalize letB b = q1 at *
   generalize digB b = q2 at *
   obtain ⟨q3, hq3⟩ : ∃ q3, decide ((b.toNat : Int) = 45) = q3 := ⟨_, rfl⟩
   have e3 : ((b.toNat : Int) != 45) = !q3 := by rw [← hq3]; by_cases h : (b.toNat : Int) = 45 <;> simp [h]
   rw [hq3] at hno hnx
   have HCC := Lib.hid hcc
   clear hcc hq3
   cases q1
   case true =>
    have hd2 := hnx rfl (fun _ => rfl)
    clear hno hnx hd hno1 hdg
    go_wp2_with (go_at_call 64; refine (HCC.out _).mono ?_; rintro e w1 ⟨rfl, rfl⟩)
    go_round
    case measure => simp [intOf]; omega
    case rel => exact ⟨i + 1, by omega, by go_num, hd2⟩
   by_cases hi0 : i = 0
   ·have he := Lib.hid (hno1 hi0 rfl)
    have ei : ((i : Int) == 0) = true := by simp; omega
    clear hno hnx hd hno1 hdg hi0
    go_wp2_with (go_at_call 64; refine (HCC.out _).mono ?_; rintro e w1 ⟨rfl, rfl⟩)
    go_ret
    exact ⟨by rw [he.out]; rfl, rfl⟩
   have ei : ((i : Int) == 0) = false := by simp; omega
   have hnx2 := fun h => hnx h (fun h0 => absurd h0 hi0)
   clear hi0 hno1 hnx
   cases q3
   case true =>
    have hd2 := hnx2 (by cases q2 <;> rfl)
    clear hno hnx2 hd hdg
    go_wp2_with (go_at_call 64; refine (HCC.out _).mono ?_; rintro e w1 ⟨rfl, rfl⟩)
    go_round
    case measure => simp [intOf]; omega
    case rel => exact ⟨i + 1, by omega, by go_num, hd2⟩
   rcases Nat.lt_or_ge b.toNat 48 with h1 | h1
   ·have e1 : decide ((b.toNat : Int) < 48) = true := decide_eq_true (by omega)
    have he := Lib.hid (hno (by rw [hdg, decide_eq_false (show ¬ 48 ≤ b.toNat by omega)]; rfl))
    clear hno hnx2 hdg hd h1
    go_wp2_with (go_at_call 64; refine (HCC.out _).mono ?_; rintro e w1 ⟨rfl, rfl⟩)
    go_ret
    exact ⟨by rw [he.out]; rfl, rfl⟩
   have e1 : decide ((b.toNat : Int) < 48) = false := decide_eq_false (by omega)
   rcases Nat.lt_or_ge 57 b.toNat with h2 | h2
   ·have e2 : decide ((57 : Int) < (b.toNat : Int)) = true := decide_eq_true (by omega)
    have he := Lib.hid (hno (by rw [hdg, decide_eq_false (show ¬ b.toNat ≤ 57 by omega)]; simp))
    clear hno hnx2 hdg hd h1 h2
    go_wp2_with (go_at_call 64; refine (HCC.out _).mono ?_; rintro e w1 ⟨rfl, rfl⟩)
    go_ret
    exact ⟨by rw [he.out]; rfl, rfl⟩
   ·have e2 : decide ((57 : Int) < (b.toNat : Int)) = false := decide_eq_false (by omega)
    have hd2 := hnx2 (by rw [hdg, decide_eq_true h1, decide_eq_true h2]; rfl)
    clear hno hnx2 hdg hd h1 h2
    go_wp2_with (go_at_call 64; refine (HCC.out _).mono ?_; rintro e w1 ⟨rfl, rfl⟩)
    go_round
    case measure => simp [intOf]; omega
    case rel => exact ⟨i + 1, by omega, by go_num, hd2⟩
  ·obtain rfl : i = s.size := by omega
   have hlt' : ¬ ((s.size : Int) < (s.size : Int)) := by omega
   have hv : nameB s = (decide (s.size ≤ 16) && (frsB s && allC namB s)) := rfl
   rw [allC_yes fun j h2 => hd.out.1 j (by omega) h2] at hv
   have hf : 0 < s.size → frsB s = true := fun h => by unfold frsB; rw [dif_pos h]; exact hd.out.2 h h
   have hf0 : ¬ 0 < s.size → frsB s = false := fun h => by unfold frsB; rw [dif_neg h]
   clear hd
   by_cases h0 : 0 < s.size
   ·rw [hf h0] at hv
    have e1 : decide ((1 : Int) ≤ (s.size : Int)) = true := decide_eq_true (by omega)
    have he : Hid (nameB s = decide ((s.size : Int) ≤ 16)) := Lib.hid (by rw [hv]; by_cases h : s.size ≤ 16 <;> simp [h] <;> omega)
    clear hv hf hf0 h0
    go_wp2_with fail
    go_ret
    exact ⟨by rw [he.out]; rfl, rfl⟩
   ·rw [hf0 h0] at hv
    have e1 : decide ((1 : Int) ≤ (s.size : Int)) = false := decide_eq_false (by omega)
    have he : Hid (nameB s = false) := Lib.hid (by rw [hv]; simp)
    clear hv hf hf0 h0
    go_wp2_with fail
    go_ret
    exact ⟨by rw [he.out]; rfl, rfl⟩
theorem mvB_no1 {L : List Acc} {K : List Lnk} {c : List Acc} (h : vB c true = false) : mvB L K c = false := by unfold mvB; rw [h]; rfl
theorem mvB_no2 {L : List Acc} {K : List Lnk} {c : List Acc} (h : vB L false = false) : mvB L K c = false := by unfold mvB; rw [h]; simp
theorem mvB_no3 {L : List Acc} {K : List Lnk} {c : List Acc} (h : 400 < K.length) : mvB L K c = false := by unfold mvB; rw [decide_eq_false (show ¬ K.length ≤ 400 by omega)]; simp
theorem mvB_no4 {L : List Acc} {K : List Lnk} {c : List Acc} {k : Nat} (hk : k < K.length) (h : lnkB L c (K.getD k lnk0) = false) : mvB L K c = false := by
 unfold mvB; rw [allTo_no (p := fun i => lnkB L c (K.getD i lnk0)) hk h]; simp
theorem mvB_end {L : List Acc} {K : List Lnk} {c : List Acc} (h1 : vB c true = true) (h2 : vB L false = true) (h3 : K.length ≤ 400) (h4 : allTo (fun i => lnkB L c (K.getD i lnk0)) K.length = true) : mvB L K c = allTo (dfB K) K.length := by
 unfold mvB; rw [h1, h2, decide_eq_true h3, h4]; rfl
set_option maxRecDepth 20000 in
set_option maxHeartbeats 3200000 in
theorem cval9_any (nm cur : ByteArray) (A : Option Addr) (cp : Nat) (L : List Acc) (B : Option Addr) (d : Nat) (K : List Lnk) (jt : Bool) (C : Option Addr) (cc : Nat) (c : List Acc) (w : World) (hz : AccAt w A L) (hy : LnkAt w B K) (hx : AccAt w C c) (hl : L.length ≤ 1000) (hm : K.length ≤ 1000) (hc : c.length ≤ 1000) (hw : ∀ l ∈ K, WfL l) :
  Calls Tryz.prog 109 #[entV nm cur A L.length cp B K.length d jt, .slice C c.length cc] w fun e w' => e = .returned (.bool (mvB L K c)) ∧ Below w.heap.size w w' := by
 have hn := eb_new w 53 nm cur A L.length cp B K.length d jt
 have hB := below_alloc_new (w := w) (.cells #[.string nm, .string cur, .slice A L.length cp, .slice B K.length d, .bool jt] 53)
 have HEB := Lib.hid hn
 have HZ := Lib.hid (hz.up hB)
 have HY := Lib.hid (hy.up hB)
 have HX := Lib.hid (hx.up hB)
 have h1 := fun w h => cvalid8_any C cc c true w h hc
 have h2 := fun w h => cvalid8_any A cp L false w h hl
 have h3 := fun l w h h' => clnk_any l A C cp cc L c w h h' hl hc
 have h4 := fun w h => cdist_any B d K w h hm hw
 have N1 := mvB_no1 (L := L) (K := K) (c := c)
 have N2 := mvB_no2 (L := L) (K := K) (c := c)
 have N3 := mvB_no3 (L := L) (K := K) (c := c)
 have N4 := fun k => mvB_no4 (L := L) (K := K) (c := c) (k := k)
 have NE := mvB_end (L := L) (K := K) (c := c)
 obtain ⟨r, hr⟩ : ∃ r, mvB L K c = r := ⟨_, rfl⟩
 rw [hr] at N1 N2 N3 NE ⊢
 simp only [hr] at N4
 obtain ⟨P, hP⟩ : ∃ P : Nat → Bool, (fun i => lnkB L c (K.getD i lnk0)) = P := ⟨_, rfl⟩
 have hPk : ∀ k, lnkB L c (K.getD k lnk0) = P k := fun k => by rw [← hP]
 rw [hP] at NE
 simp only [hPk] at N4
 obtain ⟨q, hq⟩ : ∃ q, allTo (dfB K) K.length = q := ⟨_, rfl⟩
 rw [hq] at h4 NE
 obtain ⟨b1, hb1⟩ : ∃ b, vB c true = b := ⟨_, rfl⟩
 rw [hb1] at h1 N1 NE
 obtain ⟨b2, hb2⟩ : ∃ b, vB L false = b := ⟨_, rfl⟩
 rw [hb2] at h2 N2 NE
 obtain ⟨n, hn2⟩ : ∃ n, L.length = n := ⟨_, rfl⟩
 obtain ⟨k0, hk0⟩ : ∃ k0, c.length = k0 := ⟨_, rfl⟩
 obtain ⟨m, hm2⟩ : ∃ m, K.length = m := ⟨_, rfl⟩
 obtain ⟨s0, hs0⟩ : ∃ s0, w.heap.size = s0 := ⟨_, rfl⟩
 rw [hn2, hm2] at HEB HZ HY HX hB
 rw [hn2] at h2 h3
 rw [hk0] at h1 h3
 rw [hm2] at h4 N3 N4 NE hm
 rw [hn2, hm2, hk0]
 have HN1 := Lib.hid N1
 have HN2 := Lib.hid N2
 have HN3 := Lib.hid N3
 have HN4 := Lib.hid N4
 have HNE := Lib.hid NE
 have HP := Lib.hid hPk
 have HM := Lib.hid hm2
 have H1 := Lib.hid h1
 have H2 := Lib.hid h2
 have H3 := Lib.hid h3
 have H4 := Lib.hid h4
 have HS0 := Lib.hid hs0
 have HE0 := HEB
 rw [hs0] at hB HEB
 obtain ⟨c0, c1, c2, c3, c4, lt⟩ := HE0.out
 clear hn hz hy hx h1 h2 h3 h4 N1 N2 N3 N4 NE hr hP hPk hq hb1 hb2 hn2 hk0 hm2 hs0 hw hl hc HE0
 cases b1
 ·have HR := Lib.hid (HN1.out rfl)
  clear HN1 HN2 HN3 HN4 HNE
  go_enter Tryz.func109, Tryz.ntmps109
  go_wp2_with (go_at_call 84; first
   | ((with_reducible refine (H1.out _ HX.out).mono ?_); rintro e w1 ⟨rfl, hb⟩; replace hB := hB.trans (hb.mono (by have := hB.size; have := HS0.out; omega)); clear hb))
  go_ret
  exact ⟨by rw [HR.out]; rfl, by rw [HS0.out]; exact hB⟩
 have hv1 : ∀ (w1 : World), Below (w.alloc (.cells #[.string nm, .string cur, .slice A n cp, .slice B m d, .bool jt] 53)).heap.size (w.alloc (.cells #[.string nm, .string cur, .slice A n cp, .slice B m d, .bool jt] 53)) w1 → Hid (EB w1 s0 nm cur A n cp B m d jt) ∧ Hid (AccAt w1 A L) ∧ Hid (LnkAt w1 B K) ∧ Hid (AccAt w1 C c) ∧ Below s0 w w1 := fun w1 hb =>
  ⟨Lib.hid (HEB.out.up hb), Lib.hid (HZ.out.up hb), Lib.hid (HY.out.up hb), Lib.hid (HX.out.up hb), hB.trans (hb.mono (by have := hB.size; have := HS0.out; omega))⟩
 have HV1 := Lib.hid hv1
 clear hv1
 cases b2
 ·have HR := Lib.hid (HN2.out rfl)
  clear HN1 HN2 HN3 HN4 HNE
  go_enter Tryz.func109, Tryz.ntmps109
  go_wp2_with (go_at_call 84; first
   | ((with_reducible refine (H1.out _ HX.out).mono ?_); rintro e w1 ⟨rfl, hb⟩; obtain ⟨HEB, HZ, HY, HX, hB⟩ := HV1.out w1 hb; clear hb HV1 c0 c1 c2 c3 c4 lt; obtain ⟨c0, c1, c2, c3, c4, lt⟩ := HEB.out; rw [← HS0.out] at c0 c1 c2 c3 c4 lt)
   | ((with_reducible refine (H2.out _ HZ.out).mono ?_); rintro e w2 ⟨rfl, hb⟩; replace hB := hB.trans (hb.mono (by have := hB.size; have := HS0.out; omega)); clear hb))
  go_ret
  exact ⟨by rw [HR.out]; rfl, by rw [HS0.out]; exact hB⟩
 rcases Nat.lt_or_ge 400 m with hm4 | hm4
 ·have HR := Lib.hid (HN3.out hm4)
  have e4 : decide ((400 : Int) < (m : Int)) = true := decide_eq_true (by omega)
  clear HN1 HN2 HN3 HN4 HNE hm4
  go_enter Tryz.func109, Tryz.ntmps109
  go_wp2_with (go_at_call 84; first
   | ((with_reducible refine (H1.out _ HX.out).mono ?_); rintro e w1 ⟨rfl, hb⟩; obtain ⟨HEB, HZ, HY, HX, hB⟩ := HV1.out w1 hb; clear hb HV1 c0 c1 c2 c3 c4 lt; obtain ⟨c0, c1, c2, c3, c4, lt⟩ := HEB.out; rw [← HS0.out] at c0 c1 c2 c3 c4 lt)
   | ((with_reducible refine (H2.out _ HZ.out).mono ?_); rintro e w2 ⟨rfl, hb⟩; replace HEB := Lib.hid (HEB.out.up hb); replace hB := hB.trans (hb.mono (by have := hB.size; have := HS0.out; omega)); clear hb c0 c1 c2 c3 c4 lt; obtain ⟨c0, c1, c2, c3, c4, lt⟩ := HEB.out; rw [← HS0.out] at c0 c1 c2 c3 c4 lt))
  go_ret
  exact ⟨by rw [HR.out]; rfl, by rw [HS0.out]; exact hB⟩
 have e4 : decide ((400 : Int) < (m : Int)) = false := decide_eq_false (by omega)
 have HNE2 := Lib.hid (HNE.out rfl rfl hm4)
 clear HN1 HN2 HN3 HNE hm4
 go_enter Tryz.func109, Tryz.ntmps109
 go_wp2_with (go_at_call 84; first
  | ((with_reducible refine (H1.out _ HX.out).mono ?_); rintro e w1 ⟨rfl, hb⟩; obtain ⟨HEB, HZ, HY, HX, hB⟩ := HV1.out w1 hb; clear hb HV1 c0 c1 c2 c3 c4 lt; obtain ⟨c0, c1, c2, c3, c4, lt⟩ := HEB.out; rw [← HS0.out] at c0 c1 c2 c3 c4 lt)
  | ((with_reducible refine (H2.out _ HZ.out).mono ?_); rintro e w2 ⟨rfl, hb⟩; replace HEB := Lib.hid (HEB.out.up hb); replace HZ := Lib.hid (HZ.out.up hb); replace HY := Lib.hid (HY.out.up hb); replace HX := Lib.hid (HX.out.up hb); replace hB := hB.trans (hb.mono (by have := hB.size; have := HS0.out; omega)); clear hb c0 c1 c2 c3 c4 lt; obtain ⟨c0, c1, c2, c3, c4, lt⟩ := HEB.out; rw [← HS0.out] at c0 c1 c2 c3 c4 lt))
 clear c0 c1 c2 c3 c4 lt
 go_loopg [25] m (fun kx s25 wr => ∃ k : Nat, s25 = .int .i64 k ∧ k ≤ m ∧ m - k ≤ kx ∧ Hid (allTo P k = true) ∧ Hid (EB wr s0 nm cur A n cp B m d jt) ∧ Hid (AccAt wr A L) ∧ Hid (LnkAt wr B K) ∧ Hid (AccAt wr C c) ∧ Below s0 w wr)
 case atStart => exact ⟨0, rfl, by omega, by omega, Lib.hid rfl, HEB, HZ, HY, HX, hB⟩
 case round =>
  clear HEB HZ HY HX hB
  clear HEB HZ HY HX hB
  obtain ⟨k, rfl, hk, hkx, HA, HEB, HZ, HY, HX, hB⟩ := hrel
  have hsz : s0 ≤ wr.heap.size := by have := hB.size; have := HS0.out; omega
  by_cases hlt : k < m
  ·have hltz : (k : Int) < (m : Int) := by omega
   obtain ⟨b, off, rfl, hbw, hcs⟩ := HY.out (by rw [HM.out]; omega)
   obtain ⟨d0, d1, d2⟩ := hcs k (by rw [HM.out]; exact hlt)
   have hpk := HP.out k
   obtain ⟨x, hx⟩ : ∃ x, K.getD k lnk0 = x := ⟨_, rfl⟩
   rw [hx] at d0 d1 d2 hpk
   have hno := HN4.out k hlt
   have h3 := H3.out x
   rw [hpk] at h3
   have hW := below_alloc_new (w := wr) (.cells #[.int .i64 x.frm, .int .i64 x.tgt, .int .i64 x.since] 104)
   have HEB1 := Lib.hid (HEB.out.up hW)
   have HZ1 := Lib.hid (HZ.out.up hW)
   have HY1 := Lib.hid (HY.out.up hW)
   have HX1 := Lib.hid (HX.out.up hW)
   have hB1 : Below s0 w (wr.alloc (.cells #[.int .i64 x.frm, .int .i64 x.tgt, .int .i64 x.since] 104)) := hB.alloc hsz _
   have hs1 : s0 ≤ (wr.alloc (.cells #[.int .i64 x.frm, .int .i64 x.tgt, .int .i64 x.since] 104)).heap.size := by simp; omega
   obtain ⟨⟨v0, v1, v2⟩, vlt⟩ := lb_new wr 104 x
   simp only [Nat.zero_add] at v1 v2
   obtain ⟨c0, c1, c2, c3, c4, lt⟩ := HEB1.out
   rw [← HS0.out] at c0 c1 c2 c3 c4 lt
   have HS1 := Lib.hid hs1
   cases hpq : P k
   ·rw [hpq] at h3
    have HR := Lib.hid (hno hpq)
    have H3x := Lib.hid h3
    clear hpk hno h3 hpq hx hcs hW hs1
    go_wp2_with (go_at_call 121; (with_reducible refine (H3x.out _ HZ1.out HX1.out).mono ?_); rintro e w3 ⟨rfl, hb⟩; replace hB := hB1.trans (hb.mono HS1.out); clear hb)
    go_ret
    exact ⟨by rw [HR.out]; rfl, by rw [HS0.out]; exact hB⟩
   ·rw [hpq] at h3
    have HA2 : Hid (allTo P (k + 1) = true) := Lib.hid (by show (allTo P k && P k) = true; rw [HA.out, hpq]; rfl)
    have H3x := Lib.hid h3
    clear hpk hno h3 hpq hx hcs hW hs1
    go_wp2_with (go_at_call 121; (with_reducible refine (H3x.out _ HZ1.out HX1.out).mono ?_); rintro e w3 ⟨rfl, hb⟩; replace hB := hB1.trans (hb.mono HS1.out); replace HEB := Lib.hid (HEB1.out.up hb); replace HZ := Lib.hid (HZ1.out.up hb); replace HY := Lib.hid (HY1.out.up hb); replace HX := Lib.hid (HX1.out.up hb); clear hb)
    go_roundg (m - (k + 1))
    case measure => omega
    case rel => exact ⟨k + 1, by go_num, by omega, by omega, HA2, HEB, HZ, HY, HX, hB⟩
  ·obtain rfl : k = m := by omega
   have hltz : ¬ (k : Int) < (k : Int) := by omega
   have HR := Lib.hid (HNE2.out HA.out)
   obtain ⟨c0, c1, c2, c3, c4, lt⟩ := HEB.out
   rw [← HS0.out] at c0 c1 c2 c3 c4 lt
   go_wp2_with (go_at_call 122; (with_reducible refine (H4.out _ HY.out).mono ?_); rintro e w3 ⟨rfl, hb⟩; replace hB := hB.trans (hb.mono hsz); clear hb)
   go_ret
   exact ⟨by rw [HR.out]; rfl, by rw [HS0.out]; exact hB⟩
def enpB (L : List Acc) (R : List Int) (e : Ent) : Bool := nameB e.nm && (curB e.cur && (mvB e.L e.K L && allTo (fun i => opnP R (e.K.getD i lnk0).tgt) e.K.length))
set_option maxRecDepth 20000 in
set_option maxHeartbeats 3200000 in
theorem gent_any (g : Grp) (L : List Acc) (e : Ent) (w : World) (hz : AccAt w g.A L) (ln : L.length = g.n) (hl : g.n ≤ 1000) (he : EntK w e.A e.n e.L e.B e.m e.K) (hn : e.n ≤ 1000) (hm : e.m ≤ 1000) :
  Calls Tryz.prog 87 #[grpV g, eV e] w fun e' w' => e' = .returned (.bool (enpB L g.R e)) ∧ Below w.heap.size w w' := by
 have hB1 := below_alloc_new (w := w) (.cells #[.string g.cur, .int .i64 g.cy, .int .i64 g.cm, .int .i64 g.cp, .slice g.A g.n g.c, .int .i64 g.r0, .int .i64 g.r1, .int .i64 g.r2, .int .i64 g.r3, .int .i64 g.r4, .int .i64 g.r5, .int .i64 g.r6, .int .i64 g.r7, .int .i64 g.r8, .int .i64 g.r9, .int .i64 g.r10, .int .i64 g.r11, .int .i64 g.r12, .int .i64 g.r13, .int .i64 g.r14, .slice g.E g.m g.d] 29)
 have hB := below_new hB1 (.cells #[.string e.nm, .string e.cur, .slice e.A e.n e.c, .slice e.B e.m e.d, .bool e.jt] 53)
 have hG := (gb_new w 29 g).up (below_alloc_new (.cells #[.string e.nm, .string e.cur, .slice e.A e.n e.c, .slice e.B e.m e.d, .bool e.jt] 53))
 have hE := eb_new (w.alloc (.cells #[.string g.cur, .int .i64 g.cy, .int .i64 g.cm, .int .i64 g.cp, .slice g.A g.n g.c, .int .i64 g.r0, .int .i64 g.r1, .int .i64 g.r2, .int .i64 g.r3, .int .i64 g.r4, .int .i64 g.r5, .int .i64 g.r6, .int .i64 g.r7, .int .i64 g.r8, .int .i64 g.r9, .int .i64 g.r10, .int .i64 g.r11, .int .i64 g.r12, .int .i64 g.r13, .int .i64 g.r14, .slice g.E g.m g.d] 29)) 53 e.nm e.cur e.A e.n e.c e.B e.m e.d e.jt
 have e1 : (w.alloc (.cells #[.string g.cur, .int .i64 g.cy, .int .i64 g.cm, .int .i64 g.cp, .slice g.A g.n g.c, .int .i64 g.r0, .int .i64 g.r1, .int .i64 g.r2, .int .i64 g.r3, .int .i64 g.r4, .int .i64 g.r5, .int .i64 g.r6, .int .i64 g.r7, .int .i64 g.r8, .int .i64 g.r9, .int .i64 g.r10, .int .i64 g.r11, .int .i64 g.r12, .int .i64 g.r13, .int .i64 g.r14, .slice g.E g.m g.d] 29)).heap.size = w.heap.size + 1 := by simp
 rw [e1] at hE
 have h1 := fun w => gnam_any e.nm w
 have h2 := fun w => gcur_any e.cur w
 have h3 : ∀ w, EntK w e.A e.n e.L e.B e.m e.K → AccAt w g.A L → Calls Tryz.prog 109 #[eV e, .slice g.A g.n g.c] w fun e' w' => e' = .returned (.bool (mvB e.L e.K L)) ∧ Below w.heap.size w w' := fun w h h' => by
  have h9 := cval9_any e.nm e.cur e.A e.c e.L e.B e.d e.K e.jt g.A g.c L w h.hz h.hy h' (by have := h.ln; omega) (by have := h.lm; omega) (by omega) h.wl
  rw [h.ln, h.lm, ln] at h9
  exact h9
 have h4 := fun x w => gopen_any g x w
 have hv : enpB L g.R e = (nameB e.nm && (curB e.cur && (mvB e.L e.K L && allTo (fun i => opnP g.R (e.K.getD i lnk0).tgt) e.K.length))) := rfl
 rw [he.lm] at hv
 obtain ⟨X, hX⟩ : ∃ X : Value, X = grpV g := ⟨_, rfl⟩
 rw [← hX] at h4
 generalize enpB L g.R e = r at *
 generalize nameB e.nm = q1 at *
 generalize curB e.cur = q2 at *
 generalize mvB e.L e.K L = q3 at *
 obtain ⟨s0, hs0⟩ : ∃ s0, w.heap.size = s0 := ⟨_, rfl⟩
 have hs1 : s0 ≤ ((w.alloc (.cells #[.string g.cur, .int .i64 g.cy, .int .i64 g.cm, .int .i64 g.cp, .slice g.A g.n g.c, .int .i64 g.r0, .int .i64 g.r1, .int .i64 g.r2, .int .i64 g.r3, .int .i64 g.r4, .int .i64 g.r5, .int .i64 g.r6, .int .i64 g.r7, .int .i64 g.r8, .int .i64 g.r9, .int .i64 g.r10, .int .i64 g.r11, .int .i64 g.r12, .int .i64 g.r13, .int .i64 g.r14, .slice g.E g.m g.d] 29)).alloc (.cells #[.string e.nm, .string e.cur, .slice e.A e.n e.c, .slice e.B e.m e.d, .bool e.jt] 53)).heap.size := by simp; omega
 have hek : EntK ((w.alloc (.cells #[.string g.cur, .int .i64 g.cy, .int .i64 g.cm, .int .i64 g.cp, .slice g.A g.n g.c, .int .i64 g.r0, .int .i64 g.r1, .int .i64 g.r2, .int .i64 g.r3, .int .i64 g.r4, .int .i64 g.r5, .int .i64 g.r6, .int .i64 g.r7, .int .i64 g.r8, .int .i64 g.r9, .int .i64 g.r10, .int .i64 g.r11, .int .i64 g.r12, .int .i64 g.r13, .int .i64 g.r14, .slice g.E g.m g.d] 29)).alloc (.cells #[.string e.nm, .string e.cur, .slice e.A e.n e.c, .slice e.B e.m e.d, .bool e.jt] 53)) e.A e.n e.L e.B e.m e.K := he.up hB
 have hz2 := hz.up hB
 rw [hs0] at hB hG hE ⊢
 have HS0 := Lib.hid hs0
 have HG := Lib.hid hG
 have HX := Lib.hid hX
 have HNM := Lib.hid h1
 have HCU := Lib.hid h2
 have HMV := Lib.hid h3
 have HOP := Lib.hid h4
 have HS1 := Lib.hid hs1
 have HEK := Lib.hid hek
 have HZ := Lib.hid hz2
 have HY := Lib.hid he.hy
 have HLM := Lib.hid he.lm
 have HV := Lib.hid hv
 have d4 := hG.c4
 obtain ⟨c0, c1, c2, c3, c4, lt⟩ := hE
 clear hz hz2 ln hl he hn hB1 hG e1 h1 h2 h3 h4 hv hX hs1 hek
 cases q1
 ·have HR := Lib.hid (show r = false from HV.out)
  clear HV
  go_enter Tryz.func87, Tryz.ntmps87
  go_wp2_with (first | (go_at_call 108; refine (HNM.out _).mono ?_; rintro e1 w1 ⟨rfl, rfl⟩))
  go_ret
  exact ⟨by rw [HR.out]; rfl, hB⟩
 cases q2
 ·have HR := Lib.hid (show r = false from HV.out)
  clear HV
  go_enter Tryz.func87, Tryz.ntmps87
  go_wp2_with (first | (go_at_call 108; refine (HNM.out _).mono ?_; rintro e1 w1 ⟨rfl, rfl⟩) | (go_at_call 69; refine (HCU.out _).mono ?_; rintro e1 w1 ⟨rfl, rfl⟩))
  go_ret
  exact ⟨by rw [HR.out]; rfl, hB⟩
 have c3' := c3
 have lt2 := lt
 cases q3
 ·have HR := Lib.hid (show r = false from HV.out)
  clear HV
  go_enter Tryz.func87, Tryz.ntmps87
  go_wp2_with (first | (go_at_call 108; refine (HNM.out _).mono ?_; rintro e1 w1 ⟨rfl, rfl⟩) | (go_at_call 69; refine (HCU.out _).mono ?_; rintro e1 w1 ⟨rfl, rfl⟩) | (go_at_call 109; (with_reducible refine (HMV.out _ HEK.out HZ.out).mono ?_); rintro e1 w1 ⟨rfl, hb⟩; have hB2 := hB.trans (hb.mono HS1.out); have HG2 := Lib.hid (HG.out.up hb); clear hb hB HG c0 c1 c2 c3 c4 lt d4))
  go_ret
  exact ⟨by rw [HR.out]; rfl, hB2⟩
 have HE := Lib.hid (EB.mk c0 c1 c2 c3 c4 lt)
 obtain ⟨P, hP⟩ : ∃ P : Nat → Bool, (fun i => opnP g.R (e.K.getD i lnk0).tgt) = P := ⟨_, rfl⟩
 have hv2 := HV.out
 rw [hP] at hv2
 have HV2 := Lib.hid (show r = allTo P e.m from hv2)
 have HP := Lib.hid (fun i => show opnP g.R (e.K.getD i lnk0).tgt = P i from by rw [← hP])
 clear HV hP hv2 c3' lt2
 go_enter Tryz.func87, Tryz.ntmps87
 go_wp2_with (first | (go_at_call 108; refine (HNM.out _).mono ?_; rintro e1 w1 ⟨rfl, rfl⟩) | (go_at_call 69; refine (HCU.out _).mono ?_; rintro e1 w1 ⟨rfl, rfl⟩) | (go_at_call 109; (with_reducible refine (HMV.out _ HEK.out HZ.out).mono ?_); rintro e1 w1 ⟨rfl, hb⟩; have hB2 := hB.trans (hb.mono HS1.out); have HG2 := Lib.hid (HG.out.up hb); have HE2 := HE.out.up hb; clear hb hB HG HE c0 c1 c2 c3 c4 lt d4; obtain ⟨c0, c1, c2, c3, c4, lt⟩ := HE2))
 clear hs0 HNM HCU HMV HEK HZ HS1 c0 c1 c2 c3 c4 lt
 obtain ⟨n, hn2⟩ : ∃ n, e.m = n := ⟨_, rfl⟩
 obtain ⟨B, hB9⟩ : ∃ B, e.B = B := ⟨_, rfl⟩
 rw [hn2] at hm HLM HV2 ⊢
 rw [hB9] at HY ⊢
 clear hn2 hB9
 go_loopg [27] n (fun kx s27 wr => ∃ k : Nat, s27 = .int .i64 k ∧ k ≤ n ∧ n - k ≤ kx ∧ Hid (allTo P k = true) ∧ Hid (GB wr s0 g) ∧ Below s0 w wr)
 case atStart => exact ⟨0, rfl, by omega, by omega, Lib.hid rfl, HG2, hB2⟩
 case round =>
  clear hB2 HG2
  obtain ⟨k, rfl, hk, hkx, HA, HG, hB⟩ := hrel
  by_cases hlt : k < n
  ·have hltz : (k : Int) < (n : Int) := by omega
   have hsz : s0 ≤ wr.heap.size := by have := HG.out.lt; omega
   obtain ⟨b, off, rfl, hbw, hcs⟩ := HY.out (by rw [HLM.out]; omega)
   obtain ⟨d0, d1, d2⟩ := (hcs k (by rw [HLM.out]; exact hlt)).up hB (by have := HS0.out; omega)
   have hp := HP.out k
   have hno : P k = false → r = false := fun h => by rw [HV2.out]; exact allTo_no hlt h
   have hnx : P k = true → Hid (allTo P (k + 1) = true) := fun h => Lib.hid (by show (allTo P k && P k) = true; rw [HA.out, h]; rfl)
   obtain ⟨x, hx⟩ : ∃ x, e.K.getD k lnk0 = x := ⟨_, rfl⟩
   rw [hx] at d0 d1 d2 hp
   have hox := fun w => HOP.out x.tgt w
   rw [hp] at hox
   generalize P k = q at *
   have hl1 := lb_new wr 104 x
   have HB1 : Hid (Below s0 w (wr.alloc (.cells #[.int .i64 x.frm, .int .i64 x.tgt, .int .i64 x.since] 104))) := Lib.hid (hB.alloc hsz _)
   have HSZ1 : Hid (s0 ≤ (wr.alloc (.cells #[.int .i64 x.frm, .int .i64 x.tgt, .int .i64 x.since] 104)).heap.size) := Lib.hid (by simp; omega)
   have HG1 := Lib.hid (HG.out.up (below_alloc_new (.cells #[.int .i64 x.frm, .int .i64 x.tgt, .int .i64 x.since] 104)))
   obtain ⟨⟨v0, v1, v2⟩, vlt⟩ := hl1
   simp only [Nat.zero_add] at v1 v2
   have HOx := Lib.hid hox
   clear hcs hx hp hox HA HG hB
   cases q
   ·have HR := Lib.hid (hno rfl)
    clear hno hnx
    go_wp2_with (first
     | (refine wpList_load_is rfl 29 _ rfl (.pointer (some ⟨s0, 0, none⟩)) rfl X (gb_lV HG1.out HX.out) ?_)
     | (go_at_call 110; refine (HOx.out _).mono ?_; rintro e1 w3 ⟨rfl, hb⟩; have hB3 := HB1.out.trans (hb.mono HSZ1.out); have HG3 := Lib.hid (HG1.out.up hb); clear hb HG1 HB1 HSZ1 v0 v1 v2 vlt))
    go_ret
    exact ⟨by rw [HR.out]; rfl, hB3⟩
   ·have HA2 := hnx rfl
    clear hno hnx
    go_wp2_with (first
     | (refine wpList_load_is rfl 29 _ rfl (.pointer (some ⟨s0, 0, none⟩)) rfl X (gb_lV HG1.out HX.out) ?_)
     | (go_at_call 110; refine (HOx.out _).mono ?_; rintro e1 w3 ⟨rfl, hb⟩; have hB3 := HB1.out.trans (hb.mono HSZ1.out); have HG3 := Lib.hid (HG1.out.up hb); clear hb HG1 HB1 HSZ1 v0 v1 v2 vlt))
    go_roundg (n - (k + 1))
    case measure => omega
    case rel => exact ⟨k + 1, by go_num, by omega, by omega, HA2, HG3, hB3⟩
  ·obtain rfl : k = n := by omega
   have hltz : ¬ (k : Int) < (k : Int) := by omega
   have HR : Hid (r = true) := Lib.hid (by rw [HV2.out]; exact HA.out)
   go_wp2_with fail
   go_ret
   exact ⟨by rw [HR.out]; rfl, hB⟩
open Go.RowKit Go.Maps Go.Sort Go.Shelf
theorem ts9_keyed : Keyed Tryz.prog 9 := string_keyed Tryz.underlying9
abbrev litS (s : ByteArray) : Lit := .string s.data.toList
theorem litS_inj {a b : ByteArray} (h : litS a = litS b) : a = b := by
 injection h with h
 exact ByteArray.ext (Array.toList_inj.1 h)
theorem key_str {s : ByteArray} (hs : s.size ≤ maxLen) : keyOf Tryz.prog 9 (.string s) = some (litS s) := WideMaps.keyOf_string_mk Tryz.underlying9 hs
def SetS (w : World) (b m : Nat) (S : ByteArray → Bool) : Prop := ∃ D : DataW Value, w.ownsMap Tryz.prog 9 heldE b m D ∧ ∀ x, Maps.has D (litS x) = S x ∧ ∀ z, D.atKey (litS x) z = cond (S x) (.held (.bool true)) z
theorem SetS.lt {w : World} {b m : Nat} {S : ByteArray → Bool} (h : SetS w b m S) : b < w.heap.size := by
 obtain ⟨D, h1, _⟩ := h
 exact h1.lt
theorem SetS.blk {w w' : World} {b m : Nat} {S : ByteArray → Bool} (h : SetS w b m S) (hk : w'.heap[b]? = w.heap[b]?) : SetS w' b m S := by
 obtain ⟨D, ⟨es, clock, hb, rest⟩, h2⟩ := h
 exact ⟨D, ⟨es, clock, hk.trans hb, rest⟩, h2⟩
theorem SetS.up {w w' : World} {b m : Nat} {S : ByteArray → Bool} (h : SetS w b m S) (hb : Below w.heap.size w w') : SetS w' b m S := h.blk (hb.block b h.lt)
theorem SetS.made (w : World) : SetS (w.alloc (.map #[] 0)) w.heap.size 0 (fun _ => false) :=
 ⟨.map [], World.ownsMap_made _ _ _ _, fun _ => ⟨rfl, fun _ => rfl⟩⟩
theorem SetS.put {w' : World} {b n : Nat} {D : DataW Value} {S : ByteArray → Bool} {c : ByteArray} (h2 : IsMap D) (h3 : ∀ x, Maps.has D (litS x) = S x ∧ ∀ z, D.atKey (litS x) z = cond (S x) (.held (.bool true)) z) (h4 : w'.ownsMap Tryz.prog 9 heldE b n (D.put (litS c) (.held (.bool true)))) :
  SetS w' b n (fun x => decide (x = c) || S x) := by
 have hkl : ∀ z : ByteArray, WideAt.IsKeyLit (litS z) := fun z => by simp [WideAt.IsKeyLit]
 refine ⟨_, h4, fun x => ?_⟩
 dsimp only
 by_cases hxc : x = c
 ·subst hxc
  rw [has_put_same h2 (hkl _), decide_eq_true rfl]
  exact ⟨rfl, fun z => by rw [atKey_put_same h2 (hkl _)]; rfl⟩
 ·have hne : litS x ≠ litS c := fun e => hxc (litS_inj e)
  rw [has_put_other hne, decide_eq_false hxc]
  refine ⟨(h3 x).1, fun z => ?_⟩
  rw [atKey_put_other hne]
  exact (h3 x).2 z
theorem wpList_sets_look {w : World} {ops : Array Oper} {rest : List Oper} {o : Oper} {a : Act} {Q : Exit → Act → World → Prop} (hg : o.guard = none) (m x : Operand) (hop : o.op = Op.lookup 130 m x false)
  (b n : Nat) (S : ByteArray → Bool) (hm : a.eval m = .map (some b)) (hs : SetS w b n S) (c : ByteArray) (hx : a.eval x = .string c) (hw : c.size ≤ maxLen)
  (hK : wpList Tryz.prog ops Q rest (a.put o.dst (.bool (S c))) w) : wpList Tryz.prog ops Q (o :: rest) a w := by
 obtain ⟨D, h1, h3⟩ := hs
 refine wpList_plain hg fun K' hK' => ?_
 have hz : ∀ w : World, (zeroValue 4).run Tryz.prog w = .ok (.bool false) w := fun w => by kernel_rfl
 obtain ⟨v, ps, hrun, hv⟩ := h1.lookup ts9_keyed Tryz.underlying130 (hz w) (zd := .held (.bool false)) (zp := []) rfl (key_str hw)
 have he : v = .bool (S c) := by
  rw [(h3 c).2] at hv
  simp only [heldE, Option.some.injEq, Prod.mk.injEq] at hv
  have h4 := hv.1
  cases hf : S c
  ·rw [hf] at h4; injection h4
  ·rw [hf] at h4; injection h4
 unfold Oper.wp
 simp [execOp, hop, hm, hx, hrun, Result.andThen]
 exact hK' _ _ (he ▸ hK)
theorem wpList_sets_lookq {w : World} {ops : Array Oper} {rest : List Oper} {o : Oper} {a : Act} {Q : Exit → Act → World → Prop} (hg : o.guard = none) (m x : Operand) (hop : o.op = Op.lookup 130 m x false)
  (b n : Nat) (S : ByteArray → Bool) (hm : a.eval m = .map (some b)) (hs : SetS w b n S) (c : ByteArray) (hx : a.eval x = .string c) (hw : c.size ≤ maxLen) (q : Bool) (hq : S c = q)
  (hK : wpList Tryz.prog ops Q rest (a.put o.dst (.bool q)) w) : wpList Tryz.prog ops Q (o :: rest) a w := by
 subst hq
 exact wpList_sets_look hg m x hop b n S hm hs c hx hw hK
theorem wpList_sets_put {w : World} {ops : Array Oper} {rest : List Oper} {o : Oper} {a : Act} {Q : Exit → Act → World → Prop} (hg : o.guard = none) (m x y : Operand) (hop : o.op = Op.mapUpdate 130 m x y)
  (b n : Nat) (S : ByteArray → Bool) (hm : a.eval m = .map (some b)) (hs : SetS w b n S) (c : ByteArray) (hx : a.eval x = .string c) (hy : a.eval y = .bool true) (hw : c.size ≤ maxLen) (hn : n ≤ 1000000)
  (hK : ∀ w', Hid (SetS w' b (n + 1) (fun x => decide (x = c) || S x)) → Hid (w.grownBy w' (some b)) → wpList Tryz.prog ops Q rest (a.put o.dst undef) w') : wpList Tryz.prog ops Q (o :: rest) a w := by
 obtain ⟨D, h1, h3⟩ := hs
 have h2 := h1.isMap
 refine wpList_mapUpdate_own w hg m x y 130 hop 9 4 ts9_keyed Tryz.underlying130 heldE b n D hm h1 (by unfold maxLen; omega) _ _ _ hx hy (key_str hw) (.held (.bool true)) [] rfl ?_
 intro w' h4 h5
 exact hK w' (Lib.hid (SetS.put h2 h3 h4)) (Lib.hid h5)
theorem wp_load_is {P : Program} {o : Oper} {a : Act} {w : World} {K : Act → World → Prop} {Q : Exit → Act → World → Prop} (ty : TypeId) (x : Operand) (hop : o.op = .load ty x) (p : Value) (hx : a.eval x = p) (V : Value)
  (hl : (Instr.loadAt ty p).run P w = .ok V w) (h : K (a.put o.dst V) w) : o.wp P a w K Q := by
 unfold Oper.wp execOp
 simp only [hop, hx, Sem.run_bind, hl, Sem.run_pure, Result.andThen_ok]
 exact h
theorem yieldsIf_load_is {P : Program} {ops : Array Oper} {S : World → Prop} {op : Oper} {a : Act} (hw : Region.wanted op (yielded ops a.tmps) = true) (ty : TypeId) (x : Operand) (ho : op.op = .load ty x) (p : Value) (hx : a.eval x = p) (V : Value)
  (hS : ∀ w, S w → (Instr.loadAt ty p).run P w = .ok V w) : YieldsIf P ops S op V a :=
 .inl ⟨hw, fun w hw' => by
  unfold execOp
  simp only [ho, hx, Sem.run_bind, hS w hw', Sem.run_pure, Result.andThen_ok]⟩
def rowP (L : List Acc) (R : List Int) (G : List Ent) (i : Nat) : Bool := dsN G i && enpB L R (G.getD i ent0)
def ensP (L : List Acc) (R : List Int) (G : List Ent) : Bool := decide (1 ≤ G.length) && (decide (G.length ≤ 12) && (!(G.getD 0 ent0).jt && allTo (rowP L R G) G.length))
def SeenN (G : List Ent) (k : Nat) (S : ByteArray → Bool) : Prop := ∀ x, S x = true ↔ ∃ i, i < k ∧ (G.getD i ent0).nm = x
theorem SeenN.start {G : List Ent} : SeenN G 0 (fun _ => false) := fun x => by simp
theorem SeenN.now {G : List Ent} {k : Nat} {S : ByteArray → Bool} (h : SeenN G k S) : dsN G k = !S (G.getD k ent0).nm := by
 rw [Bool.eq_iff_iff, dsN_is, Bool.not_eq_true']
 constructor
 ·intro h1
  cases hS : S (G.getD k ent0).nm with
  | false => rfl
  | true =>
   obtain ⟨i, hi, e⟩ := (h _).1 hS
   exact absurd e (h1 i hi)
 ·intro h1 i hi e
  rw [(h _).2 ⟨i, hi, e⟩] at h1
  cases h1
theorem SeenN.step {G : List Ent} {k : Nat} {S : ByteArray → Bool} {c : ByteArray} (h : SeenN G k S) (hc : (G.getD k ent0).nm = c) : SeenN G (k + 1) (fun x => decide (x = c) || S x) := fun x => by
 rw [Bool.or_eq_true, decide_eq_true_eq, h x]
 constructor
 ·rintro (rfl | ⟨i, hi, e⟩)
  ·exact ⟨k, by omega, hc⟩
  ·exact ⟨i, by omega, e⟩
 ·rintro ⟨i, hi, e⟩
  rcases Nat.lt_or_ge i k with h1 | h1
  ·exact .inr ⟨i, h1, e⟩
  ·obtain rfl : i = k := by omega
   exact .inl (by rw [← e, hc])
set_option maxRecDepth 20000 in
set_option maxHeartbeats 3200000 in
theorem gents_any (g : Grp) (L : List Acc) (G : List Ent) (w : World) (hk : GrK w g L G) (hs : Sm g G) (hw : GrW g L G) :
  Calls Tryz.prog 73 #[grpV g] w fun e' w' => e' = .returned (.bool (ensP L g.R G)) ∧ Below w.heap.size w w' := by
 have hB := below_alloc_new (w := w) (.cells #[.string g.cur, .int .i64 g.cy, .int .i64 g.cm, .int .i64 g.cp, .slice g.A g.n g.c, .int .i64 g.r0, .int .i64 g.r1, .int .i64 g.r2, .int .i64 g.r3, .int .i64 g.r4, .int .i64 g.r5, .int .i64 g.r6, .int .i64 g.r7, .int .i64 g.r8, .int .i64 g.r9, .int .i64 g.r10, .int .i64 g.r11, .int .i64 g.r12, .int .i64 g.r13, .int .i64 g.r14, .slice g.E g.m g.d] 29)
 have hG := gb_new w 29 g
 have hv : ensP L g.R G = (decide (1 ≤ G.length) && (decide (G.length ≤ 12) && (!(G.getD 0 ent0).jt && allTo (rowP L g.R G) G.length))) := rfl
 rw [hk.lg] at hv
 have hrow : ∀ k, rowP L g.R G k = (dsN G k && enpB L g.R (G.getD k ent0)) := fun _ => rfl
 have h1 : ∀ k, k < g.m → ∀ w, AccAt w g.A L → EntsK w G → Calls Tryz.prog 87 #[grpV g, eV (G.getD k ent0)] w fun e' w' => e' = .returned (.bool (enpB L g.R (G.getD k ent0))) ∧ Below w.heap.size w w' := fun k hk2 w hz he => by
  have hm := getD_mem_acc (d := ent0) (L := G) (i := k) (by rw [hk.lg]; exact hk2)
  have := hs.e _ hm
  have := hs.n
  exact gent_any g L _ w hz hk.ln (by omega) (he _ hm) (by omega) (by omega)
 have hnm : ∀ k, k < g.m → (G.getD k ent0).nm.size ≤ maxLen := fun k hk2 => (hw.txt _ (getD_mem_acc (by rw [hk.lg]; exact hk2))).1
 have hat := fun k (hk2 : k < g.m) => ent_at hk.he (k := k) (by rw [hk.lg]; exact hk2)
 obtain ⟨X, hX⟩ : ∃ X : Value, X = grpV g := ⟨_, rfl⟩
 rw [← hX] at h1
 generalize ensP L g.R G = r at *
 obtain ⟨P, hP⟩ : ∃ P : Nat → Bool, rowP L g.R G = P := ⟨_, rfl⟩
 rw [hP] at hv
 simp only [hP] at hrow
 obtain ⟨s0, hs0⟩ : ∃ s0, w.heap.size = s0 := ⟨_, rfl⟩
 have hm14 := hs.m
 rw [hs0] at hB hG ⊢
 have HS0 := Lib.hid hs0
 have HG := Lib.hid hG
 have HX := Lib.hid hX
 have HV := Lib.hid hv
 have HRow := Lib.hid hrow
 have H1 := Lib.hid h1
 have HNM := Lib.hid hnm
 have HAt := Lib.hid hat
 have HZ := Lib.hid hk.hz
 have HEK := Lib.hid hk.hk
 have c20 := hG.c20
 clear hk hs hw hv hrow h1 hnm hat hX hP hG
 by_cases k0 : g.m = 0
 ·have e0 : ((g.m : Int) == 0) = true := by rw [k0]; rfl
  have HR : Hid (r = false) := Lib.hid (by rw [HV.out, decide_eq_false (by omega)]; rfl)
  clear k0
  go_enter Tryz.func73, Tryz.ntmps73
  go_wp2_with fail
  go_ret
  exact ⟨by rw [HR.out]; rfl, hB⟩
 have e0 : ((g.m : Int) == 0) = false := beq_eq_false_iff_ne.2 (by omega)
 clear c20 HG hB
 obtain ⟨b, off, eE, hbw, hc0⟩ := HAt.out 0 (by omega)
 have hB := below_alloc_new (w := w) (.cells #[.string g.cur, .int .i64 g.cy, .int .i64 g.cm, .int .i64 g.cp, .slice g.A g.n g.c, .int .i64 g.r0, .int .i64 g.r1, .int .i64 g.r2, .int .i64 g.r3, .int .i64 g.r4, .int .i64 g.r5, .int .i64 g.r6, .int .i64 g.r7, .int .i64 g.r8, .int .i64 g.r9, .int .i64 g.r10, .int .i64 g.r11, .int .i64 g.r12, .int .i64 g.r13, .int .i64 g.r14, .slice g.E g.m g.d] 29)
 have hG := gb_new w 29 g
 have d4 := (hc0.up (below_alloc_new (.cells #[.string g.cur, .int .i64 g.cy, .int .i64 g.cm, .int .i64 g.cp, .slice g.A g.n g.c, .int .i64 g.r0, .int .i64 g.r1, .int .i64 g.r2, .int .i64 g.r3, .int .i64 g.r4, .int .i64 g.r5, .int .i64 g.r6, .int .i64 g.r7, .int .i64 g.r8, .int .i64 g.r9, .int .i64 g.r10, .int .i64 g.r11, .int .i64 g.r12, .int .i64 g.r13, .int .i64 g.r14, .slice g.E g.m g.d] 29)) hbw).c4
 have hMB := SetS.made (w.alloc (.cells #[.string g.cur, .int .i64 g.cy, .int .i64 g.cm, .int .i64 g.cp, .slice g.A g.n g.c, .int .i64 g.r0, .int .i64 g.r1, .int .i64 g.r2, .int .i64 g.r3, .int .i64 g.r4, .int .i64 g.r5, .int .i64 g.r6, .int .i64 g.r7, .int .i64 g.r8, .int .i64 g.r9, .int .i64 g.r10, .int .i64 g.r11, .int .i64 g.r12, .int .i64 g.r13, .int .i64 g.r14, .slice g.E g.m g.d] 29))
 have e9 : (w.alloc (.cells #[.string g.cur, .int .i64 g.cy, .int .i64 g.cm, .int .i64 g.cp, .slice g.A g.n g.c, .int .i64 g.r0, .int .i64 g.r1, .int .i64 g.r2, .int .i64 g.r3, .int .i64 g.r4, .int .i64 g.r5, .int .i64 g.r6, .int .i64 g.r7, .int .i64 g.r8, .int .i64 g.r9, .int .i64 g.r10, .int .i64 g.r11, .int .i64 g.r12, .int .i64 g.r13, .int .i64 g.r14, .slice g.E g.m g.d] 29)).heap.size = s0 + 1 := by simp; omega
 have hG1 := hG.up (below_alloc_new (.map #[] 0))
 have hB1 : Below s0 w ((w.alloc (.cells #[.string g.cur, .int .i64 g.cy, .int .i64 g.cm, .int .i64 g.cp, .slice g.A g.n g.c, .int .i64 g.r0, .int .i64 g.r1, .int .i64 g.r2, .int .i64 g.r3, .int .i64 g.r4, .int .i64 g.r5, .int .i64 g.r6, .int .i64 g.r7, .int .i64 g.r8, .int .i64 g.r9, .int .i64 g.r10, .int .i64 g.r11, .int .i64 g.r12, .int .i64 g.r13, .int .i64 g.r14, .slice g.E g.m g.d] 29)).alloc (.map #[] 0)) := by rw [hs0] at hB; exact hB.alloc (by omega) _
 rw [hs0] at hB hG hG1
 rw [eE] at hB hG hG1 d4 hMB hB1 e9
 rw [e9] at hMB
 simp only [Nat.zero_mul, Nat.add_zero] at d4
 have c20 := hG.c20
 have c20' := hG1.c20
 rw [eE] at c20 c20'
 have hv2 := HV.out
 rw [decide_eq_true (show 1 ≤ g.m by omega), Bool.true_and] at hv2
 rcases Nat.lt_or_ge 12 g.m with k1 | k1
 ·have e1 : decide ((12 : Int) < (g.m : Int)) = true := decide_eq_true (by omega)
  have HR : Hid (r = false) := Lib.hid (by rw [hv2, decide_eq_false (by omega)]; rfl)
  clear k0 k1 hv2 hMB hG hG1 hbw hc0
  go_enter Tryz.func73, Tryz.ntmps73
  go_wp2_with fail
  go_ret
  exact ⟨by rw [HR.out]; rfl, hB⟩
 have e1 : decide ((12 : Int) < (g.m : Int)) = false := decide_eq_false (by omega)
 rw [decide_eq_true k1, Bool.true_and] at hv2
 have h0z : (0 : Int) < (g.m : Int) := by omega
 generalize (G.getD 0 ent0).jt = jt at *
 cases jt
 case true =>
  have HR : Hid (r = false) := Lib.hid (by rw [hv2]; rfl)
  clear k0 k1 hv2 hbw hc0 hMB hG hG1
  go_enter Tryz.func73, Tryz.ntmps73
  go_wp2_with fail
  go_ret
  exact ⟨by rw [HR.out]; rfl, hB⟩
 have HV2 := Lib.hid (show r = allTo P g.m from hv2)
 have HMB := Lib.hid hMB
 have HG1 := Lib.hid hG1
 have hmm := @run_makeMap Tryz.prog
 clear k0 k1 hv2 hbw hc0 HV hG hG1 hMB e9 hB
 go_enter Tryz.func73, Tryz.ntmps73
 go_wp2_with fail
 have hat2 : ∀ k, k < g.m → E5 w b (off + k * 5) (G.getD k ent0) ∧ b < w.heap.size := fun k hk => by
  obtain ⟨b', off', e', hb', hc'⟩ := HAt.out k hk
  rw [eE] at e'
  cases e'
  exact ⟨hc', hb'⟩
 have HAt2 := Lib.hid hat2
 clear HAt hat2 hs0 eE d4 c20 c20'
 go_loopg [27] g.m (fun kx s27 wr => ∃ (k m : Nat) (S : ByteArray → Bool), s27 = .int .i64 k ∧ k ≤ g.m ∧ g.m - k ≤ kx ∧ m ≤ k ∧ Hid (allTo P k = true) ∧ Hid (SeenN G k S) ∧ Hid (SetS wr (s0 + 1) m S) ∧ Hid (GB wr s0 g) ∧ Below s0 w wr)
 case atStart => exact ⟨0, 0, _, rfl, by omega, by omega, by omega, Lib.hid rfl, Lib.hid SeenN.start, HMB, HG1, hB1⟩
 case round =>
  clear hB1 HMB HG1
  obtain ⟨k, m, S, rfl, hk, hkx, hmk, HA, HSN, HM, HG, hB⟩ := hrel
  by_cases hlt : k < g.m
  ·have hltz : (k : Int) < (g.m : Int) := by omega
   have hsz : s0 ≤ wr.heap.size := by have := HG.out.lt; omega
   obtain ⟨hc5, hbw⟩ := HAt2.out k hlt
   obtain ⟨d0, d1, d2, d3, d4⟩ := hc5.up hB (by have := HS0.out; omega)
   have hnx0 := HNM.out k hlt
   have hno : P k = false → r = false := fun h => by rw [HV2.out]; exact allTo_no hlt h
   have hnx : P k = true → Hid (allTo P (k + 1) = true) := fun h => Lib.hid (by show (allTo P k && P k) = true; rw [HA.out, h]; rfl)
   have hrow := HRow.out k
   have hnow := HSN.out.now
   have hstep := fun c hc => HSN.out.step (c := c) hc
   have h1x := fun w h h' => H1.out k hlt w h h'
   obtain ⟨x, hx⟩ : ∃ x, G.getD k ent0 = x := ⟨_, rfl⟩
   rw [hx] at d0 d1 d2 d3 d4 hnx0 hrow hnow hstep h1x
   have HST := Lib.hid (hstep x.nm rfl)
   obtain ⟨q1, hq1⟩ : ∃ q, S x.nm = q := ⟨_, rfl⟩
   rw [hq1] at hnow
   rw [hnow] at hrow
   generalize enpB L g.R x = q2 at *
   generalize P k = pk at *
   have HQ := Lib.hid hq1
   have HNx := Lib.hid hnx0
   have H1x := Lib.hid h1x
   have heb := eb_new wr 53 x.nm x.cur x.A x.n x.c x.B x.m x.d x.jt
   have HEB := Lib.hid heb
   obtain ⟨z0, z1, z2, z3, z4, zlt⟩ := heb
   have HB1 : Hid (Below s0 w (wr.alloc (.cells #[.string x.nm, .string x.cur, .slice x.A x.n x.c, .slice x.B x.m x.d, .bool x.jt] 53))) := Lib.hid (hB.alloc hsz _)
   have HSZ1 : Hid (s0 ≤ (wr.alloc (.cells #[.string x.nm, .string x.cur, .slice x.A x.n x.c, .slice x.B x.m x.d, .bool x.jt] 53)).heap.size) := Lib.hid (by simp; omega)
   have HG1 := Lib.hid (HG.out.up (below_alloc_new (.cells #[.string x.nm, .string x.cur, .slice x.A x.n x.c, .slice x.B x.m x.d, .bool x.jt] 53)))
   have HM1 := Lib.hid (HM.out.up (below_alloc_new (.cells #[.string x.nm, .string x.cur, .slice x.A x.n x.c, .slice x.B x.m x.d, .bool x.jt] 53)))
   have HZ1 : Hid (AccAt (wr.alloc (.cells #[.string x.nm, .string x.cur, .slice x.A x.n x.c, .slice x.B x.m x.d, .bool x.jt] 53)) g.A L) := Lib.hid (HZ.out.up (by rw [HS0.out]; exact HB1.out))
   have HE1 : Hid (EntsK (wr.alloc (.cells #[.string x.nm, .string x.cur, .slice x.A x.n x.c, .slice x.B x.m x.d, .bool x.jt] 53)) G) := Lib.hid (HEK.out.up (by rw [HS0.out]; exact HB1.out))
   clear hx hq1 hnx0 h1x hstep hnow hc5 HA HG HM HSN hB
   cases q1
   ·cases q2
    ·have HR := Lib.hid (hno (by rw [hrow]; rfl))
     clear hno hnx hrow
     go_wp2_with (first | (refine wpList_sets_lookq rfl _ _ rfl (s0 + 1) m S rfl HM1.out x.nm rfl HNx.out _ HQ.out ?_) | (refine wpList_load_is rfl 29 _ rfl (.pointer (some ⟨s0, 0, none⟩)) rfl X (gb_lV HG1.out HX.out) ?_) | (refine wpList_load_if rfl 29 _ rfl (.pointer (some ⟨s0, 0, none⟩)) rfl X (gb_lV HG1.out HX.out) ?_) | (refine wp_load_is 29 _ rfl (.pointer (some ⟨s0, 0, none⟩)) rfl X (gb_lV HG1.out HX.out) ?_) | (go_at_call 87; (with_reducible refine (H1x.out _ HZ1.out HE1.out).mono ?_); rintro e1 w3 ⟨rfl, hb⟩; have hB3 := HB1.out.trans (hb.mono HSZ1.out); have hsz3 : s0 ≤ w3.heap.size := Nat.le_trans HSZ1.out hb.size; have HG3 := Lib.hid (HG1.out.up hb); have HM3 := Lib.hid (HM1.out.up hb); have HEB3 := HEB.out.up hb; clear hb HG1 HM1 HB1 HSZ1 z0 z1 z2 z3 z4 zlt HEB d0 d1 d2 d3 d4; obtain ⟨z0, z1, z2, z3, z4, zlt⟩ := HEB3))
     go_ret
     exact ⟨by rw [HR.out]; rfl, hB3⟩
    ·have HA2 := hnx (by rw [hrow]; rfl)
     clear hno hnx hrow
     go_wp2_with (first | (refine wpList_sets_lookq rfl _ _ rfl (s0 + 1) m S rfl HM1.out x.nm rfl HNx.out _ HQ.out ?_) | (refine wpList_load_is rfl 29 _ rfl (.pointer (some ⟨s0, 0, none⟩)) rfl X (gb_lV HG1.out HX.out) ?_) | (refine wpList_load_if rfl 29 _ rfl (.pointer (some ⟨s0, 0, none⟩)) rfl X (gb_lV HG1.out HX.out) ?_) | (refine wp_load_is 29 _ rfl (.pointer (some ⟨s0, 0, none⟩)) rfl X (gb_lV HG1.out HX.out) ?_) | (go_at_call 87; (with_reducible refine (H1x.out _ HZ1.out HE1.out).mono ?_); rintro e1 w3 ⟨rfl, hb⟩; have hB3 := HB1.out.trans (hb.mono HSZ1.out); have hsz3 : s0 ≤ w3.heap.size := Nat.le_trans HSZ1.out hb.size; have HG3 := Lib.hid (HG1.out.up hb); have HM3 := Lib.hid (HM1.out.up hb); have HEB3 := HEB.out.up hb; clear hb HG1 HM1 HB1 HSZ1 z0 z1 z2 z3 z4 zlt HEB d0 d1 d2 d3 d4; obtain ⟨z0, z1, z2, z3, z4, zlt⟩ := HEB3) | (at_mapUpdate; refine wpList_sets_put rfl _ _ _ rfl (s0 + 1) m S rfl HM3.out x.nm rfl rfl HNx.out (by omega) ?_; intro w4 hm4 hg4; have hb4 := grown_below hB3 hg4.out (by omega) hsz3; have HG4 := Lib.hid (HG3.out.blk (hg4.out.block s0 HG3.out.lt (by intro e; injection e with e; omega))); clear hg4))
     go_roundg (g.m - (k + 1))
     case measure => omega
     case rel => exact ⟨k + 1, m + 1, _, by go_num, by omega, by omega, by omega, HA2, HST, hm4, HG4, hb4⟩
   ·have HR := Lib.hid (hno (by rw [hrow]; rfl))
    have hB3 := HB1.out
    clear hno hnx hrow
    go_wp2_with (refine wpList_sets_lookq rfl _ _ rfl (s0 + 1) m S rfl HM1.out x.nm rfl HNx.out _ HQ.out ?_)
    go_ret
    exact ⟨by rw [HR.out]; rfl, hB3⟩
  ·have hke : k = g.m := by omega
   have hltz : ¬ (k : Int) < (g.m : Int) := by omega
   have HR : Hid (r = true) := Lib.hid (by rw [HV2.out, ← hke]; exact HA.out)
   clear hke
   go_wp2_with fail
   go_ret
   exact ⟨by rw [HR.out]; rfl, hB⟩
theorem fiE_b (y m p : Int) : (fiE y m p == 0) = fiB y m p := by
 unfold fiE
 cases fiB y m p <;> rfl
theorem pd_in {y m k p : Int} (h : clV y m k = true) (hp : 0 ≤ p ∧ p < k) : clE y m k p = 0 ∧ pdF y m k p = mfst (mno y m + p) ∧ pdL y m k p = mfst (mno y m + p + 1) - 1 ∧ pdY y m k p = p / 12 ∧ pdB y m k p = mfst (mno y m + p - p % 12) := by
 unfold pdF pdL pdY pdB
 rw [clE_in h hp]
 exact ⟨rfl, rfl, rfl, rfl, rfl⟩
theorem pd_out {y m k p : Int} (h : clE y m k p ≠ 0) : pdF y m k p = 0 ∧ pdL y m k p = 0 ∧ pdY y m k p = 0 ∧ pdB y m k p = 0 ∧ pdP y m k p = 0 ∧ pdPE y m k p = clE y m k p ∧ pdT y m k p = ⟨#[]⟩ := by
 unfold pdF pdL pdY pdB pdP pdPE pdT
 simp [h]
theorem clE_yes {y m k p : Int} (he : clE y m k p = 0) : clV y m k = true ∧ (0 ≤ p ∧ p < k) := by
 rcases clE_three y m k p with ⟨hv, h⟩ | ⟨hv, hp, h⟩ | ⟨hv, hp, h⟩
 ·rw [he] at h; exact absurd h (by decide)
 ·rw [he] at h; exact absurd h (by decide)
 ·exact ⟨hv, hp⟩
theorem cl_k {y m k : Int} (h : clV y m k = true) : 1 ≤ k ∧ k ≤ 120 := (clV_iff.1 h).1
theorem rfi_any (y m k p : Int) (w : World) : Calls Tryz.prog 28 #[calV y m k, .int .i64 p] w fun e w' => e = .returned (.tuple #[.int .i64 (fiN y m p), .int .i64 (fiE y m p)]) ∧ Below w.heap.size w w' := by
 obtain ⟨tn, bn⟩ := tri_new w 23 y m k
 have HT := Lib.hid tn
 obtain ⟨c0, c1, c2, lt⟩ := tn
 cases hi : inYM y m
 ·obtain ⟨e1, e2, e3, e4⟩ := fi_none p hi
  rw [e3, e4]
  have h1 := fun w => dtrof_any y m 1 w
  rw [e1, e2] at h1
  have H1 := Lib.hid h1
  clear h1 hi e1 e2 e3 e4
  go_enter Tryz.func28, Tryz.ntmps28
  go_wp2_with (go_at_call 52; refine (H1.out _).mono ?_; rintro e w' ⟨rfl, rfl⟩)
  go_ret2
  exact ⟨rfl, bn⟩
 ·obtain ⟨e1, e2, e3, e4⟩ := fi_some p hi
  have h1 := fun w => dtrof_any y m 1 w
  rw [e1, e2] at h1
  have h2 := fun w => dtradd_any (mfst (mno y m)) p w
  rw [e3, e4] at h2
  have H1 := Lib.hid h1
  have H2 := Lib.hid h2
  clear h1 h2 hi e1 e2 e3 e4
  go_enter Tryz.func28, Tryz.ntmps28
  go_wp2_with (first | (go_at_call 52; refine (H1.out _).mono ?_; rintro e w' ⟨rfl, rfl⟩) | (go_at_call 53; refine (H2.out _).mono ?_; rintro e w' ⟨rfl, rfl⟩))
  go_ret2
  exact ⟨rfl, bn⟩
theorem rvalid7_any (y m k : Int) (w : World) : Calls Tryz.prog 46 #[calV y m k] w fun e w' => e = .returned (.bool (clV y m k)) ∧ Below w.heap.size w w' := by
 obtain ⟨tn, bn⟩ := tri_new w 23 y m k
 have HT := Lib.hid tn
 obtain ⟨c0, c1, c2, lt⟩ := tn
 unfold clV
 by_cases h1 : 1 ≤ k
 ·by_cases h2 : k ≤ 120
  ·have h3 := fun w => rfi_any y m k (k - 1) w
   rw [decide_eq_true h1, decide_eq_true h2, ← fiE_b]
   have h1' : decide (k < 1) = false := decide_eq_false (by omega)
   have h2' : decide (120 < k) = false := decide_eq_false (by omega)
   generalize fiN y m (k - 1) = a at *
   generalize fiE y m (k - 1) = b at *
   have H3 := Lib.hid h3
   clear h3
   go_enter Tryz.func46, Tryz.ntmps46
   go_wp2_with (go_at_call 28; refine (H3.out _).mono ?_; rintro e w' ⟨rfl, hb⟩; replace bn := below_more bn hb; replace HT := Lib.hid (HT.out.up hb); clear c0 c1 c2 lt hb; obtain ⟨c0, c1, c2, lt⟩ := HT.out)
   go_ret
   exact ⟨dret_bool (by simp), bn⟩
  ·rw [decide_eq_true h1, decide_eq_false h2]
   have h1' : decide (k < 1) = false := decide_eq_false (by omega)
   have h2' : 120 < k := by omega
   clear h2
   go_enter Tryz.func46, Tryz.ntmps46
   go_wp2_with fail
   go_ret
   exact ⟨rfl, bn⟩
 ·rw [decide_eq_false h1]
  have h1' : k < 1 := by omega
  clear h1
  go_enter Tryz.func46, Tryz.ntmps46
  go_wp2_with fail
  go_ret
  exact ⟨rfl, bn⟩
theorem rcheck7_any (y m k p : Int) (w : World) : Calls Tryz.prog 27 #[calV y m k, .int .i64 p] w fun e w' => e = .returned (.int .i64 (clE y m k p)) ∧ Below w.heap.size w w' := by
 obtain ⟨tn, bn⟩ := tri_new w 23 y m k
 have HT := Lib.hid tn
 obtain ⟨c0, c1, c2, lt⟩ := tn
 have h1 := fun w => rvalid7_any y m k w
 rcases clE_three y m k p with ⟨hv, he⟩ | ⟨hv, hp, he⟩ | ⟨hv, hp, he⟩
 ·rw [he]
  rw [hv] at h1
  have H1 := Lib.hid h1
  clear h1 hv he
  go_enter Tryz.func27, Tryz.ntmps27
  go_wp2_with (go_at_call 46; refine (H1.out _).mono ?_; rintro e w' ⟨rfl, hb⟩; replace bn := below_more bn hb; replace HT := Lib.hid (HT.out.up hb); clear c0 c1 c2 lt hb; obtain ⟨c0, c1, c2, lt⟩ := HT.out)
  go_ret
  exact ⟨rfl, bn⟩
 ·rw [he]
  rw [hv] at h1
  have H1 := Lib.hid h1
  clear h1 hv he
  by_cases h0 : p < 0
  ·skip
   go_enter Tryz.func27, Tryz.ntmps27
   go_wp2_with (go_at_call 46; refine (H1.out _).mono ?_; rintro e w' ⟨rfl, hb⟩; replace bn := below_more bn hb; replace HT := Lib.hid (HT.out.up hb); clear c0 c1 c2 lt hb; obtain ⟨c0, c1, c2, lt⟩ := HT.out)
   go_ret
   exact ⟨rfl, bn⟩
  ·have h0' : decide (p < 0) = false := decide_eq_false h0
   have h0'' : k ≤ p := by omega
   clear h0 hp
   go_enter Tryz.func27, Tryz.ntmps27
   go_wp2_with (go_at_call 46; refine (H1.out _).mono ?_; rintro e w' ⟨rfl, hb⟩; replace bn := below_more bn hb; replace HT := Lib.hid (HT.out.up hb); clear c0 c1 c2 lt hb; obtain ⟨c0, c1, c2, lt⟩ := HT.out)
   go_ret
   exact ⟨rfl, bn⟩
 ·rw [he]
  rw [hv] at h1
  have H1 := Lib.hid h1
  obtain ⟨p0, p1⟩ := hp
  have h0' : decide (p < 0) = false := decide_eq_false (by omega)
  have h0'' : decide (k ≤ p) = false := decide_eq_false (by omega)
  clear h1 hv he
  go_enter Tryz.func27, Tryz.ntmps27
  go_wp2_with (go_at_call 46; refine (H1.out _).mono ?_; rintro e w' ⟨rfl, hb⟩; replace bn := below_more bn hb; replace HT := Lib.hid (HT.out.up hb); clear c0 c1 c2 lt hb; obtain ⟨c0, c1, c2, lt⟩ := HT.out)
  go_ret
  exact ⟨rfl, bn⟩
theorem rfirst7_any (y m k p : Int) (w : World) : Calls Tryz.prog 12 #[calV y m k, .int .i64 p] w fun e w' => e = .returned (.tuple #[.int .i64 (pdF y m k p), .int .i64 (clE y m k p)]) ∧ Below w.heap.size w w' := by
 obtain ⟨tn, bn⟩ := tri_new w 23 y m k
 have HT := Lib.hid tn
 obtain ⟨c0, c1, c2, lt⟩ := tn
 have h1 := fun w => rcheck7_any y m k p w
 by_cases he : clE y m k p = 0
 ·obtain ⟨hv, hp⟩ := clE_yes he
  obtain ⟨-, e1, -⟩ := pd_in hv hp
  obtain ⟨a0, a1, a2⟩ := cl_month hv hp
  have h2 := fun w => rfi_any y m k p w
  unfold fiN fiE at h2
  rw [a2, if_pos rfl, if_pos rfl] at h2
  rw [e1, he]
  have H2 := Lib.hid h2
  clear h2 e1 a2
  rw [he] at h1
  have H1 := Lib.hid h1
  obtain ⟨p0, p1⟩ := hp
  obtain ⟨k0, k1⟩ := cl_k hv
  clear h1 he hv
  go_enter Tryz.func12, Tryz.ntmps12
  go_wp2_with (first | (go_at_call 27; refine (H1.out _).mono ?_; rintro e w' ⟨rfl, hb⟩; replace bn := below_more bn hb; replace HT := Lib.hid (HT.out.up hb); clear c0 c1 c2 lt hb; obtain ⟨c0, c1, c2, lt⟩ := HT.out) | (go_at_call 28; refine (H2.out _).mono ?_; rintro e w' ⟨rfl, hb⟩; replace bn := below_more bn hb; replace HT := Lib.hid (HT.out.up hb); clear c0 c1 c2 lt hb; obtain ⟨c0, c1, c2, lt⟩ := HT.out))
  go_ret2
  exact ⟨rfl, bn⟩
 ·obtain ⟨z1, z2, z3, z4, z5, z6, z7⟩ := pd_out he
  rw [z1]
  have hne : (clE y m k p != 0) = true := by simpa using he
  generalize clE y m k p = er at *
  have H1 := Lib.hid h1
  clear h1 he z1 z2 z3 z4 z5 z6 z7
  go_enter Tryz.func12, Tryz.ntmps12
  go_wp2_with (go_at_call 27; refine (H1.out _).mono ?_; rintro e w' ⟨rfl, hb⟩; replace bn := below_more bn hb; replace HT := Lib.hid (HT.out.up hb); clear c0 c1 c2 lt hb; obtain ⟨c0, c1, c2, lt⟩ := HT.out)
  go_ret2
  exact ⟨rfl, bn⟩
theorem rbegin7_any (y m k p : Int) (w : World) : Calls Tryz.prog 43 #[calV y m k, .int .i64 p] w fun e w' => e = .returned (.tuple #[.int .i64 (pdB y m k p), .int .i64 (clE y m k p)]) ∧ Below w.heap.size w w' := by
 obtain ⟨tn, bn⟩ := tri_new w 23 y m k
 have HT := Lib.hid tn
 obtain ⟨c0, c1, c2, lt⟩ := tn
 have h1 := fun w => rcheck7_any y m k p w
 by_cases he : clE y m k p = 0
 ·obtain ⟨hv, hp⟩ := clE_yes he
  obtain ⟨-, -, -, -, e1⟩ := pd_in hv hp
  have h2 := fun w => rfirst7_any y m k (p - p % 12) w
  obtain ⟨f0, f1, -⟩ := pd_in hv (p := p - p % 12) (by omega)
  rw [f0, f1, show mno y m + (p - p % 12) = mno y m + p - p % 12 by omega] at h2
  rw [e1, he]
  have H2 := Lib.hid h2
  clear h2 e1 f0 f1
  rw [he] at h1
  have H1 := Lib.hid h1
  obtain ⟨p0, p1⟩ := hp
  obtain ⟨k0, k1⟩ := cl_k hv
  clear h1 he hv
  go_enter Tryz.func43, Tryz.ntmps43
  go_wp2_with (first | (go_at_call 27; refine (H1.out _).mono ?_; rintro e w' ⟨rfl, hb⟩; replace bn := below_more bn hb; replace HT := Lib.hid (HT.out.up hb); clear c0 c1 c2 lt hb; obtain ⟨c0, c1, c2, lt⟩ := HT.out) | (go_at_call 12; refine (H2.out _).mono ?_; rintro e w' ⟨rfl, hb⟩; replace bn := below_more bn hb; replace HT := Lib.hid (HT.out.up hb); clear c0 c1 c2 lt hb; obtain ⟨c0, c1, c2, lt⟩ := HT.out))
  go_ret2
  exact ⟨rfl, bn⟩
 ·obtain ⟨z1, z2, z3, z4, z5, z6, z7⟩ := pd_out he
  rw [z4]
  have hne : (clE y m k p != 0) = true := by simpa using he
  generalize clE y m k p = er at *
  have H1 := Lib.hid h1
  clear h1 he z1 z2 z3 z4 z5 z6 z7
  go_enter Tryz.func43, Tryz.ntmps43
  go_wp2_with (go_at_call 27; refine (H1.out _).mono ?_; rintro e w' ⟨rfl, hb⟩; replace bn := below_more bn hb; replace HT := Lib.hid (HT.out.up hb); clear c0 c1 c2 lt hb; obtain ⟨c0, c1, c2, lt⟩ := HT.out)
  go_ret2
  exact ⟨rfl, bn⟩
theorem cnum7_any (y m : Int) (w : World) (hy : 1900 ≤ y ∧ y ≤ 2199 ∧ 1 ≤ m ∧ m ≤ 12) : Calls Tryz.prog 103 #[.int .i64 y, .int .i64 m] w fun e w' => e = .returned (.int .i64 (mno y m)) ∧ w = w' := by
 obtain ⟨y0, y1, m0, m1⟩ := hy
 unfold mno
 go_enter Tryz.func103, Tryz.ntmps103
 go_wp2_with fail
 go_ret
 exact ⟨rfl, rfl⟩
theorem cciv7_any (T : Int) (w : World) (h : 0 ≤ T ∧ T ≤ 100000) : Calls Tryz.prog 82 #[.int .i64 T] w fun e w' => e = .returned (.tuple #[.int .i64 (T / 12), .int .i64 (T % 12 + 1)]) ∧ w = w' := by
 obtain ⟨h0, h1⟩ := h
 go_enter Tryz.func82, Tryz.ntmps82
 go_wp2_with fail
 go_ret2
 exact ⟨rfl, rfl⟩
theorem cmon7_any (y m k p : Int) (w : World) (hy : 1900 ≤ y ∧ y ≤ 2199 ∧ 1 ≤ m ∧ m ≤ 12) (hp : -1000 ≤ p ∧ p ≤ 1000) : Calls Tryz.prog 83 #[calV y m k, .int .i64 p] w fun e w' => e = .returned (.int .i64 (mno y m + p)) ∧ Below w.heap.size w w' := by
 obtain ⟨tn, bn⟩ := tri_new w 23 y m k
 have HT := Lib.hid tn
 obtain ⟨c0, c1, c2, lt⟩ := tn
 have h1 := fun w => cnum7_any y m w hy
 have hb : 22800 ≤ mno y m ∧ mno y m ≤ 26399 := by unfold mno; omega
 have H1 := Lib.hid h1
 generalize mno y m = N at *
 obtain ⟨b0, b1⟩ := hb
 obtain ⟨p0, p1⟩ := hp
 clear h1 hy
 go_enter Tryz.func83, Tryz.ntmps83
 go_wp2_with (go_at_call 103; refine (H1.out _).mono ?_; rintro e w' ⟨rfl, rfl⟩)
 go_ret
 exact ⟨rfl, bn⟩
theorem cisp7_any (y m k p : Int) (w : World) : Calls Tryz.prog 88 #[calV y m k, .int .i64 p] w fun e w' => e = .returned (.bool (decide (0 ≤ p) && decide (p < k))) ∧ Below w.heap.size w w' := by
 obtain ⟨tn, bn⟩ := tri_new w 23 y m k
 have HT := Lib.hid tn
 obtain ⟨c0, c1, c2, lt⟩ := tn
 by_cases h0 : 0 ≤ p
 ·rw [decide_eq_true h0]
  go_enter Tryz.func88, Tryz.ntmps88
  go_wp2_with fail
  go_ret
  exact ⟨rfl, bn⟩
 ·rw [decide_eq_false h0]
  have h0' : p < 0 := by omega
  clear h0
  go_enter Tryz.func88, Tryz.ntmps88
  go_wp2_with fail
  go_ret
  exact ⟨rfl, bn⟩
theorem cvalid7_any (y m k : Int) (w : World) : Calls Tryz.prog 70 #[calV y m k] w fun e w' => e = .returned (.bool (clV y m k)) ∧ Below w.heap.size w w' := by
 obtain ⟨tn, bn⟩ := tri_new w 23 y m k
 have HT := Lib.hid tn
 obtain ⟨c0, c1, c2, lt⟩ := tn
 have h1 := fun w => days_any y m w
 unfold clV fiB
 cases hi : inYM y m
 ·rw [dys_out hi] at h1
  rw [Bool.false_and, Bool.and_false, Bool.and_false]
  have H1 := Lib.hid h1
  clear h1 hi
  go_enter Tryz.func70, Tryz.ntmps70
  go_wp2_with (go_at_call 81; refine (H1.out _).mono ?_; rintro e w' ⟨rfl, hb⟩; replace bn := below_more bn hb; replace HT := Lib.hid (HT.out.up hb); clear c0 c1 c2 lt hb; obtain ⟨c0, c1, c2, lt⟩ := HT.out)
  go_ret
  exact ⟨rfl, bn⟩
 ·obtain ⟨y0, y1, m0, m1⟩ := inYM_iff.1 hi
  have hd := mdy_bd y m
  rw [dys_in hi] at h1
  have hne : (mdy y m == 0) = false := by rw [beq_eq_false_iff_ne]; omega
  generalize mdy y m = dd at *
  have H1 := Lib.hid h1
  clear h1
  by_cases k0 : 1 ≤ k
  ·by_cases k1 : k ≤ 120
   ·have h2 := fun w => cmon7_any y m k (k - 1) w ⟨y0, y1, m0, m1⟩ (by omega)
    have e0 : mno y m = 12 * y + m - 1 := rfl
    have h3 := fun w => cciv7_any (mno y m + (k - 1)) w (by omega)
    have h4 := fun w => days_any ((mno y m + (k - 1)) / 12) ((mno y m + (k - 1)) % 12 + 1) w
    rw [decide_eq_true k0, decide_eq_true k1, Bool.true_and, Bool.true_and, Bool.true_and, decide_eq_true (show 22800 ≤ mno y m + (k - 1) by omega), Bool.true_and]
    have k0' : decide (k < 1) = false := decide_eq_false (by omega)
    have k1' : decide (120 < k) = false := decide_eq_false (by omega)
    have ht : decide (0 < dys ((mno y m + (k - 1)) / 12) ((mno y m + (k - 1)) % 12 + 1)) = decide (mno y m + (k - 1) ≤ 26399) := by
     cases hj : inYM ((mno y m + (k - 1)) / 12) ((mno y m + (k - 1)) % 12 + 1)
     ·rw [dys_out hj]
      have : ¬ (mno y m + (k - 1) ≤ 26399) := fun hc => by rw [inYM_iff.2 ⟨by omega, by omega, by omega, by omega⟩] at hj; cases hj
      rw [decide_eq_false this]; rfl
     ·have h5 := inYM_iff.1 hj
      have h6 := mdy_bd ((mno y m + (k - 1)) / 12) ((mno y m + (k - 1)) % 12 + 1)
      rw [dys_in hj, decide_eq_true (show mno y m + (k - 1) ≤ 26399 by omega), decide_eq_true (by omega)]
    rw [← ht]
    clear ht e0
    generalize dys ((mno y m + (k - 1)) / 12) ((mno y m + (k - 1)) % 12 + 1) = d2 at *
    generalize mno y m + (k - 1) = T at *
    have H2 := Lib.hid h2
    have H3 := Lib.hid h3
    have H4 := Lib.hid h4
    generalize T % 12 + 1 = b2 at *
    generalize T / 12 = a2 at *
    clear h2 h3 h4 hi y0 y1 m0 m1
    go_enter Tryz.func70, Tryz.ntmps70
    go_wp2_with (first | (go_at_call 81; first | (with_reducible refine (H1.out _).mono ?_; rintro e w' ⟨rfl, hb⟩; replace bn := below_more bn hb; replace HT := Lib.hid (HT.out.up hb); clear c0 c1 c2 lt hb; obtain ⟨c0, c1, c2, lt⟩ := HT.out) | (with_reducible refine (H4.out _).mono ?_; rintro e w' ⟨rfl, hb⟩; replace bn := below_more bn hb; replace HT := Lib.hid (HT.out.up hb); clear c0 c1 c2 lt hb; obtain ⟨c0, c1, c2, lt⟩ := HT.out)) | (go_at_call 83; refine (H2.out _).mono ?_; rintro e w' ⟨rfl, hb⟩; replace bn := below_more bn hb; replace HT := Lib.hid (HT.out.up hb); clear c0 c1 c2 lt hb; obtain ⟨c0, c1, c2, lt⟩ := HT.out) | (go_at_call 82; refine (H3.out _).mono ?_; rintro e w' ⟨rfl, rfl⟩))
    go_ret
    exact ⟨rfl, bn⟩
   ·rw [decide_eq_true k0, decide_eq_false k1]
    have k0' : decide (k < 1) = false := decide_eq_false (by omega)
    have k1' : 120 < k := by omega
    clear k1 hi y0 y1 m0 m1
    go_enter Tryz.func70, Tryz.ntmps70
    go_wp2_with (go_at_call 81; refine (H1.out _).mono ?_; rintro e w' ⟨rfl, hb⟩; replace bn := below_more bn hb; replace HT := Lib.hid (HT.out.up hb); clear c0 c1 c2 lt hb; obtain ⟨c0, c1, c2, lt⟩ := HT.out)
    go_ret
    exact ⟨rfl, bn⟩
  ·rw [decide_eq_false k0]
   have k0' : k < 1 := by omega
   clear k0 hi y0 y1 m0 m1
   go_enter Tryz.func70, Tryz.ntmps70
   go_wp2_with (go_at_call 81; refine (H1.out _).mono ?_; rintro e w' ⟨rfl, hb⟩; replace bn := below_more bn hb; replace HT := Lib.hid (HT.out.up hb); clear c0 c1 c2 lt hb; obtain ⟨c0, c1, c2, lt⟩ := HT.out)
   go_ret
   exact ⟨rfl, bn⟩
theorem ccheck7_any (y m k p : Int) (w : World) : Calls Tryz.prog 74 #[calV y m k, .int .i64 p] w fun e w' => e = .returned (.int .i64 (clE y m k p)) ∧ Below w.heap.size w w' := by
 obtain ⟨tn, bn⟩ := tri_new w 23 y m k
 have HT := Lib.hid tn
 obtain ⟨c0, c1, c2, lt⟩ := tn
 have h1 := fun w => cvalid7_any y m k w
 have h2 := fun w => cisp7_any y m k p w
 rcases clE_three y m k p with ⟨hv, he⟩ | ⟨hv, hp, he⟩ | ⟨hv, hp, he⟩
 ·rw [he]
  rw [hv] at h1
  have H1 := Lib.hid h1
  clear h1 h2 hv he
  go_enter Tryz.func74, Tryz.ntmps74
  go_wp2_with (go_at_call 70; refine (H1.out _).mono ?_; rintro e w' ⟨rfl, hb⟩; replace bn := below_more bn hb; replace HT := Lib.hid (HT.out.up hb); clear c0 c1 c2 lt hb; obtain ⟨c0, c1, c2, lt⟩ := HT.out)
  go_ret
  exact ⟨rfl, bn⟩
 ·rw [he]
  rw [hv] at h1
  rw [show (decide (0 ≤ p) && decide (p < k)) = false by rw [Bool.and_eq_false_iff, decide_eq_false_iff_not, decide_eq_false_iff_not]; omega] at h2
  have H1 := Lib.hid h1
  have H2 := Lib.hid h2
  clear h1 h2 hv he
  go_enter Tryz.func74, Tryz.ntmps74
  go_wp2_with (first | (go_at_call 70; refine (H1.out _).mono ?_; rintro e w' ⟨rfl, hb⟩; replace bn := below_more bn hb; replace HT := Lib.hid (HT.out.up hb); clear c0 c1 c2 lt hb; obtain ⟨c0, c1, c2, lt⟩ := HT.out) | (go_at_call 88; refine (H2.out _).mono ?_; rintro e w' ⟨rfl, hb⟩; replace bn := below_more bn hb; replace HT := Lib.hid (HT.out.up hb); clear c0 c1 c2 lt hb; obtain ⟨c0, c1, c2, lt⟩ := HT.out))
  go_ret
  exact ⟨rfl, bn⟩
 ·rw [he]
  rw [hv] at h1
  rw [show (decide (0 ≤ p) && decide (p < k)) = true by rw [Bool.and_eq_true, decide_eq_true_eq, decide_eq_true_eq]; exact hp] at h2
  have H1 := Lib.hid h1
  have H2 := Lib.hid h2
  clear h1 h2 hv he
  go_enter Tryz.func74, Tryz.ntmps74
  go_wp2_with (first | (go_at_call 70; refine (H1.out _).mono ?_; rintro e w' ⟨rfl, hb⟩; replace bn := below_more bn hb; replace HT := Lib.hid (HT.out.up hb); clear c0 c1 c2 lt hb; obtain ⟨c0, c1, c2, lt⟩ := HT.out) | (go_at_call 88; refine (H2.out _).mono ?_; rintro e w' ⟨rfl, hb⟩; replace bn := below_more bn hb; replace HT := Lib.hid (HT.out.up hb); clear c0 c1 c2 lt hb; obtain ⟨c0, c1, c2, lt⟩ := HT.out))
  go_ret
  exact ⟨rfl, bn⟩
theorem cfirst7_any (y m k p : Int) (w : World) : Calls Tryz.prog 75 #[calV y m k, .int .i64 p] w fun e w' => e = .returned (.tuple #[.int .i64 (pdF y m k p), .int .i64 (clE y m k p)]) ∧ Below w.heap.size w w' := by
 obtain ⟨tn, bn⟩ := tri_new w 23 y m k
 have HT := Lib.hid tn
 obtain ⟨c0, c1, c2, lt⟩ := tn
 have h1 := fun w => ccheck7_any y m k p w
 by_cases he : clE y m k p = 0
 ·obtain ⟨hv, hp⟩ := clE_yes he
  obtain ⟨-, e1, -⟩ := pd_in hv hp
  obtain ⟨a0, a1, a2⟩ := cl_month hv hp
  obtain ⟨ym, -⟩ := (clV_iff.1 hv).2
  obtain ⟨k0, k1⟩ := cl_k hv
  have h2 := fun w => cmon7_any y m k p w ym (by omega)
  have h3 := fun w => cciv7_any (mno y m + p) w (by omega)
  obtain ⟨o1, o2⟩ := of_civ (mfst_one a0 a1)
  have h4 := fun w => dtof_any ((mno y m + p) / 12) ((mno y m + p) % 12 + 1) 1 w
  rw [o1, o2] at h4
  rw [e1, he]
  rw [he] at h1
  have H1 := Lib.hid h1
  have H2 := Lib.hid h2
  have H3 := Lib.hid h3
  have H4 := Lib.hid h4
  clear h1 h2 h3 h4 e1 a0 a1 a2 ym o1 o2 he hv hp
  generalize mfst (mno y m + p) = F at *
  generalize mno y m + p = T at *
  generalize T % 12 + 1 = b2 at *
  generalize T / 12 = a2 at *
  go_enter Tryz.func75, Tryz.ntmps75
  go_wp2_with (first | (go_at_call 74; refine (H1.out _).mono ?_; rintro e w' ⟨rfl, hb⟩; replace bn := below_more bn hb; replace HT := Lib.hid (HT.out.up hb); clear c0 c1 c2 lt hb; obtain ⟨c0, c1, c2, lt⟩ := HT.out) | (go_at_call 83; refine (H2.out _).mono ?_; rintro e w' ⟨rfl, hb⟩; replace bn := below_more bn hb; replace HT := Lib.hid (HT.out.up hb); clear c0 c1 c2 lt hb; obtain ⟨c0, c1, c2, lt⟩ := HT.out) | (go_at_call 82; refine (H3.out _).mono ?_; rintro e w' ⟨rfl, rfl⟩) | (go_at_call 89; refine (H4.out _).mono ?_; rintro e w' ⟨rfl, hb⟩; replace bn := below_more bn hb; replace HT := Lib.hid (HT.out.up hb); clear c0 c1 c2 lt hb; obtain ⟨c0, c1, c2, lt⟩ := HT.out))
  go_ret2
  exact ⟨rfl, bn⟩
 ·obtain ⟨z1, z2, z3, z4, z5, z6, z7⟩ := pd_out he
  rw [z1]
  have hne : (clE y m k p != 0) = true := by simpa using he
  generalize clE y m k p = er at *
  have H1 := Lib.hid h1
  clear h1 he z1 z2 z3 z4 z5 z6 z7
  go_enter Tryz.func75, Tryz.ntmps75
  go_wp2_with (go_at_call 74; refine (H1.out _).mono ?_; rintro e w' ⟨rfl, hb⟩; replace bn := below_more bn hb; replace HT := Lib.hid (HT.out.up hb); clear c0 c1 c2 lt hb; obtain ⟨c0, c1, c2, lt⟩ := HT.out)
  go_ret2
  exact ⟨rfl, bn⟩
theorem cbegin7_any (y m k p : Int) (w : World) : Calls Tryz.prog 55 #[calV y m k, .int .i64 p] w fun e w' => e = .returned (.tuple #[.int .i64 (pdB y m k p), .int .i64 (clE y m k p)]) ∧ Below w.heap.size w w' := by
 obtain ⟨tn, bn⟩ := tri_new w 23 y m k
 have HT := Lib.hid tn
 obtain ⟨c0, c1, c2, lt⟩ := tn
 have h1 := fun w => ccheck7_any y m k p w
 by_cases he : clE y m k p = 0
 ·obtain ⟨hv, hp⟩ := clE_yes he
  obtain ⟨-, -, -, -, e1⟩ := pd_in hv hp
  have h2 := fun w => cfirst7_any y m k (p / 12 * 12) w
  obtain ⟨f0, f1, -⟩ := pd_in hv (p := p / 12 * 12) (by omega)
  rw [f0, f1, show mno y m + p / 12 * 12 = mno y m + p - p % 12 by omega] at h2
  rw [e1, he]
  have H2 := Lib.hid h2
  clear h2 e1 f0 f1
  rw [he] at h1
  have H1 := Lib.hid h1
  obtain ⟨p0, p1⟩ := hp
  obtain ⟨k0, k1⟩ := cl_k hv
  clear h1 he hv
  go_enter Tryz.func55, Tryz.ntmps55
  go_wp2_with (first | (go_at_call 74; refine (H1.out _).mono ?_; rintro e w' ⟨rfl, hb⟩; replace bn := below_more bn hb; replace HT := Lib.hid (HT.out.up hb); clear c0 c1 c2 lt hb; obtain ⟨c0, c1, c2, lt⟩ := HT.out) | (go_at_call 75; refine (H2.out _).mono ?_; rintro e w' ⟨rfl, hb⟩; replace bn := below_more bn hb; replace HT := Lib.hid (HT.out.up hb); clear c0 c1 c2 lt hb; obtain ⟨c0, c1, c2, lt⟩ := HT.out))
  go_ret2
  exact ⟨rfl, bn⟩
 ·obtain ⟨z1, z2, z3, z4, z5, z6, z7⟩ := pd_out he
  rw [z4]
  have hne : (clE y m k p != 0) = true := by simpa using he
  generalize clE y m k p = er at *
  have H1 := Lib.hid h1
  clear h1 he z1 z2 z3 z4 z5 z6 z7
  go_enter Tryz.func55, Tryz.ntmps55
  go_wp2_with (go_at_call 74; refine (H1.out _).mono ?_; rintro e w' ⟨rfl, hb⟩; replace bn := below_more bn hb; replace HT := Lib.hid (HT.out.up hb); clear c0 c1 c2 lt hb; obtain ⟨c0, c1, c2, lt⟩ := HT.out)
  go_ret2
  exact ⟨rfl, bn⟩
def grpP (g : Grp) (L : List Acc) (G : List Ent) : Bool := curB g.cur && (clV g.cy g.cm g.cp && (chaB L && (rlsB L g.R && ensP L g.R G)))
set_option maxRecDepth 20000 in
set_option maxHeartbeats 3200000 in
theorem gvalid_any (g : Grp) (L : List Acc) (G : List Ent) (w : World) (hk : GrK w g L G) (hs : Sm g G) (hw : GrW g L G) :
  Calls Tryz.prog 54 #[grpV g] w fun e' w' => e' = .returned (.bool (grpP g L G)) ∧ Below w.heap.size w w' := by
 have hB := below_alloc_new (w := w) (.cells #[.string g.cur, .int .i64 g.cy, .int .i64 g.cm, .int .i64 g.cp, .slice g.A g.n g.c, .int .i64 g.r0, .int .i64 g.r1, .int .i64 g.r2, .int .i64 g.r3, .int .i64 g.r4, .int .i64 g.r5, .int .i64 g.r6, .int .i64 g.r7, .int .i64 g.r8, .int .i64 g.r9, .int .i64 g.r10, .int .i64 g.r11, .int .i64 g.r12, .int .i64 g.r13, .int .i64 g.r14, .slice g.E g.m g.d] 29)
 have hG := gb_new w 29 g
 have hk2 := hk.up hB
 have hn := hs.n
 have h1 := fun w => gcur_any g.cur w
 have h2 := fun w => cvalid7_any g.cy g.cm g.cp w
 have h3 : ∀ w, AccAt w g.A L → Calls Tryz.prog 71 #[.slice g.A g.n g.c] w fun e' w' => e' = .returned (.bool (chaB L)) ∧ Below w.heap.size w w' := fun w h => by
  have h9 := gcha_any g.A g.c L w h (by have := hk.ln; omega)
  rw [hk.ln] at h9
  exact h9
 have h4 := fun w h => groles_any g L w h hk.ln (by omega) hw.rol
 have h5 := fun w h => gents_any g L G w h hs hw
 have hv : grpP g L G = (curB g.cur && (clV g.cy g.cm g.cp && (chaB L && (rlsB L g.R && ensP L g.R G)))) := rfl
 obtain ⟨X, hX⟩ : ∃ X : Value, X = grpV g := ⟨_, rfl⟩
 rw [← hX] at h4 h5
 generalize grpP g L G = r at *
 generalize curB g.cur = q1 at *
 generalize clV g.cy g.cm g.cp = q2 at *
 generalize chaB L = q3 at *
 generalize rlsB L g.R = q4 at *
 generalize ensP L g.R G = q5 at *
 obtain ⟨s0, hs0⟩ : ∃ s0, w.heap.size = s0 := ⟨_, rfl⟩
 have hs1 : s0 ≤ (w.alloc (.cells #[.string g.cur, .int .i64 g.cy, .int .i64 g.cm, .int .i64 g.cp, .slice g.A g.n g.c, .int .i64 g.r0, .int .i64 g.r1, .int .i64 g.r2, .int .i64 g.r3, .int .i64 g.r4, .int .i64 g.r5, .int .i64 g.r6, .int .i64 g.r7, .int .i64 g.r8, .int .i64 g.r9, .int .i64 g.r10, .int .i64 g.r11, .int .i64 g.r12, .int .i64 g.r13, .int .i64 g.r14, .slice g.E g.m g.d] 29)).heap.size := by simp; omega
 rw [hs0] at hB hG ⊢
 have HX := Lib.hid hX
 have HG := Lib.hid hG
 have HK := Lib.hid hk2
 have HSZ := Lib.hid hs1
 have HCU := Lib.hid h1
 have HCL := Lib.hid h2
 have HCH := Lib.hid h3
 have HRO := Lib.hid h4
 have HEN := Lib.hid h5
 have HV := Lib.hid hv
 have c0 := hG.c0
 have c1 := hG.c1
 have c2 := hG.c2
 have c3 := hG.c3
 have c4 := hG.c4
 clear hk hs hw hG hk2 hn h1 h2 h3 h4 h5 hv hX hs1
 cases q1
 ·go_enter Tryz.func54, Tryz.ntmps54
  go_wp2_with (first | (go_at_call 69; refine (HCU.out _).mono ?_; rintro e1 w1 ⟨rfl, rfl⟩))
  go_ret
  exact ⟨by rw [HV.out]; rfl, hB⟩
 cases q2
 ·go_enter Tryz.func54, Tryz.ntmps54
  go_wp2_with (first | (go_at_call 69; refine (HCU.out _).mono ?_; rintro e1 w1 ⟨rfl, rfl⟩) | (go_at_call 70; refine (HCL.out _).mono ?_; rintro e1 w1 ⟨rfl, hb⟩; have hB9 := hB.trans (hb.mono HSZ.out); have HSZ9 := Lib.hid (Nat.le_trans HSZ.out hb.size); have HG9 := Lib.hid (HG.out.up hb); have HK9 := Lib.hid (HK.out.up hb); clear hb hB HSZ HG HK c0 c1 c2 c3 c4; have hB := hB9; have HSZ := HSZ9; have HG := HG9; have HK := HK9; clear hB9 HSZ9 HG9 HK9; have c0 := HG.out.c0; have c1 := HG.out.c1; have c2 := HG.out.c2; have c3 := HG.out.c3; have c4 := HG.out.c4))
  go_ret
  exact ⟨by rw [HV.out]; rfl, hB⟩
 cases q3
 ·go_enter Tryz.func54, Tryz.ntmps54
  go_wp2_with (first | (go_at_call 69; refine (HCU.out _).mono ?_; rintro e1 w1 ⟨rfl, rfl⟩) | (go_at_call 70; refine (HCL.out _).mono ?_; rintro e1 w1 ⟨rfl, hb⟩; have hB9 := hB.trans (hb.mono HSZ.out); have HSZ9 := Lib.hid (Nat.le_trans HSZ.out hb.size); have HG9 := Lib.hid (HG.out.up hb); have HK9 := Lib.hid (HK.out.up hb); clear hb hB HSZ HG HK c0 c1 c2 c3 c4; have hB := hB9; have HSZ := HSZ9; have HG := HG9; have HK := HK9; clear hB9 HSZ9 HG9 HK9; have c0 := HG.out.c0; have c1 := HG.out.c1; have c2 := HG.out.c2; have c3 := HG.out.c3; have c4 := HG.out.c4) | (go_at_call 71; (with_reducible refine (HCH.out _ HK.out.hz).mono ?_); rintro e1 w2 ⟨rfl, hb⟩; have hB9 := hB.trans (hb.mono HSZ.out); have HSZ9 := Lib.hid (Nat.le_trans HSZ.out hb.size); have HG9 := Lib.hid (HG.out.up hb); have HK9 := Lib.hid (HK.out.up hb); clear hb hB HSZ HG HK c0 c1 c2 c3 c4; have hB := hB9; have HSZ := HSZ9; have HG := HG9; have HK := HK9; clear hB9 HSZ9 HG9 HK9; have c0 := HG.out.c0; have c1 := HG.out.c1; have c2 := HG.out.c2; have c3 := HG.out.c3; have c4 := HG.out.c4))
  go_ret
  exact ⟨by rw [HV.out]; rfl, hB⟩
 cases q4
 ·go_enter Tryz.func54, Tryz.ntmps54
  go_wp2_with (first | (go_at_call 69; refine (HCU.out _).mono ?_; rintro e1 w1 ⟨rfl, rfl⟩) | (go_at_call 70; refine (HCL.out _).mono ?_; rintro e1 w1 ⟨rfl, hb⟩; have hB9 := hB.trans (hb.mono HSZ.out); have HSZ9 := Lib.hid (Nat.le_trans HSZ.out hb.size); have HG9 := Lib.hid (HG.out.up hb); have HK9 := Lib.hid (HK.out.up hb); clear hb hB HSZ HG HK c0 c1 c2 c3 c4; have hB := hB9; have HSZ := HSZ9; have HG := HG9; have HK := HK9; clear hB9 HSZ9 HG9 HK9; have c0 := HG.out.c0; have c1 := HG.out.c1; have c2 := HG.out.c2; have c3 := HG.out.c3; have c4 := HG.out.c4) | (go_at_call 71; (with_reducible refine (HCH.out _ HK.out.hz).mono ?_); rintro e1 w2 ⟨rfl, hb⟩; have hB9 := hB.trans (hb.mono HSZ.out); have HSZ9 := Lib.hid (Nat.le_trans HSZ.out hb.size); have HG9 := Lib.hid (HG.out.up hb); have HK9 := Lib.hid (HK.out.up hb); clear hb hB HSZ HG HK c0 c1 c2 c3 c4; have hB := hB9; have HSZ := HSZ9; have HG := HG9; have HK := HK9; clear hB9 HSZ9 HG9 HK9; have c0 := HG.out.c0; have c1 := HG.out.c1; have c2 := HG.out.c2; have c3 := HG.out.c3; have c4 := HG.out.c4) | (refine wpList_load_is rfl 29 _ rfl (.pointer (some ⟨s0, 0, none⟩)) rfl X (gb_lV HG.out HX.out) ?_) | (refine wpList_load_if rfl 29 _ rfl (.pointer (some ⟨s0, 0, none⟩)) rfl X (gb_lV HG.out HX.out) ?_) | (refine wp_load_is 29 _ rfl (.pointer (some ⟨s0, 0, none⟩)) rfl X (gb_lV HG.out HX.out) ?_) | (go_at_call 72; (with_reducible refine (HRO.out _ HK.out.hz).mono ?_); rintro e1 w3 ⟨rfl, hb⟩; have hB9 := hB.trans (hb.mono HSZ.out); have HSZ9 := Lib.hid (Nat.le_trans HSZ.out hb.size); have HG9 := Lib.hid (HG.out.up hb); have HK9 := Lib.hid (HK.out.up hb); clear hb hB HSZ HG HK c0 c1 c2 c3 c4; have hB := hB9; have HSZ := HSZ9; have HG := HG9; have HK := HK9; clear hB9 HSZ9 HG9 HK9; have c0 := HG.out.c0; have c1 := HG.out.c1; have c2 := HG.out.c2; have c3 := HG.out.c3; have c4 := HG.out.c4))
  go_ret
  exact ⟨by rw [HV.out]; rfl, hB⟩
 go_enter Tryz.func54, Tryz.ntmps54
 go_wp2_with (first | (go_at_call 69; refine (HCU.out _).mono ?_; rintro e1 w1 ⟨rfl, rfl⟩) | (go_at_call 70; refine (HCL.out _).mono ?_; rintro e1 w1 ⟨rfl, hb⟩; have hB9 := hB.trans (hb.mono HSZ.out); have HSZ9 := Lib.hid (Nat.le_trans HSZ.out hb.size); have HG9 := Lib.hid (HG.out.up hb); have HK9 := Lib.hid (HK.out.up hb); clear hb hB HSZ HG HK c0 c1 c2 c3 c4; have hB := hB9; have HSZ := HSZ9; have HG := HG9; have HK := HK9; clear hB9 HSZ9 HG9 HK9; have c0 := HG.out.c0; have c1 := HG.out.c1; have c2 := HG.out.c2; have c3 := HG.out.c3; have c4 := HG.out.c4) | (go_at_call 71; (with_reducible refine (HCH.out _ HK.out.hz).mono ?_); rintro e1 w2 ⟨rfl, hb⟩; have hB9 := hB.trans (hb.mono HSZ.out); have HSZ9 := Lib.hid (Nat.le_trans HSZ.out hb.size); have HG9 := Lib.hid (HG.out.up hb); have HK9 := Lib.hid (HK.out.up hb); clear hb hB HSZ HG HK c0 c1 c2 c3 c4; have hB := hB9; have HSZ := HSZ9; have HG := HG9; have HK := HK9; clear hB9 HSZ9 HG9 HK9; have c0 := HG.out.c0; have c1 := HG.out.c1; have c2 := HG.out.c2; have c3 := HG.out.c3; have c4 := HG.out.c4) | (refine wpList_load_is rfl 29 _ rfl (.pointer (some ⟨s0, 0, none⟩)) rfl X (gb_lV HG.out HX.out) ?_) | (refine wpList_load_if rfl 29 _ rfl (.pointer (some ⟨s0, 0, none⟩)) rfl X (gb_lV HG.out HX.out) ?_) | (refine wp_load_is 29 _ rfl (.pointer (some ⟨s0, 0, none⟩)) rfl X (gb_lV HG.out HX.out) ?_) | (go_at_call 72; (with_reducible refine (HRO.out _ HK.out.hz).mono ?_); rintro e1 w3 ⟨rfl, hb⟩; have hB9 := hB.trans (hb.mono HSZ.out); have HSZ9 := Lib.hid (Nat.le_trans HSZ.out hb.size); have HG9 := Lib.hid (HG.out.up hb); have HK9 := Lib.hid (HK.out.up hb); clear hb hB HSZ HG HK c0 c1 c2 c3 c4; have hB := hB9; have HSZ := HSZ9; have HG := HG9; have HK := HK9; clear hB9 HSZ9 HG9 HK9; have c0 := HG.out.c0; have c1 := HG.out.c1; have c2 := HG.out.c2; have c3 := HG.out.c3; have c4 := HG.out.c4) | (go_at_call 73; (with_reducible refine (HEN.out _ HK.out).mono ?_); rintro e1 w4 ⟨rfl, hb⟩; have hB9 := hB.trans (hb.mono HSZ.out); have HSZ9 := Lib.hid (Nat.le_trans HSZ.out hb.size); have HG9 := Lib.hid (HG.out.up hb); have HK9 := Lib.hid (HK.out.up hb); clear hb hB HSZ HG HK c0 c1 c2 c3 c4; have hB := hB9; have HSZ := HSZ9; have HG := HG9; have HK := HK9; clear hB9 HSZ9 HG9 HK9; have c0 := HG.out.c0; have c1 := HG.out.c1; have c2 := HG.out.c2; have c3 := HG.out.c3; have c4 := HG.out.c4))
 go_ret
 exact ⟨by rw [HV.out]; rfl, hB⟩
structure V9 (w : World) (s0 : Nat) (nm cur : ByteArray) (A : Option Addr) (n cp : Nat) (B : Option Addr) (m d : Nat) (jt : Bool) (L : List Acc) (K : List Lnk) (C : Option Addr) (c : List Acc) : Prop where
 eb : EB w s0 nm cur A n cp B m d jt
 hz : AccAt w A L
 hy : LnkAt w B K
 hx : AccAt w C c
theorem V9.up {w w2 : World} {s0 : Nat} {nm cur : ByteArray} {A : Option Addr} {n cp : Nat} {B : Option Addr} {m d : Nat} {jt : Bool} {L : List Acc} {K : List Lnk} {C : Option Addr} {c : List Acc} (h : V9 w s0 nm cur A n cp B m d jt L K C c) (hb : Below w.heap.size w w2) : V9 w2 s0 nm cur A n cp B m d jt L K C c :=
 ⟨h.eb.up hb, h.hz.up hb, h.hy.up hb, h.hx.up hb⟩
theorem mvB_no5 {L : List Acc} {K : List Lnk} {c : List Acc} {k : Nat} (hk : k < K.length) (h : dfB K k = false) : mvB L K c = false := by
 unfold mvB
 rw [allTo_no (p := dfB K) hk h]; simp
theorem dfB_no {K : List Lnk} {k j : Nat} (hj : j < k) (h : smB K k j = true) : dfB K k = false := by
 unfold dfB
 exact allTo_no (k := j) hj (by rw [h]; rfl)
set_option maxRecDepth 20000 in
set_option maxHeartbeats 6400000 in
theorem rval9_any (nm cur : ByteArray) (A : Option Addr) (cp : Nat) (L : List Acc) (B : Option Addr) (d : Nat) (K : List Lnk) (jt : Bool) (C : Option Addr) (cc : Nat) (c : List Acc) (w : World) (hz : AccAt w A L) (hy : LnkAt w B K) (hx : AccAt w C c) (hl : L.length ≤ 1000) (hm : K.length ≤ 1000) (hc : c.length ≤ 1000) :
  Calls Tryz.prog 51 #[entV nm cur A L.length cp B K.length d jt, .slice C c.length cc] w fun e w' => e = .returned (.bool (mvB L K c)) ∧ Below w.heap.size w w' := by
 have hB := below_alloc_new (w := w) (.cells #[.string nm, .string cur, .slice A L.length cp, .slice B K.length d, .bool jt] 53)
 have hV9 : V9 (w.alloc (.cells #[.string nm, .string cur, .slice A L.length cp, .slice B K.length d, .bool jt] 53)) w.heap.size nm cur A L.length cp B K.length d jt L K C c := ⟨eb_new _ _ _ _ _ _ _ _ _ _ _, hz.up hB, hy.up hB, hx.up hB⟩
 have h1 : ∀ w, AccAt w C c → Calls Tryz.prog 47 #[.slice C c.length cc, .bool true] w fun e w' => e = .returned (.bool (vB c true)) ∧ Below w.heap.size w w' := fun w h => by rw [vB_eq]; exact rvalid8_any C cc c true w h hc
 have h2 : ∀ w, AccAt w A L → Calls Tryz.prog 47 #[.slice A L.length cp, .bool false] w fun e w' => e = .returned (.bool (vB L false)) ∧ Below w.heap.size w w' := fun w h => by rw [vB_eq]; exact rvalid8_any A cp L false w h hl
 have h3 := fun x w h => rfind_any A cp L x w h hl
 have h4 := fun x w h => rfind_any C cc c x w h hc
 have h5 := fun x w => rvd_any x w
 have N1 := mvB_no1 (L := L) (K := K) (c := c)
 have N2 := mvB_no2 (L := L) (K := K) (c := c)
 have N3 := mvB_no3 (L := L) (K := K) (c := c)
 have N4 := fun k => mvB_no4 (L := L) (K := K) (c := c) (k := k)
 have N5 := fun k j (hk : k < K.length) (hj : j < k) h => mvB_no5 (L := L) (c := c) hk (dfB_no (K := K) hj h)
 have NE := fun h1 h2 h3 h4 (h5 : allTo (dfB K) K.length = true) => (mvB_end (L := L) (K := K) (c := c) h1 h2 h3 h4).trans h5
 have hD : ∀ i, dfB K i = allTo (fun k => !smB K i k) i := fun _ => rfl
 have hS : ∀ i k, smB K i k = (decide ((K.getD k lnk0).frm = (K.getD i lnk0).frm) && decide ((K.getD k lnk0).since = (K.getD i lnk0).since)) := fun _ _ => rfl
 have hP : ∀ k, lnkB L c (K.getD k lnk0) = ((fnd L (K.getD k lnk0).frm).isSome && ((fnd c (K.getD k lnk0).tgt).isSome && (decide ((fndA L (K.getD k lnk0).frm).kind = (fndA c (K.getD k lnk0).tgt).kind) && vdB (K.getD k lnk0).since))) := fun _ => rfl
 generalize mvB L K c = r at *
 obtain ⟨P, hPe⟩ : ∃ P : Nat → Bool, (fun i => lnkB L c (K.getD i lnk0)) = P := ⟨_, rfl⟩
 have hPk : ∀ k, lnkB L c (K.getD k lnk0) = P k := fun k => by rw [← hPe]
 rw [hPe] at NE
 simp only [hPk] at N4 hP
 obtain ⟨D9, hD9⟩ : ∃ D9 : Nat → Bool, dfB K = D9 := ⟨_, rfl⟩
 rw [hD9] at NE
 simp only [hD9] at hD
 obtain ⟨S9, hS9⟩ : ∃ S9 : Nat → Nat → Bool, smB K = S9 := ⟨_, rfl⟩
 simp only [hS9] at hD hS N5
 obtain ⟨b1, hb1⟩ : ∃ b, vB c true = b := ⟨_, rfl⟩
 rw [hb1] at h1 N1 NE
 obtain ⟨b2, hb2⟩ : ∃ b, vB L false = b := ⟨_, rfl⟩
 rw [hb2] at h2 N2 NE
 obtain ⟨n, hn2⟩ : ∃ n, L.length = n := ⟨_, rfl⟩
 obtain ⟨k0, hk0⟩ : ∃ k0, c.length = k0 := ⟨_, rfl⟩
 obtain ⟨m, hm2⟩ : ∃ m, K.length = m := ⟨_, rfl⟩
 obtain ⟨s0, hs0⟩ : ∃ s0, w.heap.size = s0 := ⟨_, rfl⟩
 rw [hn2, hm2] at hV9 hB
 rw [hs0] at hV9 hB
 rw [hn2] at h2 h3
 rw [hk0] at h1 h4
 rw [hm2] at N3 N4 N5 NE hm
 rw [hn2, hm2, hk0]
 have HN1 := Lib.hid N1
 have HN2 := Lib.hid N2
 have HN3 := Lib.hid N3
 have HN4 := Lib.hid N4
 have HN5 := Lib.hid N5
 have HNE := Lib.hid NE
 have HD := Lib.hid hD
 have HS := Lib.hid hS
 have HP := Lib.hid hP
 have HM := Lib.hid hm2
 have H1 := Lib.hid h1
 have H2 := Lib.hid h2
 have H3 := Lib.hid h3
 have H4 := Lib.hid h4
 have H5 := Lib.hid h5
 have HS0 := Lib.hid hs0
 have HV := Lib.hid hV9
 obtain ⟨c0, c1, c2, c3, c4, lt⟩ := HV.out.eb
 rw [← HS0.out] at c0 c1 c2 c3 c4 lt
 clear hz hy hx h1 h2 h3 h4 h5 N1 N2 N3 N4 N5 NE hD hS hP hPe hPk hD9 hS9 hb1 hb2 hn2 hk0 hm2 hs0 hl hc hV9
 cases b1
 ·have HR := Lib.hid (HN1.out rfl)
  clear HN1 HN2 HN3 HN4 HN5 HNE
  go_enter Tryz.func51, Tryz.ntmps51
  go_wp2_with (go_at_call 47; first
   | ((with_reducible refine (H1.out _ HV.out.hx).mono ?_); rintro e w1 ⟨rfl, hb⟩; have hsq := hB.size; rw [HS0.out] at hsq; replace HV := Lib.hid (HV.out.up hb); replace hB := hB.trans (hb.mono hsq); clear hb hsq c0 c1 c2 c3 c4 lt; obtain ⟨c0, c1, c2, c3, c4, lt⟩ := HV.out.eb; rw [← HS0.out] at c0 c1 c2 c3 c4 lt))
  go_ret
  exact ⟨by rw [HR.out]; rfl, by first | exact hB | (rw [HS0.out]; exact hB)⟩
 cases b2
 ·have HR := Lib.hid (HN2.out rfl)
  clear HN1 HN2 HN3 HN4 HN5 HNE
  go_enter Tryz.func51, Tryz.ntmps51
  go_wp2_with (go_at_call 47; first
   | ((with_reducible refine (H1.out _ HV.out.hx).mono ?_); rintro e w1 ⟨rfl, hb⟩; have hsq := hB.size; rw [HS0.out] at hsq; replace HV := Lib.hid (HV.out.up hb); replace hB := hB.trans (hb.mono hsq); clear hb hsq c0 c1 c2 c3 c4 lt; obtain ⟨c0, c1, c2, c3, c4, lt⟩ := HV.out.eb; rw [← HS0.out] at c0 c1 c2 c3 c4 lt)
   | ((with_reducible refine (H2.out _ HV.out.hz).mono ?_); rintro e w2 ⟨rfl, hb⟩; have hsq := hB.size; rw [HS0.out] at hsq; replace HV := Lib.hid (HV.out.up hb); replace hB := hB.trans (hb.mono hsq); clear hb hsq c0 c1 c2 c3 c4 lt; obtain ⟨c0, c1, c2, c3, c4, lt⟩ := HV.out.eb; rw [← HS0.out] at c0 c1 c2 c3 c4 lt))
  go_ret
  exact ⟨by rw [HR.out]; rfl, by first | exact hB | (rw [HS0.out]; exact hB)⟩
 rcases Nat.lt_or_ge 400 m with hm4 | hm4
 ·have HR := Lib.hid (HN3.out hm4)
  have e4 : decide ((400 : Int) < (m : Int)) = true := decide_eq_true (by omega)
  clear HN1 HN2 HN3 HN4 HN5 HNE hm4
  go_enter Tryz.func51, Tryz.ntmps51
  go_wp2_with (go_at_call 47; first
   | ((with_reducible refine (H1.out _ HV.out.hx).mono ?_); rintro e w1 ⟨rfl, hb⟩; have hsq := hB.size; rw [HS0.out] at hsq; replace HV := Lib.hid (HV.out.up hb); replace hB := hB.trans (hb.mono hsq); clear hb hsq c0 c1 c2 c3 c4 lt; obtain ⟨c0, c1, c2, c3, c4, lt⟩ := HV.out.eb; rw [← HS0.out] at c0 c1 c2 c3 c4 lt)
   | ((with_reducible refine (H2.out _ HV.out.hz).mono ?_); rintro e w2 ⟨rfl, hb⟩; have hsq := hB.size; rw [HS0.out] at hsq; replace HV := Lib.hid (HV.out.up hb); replace hB := hB.trans (hb.mono hsq); clear hb hsq c0 c1 c2 c3 c4 lt; obtain ⟨c0, c1, c2, c3, c4, lt⟩ := HV.out.eb; rw [← HS0.out] at c0 c1 c2 c3 c4 lt))
  go_ret
  exact ⟨by rw [HR.out]; rfl, by first | exact hB | (rw [HS0.out]; exact hB)⟩
 have e4 : decide ((400 : Int) < (m : Int)) = false := decide_eq_false (by omega)
 have HNE2 := Lib.hid (HNE.out rfl rfl hm4)
 clear HN1 HN2 HN3 HNE hm4
 go_enter Tryz.func51, Tryz.ntmps51
 go_wp2_with (go_at_call 47; first
  | ((with_reducible refine (H1.out _ HV.out.hx).mono ?_); rintro e w1 ⟨rfl, hb⟩; have hsq := hB.size; rw [HS0.out] at hsq; replace HV := Lib.hid (HV.out.up hb); replace hB := hB.trans (hb.mono hsq); clear hb hsq c0 c1 c2 c3 c4 lt; obtain ⟨c0, c1, c2, c3, c4, lt⟩ := HV.out.eb; rw [← HS0.out] at c0 c1 c2 c3 c4 lt)
  | ((with_reducible refine (H2.out _ HV.out.hz).mono ?_); rintro e w2 ⟨rfl, hb⟩; have hsq := hB.size; rw [HS0.out] at hsq; replace HV := Lib.hid (HV.out.up hb); replace hB := hB.trans (hb.mono hsq); clear hb hsq c0 c1 c2 c3 c4 lt; obtain ⟨c0, c1, c2, c3, c4, lt⟩ := HV.out.eb; rw [← HS0.out] at c0 c1 c2 c3 c4 lt))
 clear c0 c1 c2 c3 c4 lt
 rw [HS0.out]
 go_loopg [5] m (fun kx s5 wr => ∃ k : Nat, s5 = .int .i64 k ∧ k ≤ m ∧ m - k ≤ kx ∧ Hid (allTo P k = true) ∧ Hid (allTo D9 k = true) ∧ Hid (V9 wr s0 nm cur A n cp B m d jt L K C c) ∧ Below s0 w wr)
 case atStart => exact ⟨0, rfl, by omega, by omega, Lib.hid rfl, Lib.hid rfl, HV, hB⟩
 case round =>
  clear HV hB
  try clear HV
  try clear hB
  obtain ⟨k, rfl, hk, hkx, HA, HA9, HV, hB⟩ := hrel
  have hsz : s0 ≤ wr.heap.size := by have := hB.size; have := HS0.out; omega
  obtain ⟨c0, c1, c2, c3, c4, lt⟩ := HV.out.eb
  by_cases hlt : k < m
  ·have hltz : (k : Int) < (m : Int) := by omega
   obtain ⟨b, off, eB, hbw, hcs⟩ := HV.out.hy (by rw [HM.out]; omega)
   subst eB
   have l3 := hcs k (by rw [HM.out]; exact hlt)
   have hp := HP.out k
   have hno := HN4.out k hlt
   have hs9 := fun j => HS.out k j
   obtain ⟨x, hx⟩ : ∃ x, K.getD k lnk0 = x := ⟨_, rfl⟩
   rw [hx] at l3 hp
   simp only [hx] at hs9
   have hb6 := below_alloc_new (w := wr) (.cells #[.int .i64 x.frm, .int .i64 x.tgt, .int .i64 x.since] 104)
   have HV1 := Lib.hid (HV.out.up hb6)
   have HL1 := Lib.hid (lb_new wr 104 x)
   have HB1 : Hid (Below s0 w (wr.alloc (.cells #[.int .i64 x.frm, .int .i64 x.tgt, .int .i64 x.since] 104))) := Lib.hid (hB.alloc hsz _)
   have HSZ1 : Hid (s0 ≤ (wr.alloc (.cells #[.int .i64 x.frm, .int .i64 x.tgt, .int .i64 x.since] 104)).heap.size) := Lib.hid (by simp; omega)
   have h3 := fun w h => H3.out x.frm w h
   have h4 := fun w h => H4.out x.tgt w h
   have h5 := fun w => H5.out x.since w
   generalize (fnd L x.frm).isSome = q1 at *
   generalize (fnd c x.tgt).isSome = q2 at *
   generalize fndA L x.frm = fa at *
   generalize fndA c x.tgt = fb at *
   generalize vdB x.since = q4 at *
   obtain ⟨q3, hq3⟩ : ∃ q3, decide (fa.kind = fb.kind) = q3 := ⟨_, rfl⟩
   have e3 : (fa.kind != fb.kind) = !q3 := by rw [← hq3]; by_cases h : fa.kind = fb.kind <;> simp [h]
   rw [hq3] at hp
   obtain ⟨d0, d1, d2⟩ := l3
   obtain ⟨⟨v0, v1, v2⟩, vlt⟩ := HL1.out
   simp only [Nat.zero_add] at v1 v2
   obtain ⟨y0, y1, y2, y3, y4, ylt⟩ := HV1.out.eb
   have H3x := Lib.hid h3
   have H4x := Lib.hid h4
   have H5x := Lib.hid h5
   have HS9 := Lib.hid hs9
   have HNo := Lib.hid hno
   have HPx := Lib.hid hp
   have HXE := Lib.hid hx
   clear hcs hx hb6 h3 h4 h5 hq3 hp hno hs9
   rcases (show q1 = false ∨ (q1 = true ∧ q2 = false) ∨ (q1 = true ∧ q2 = true ∧ q3 = false) ∨ (q1 = true ∧ q2 = true ∧ q3 = true ∧ q4 = false) ∨ (q1 = true ∧ q2 = true ∧ q3 = true ∧ q4 = true) from by cases q1 <;> cases q2 <;> cases q3 <;> cases q4 <;> simp) with rfl | ⟨rfl, rfl⟩ | ⟨rfl, rfl, rfl⟩ | ⟨rfl, rfl, rfl, rfl⟩ | ⟨rfl, rfl, rfl, rfl⟩
   ·have HR := Lib.hid (HNo.out (by rw [HPx.out]; rfl))
    clear HNo HPx
    go_wp2_with (first
     | (go_at_call 61; first
     | ((with_reducible refine (H3x.out _ HV1.out.hz).mono ?_); rintro e w2 ⟨rfl, hb⟩; have HA3 := Lib.hid (ab_new w2 69 fa); have HV2 := Lib.hid ((HV1.out.up hb).up (below_alloc_new (.cells #[.int .i64 fa.code, .int .i64 fa.kind, .int .i64 fa.basis, .int .i64 fa.par] 69))); have HL2 := Lib.hid ((HL1.out.up hb).up (below_alloc_new (.cells #[.int .i64 fa.code, .int .i64 fa.kind, .int .i64 fa.basis, .int .i64 fa.par] 69))); have HB2 := Lib.hid ((HB1.out.trans (hb.mono HSZ1.out)).alloc (Nat.le_trans HSZ1.out hb.size) (.cells #[.int .i64 fa.code, .int .i64 fa.kind, .int .i64 fa.basis, .int .i64 fa.par] 69)); have HSZ2 : Hid (s0 ≤ (w2.alloc (.cells #[.int .i64 fa.code, .int .i64 fa.kind, .int .i64 fa.basis, .int .i64 fa.par] 69)).heap.size) := Lib.hid (Nat.le_trans (Nat.le_trans HSZ1.out hb.size) (by (simp))); clear hb v0 v1 v2 vlt y0 y1 y2 y3 y4 ylt; obtain ⟨⟨v0, v1, v2⟩, vlt⟩ := HL2.out; simp only [Nat.zero_add] at v1 v2; obtain ⟨y0, y1, y2, y3, y4, ylt⟩ := HV2.out.eb)
     | ((with_reducible refine (H4x.out _ HV2.out.hx).mono ?_); rintro e w3 ⟨rfl, hb⟩; have HA4 := Lib.hid ((HA3.out.up hb).up (below_alloc_new (.cells #[.int .i64 fb.code, .int .i64 fb.kind, .int .i64 fb.basis, .int .i64 fb.par] 69))); have HA5 := Lib.hid (ab_new w3 69 fb); have HV3 := Lib.hid ((HV2.out.up hb).up (below_alloc_new (.cells #[.int .i64 fb.code, .int .i64 fb.kind, .int .i64 fb.basis, .int .i64 fb.par] 69))); have HL3 := Lib.hid ((HL2.out.up hb).up (below_alloc_new (.cells #[.int .i64 fb.code, .int .i64 fb.kind, .int .i64 fb.basis, .int .i64 fb.par] 69))); have HB3 := Lib.hid ((HB2.out.trans (hb.mono HSZ2.out)).alloc (Nat.le_trans HSZ2.out hb.size) (.cells #[.int .i64 fb.code, .int .i64 fb.kind, .int .i64 fb.basis, .int .i64 fb.par] 69)); clear hb v0 v1 v2 vlt y0 y1 y2 y3 y4 ylt; obtain ⟨⟨v0, v1, v2⟩, vlt⟩ := HL3.out; simp only [Nat.zero_add] at v1 v2; obtain ⟨y0, y1, y2, y3, y4, ylt⟩ := HV3.out.eb; obtain ⟨⟨x0, x1, x2, x3⟩, xlt⟩ := HA4.out; obtain ⟨⟨z0, z1, z2, z3⟩, zlt⟩ := HA5.out; simp only [Nat.zero_add] at x1 x2 x3 z1 z2 z3))
     | (go_at_call 65; (with_reducible refine (H5x.out _).mono ?_); rintro e w4 ⟨rfl, rfl⟩))
    go_ret
    exact ⟨by rw [HR.out]; rfl, by first | exact HB3.out | (rw [HS0.out]; exact HB3.out)⟩
   ·have HR := Lib.hid (HNo.out (by rw [HPx.out]; rfl))
    clear HNo HPx
    go_wp2_with (first
     | (go_at_call 61; first
     | ((with_reducible refine (H3x.out _ HV1.out.hz).mono ?_); rintro e w2 ⟨rfl, hb⟩; have HA3 := Lib.hid (ab_new w2 69 fa); have HV2 := Lib.hid ((HV1.out.up hb).up (below_alloc_new (.cells #[.int .i64 fa.code, .int .i64 fa.kind, .int .i64 fa.basis, .int .i64 fa.par] 69))); have HL2 := Lib.hid ((HL1.out.up hb).up (below_alloc_new (.cells #[.int .i64 fa.code, .int .i64 fa.kind, .int .i64 fa.basis, .int .i64 fa.par] 69))); have HB2 := Lib.hid ((HB1.out.trans (hb.mono HSZ1.out)).alloc (Nat.le_trans HSZ1.out hb.size) (.cells #[.int .i64 fa.code, .int .i64 fa.kind, .int .i64 fa.basis, .int .i64 fa.par] 69)); have HSZ2 : Hid (s0 ≤ (w2.alloc (.cells #[.int .i64 fa.code, .int .i64 fa.kind, .int .i64 fa.basis, .int .i64 fa.par] 69)).heap.size) := Lib.hid (Nat.le_trans (Nat.le_trans HSZ1.out hb.size) (by (simp))); clear hb v0 v1 v2 vlt y0 y1 y2 y3 y4 ylt; obtain ⟨⟨v0, v1, v2⟩, vlt⟩ := HL2.out; simp only [Nat.zero_add] at v1 v2; obtain ⟨y0, y1, y2, y3, y4, ylt⟩ := HV2.out.eb)
     | ((with_reducible refine (H4x.out _ HV2.out.hx).mono ?_); rintro e w3 ⟨rfl, hb⟩; have HA4 := Lib.hid ((HA3.out.up hb).up (below_alloc_new (.cells #[.int .i64 fb.code, .int .i64 fb.kind, .int .i64 fb.basis, .int .i64 fb.par] 69))); have HA5 := Lib.hid (ab_new w3 69 fb); have HV3 := Lib.hid ((HV2.out.up hb).up (below_alloc_new (.cells #[.int .i64 fb.code, .int .i64 fb.kind, .int .i64 fb.basis, .int .i64 fb.par] 69))); have HL3 := Lib.hid ((HL2.out.up hb).up (below_alloc_new (.cells #[.int .i64 fb.code, .int .i64 fb.kind, .int .i64 fb.basis, .int .i64 fb.par] 69))); have HB3 := Lib.hid ((HB2.out.trans (hb.mono HSZ2.out)).alloc (Nat.le_trans HSZ2.out hb.size) (.cells #[.int .i64 fb.code, .int .i64 fb.kind, .int .i64 fb.basis, .int .i64 fb.par] 69)); clear hb v0 v1 v2 vlt y0 y1 y2 y3 y4 ylt; obtain ⟨⟨v0, v1, v2⟩, vlt⟩ := HL3.out; simp only [Nat.zero_add] at v1 v2; obtain ⟨y0, y1, y2, y3, y4, ylt⟩ := HV3.out.eb; obtain ⟨⟨x0, x1, x2, x3⟩, xlt⟩ := HA4.out; obtain ⟨⟨z0, z1, z2, z3⟩, zlt⟩ := HA5.out; simp only [Nat.zero_add] at x1 x2 x3 z1 z2 z3))
     | (go_at_call 65; (with_reducible refine (H5x.out _).mono ?_); rintro e w4 ⟨rfl, rfl⟩))
    go_ret
    exact ⟨by rw [HR.out]; rfl, by first | exact HB3.out | (rw [HS0.out]; exact HB3.out)⟩
   ·have HR := Lib.hid (HNo.out (by rw [HPx.out]; rfl))
    clear HNo HPx
    go_wp2_with (first
     | (go_at_call 61; first
     | ((with_reducible refine (H3x.out _ HV1.out.hz).mono ?_); rintro e w2 ⟨rfl, hb⟩; have HA3 := Lib.hid (ab_new w2 69 fa); have HV2 := Lib.hid ((HV1.out.up hb).up (below_alloc_new (.cells #[.int .i64 fa.code, .int .i64 fa.kind, .int .i64 fa.basis, .int .i64 fa.par] 69))); have HL2 := Lib.hid ((HL1.out.up hb).up (below_alloc_new (.cells #[.int .i64 fa.code, .int .i64 fa.kind, .int .i64 fa.basis, .int .i64 fa.par] 69))); have HB2 := Lib.hid ((HB1.out.trans (hb.mono HSZ1.out)).alloc (Nat.le_trans HSZ1.out hb.size) (.cells #[.int .i64 fa.code, .int .i64 fa.kind, .int .i64 fa.basis, .int .i64 fa.par] 69)); have HSZ2 : Hid (s0 ≤ (w2.alloc (.cells #[.int .i64 fa.code, .int .i64 fa.kind, .int .i64 fa.basis, .int .i64 fa.par] 69)).heap.size) := Lib.hid (Nat.le_trans (Nat.le_trans HSZ1.out hb.size) (by (simp))); clear hb v0 v1 v2 vlt y0 y1 y2 y3 y4 ylt; obtain ⟨⟨v0, v1, v2⟩, vlt⟩ := HL2.out; simp only [Nat.zero_add] at v1 v2; obtain ⟨y0, y1, y2, y3, y4, ylt⟩ := HV2.out.eb)
     | ((with_reducible refine (H4x.out _ HV2.out.hx).mono ?_); rintro e w3 ⟨rfl, hb⟩; have HA4 := Lib.hid ((HA3.out.up hb).up (below_alloc_new (.cells #[.int .i64 fb.code, .int .i64 fb.kind, .int .i64 fb.basis, .int .i64 fb.par] 69))); have HA5 := Lib.hid (ab_new w3 69 fb); have HV3 := Lib.hid ((HV2.out.up hb).up (below_alloc_new (.cells #[.int .i64 fb.code, .int .i64 fb.kind, .int .i64 fb.basis, .int .i64 fb.par] 69))); have HL3 := Lib.hid ((HL2.out.up hb).up (below_alloc_new (.cells #[.int .i64 fb.code, .int .i64 fb.kind, .int .i64 fb.basis, .int .i64 fb.par] 69))); have HB3 := Lib.hid ((HB2.out.trans (hb.mono HSZ2.out)).alloc (Nat.le_trans HSZ2.out hb.size) (.cells #[.int .i64 fb.code, .int .i64 fb.kind, .int .i64 fb.basis, .int .i64 fb.par] 69)); clear hb v0 v1 v2 vlt y0 y1 y2 y3 y4 ylt; obtain ⟨⟨v0, v1, v2⟩, vlt⟩ := HL3.out; simp only [Nat.zero_add] at v1 v2; obtain ⟨y0, y1, y2, y3, y4, ylt⟩ := HV3.out.eb; obtain ⟨⟨x0, x1, x2, x3⟩, xlt⟩ := HA4.out; obtain ⟨⟨z0, z1, z2, z3⟩, zlt⟩ := HA5.out; simp only [Nat.zero_add] at x1 x2 x3 z1 z2 z3))
     | (go_at_call 65; (with_reducible refine (H5x.out _).mono ?_); rintro e w4 ⟨rfl, rfl⟩))
    go_ret
    exact ⟨by rw [HR.out]; rfl, by first | exact HB3.out | (rw [HS0.out]; exact HB3.out)⟩
   ·have HR := Lib.hid (HNo.out (by rw [HPx.out]; rfl))
    clear HNo HPx
    go_wp2_with (first
     | (go_at_call 61; first
     | ((with_reducible refine (H3x.out _ HV1.out.hz).mono ?_); rintro e w2 ⟨rfl, hb⟩; have HA3 := Lib.hid (ab_new w2 69 fa); have HV2 := Lib.hid ((HV1.out.up hb).up (below_alloc_new (.cells #[.int .i64 fa.code, .int .i64 fa.kind, .int .i64 fa.basis, .int .i64 fa.par] 69))); have HL2 := Lib.hid ((HL1.out.up hb).up (below_alloc_new (.cells #[.int .i64 fa.code, .int .i64 fa.kind, .int .i64 fa.basis, .int .i64 fa.par] 69))); have HB2 := Lib.hid ((HB1.out.trans (hb.mono HSZ1.out)).alloc (Nat.le_trans HSZ1.out hb.size) (.cells #[.int .i64 fa.code, .int .i64 fa.kind, .int .i64 fa.basis, .int .i64 fa.par] 69)); have HSZ2 : Hid (s0 ≤ (w2.alloc (.cells #[.int .i64 fa.code, .int .i64 fa.kind, .int .i64 fa.basis, .int .i64 fa.par] 69)).heap.size) := Lib.hid (Nat.le_trans (Nat.le_trans HSZ1.out hb.size) (by (simp))); clear hb v0 v1 v2 vlt y0 y1 y2 y3 y4 ylt; obtain ⟨⟨v0, v1, v2⟩, vlt⟩ := HL2.out; simp only [Nat.zero_add] at v1 v2; obtain ⟨y0, y1, y2, y3, y4, ylt⟩ := HV2.out.eb)
     | ((with_reducible refine (H4x.out _ HV2.out.hx).mono ?_); rintro e w3 ⟨rfl, hb⟩; have HA4 := Lib.hid ((HA3.out.up hb).up (below_alloc_new (.cells #[.int .i64 fb.code, .int .i64 fb.kind, .int .i64 fb.basis, .int .i64 fb.par] 69))); have HA5 := Lib.hid (ab_new w3 69 fb); have HV3 := Lib.hid ((HV2.out.up hb).up (below_alloc_new (.cells #[.int .i64 fb.code, .int .i64 fb.kind, .int .i64 fb.basis, .int .i64 fb.par] 69))); have HL3 := Lib.hid ((HL2.out.up hb).up (below_alloc_new (.cells #[.int .i64 fb.code, .int .i64 fb.kind, .int .i64 fb.basis, .int .i64 fb.par] 69))); have HB3 := Lib.hid ((HB2.out.trans (hb.mono HSZ2.out)).alloc (Nat.le_trans HSZ2.out hb.size) (.cells #[.int .i64 fb.code, .int .i64 fb.kind, .int .i64 fb.basis, .int .i64 fb.par] 69)); clear hb v0 v1 v2 vlt y0 y1 y2 y3 y4 ylt; obtain ⟨⟨v0, v1, v2⟩, vlt⟩ := HL3.out; simp only [Nat.zero_add] at v1 v2; obtain ⟨y0, y1, y2, y3, y4, ylt⟩ := HV3.out.eb; obtain ⟨⟨x0, x1, x2, x3⟩, xlt⟩ := HA4.out; obtain ⟨⟨z0, z1, z2, z3⟩, zlt⟩ := HA5.out; simp only [Nat.zero_add] at x1 x2 x3 z1 z2 z3))
     | (go_at_call 65; (with_reducible refine (H5x.out _).mono ?_); rintro e w4 ⟨rfl, rfl⟩))
    go_ret
    exact ⟨by rw [HR.out]; rfl, by first | exact HB3.out | (rw [HS0.out]; exact HB3.out)⟩
   ·have HP2 : Hid (allTo P (k + 1) = true) := Lib.hid (by show (allTo P k && P k) = true; rw [HA.out, HPx.out]; rfl)
    clear HNo HPx
    go_wp2_with (first
     | (go_at_call 61; first
     | ((with_reducible refine (H3x.out _ HV1.out.hz).mono ?_); rintro e w2 ⟨rfl, hb⟩; have HA3 := Lib.hid (ab_new w2 69 fa); have HV2 := Lib.hid ((HV1.out.up hb).up (below_alloc_new (.cells #[.int .i64 fa.code, .int .i64 fa.kind, .int .i64 fa.basis, .int .i64 fa.par] 69))); have HL2 := Lib.hid ((HL1.out.up hb).up (below_alloc_new (.cells #[.int .i64 fa.code, .int .i64 fa.kind, .int .i64 fa.basis, .int .i64 fa.par] 69))); have HB2 := Lib.hid ((HB1.out.trans (hb.mono HSZ1.out)).alloc (Nat.le_trans HSZ1.out hb.size) (.cells #[.int .i64 fa.code, .int .i64 fa.kind, .int .i64 fa.basis, .int .i64 fa.par] 69)); have HSZ2 : Hid (s0 ≤ (w2.alloc (.cells #[.int .i64 fa.code, .int .i64 fa.kind, .int .i64 fa.basis, .int .i64 fa.par] 69)).heap.size) := Lib.hid (Nat.le_trans (Nat.le_trans HSZ1.out hb.size) (by (simp))); clear hb v0 v1 v2 vlt y0 y1 y2 y3 y4 ylt; obtain ⟨⟨v0, v1, v2⟩, vlt⟩ := HL2.out; simp only [Nat.zero_add] at v1 v2; obtain ⟨y0, y1, y2, y3, y4, ylt⟩ := HV2.out.eb)
     | ((with_reducible refine (H4x.out _ HV2.out.hx).mono ?_); rintro e w3 ⟨rfl, hb⟩; have HA4 := Lib.hid ((HA3.out.up hb).up (below_alloc_new (.cells #[.int .i64 fb.code, .int .i64 fb.kind, .int .i64 fb.basis, .int .i64 fb.par] 69))); have HA5 := Lib.hid (ab_new w3 69 fb); have HV3 := Lib.hid ((HV2.out.up hb).up (below_alloc_new (.cells #[.int .i64 fb.code, .int .i64 fb.kind, .int .i64 fb.basis, .int .i64 fb.par] 69))); have HL3 := Lib.hid ((HL2.out.up hb).up (below_alloc_new (.cells #[.int .i64 fb.code, .int .i64 fb.kind, .int .i64 fb.basis, .int .i64 fb.par] 69))); have HB3 := Lib.hid ((HB2.out.trans (hb.mono HSZ2.out)).alloc (Nat.le_trans HSZ2.out hb.size) (.cells #[.int .i64 fb.code, .int .i64 fb.kind, .int .i64 fb.basis, .int .i64 fb.par] 69)); clear hb v0 v1 v2 vlt y0 y1 y2 y3 y4 ylt; obtain ⟨⟨v0, v1, v2⟩, vlt⟩ := HL3.out; simp only [Nat.zero_add] at v1 v2; obtain ⟨y0, y1, y2, y3, y4, ylt⟩ := HV3.out.eb; obtain ⟨⟨x0, x1, x2, x3⟩, xlt⟩ := HA4.out; obtain ⟨⟨z0, z1, z2, z3⟩, zlt⟩ := HA5.out; simp only [Nat.zero_add] at x1 x2 x3 z1 z2 z3))
     | (go_at_call 65; (with_reducible refine (H5x.out _).mono ?_); rintro e w4 ⟨rfl, rfl⟩))
    obtain ⟨g6, hg6⟩ : ∃ g6, wr.heap.size = g6 := ⟨_, rfl⟩
    rw [hg6] at HL3 ⊢
    obtain ⟨W3, hW3⟩ : ∃ W3, w3.alloc (.cells #[.int .i64 fb.code, .int .i64 fb.kind, .int .i64 fb.basis, .int .i64 fb.par] 69) = W3 := ⟨_, rfl⟩
    rw [hW3] at HV3 HL3 HB3 ⊢
    clear v0 v1 v2 vlt y0 y1 y2 y3 y4 ylt x0 x1 x2 x3 xlt z0 z1 z2 z3 zlt HV1 HV2 HL1 HL2 HB1 HB2 HA3 HA4 HA5 c0 c1 c2 c3 c4 lt d0 d1 d2 hW3 hg6 HV
    go_loopg [11] k (fun jx s11 W => ∃ j : Nat, s11 = .int .i64 j ∧ j ≤ k ∧ k - j ≤ jx ∧ Hid (allTo (fun t => !S9 k t) j = true) ∧ Hid (V9 W s0 nm cur A n cp (some ⟨b, off, none⟩) m d jt L K C c) ∧ Hid (LB W g6 x) ∧ Below s0 w W)
    case atStart => exact ⟨0, rfl, by omega, by omega, Lib.hid rfl, HV3, HL3, HB3.out⟩
    case round =>
     clear HV3 HL3 HB3
     rename World => W
     obtain ⟨j, rfl, hj, hjx, HJ, HV, HL, hB⟩ := hrel
     obtain ⟨c0, c1, c2, c3, c4, lt⟩ := HV.out.eb
     obtain ⟨⟨v0, v1, v2⟩, vlt⟩ := HL.out
     simp only [Nat.zero_add] at v1 v2
     by_cases hjl : j < k
     ·have hjz : (j : Int) < (k : Int) := by omega
      have hjm : j < m := by omega
      have hjmz : (j : Int) < (m : Int) := by omega
      obtain ⟨b9, off9, eB, hbw, hcs⟩ := HV.out.hy (by rw [HM.out]; omega)
      cases eB
      obtain ⟨d0, d1, d2⟩ := hcs j (by rw [HM.out]; omega)
      have hs9 := HS9.out j
      have hno := HN5.out k j hlt hjl
      obtain ⟨y, hy⟩ : ∃ y, K.getD j lnk0 = y := ⟨_, rfl⟩
      rw [hy] at d0 d1 d2 hs9
      have HBK := Lib.hid hB
      clear hcs hy
      by_cases h1 : y.frm = x.frm
      ·have e1 : (y.frm == x.frm) = true := by simp [h1]
       rw [decide_eq_true h1, Bool.true_and] at hs9
       by_cases h2 : y.since = x.since
       ·have e2 : (y.since == x.since) = true := by simp [h2]
        have HR := Lib.hid (hno (hs9.trans (decide_eq_true h2)))
        clear h1 h2 hs9 hno
        go_wp2_with fail
        go_quiet (fail)
        have hB4 := below_drewN HBK.out nq
        generalize World.drewN _ nq = W8 at *
        go_wp2_with fail
        go_ret
        exact ⟨by rw [HR.out]; rfl, by first | exact hB4 | (rw [HS0.out]; exact hB4)⟩
       ·have e2 : (y.since == x.since) = false := by simp [h2]
        have HJ2 : Hid (allTo (fun t => !S9 k t) (j + 1) = true) := Lib.hid (by show (allTo (fun t => !S9 k t) j && !S9 k j) = true; rw [HJ.out, hs9, decide_eq_false h2]; rfl)
        clear h1 h2 hs9 hno
        go_wp2_with fail
        go_quiet (fail)
        have hB4 := below_drewN HBK.out nq
        have HV4 := Lib.hid (HV.out.up (below_drewN (Below.refl _ _) nq))
        have HL4 := Lib.hid (HL.out.up (below_drewN (Below.refl _ _) nq))
        clear HV HL hB HBK c0 c1 c2 c3 c4 lt v0 v1 v2 vlt d0 d1 d2
        generalize World.drewN _ nq = W8 at *
        go_wp2_with fail
        go_roundg (k - (j + 1))
        case measure => omega
        case rel => exact ⟨j + 1, by go_num, by omega, by omega, HJ2, HV4, HL4, hB4⟩
      ·have e1 : (y.frm == x.frm) = false := by simp [h1]
       have HJ2 : Hid (allTo (fun t => !S9 k t) (j + 1) = true) := Lib.hid (by show (allTo (fun t => !S9 k t) j && !S9 k j) = true; rw [HJ.out, hs9, decide_eq_false h1]; rfl)
       clear h1 hs9 hno
       go_wp2_with fail
       go_quiet (fail)
       have hB4 := below_drewN HBK.out nq
       have HV4 := Lib.hid (HV.out.up (below_drewN (Below.refl _ _) nq))
       have HL4 := Lib.hid (HL.out.up (below_drewN (Below.refl _ _) nq))
       clear HV HL hB HBK c0 c1 c2 c3 c4 lt v0 v1 v2 vlt d0 d1 d2
       generalize World.drewN _ nq = W8 at *
       go_wp2_with fail
       go_roundg (k - (j + 1))
       case measure => omega
       case rel => exact ⟨j + 1, by go_num, by omega, by omega, HJ2, HV4, HL4, hB4⟩
     ·obtain rfl : j = k := by omega
      have hjz : ¬ (j : Int) < (j : Int) := by omega
      have HD2 : Hid (allTo D9 (j + 1) = true) := Lib.hid (by show (allTo D9 j && D9 j) = true; rw [HA9.out, HD.out j]; exact HJ.out)
      go_wp2_with fail
      go_roundg (m - (j + 1))
      case measure => omega
      case rel => exact ⟨j + 1, by go_num, by omega, by omega, HP2, HD2, HV, hB⟩
  ·obtain rfl : k = m := by omega
   have hltz : ¬ (k : Int) < (k : Int) := by omega
   have HR := Lib.hid (HNE2.out HA.out HA9.out)
   go_wp2_with fail
   go_ret
   exact ⟨by rw [HR.out]; rfl, by first | exact hB | (rw [HS0.out]; exact hB)⟩
end Go.Proofs.YtompehjecamdiaaGreat
