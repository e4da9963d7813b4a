/- Contracts of the functions that the statements reach, part 5: what was proved of each, callees first. -/
import Derived.Deep.RegionHeldLaw
import Derived.Test.YtompehjecamdiaaCY4
namespace Go.Proofs.Ytompehjecamdiaa
open Go.RowKit
structure V9 (w : World) (s0 : Nat) (nm cur : ByteArray) (A : Option Addr) (n cp : Nat) (B : Option Addr) (m d : Nat) (jt : Bool) (L : List Acc) (K : List Lnk) (C : Option Addr) (c : List Acc) : Prop where
 eb : EB w s0 nm cur A n cp B m d jt
 hz : AccAt w A L
 hy : LnkAt w B K
 hx : AccAt w C c
theorem V9.up {w w2 : World} {s0 : Nat} {nm cur : ByteArray} {A : Option Addr} {n cp : Nat} {B : Option Addr} {m d : Nat} {jt : Bool} {L : List Acc} {K : List Lnk} {C : Option Addr} {c : List Acc} (h : V9 w s0 nm cur A n cp B m d jt L K C c) (hb : Below w.heap.size w w2) : V9 w2 s0 nm cur A n cp B m d jt L K C c :=
 ⟨h.eb.up hb, h.hz.up hb, h.hy.up hb, h.hx.up hb⟩
theorem mvB_no5 {L : List Acc} {K : List Lnk} {c : List Acc} {k : Nat} (hk : k < K.length) (h : dfB K k = false) : mvB L K c = false := by
 unfold mvB
 rw [allTo_no (p := dfB K) hk h]; simp
theorem dfB_no {K : List Lnk} {k j : Nat} (hj : j < k) (h : smB K k j = true) : dfB K k = false := by
 unfold dfB
 exact allTo_no (k := j) hj (by rw [h]; rfl)
set_option maxRecDepth 20000 in
set_option maxHeartbeats 6400000 in
theorem rval9_any (nm cur : ByteArray) (A : Option Addr) (cp : Nat) (L : List Acc) (B : Option Addr) (d : Nat) (K : List Lnk) (jt : Bool) (C : Option Addr) (cc : Nat) (c : List Acc) (w : World) (hz : AccAt w A L) (hy : LnkAt w B K) (hx : AccAt w C c) (hl : L.length ≤ 1000) (hm : K.length ≤ 1000) (hc : c.length ≤ 1000) :
  Calls Try.prog 55 #[entV nm cur A L.length cp B K.length d jt, .slice C c.length cc] w fun e w' => e = .returned (.bool (mvB L K c)) ∧ Below w.heap.size w w' := by
 have hB := below_alloc_new (w := w) (.cells #[.string nm, .string cur, .slice A L.length cp, .slice B K.length d, .bool jt] 59)
 have hV9 : V9 (w.alloc (.cells #[.string nm, .string cur, .slice A L.length cp, .slice B K.length d, .bool jt] 59)) w.heap.size nm cur A L.length cp B K.length d jt L K C c := ⟨eb_new _ _ _ _ _ _ _ _ _ _ _, hz.up hB, hy.up hB, hx.up hB⟩
 have h1 : ∀ w, AccAt w C c → Calls Try.prog 51 #[.slice C c.length cc, .bool true] w fun e w' => e = .returned (.bool (vB c true)) ∧ Below w.heap.size w w' := fun w h => by rw [vB_eq]; exact rvalid8_any C cc c true w h hc
 have h2 : ∀ w, AccAt w A L → Calls Try.prog 51 #[.slice A L.length cp, .bool false] w fun e w' => e = .returned (.bool (vB L false)) ∧ Below w.heap.size w w' := fun w h => by rw [vB_eq]; exact rvalid8_any A cp L false w h hl
 have h3 := fun x w h => rfind_any A cp L x w h hl
 have h4 := fun x w h => rfind_any C cc c x w h hc
 have h5 := fun x w => rvd_any x w
 have N1 := mvB_no1 (L := L) (K := K) (c := c)
 have N2 := mvB_no2 (L := L) (K := K) (c := c)
 have N3 := mvB_no3 (L := L) (K := K) (c := c)
 have N4 := fun k => mvB_no4 (L := L) (K := K) (c := c) (k := k)
 have N5 := fun k j (hk : k < K.length) (hj : j < k) h => mvB_no5 (L := L) (c := c) hk (dfB_no (K := K) hj h)
 have NE := fun h1 h2 h3 h4 (h5 : allTo (dfB K) K.length = true) => (mvB_end (L := L) (K := K) (c := c) h1 h2 h3 h4).trans h5
 have hD : ∀ i, dfB K i = allTo (fun k => !smB K i k) i := fun _ => rfl
 have hS : ∀ i k, smB K i k = (decide ((K.getD k lnk0).frm = (K.getD i lnk0).frm) && decide ((K.getD k lnk0).since = (K.getD i lnk0).since)) := fun _ _ => rfl
 have hP : ∀ k, lnkB L c (K.getD k lnk0) = ((fnd L (K.getD k lnk0).frm).isSome && ((fnd c (K.getD k lnk0).tgt).isSome && (decide ((fndA L (K.getD k lnk0).frm).kind = (fndA c (K.getD k lnk0).tgt).kind) && vdB (K.getD k lnk0).since))) := fun _ => rfl
 generalize mvB L K c = r at *
 obtain ⟨P, hPe⟩ : ∃ P : Nat → Bool, (fun i => lnkB L c (K.getD i lnk0)) = P := ⟨_, rfl⟩
 have hPk : ∀ k, lnkB L c (K.getD k lnk0) = P k := fun k => by rw [← hPe]
 rw [hPe] at NE
 simp only [hPk] at N4 hP
 obtain ⟨D9, hD9⟩ : ∃ D9 : Nat → Bool, dfB K = D9 := ⟨_, rfl⟩
 rw [hD9] at NE
 simp only [hD9] at hD
 obtain ⟨S9, hS9⟩ : ∃ S9 : Nat → Nat → Bool, smB K = S9 := ⟨_, rfl⟩
 simp only [hS9] at hD hS N5
 obtain ⟨b1, hb1⟩ : ∃ b, vB c true = b := ⟨_, rfl⟩
 rw [hb1] at h1 N1 NE
 obtain ⟨b2, hb2⟩ : ∃ b, vB L false = b := ⟨_, rfl⟩
 rw [hb2] at h2 N2 NE
 obtain ⟨n, hn2⟩ : ∃ n, L.length = n := ⟨_, rfl⟩
 obtain ⟨k0, hk0⟩ : ∃ k0, c.length = k0 := ⟨_, rfl⟩
 obtain ⟨m, hm2⟩ : ∃ m, K.length = m := ⟨_, rfl⟩
 obtain ⟨s0, hs0⟩ : ∃ s0, w.heap.size = s0 := ⟨_, rfl⟩
 rw [hn2, hm2] at hV9 hB
 rw [hs0] at hV9 hB
 rw [hn2] at h2 h3
 rw [hk0] at h1 h4
 rw [hm2] at N3 N4 N5 NE hm
 rw [hn2, hm2, hk0]
 have HN1 := Lib.hid N1
 have HN2 := Lib.hid N2
 have HN3 := Lib.hid N3
 have HN4 := Lib.hid N4
 have HN5 := Lib.hid N5
 have HNE := Lib.hid NE
 have HD := Lib.hid hD
 have HS := Lib.hid hS
 have HP := Lib.hid hP
 have HM := Lib.hid hm2
 have H1 := Lib.hid h1
 have H2 := Lib.hid h2
 have H3 := Lib.hid h3
 have H4 := Lib.hid h4
 have H5 := Lib.hid h5
 have HS0 := Lib.hid hs0
 have HV := Lib.hid hV9
 obtain ⟨c0, c1, c2, c3, c4, lt⟩ := HV.out.eb
 rw [← HS0.out] at c0 c1 c2 c3 c4 lt
 clear hz hy hx h1 h2 h3 h4 h5 N1 N2 N3 N4 N5 NE hD hS hP hPe hPk hD9 hS9 hb1 hb2 hn2 hk0 hm2 hs0 hl hc hV9
 cases b1
 ·have HR := Lib.hid (HN1.out rfl)
  clear HN1 HN2 HN3 HN4 HN5 HNE
  go_enter Try.func55, Try.ntmps55
  go_wp2_with (go_at_call 51; first
   | ((with_reducible refine (H1.out _ HV.out.hx).mono ?_); rintro e w1 ⟨rfl, hb⟩; have hsq := hB.size; rw [HS0.out] at hsq; replace HV := Lib.hid (HV.out.up hb); replace hB := hB.trans (hb.mono hsq); clear hb hsq c0 c1 c2 c3 c4 lt; obtain ⟨c0, c1, c2, c3, c4, lt⟩ := HV.out.eb; rw [← HS0.out] at c0 c1 c2 c3 c4 lt))
  go_ret
  exact ⟨by rw [HR.out]; rfl, by first | exact hB | (rw [HS0.out]; exact hB)⟩
 cases b2
 ·have HR := Lib.hid (HN2.out rfl)
  clear HN1 HN2 HN3 HN4 HN5 HNE
  go_enter Try.func55, Try.ntmps55
  go_wp2_with (go_at_call 51; first
   | ((with_reducible refine (H1.out _ HV.out.hx).mono ?_); rintro e w1 ⟨rfl, hb⟩; have hsq := hB.size; rw [HS0.out] at hsq; replace HV := Lib.hid (HV.out.up hb); replace hB := hB.trans (hb.mono hsq); clear hb hsq c0 c1 c2 c3 c4 lt; obtain ⟨c0, c1, c2, c3, c4, lt⟩ := HV.out.eb; rw [← HS0.out] at c0 c1 c2 c3 c4 lt)
   | ((with_reducible refine (H2.out _ HV.out.hz).mono ?_); rintro e w2 ⟨rfl, hb⟩; have hsq := hB.size; rw [HS0.out] at hsq; replace HV := Lib.hid (HV.out.up hb); replace hB := hB.trans (hb.mono hsq); clear hb hsq c0 c1 c2 c3 c4 lt; obtain ⟨c0, c1, c2, c3, c4, lt⟩ := HV.out.eb; rw [← HS0.out] at c0 c1 c2 c3 c4 lt))
  go_ret
  exact ⟨by rw [HR.out]; rfl, by first | exact hB | (rw [HS0.out]; exact hB)⟩
 rcases Nat.lt_or_ge 400 m with hm4 | hm4
 ·have HR := Lib.hid (HN3.out hm4)
  have e4 : decide ((400 : Int) < (m : Int)) = true := decide_eq_true (by omega)
  clear HN1 HN2 HN3 HN4 HN5 HNE hm4
  go_enter Try.func55, Try.ntmps55
  go_wp2_with (go_at_call 51; first
   | ((with_reducible refine (H1.out _ HV.out.hx).mono ?_); rintro e w1 ⟨rfl, hb⟩; have hsq := hB.size; rw [HS0.out] at hsq; replace HV := Lib.hid (HV.out.up hb); replace hB := hB.trans (hb.mono hsq); clear hb hsq c0 c1 c2 c3 c4 lt; obtain ⟨c0, c1, c2, c3, c4, lt⟩ := HV.out.eb; rw [← HS0.out] at c0 c1 c2 c3 c4 lt)
   | ((with_reducible refine (H2.out _ HV.out.hz).mono ?_); rintro e w2 ⟨rfl, hb⟩; have hsq := hB.size; rw [HS0.out] at hsq; replace HV := Lib.hid (HV.out.up hb); replace hB := hB.trans (hb.mono hsq); clear hb hsq c0 c1 c2 c3 c4 lt; obtain ⟨c0, c1, c2, c3, c4, lt⟩ := HV.out.eb; rw [← HS0.out] at c0 c1 c2 c3 c4 lt))
  go_ret
  exact ⟨by rw [HR.out]; rfl, by first | exact hB | (rw [HS0.out]; exact hB)⟩
 have e4 : decide ((400 : Int) < (m : Int)) = false := decide_eq_false (by omega)
 have HNE2 := Lib.hid (HNE.out rfl rfl hm4)
 clear HN1 HN2 HN3 HNE hm4
 go_enter Try.func55, Try.ntmps55
 go_wp2_with (go_at_call 51; first
  | ((with_reducible refine (H1.out _ HV.out.hx).mono ?_); rintro e w1 ⟨rfl, hb⟩; have hsq := hB.size; rw [HS0.out] at hsq; replace HV := Lib.hid (HV.out.up hb); replace hB := hB.trans (hb.mono hsq); clear hb hsq c0 c1 c2 c3 c4 lt; obtain ⟨c0, c1, c2, c3, c4, lt⟩ := HV.out.eb; rw [← HS0.out] at c0 c1 c2 c3 c4 lt)
  | ((with_reducible refine (H2.out _ HV.out.hz).mono ?_); rintro e w2 ⟨rfl, hb⟩; have hsq := hB.size; rw [HS0.out] at hsq; replace HV := Lib.hid (HV.out.up hb); replace hB := hB.trans (hb.mono hsq); clear hb hsq c0 c1 c2 c3 c4 lt; obtain ⟨c0, c1, c2, c3, c4, lt⟩ := HV.out.eb; rw [← HS0.out] at c0 c1 c2 c3 c4 lt))
 clear c0 c1 c2 c3 c4 lt
 rw [HS0.out]
 go_loopg [5] m (fun kx s5 wr => ∃ k : Nat, s5 = .int .i64 k ∧ k ≤ m ∧ m - k ≤ kx ∧ Hid (allTo P k = true) ∧ Hid (allTo D9 k = true) ∧ Hid (V9 wr s0 nm cur A n cp B m d jt L K C c) ∧ Below s0 w wr)
 case atStart => exact ⟨0, rfl, by omega, by omega, Lib.hid rfl, Lib.hid rfl, HV, hB⟩
 case round =>
  clear HV hB
  try clear HV
  try clear hB
  obtain ⟨k, rfl, hk, hkx, HA, HA9, HV, hB⟩ := hrel
  have hsz : s0 ≤ wr.heap.size := by have := hB.size; have := HS0.out; omega
  obtain ⟨c0, c1, c2, c3, c4, lt⟩ := HV.out.eb
  by_cases hlt : k < m
  ·have hltz : (k : Int) < (m : Int) := by omega
   obtain ⟨b, off, eB, hbw, hcs⟩ := HV.out.hy (by rw [HM.out]; omega)
   subst eB
   have l3 := hcs k (by rw [HM.out]; exact hlt)
   have hp := HP.out k
   have hno := HN4.out k hlt
   have hs9 := fun j => HS.out k j
   obtain ⟨x, hx⟩ : ∃ x, K.getD k lnk0 = x := ⟨_, rfl⟩
   rw [hx] at l3 hp
   simp only [hx] at hs9
   have hb6 := below_alloc_new (w := wr) (.cells #[.int .i64 x.frm, .int .i64 x.tgt, .int .i64 x.since] 105)
   have HV1 := Lib.hid (HV.out.up hb6)
   have HL1 := Lib.hid (lb_new wr 105 x)
   have HB1 : Hid (Below s0 w (wr.alloc (.cells #[.int .i64 x.frm, .int .i64 x.tgt, .int .i64 x.since] 105))) := Lib.hid (hB.alloc hsz _)
   have HSZ1 : Hid (s0 ≤ (wr.alloc (.cells #[.int .i64 x.frm, .int .i64 x.tgt, .int .i64 x.since] 105)).heap.size) := Lib.hid (by simp; omega)
   have h3 := fun w h => H3.out x.frm w h
   have h4 := fun w h => H4.out x.tgt w h
   have h5 := fun w => H5.out x.since w
   generalize (fnd L x.frm).isSome = q1 at *
   generalize (fnd c x.tgt).isSome = q2 at *
   generalize fndA L x.frm = fa at *
   generalize fndA c x.tgt = fb at *
   generalize vdB x.since = q4 at *
   obtain ⟨q3, hq3⟩ : ∃ q3, decide (fa.kind = fb.kind) = q3 := ⟨_, rfl⟩
   have e3 : (fa.kind != fb.kind) = !q3 := by rw [← hq3]; by_cases h : fa.kind = fb.kind <;> simp [h]
   rw [hq3] at hp
   obtain ⟨d0, d1, d2⟩ := l3
   obtain ⟨⟨v0, v1, v2⟩, vlt⟩ := HL1.out
   simp only [Nat.zero_add] at v1 v2
   obtain ⟨y0, y1, y2, y3, y4, ylt⟩ := HV1.out.eb
   have H3x := Lib.hid h3
   have H4x := Lib.hid h4
   have H5x := Lib.hid h5
   have HS9 := Lib.hid hs9
   have HNo := Lib.hid hno
   have HPx := Lib.hid hp
   have HXE := Lib.hid hx
   clear hcs hx hb6 h3 h4 h5 hq3 hp hno hs9
   rcases (show q1 = false ∨ (q1 = true ∧ q2 = false) ∨ (q1 = true ∧ q2 = true ∧ q3 = false) ∨ (q1 = true ∧ q2 = true ∧ q3 = true ∧ q4 = false) ∨ (q1 = true ∧ q2 = true ∧ q3 = true ∧ q4 = true) from by cases q1 <;> cases q2 <;> cases q3 <;> cases q4 <;> simp) with rfl | ⟨rfl, rfl⟩ | ⟨rfl, rfl, rfl⟩ | ⟨rfl, rfl, rfl, rfl⟩ | ⟨rfl, rfl, rfl, rfl⟩
   ·have HR := Lib.hid (HNo.out (by rw [HPx.out]; rfl))
    clear HNo HPx
    go_wp2_with (first
     | (go_at_call 37; first
     | ((with_reducible refine (H3x.out _ HV1.out.hz).mono ?_); rintro e w2 ⟨rfl, hb⟩; have HA3 := Lib.hid (ab_new w2 52 fa); have HV2 := Lib.hid ((HV1.out.up hb).up (below_alloc_new (.cells #[.int .i64 fa.code, .int .i64 fa.kind, .int .i64 fa.basis, .int .i64 fa.par] 52))); have HL2 := Lib.hid ((HL1.out.up hb).up (below_alloc_new (.cells #[.int .i64 fa.code, .int .i64 fa.kind, .int .i64 fa.basis, .int .i64 fa.par] 52))); have HB2 := Lib.hid ((HB1.out.trans (hb.mono HSZ1.out)).alloc (Nat.le_trans HSZ1.out hb.size) (.cells #[.int .i64 fa.code, .int .i64 fa.kind, .int .i64 fa.basis, .int .i64 fa.par] 52)); have HSZ2 : Hid (s0 ≤ (w2.alloc (.cells #[.int .i64 fa.code, .int .i64 fa.kind, .int .i64 fa.basis, .int .i64 fa.par] 52)).heap.size) := Lib.hid (Nat.le_trans (Nat.le_trans HSZ1.out hb.size) (by (simp))); clear hb v0 v1 v2 vlt y0 y1 y2 y3 y4 ylt; obtain ⟨⟨v0, v1, v2⟩, vlt⟩ := HL2.out; simp only [Nat.zero_add] at v1 v2; obtain ⟨y0, y1, y2, y3, y4, ylt⟩ := HV2.out.eb)
     | ((with_reducible refine (H4x.out _ HV2.out.hx).mono ?_); rintro e w3 ⟨rfl, hb⟩; have HA4 := Lib.hid ((HA3.out.up hb).up (below_alloc_new (.cells #[.int .i64 fb.code, .int .i64 fb.kind, .int .i64 fb.basis, .int .i64 fb.par] 52))); have HA5 := Lib.hid (ab_new w3 52 fb); have HV3 := Lib.hid ((HV2.out.up hb).up (below_alloc_new (.cells #[.int .i64 fb.code, .int .i64 fb.kind, .int .i64 fb.basis, .int .i64 fb.par] 52))); have HL3 := Lib.hid ((HL2.out.up hb).up (below_alloc_new (.cells #[.int .i64 fb.code, .int .i64 fb.kind, .int .i64 fb.basis, .int .i64 fb.par] 52))); have HB3 := Lib.hid ((HB2.out.trans (hb.mono HSZ2.out)).alloc (Nat.le_trans HSZ2.out hb.size) (.cells #[.int .i64 fb.code, .int .i64 fb.kind, .int .i64 fb.basis, .int .i64 fb.par] 52)); clear hb v0 v1 v2 vlt y0 y1 y2 y3 y4 ylt; obtain ⟨⟨v0, v1, v2⟩, vlt⟩ := HL3.out; simp only [Nat.zero_add] at v1 v2; obtain ⟨y0, y1, y2, y3, y4, ylt⟩ := HV3.out.eb; obtain ⟨⟨x0, x1, x2, x3⟩, xlt⟩ := HA4.out; obtain ⟨⟨z0, z1, z2, z3⟩, zlt⟩ := HA5.out; simp only [Nat.zero_add] at x1 x2 x3 z1 z2 z3))
     | (go_at_call 74; (with_reducible refine (H5x.out _).mono ?_); rintro e w4 ⟨rfl, rfl⟩))
    go_ret
    exact ⟨by rw [HR.out]; rfl, by first | exact HB3.out | (rw [HS0.out]; exact HB3.out)⟩
   ·have HR := Lib.hid (HNo.out (by rw [HPx.out]; rfl))
    clear HNo HPx
    go_wp2_with (first
     | (go_at_call 37; first
     | ((with_reducible refine (H3x.out _ HV1.out.hz).mono ?_); rintro e w2 ⟨rfl, hb⟩; have HA3 := Lib.hid (ab_new w2 52 fa); have HV2 := Lib.hid ((HV1.out.up hb).up (below_alloc_new (.cells #[.int .i64 fa.code, .int .i64 fa.kind, .int .i64 fa.basis, .int .i64 fa.par] 52))); have HL2 := Lib.hid ((HL1.out.up hb).up (below_alloc_new (.cells #[.int .i64 fa.code, .int .i64 fa.kind, .int .i64 fa.basis, .int .i64 fa.par] 52))); have HB2 := Lib.hid ((HB1.out.trans (hb.mono HSZ1.out)).alloc (Nat.le_trans HSZ1.out hb.size) (.cells #[.int .i64 fa.code, .int .i64 fa.kind, .int .i64 fa.basis, .int .i64 fa.par] 52)); have HSZ2 : Hid (s0 ≤ (w2.alloc (.cells #[.int .i64 fa.code, .int .i64 fa.kind, .int .i64 fa.basis, .int .i64 fa.par] 52)).heap.size) := Lib.hid (Nat.le_trans (Nat.le_trans HSZ1.out hb.size) (by (simp))); clear hb v0 v1 v2 vlt y0 y1 y2 y3 y4 ylt; obtain ⟨⟨v0, v1, v2⟩, vlt⟩ := HL2.out; simp only [Nat.zero_add] at v1 v2; obtain ⟨y0, y1, y2, y3, y4, ylt⟩ := HV2.out.eb)
     | ((with_reducible refine (H4x.out _ HV2.out.hx).mono ?_); rintro e w3 ⟨rfl, hb⟩; have HA4 := Lib.hid ((HA3.out.up hb).up (below_alloc_new (.cells #[.int .i64 fb.code, .int .i64 fb.kind, .int .i64 fb.basis, .int .i64 fb.par] 52))); have HA5 := Lib.hid (ab_new w3 52 fb); have HV3 := Lib.hid ((HV2.out.up hb).up (below_alloc_new (.cells #[.int .i64 fb.code, .int .i64 fb.kind, .int .i64 fb.basis, .int .i64 fb.par] 52))); have HL3 := Lib.hid ((HL2.out.up hb).up (below_alloc_new (.cells #[.int .i64 fb.code, .int .i64 fb.kind, .int .i64 fb.basis, .int .i64 fb.par] 52))); have HB3 := Lib.hid ((HB2.out.trans (hb.mono HSZ2.out)).alloc (Nat.le_trans HSZ2.out hb.size) (.cells #[.int .i64 fb.code, .int .i64 fb.kind, .int .i64 fb.basis, .int .i64 fb.par] 52)); clear hb v0 v1 v2 vlt y0 y1 y2 y3 y4 ylt; obtain ⟨⟨v0, v1, v2⟩, vlt⟩ := HL3.out; simp only [Nat.zero_add] at v1 v2; obtain ⟨y0, y1, y2, y3, y4, ylt⟩ := HV3.out.eb; obtain ⟨⟨x0, x1, x2, x3⟩, xlt⟩ := HA4.out; obtain ⟨⟨z0, z1, z2, z3⟩, zlt⟩ := HA5.out; simp only [Nat.zero_add] at x1 x2 x3 z1 z2 z3))
     | (go_at_call 74; (with_reducible refine (H5x.out _).mono ?_); rintro e w4 ⟨rfl, rfl⟩))
    go_ret
    exact ⟨by rw [HR.out]; rfl, by first | exact HB3.out | (rw [HS0.out]; exact HB3.out)⟩
   ·have HR := Lib.hid (HNo.out (by rw [HPx.out]; rfl))
    clear HNo HPx
    go_wp2_with (first
     | (go_at_call 37; first
     | ((with_reducible refine (H3x.out _ HV1.out.hz).mono ?_); rintro e w2 ⟨rfl, hb⟩; have HA3 := Lib.hid (ab_new w2 52 fa); have HV2 := Lib.hid ((HV1.out.up hb).up (below_alloc_new (.cells #[.int .i64 fa.code, .int .i64 fa.kind, .int .i64 fa.basis, .int .i64 fa.par] 52))); have HL2 := Lib.hid ((HL1.out.up hb).up (below_alloc_new (.cells #[.int .i64 fa.code, .int .i64 fa.kind, .int .i64 fa.basis, .int .i64 fa.par] 52))); have HB2 := Lib.hid ((HB1.out.trans (hb.mono HSZ1.out)).alloc (Nat.le_trans HSZ1.out hb.size) (.cells #[.int .i64 fa.code, .int .i64 fa.kind, .int .i64 fa.basis, .int .i64 fa.par] 52)); have HSZ2 : Hid (s0 ≤ (w2.alloc (.cells #[.int .i64 fa.code, .int .i64 fa.kind, .int .i64 fa.basis, .int .i64 fa.par] 52)).heap.size) := Lib.hid (Nat.le_trans (Nat.le_trans HSZ1.out hb.size) (by (simp))); clear hb v0 v1 v2 vlt y0 y1 y2 y3 y4 ylt; obtain ⟨⟨v0, v1, v2⟩, vlt⟩ := HL2.out; simp only [Nat.zero_add] at v1 v2; obtain ⟨y0, y1, y2, y3, y4, ylt⟩ := HV2.out.eb)
     | ((with_reducible refine (H4x.out _ HV2.out.hx).mono ?_); rintro e w3 ⟨rfl, hb⟩; have HA4 := Lib.hid ((HA3.out.up hb).up (below_alloc_new (.cells #[.int .i64 fb.code, .int .i64 fb.kind, .int .i64 fb.basis, .int .i64 fb.par] 52))); have HA5 := Lib.hid (ab_new w3 52 fb); have HV3 := Lib.hid ((HV2.out.up hb).up (below_alloc_new (.cells #[.int .i64 fb.code, .int .i64 fb.kind, .int .i64 fb.basis, .int .i64 fb.par] 52))); have HL3 := Lib.hid ((HL2.out.up hb).up (below_alloc_new (.cells #[.int .i64 fb.code, .int .i64 fb.kind, .int .i64 fb.basis, .int .i64 fb.par] 52))); have HB3 := Lib.hid ((HB2.out.trans (hb.mono HSZ2.out)).alloc (Nat.le_trans HSZ2.out hb.size) (.cells #[.int .i64 fb.code, .int .i64 fb.kind, .int .i64 fb.basis, .int .i64 fb.par] 52)); clear hb v0 v1 v2 vlt y0 y1 y2 y3 y4 ylt; obtain ⟨⟨v0, v1, v2⟩, vlt⟩ := HL3.out; simp only [Nat.zero_add] at v1 v2; obtain ⟨y0, y1, y2, y3, y4, ylt⟩ := HV3.out.eb; obtain ⟨⟨x0, x1, x2, x3⟩, xlt⟩ := HA4.out; obtain ⟨⟨z0, z1, z2, z3⟩, zlt⟩ := HA5.out; simp only [Nat.zero_add] at x1 x2 x3 z1 z2 z3))
     | (go_at_call 74; (with_reducible refine (H5x.out _).mono ?_); rintro e w4 ⟨rfl, rfl⟩))
    go_ret
    exact ⟨by rw [HR.out]; rfl, by first | exact HB3.out | (rw [HS0.out]; exact HB3.out)⟩
   ·have HR := Lib.hid (HNo.out (by rw [HPx.out]; rfl))
    clear HNo HPx
    go_wp2_with (first
     | (go_at_call 37; first
     | ((with_reducible refine (H3x.out _ HV1.out.hz).mono ?_); rintro e w2 ⟨rfl, hb⟩; have HA3 := Lib.hid (ab_new w2 52 fa); have HV2 := Lib.hid ((HV1.out.up hb).up (below_alloc_new (.cells #[.int .i64 fa.code, .int .i64 fa.kind, .int .i64 fa.basis, .int .i64 fa.par] 52))); have HL2 := Lib.hid ((HL1.out.up hb).up (below_alloc_new (.cells #[.int .i64 fa.code, .int .i64 fa.kind, .int .i64 fa.basis, .int .i64 fa.par] 52))); have HB2 := Lib.hid ((HB1.out.trans (hb.mono HSZ1.out)).alloc (Nat.le_trans HSZ1.out hb.size) (.cells #[.int .i64 fa.code, .int .i64 fa.kind, .int .i64 fa.basis, .int .i64 fa.par] 52)); have HSZ2 : Hid (s0 ≤ (w2.alloc (.cells #[.int .i64 fa.code, .int .i64 fa.kind, .int .i64 fa.basis, .int .i64 fa.par] 52)).heap.size) := Lib.hid (Nat.le_trans (Nat.le_trans HSZ1.out hb.size) (by (simp))); clear hb v0 v1 v2 vlt y0 y1 y2 y3 y4 ylt; obtain ⟨⟨v0, v1, v2⟩, vlt⟩ := HL2.out; simp only [Nat.zero_add] at v1 v2; obtain ⟨y0, y1, y2, y3, y4, ylt⟩ := HV2.out.eb)
     | ((with_reducible refine (H4x.out _ HV2.out.hx).mono ?_); rintro e w3 ⟨rfl, hb⟩; have HA4 := Lib.hid ((HA3.out.up hb).up (below_alloc_new (.cells #[.int .i64 fb.code, .int .i64 fb.kind, .int .i64 fb.basis, .int .i64 fb.par] 52))); have HA5 := Lib.hid (ab_new w3 52 fb); have HV3 := Lib.hid ((HV2.out.up hb).up (below_alloc_new (.cells #[.int .i64 fb.code, .int .i64 fb.kind, .int .i64 fb.basis, .int .i64 fb.par] 52))); have HL3 := Lib.hid ((HL2.out.up hb).up (below_alloc_new (.cells #[.int .i64 fb.code, .int .i64 fb.kind, .int .i64 fb.basis, .int .i64 fb.par] 52))); have HB3 := Lib.hid ((HB2.out.trans (hb.mono HSZ2.out)).alloc (Nat.le_trans HSZ2.out hb.size) (.cells #[.int .i64 fb.code, .int .i64 fb.kind, .int .i64 fb.basis, .int .i64 fb.par] 52)); clear hb v0 v1 v2 vlt y0 y1 y2 y3 y4 ylt; obtain ⟨⟨v0, v1, v2⟩, vlt⟩ := HL3.out; simp only [Nat.zero_add] at v1 v2; obtain ⟨y0, y1, y2, y3, y4, ylt⟩ := HV3.out.eb; obtain ⟨⟨x0, x1, x2, x3⟩, xlt⟩ := HA4.out; obtain ⟨⟨z0, z1, z2, z3⟩, zlt⟩ := HA5.out; simp only [Nat.zero_add] at x1 x2 x3 z1 z2 z3))
     | (go_at_call 74; (with_reducible refine (H5x.out _).mono ?_); rintro e w4 ⟨rfl, rfl⟩))
    go_ret
    exact ⟨by rw [HR.out]; rfl, by first | exact HB3.out | (rw [HS0.out]; exact HB3.out)⟩
   ·have HP2 : Hid (allTo P (k + 1) = true) := Lib.hid (by show (allTo P k && P k) = true; rw [HA.out, HPx.out]; rfl)
    clear HNo HPx
    go_wp2_with (first
     | (go_at_call 37; first
     | ((with_reducible refine (H3x.out _ HV1.out.hz).mono ?_); rintro e w2 ⟨rfl, hb⟩; have HA3 := Lib.hid (ab_new w2 52 fa); have HV2 := Lib.hid ((HV1.out.up hb).up (below_alloc_new (.cells #[.int .i64 fa.code, .int .i64 fa.kind, .int .i64 fa.basis, .int .i64 fa.par] 52))); have HL2 := Lib.hid ((HL1.out.up hb).up (below_alloc_new (.cells #[.int .i64 fa.code, .int .i64 fa.kind, .int .i64 fa.basis, .int .i64 fa.par] 52))); have HB2 := Lib.hid ((HB1.out.trans (hb.mono HSZ1.out)).alloc (Nat.le_trans HSZ1.out hb.size) (.cells #[.int .i64 fa.code, .int .i64 fa.kind, .int .i64 fa.basis, .int .i64 fa.par] 52)); have HSZ2 : Hid (s0 ≤ (w2.alloc (.cells #[.int .i64 fa.code, .int .i64 fa.kind, .int .i64 fa.basis, .int .i64 fa.par] 52)).heap.size) := Lib.hid (Nat.le_trans (Nat.le_trans HSZ1.out hb.size) (by (simp))); clear hb v0 v1 v2 vlt y0 y1 y2 y3 y4 ylt; obtain ⟨⟨v0, v1, v2⟩, vlt⟩ := HL2.out; simp only [Nat.zero_add] at v1 v2; obtain ⟨y0, y1, y2, y3, y4, ylt⟩ := HV2.out.eb)
     | ((with_reducible refine (H4x.out _ HV2.out.hx).mono ?_); rintro e w3 ⟨rfl, hb⟩; have HA4 := Lib.hid ((HA3.out.up hb).up (below_alloc_new (.cells #[.int .i64 fb.code, .int .i64 fb.kind, .int .i64 fb.basis, .int .i64 fb.par] 52))); have HA5 := Lib.hid (ab_new w3 52 fb); have HV3 := Lib.hid ((HV2.out.up hb).up (below_alloc_new (.cells #[.int .i64 fb.code, .int .i64 fb.kind, .int .i64 fb.basis, .int .i64 fb.par] 52))); have HL3 := Lib.hid ((HL2.out.up hb).up (below_alloc_new (.cells #[.int .i64 fb.code, .int .i64 fb.kind, .int .i64 fb.basis, .int .i64 fb.par] 52))); have HB3 := Lib.hid ((HB2.out.trans (hb.mono HSZ2.out)).alloc (Nat.le_trans HSZ2.out hb.size) (.cells #[.int .i64 fb.code, .int .i64 fb.kind, .int .i64 fb.basis, .int .i64 fb.par] 52)); clear hb v0 v1 v2 vlt y0 y1 y2 y3 y4 ylt; obtain ⟨⟨v0, v1, v2⟩, vlt⟩ := HL3.out; simp only [Nat.zero_add] at v1 v2; obtain ⟨y0, y1, y2, y3, y4, ylt⟩ := HV3.out.eb; obtain ⟨⟨x0, x1, x2, x3⟩, xlt⟩ := HA4.out; obtain ⟨⟨z0, z1, z2, z3⟩, zlt⟩ := HA5.out; simp only [Nat.zero_add] at x1 x2 x3 z1 z2 z3))
     | (go_at_call 74; (with_reducible refine (H5x.out _).mono ?_); rintro e w4 ⟨rfl, rfl⟩))
    obtain ⟨g6, hg6⟩ : ∃ g6, wr.heap.size = g6 := ⟨_, rfl⟩
    rw [hg6] at HL3 ⊢
    obtain ⟨W3, hW3⟩ : ∃ W3, w3.alloc (.cells #[.int .i64 fb.code, .int .i64 fb.kind, .int .i64 fb.basis, .int .i64 fb.par] 52) = W3 := ⟨_, rfl⟩
    rw [hW3] at HV3 HL3 HB3 ⊢
    clear v0 v1 v2 vlt y0 y1 y2 y3 y4 ylt x0 x1 x2 x3 xlt z0 z1 z2 z3 zlt HV1 HV2 HL1 HL2 HB1 HB2 HA3 HA4 HA5 c0 c1 c2 c3 c4 lt d0 d1 d2 hW3 hg6 HV
    go_loopg [11] k (fun jx s11 W => ∃ j : Nat, s11 = .int .i64 j ∧ j ≤ k ∧ k - j ≤ jx ∧ Hid (allTo (fun t => !S9 k t) j = true) ∧ Hid (V9 W s0 nm cur A n cp (some ⟨b, off, none⟩) m d jt L K C c) ∧ Hid (LB W g6 x) ∧ Below s0 w W)
    case atStart => exact ⟨0, rfl, by omega, by omega, Lib.hid rfl, HV3, HL3, HB3.out⟩
    case round =>
     clear HV3 HL3 HB3
     rename World => W
     obtain ⟨j, rfl, hj, hjx, HJ, HV, HL, hB⟩ := hrel
     obtain ⟨c0, c1, c2, c3, c4, lt⟩ := HV.out.eb
     obtain ⟨⟨v0, v1, v2⟩, vlt⟩ := HL.out
     simp only [Nat.zero_add] at v1 v2
     by_cases hjl : j < k
     ·have hjz : (j : Int) < (k : Int) := by omega
      have hjm : j < m := by omega
      have hjmz : (j : Int) < (m : Int) := by omega
      obtain ⟨b9, off9, eB, hbw, hcs⟩ := HV.out.hy (by rw [HM.out]; omega)
      cases eB
      obtain ⟨d0, d1, d2⟩ := hcs j (by rw [HM.out]; omega)
      have hs9 := HS9.out j
      have hno := HN5.out k j hlt hjl
      obtain ⟨y, hy⟩ : ∃ y, K.getD j lnk0 = y := ⟨_, rfl⟩
      rw [hy] at d0 d1 d2 hs9
      have HBK := Lib.hid hB
      clear hcs hy
      by_cases h1 : y.frm = x.frm
      ·have e1 : (y.frm == x.frm) = true := by simp [h1]
       rw [decide_eq_true h1, Bool.true_and] at hs9
       by_cases h2 : y.since = x.since
       ·have e2 : (y.since == x.since) = true := by simp [h2]
        have HR := Lib.hid (hno (hs9.trans (decide_eq_true h2)))
        clear h1 h2 hs9 hno
        go_wp2_with fail
        go_quiet (fail)
        have hB4 := below_drewN HBK.out nq
        generalize World.drewN _ nq = W8 at *
        go_wp2_with fail
        go_ret
        exact ⟨by rw [HR.out]; rfl, by first | exact hB4 | (rw [HS0.out]; exact hB4)⟩
       ·have e2 : (y.since == x.since) = false := by simp [h2]
        have HJ2 : Hid (allTo (fun t => !S9 k t) (j + 1) = true) := Lib.hid (by show (allTo (fun t => !S9 k t) j && !S9 k j) = true; rw [HJ.out, hs9, decide_eq_false h2]; rfl)
        clear h1 h2 hs9 hno
        go_wp2_with fail
        go_quiet (fail)
        have hB4 := below_drewN HBK.out nq
        have HV4 := Lib.hid (HV.out.up (below_drewN (Below.refl _ _) nq))
        have HL4 := Lib.hid (HL.out.up (below_drewN (Below.refl _ _) nq))
        clear HV HL hB HBK c0 c1 c2 c3 c4 lt v0 v1 v2 vlt d0 d1 d2
        generalize World.drewN _ nq = W8 at *
        go_wp2_with fail
        go_roundg (k - (j + 1))
        case measure => omega
        case rel => exact ⟨j + 1, by go_num, by omega, by omega, HJ2, HV4, HL4, hB4⟩
      ·have e1 : (y.frm == x.frm) = false := by simp [h1]
       have HJ2 : Hid (allTo (fun t => !S9 k t) (j + 1) = true) := Lib.hid (by show (allTo (fun t => !S9 k t) j && !S9 k j) = true; rw [HJ.out, hs9, decide_eq_false h1]; rfl)
       clear h1 hs9 hno
       go_wp2_with fail
       go_quiet (fail)
       have hB4 := below_drewN HBK.out nq
       have HV4 := Lib.hid (HV.out.up (below_drewN (Below.refl _ _) nq))
       have HL4 := Lib.hid (HL.out.up (below_drewN (Below.refl _ _) nq))
       clear HV HL hB HBK c0 c1 c2 c3 c4 lt v0 v1 v2 vlt d0 d1 d2
       generalize World.drewN _ nq = W8 at *
       go_wp2_with fail
       go_roundg (k - (j + 1))
       case measure => omega
       case rel => exact ⟨j + 1, by go_num, by omega, by omega, HJ2, HV4, HL4, hB4⟩
     ·obtain rfl : j = k := by omega
      have hjz : ¬ (j : Int) < (j : Int) := by omega
      have HD2 : Hid (allTo D9 (j + 1) = true) := Lib.hid (by show (allTo D9 j && D9 j) = true; rw [HA9.out, HD.out j]; exact HJ.out)
      go_wp2_with fail
      go_roundg (m - (j + 1))
      case measure => omega
      case rel => exact ⟨j + 1, by go_num, by omega, by omega, HP2, HD2, HV, hB⟩
  ·obtain rfl : k = m := by omega
   have hltz : ¬ (k : Int) < (k : Int) := by omega
   have HR := Lib.hid (HNE2.out HA.out HA9.out)
   go_wp2_with fail
   go_ret
   exact ⟨by rw [HR.out]; rfl, by first | exact hB | (rw [HS0.out]; exact hB)⟩
theorem gb_rU {w : World} {b : Nat} {g : Grp} {U : Value} (h : GB w b g) (hU : rolV g = U) : (Instr.loadAt 26 (.pointer (some ⟨b, 5, none⟩))).run Try.prog w = .ok U w := hU ▸ gb_roles h
def enrB (L : List Acc) (R : List Int) (e : Ent) : Bool := nameB e.nm && (curB e.cur && (mvB e.L e.K L && allTo (fun i => opnB R (e.K.getD i lnk0).tgt) e.K.length))
set_option maxRecDepth 20000 in
set_option maxHeartbeats 3200000 in
theorem rent_any (g : Grp) (L : List Acc) (e : Ent) (w : World) (hz : AccAt w g.A L) (ln : L.length = g.n) (hl : g.n ≤ 1000) (he : EntK w e.A e.n e.L e.B e.m e.K) (hn : e.n ≤ 1000) (hm : e.m ≤ 1000) (hs1 : e.nm.size ≤ maxLen) (hs2 : e.cur.size ≤ maxLen) :
  Calls Try.prog 36 #[grpV g, eV e] w fun e' w' => e' = .returned (.bool (enrB L g.R e)) ∧ Below w.heap.size w w' := by
 have hB1 := below_alloc_new (w := w) (.cells #[.string g.cur, .int .i64 g.cy, .int .i64 g.cm, .int .i64 g.cp, .slice g.A g.n g.c, .int .i64 g.r0, .int .i64 g.r1, .int .i64 g.r2, .int .i64 g.r3, .int .i64 g.r4, .int .i64 g.r5, .int .i64 g.r6, .int .i64 g.r7, .int .i64 g.r8, .int .i64 g.r9, .int .i64 g.r10, .int .i64 g.r11, .int .i64 g.r12, .int .i64 g.r13, .int .i64 g.r14, .slice g.E g.m g.d] 29)
 have hB := below_new hB1 (.cells #[.string e.nm, .string e.cur, .slice e.A e.n e.c, .slice e.B e.m e.d, .bool e.jt] 59)
 have hG := (gb_new w 29 g).up (below_alloc_new (.cells #[.string e.nm, .string e.cur, .slice e.A e.n e.c, .slice e.B e.m e.d, .bool e.jt] 59))
 have hE := eb_new (w.alloc (.cells #[.string g.cur, .int .i64 g.cy, .int .i64 g.cm, .int .i64 g.cp, .slice g.A g.n g.c, .int .i64 g.r0, .int .i64 g.r1, .int .i64 g.r2, .int .i64 g.r3, .int .i64 g.r4, .int .i64 g.r5, .int .i64 g.r6, .int .i64 g.r7, .int .i64 g.r8, .int .i64 g.r9, .int .i64 g.r10, .int .i64 g.r11, .int .i64 g.r12, .int .i64 g.r13, .int .i64 g.r14, .slice g.E g.m g.d] 29)) 59 e.nm e.cur e.A e.n e.c e.B e.m e.d e.jt
 have e1 : (w.alloc (.cells #[.string g.cur, .int .i64 g.cy, .int .i64 g.cm, .int .i64 g.cp, .slice g.A g.n g.c, .int .i64 g.r0, .int .i64 g.r1, .int .i64 g.r2, .int .i64 g.r3, .int .i64 g.r4, .int .i64 g.r5, .int .i64 g.r6, .int .i64 g.r7, .int .i64 g.r8, .int .i64 g.r9, .int .i64 g.r10, .int .i64 g.r11, .int .i64 g.r12, .int .i64 g.r13, .int .i64 g.r14, .slice g.E g.m g.d] 29)).heap.size = w.heap.size + 1 := by simp
 rw [e1] at hE
 have h1 := fun w => rnam_any e.nm w hs1
 have h2 := fun w => rcur_any e.cur w hs2
 have h3 : ∀ w, EntK w e.A e.n e.L e.B e.m e.K → AccAt w g.A L → Calls Try.prog 55 #[eV e, .slice g.A g.n g.c] w fun e' w' => e' = .returned (.bool (mvB e.L e.K L)) ∧ Below w.heap.size w w' := fun w h h' => by
  have h9 := rval9_any e.nm e.cur e.A e.c e.L e.B e.d e.K e.jt g.A g.c L w h.hz h.hy h' (by have := h.ln; omega) (by have := h.lm; omega) (by omega)
  rw [h.ln, h.lm, ln] at h9
  exact h9
 have h4 := fun w => rroles_any g w
 have hv : enrB L g.R e = (nameB e.nm && (curB e.cur && (mvB e.L e.K L && allTo (fun i => opnB g.R (e.K.getD i lnk0).tgt) e.K.length))) := rfl
 rw [he.lm] at hv
 obtain ⟨U, hU⟩ : ∃ U : Value, rolV g = U := ⟨_, rfl⟩
 rw [hU] at h4
 generalize enrB L g.R e = r at *
 generalize nameB e.nm = q1 at *
 generalize curB e.cur = q2 at *
 generalize mvB e.L e.K L = q3 at *
 obtain ⟨s0, hs0⟩ : ∃ s0, w.heap.size = s0 := ⟨_, rfl⟩
 have hsz : s0 ≤ ((w.alloc (.cells #[.string g.cur, .int .i64 g.cy, .int .i64 g.cm, .int .i64 g.cp, .slice g.A g.n g.c, .int .i64 g.r0, .int .i64 g.r1, .int .i64 g.r2, .int .i64 g.r3, .int .i64 g.r4, .int .i64 g.r5, .int .i64 g.r6, .int .i64 g.r7, .int .i64 g.r8, .int .i64 g.r9, .int .i64 g.r10, .int .i64 g.r11, .int .i64 g.r12, .int .i64 g.r13, .int .i64 g.r14, .slice g.E g.m g.d] 29)).alloc (.cells #[.string e.nm, .string e.cur, .slice e.A e.n e.c, .slice e.B e.m e.d, .bool e.jt] 59)).heap.size := by simp; omega
 have hek : EntK ((w.alloc (.cells #[.string g.cur, .int .i64 g.cy, .int .i64 g.cm, .int .i64 g.cp, .slice g.A g.n g.c, .int .i64 g.r0, .int .i64 g.r1, .int .i64 g.r2, .int .i64 g.r3, .int .i64 g.r4, .int .i64 g.r5, .int .i64 g.r6, .int .i64 g.r7, .int .i64 g.r8, .int .i64 g.r9, .int .i64 g.r10, .int .i64 g.r11, .int .i64 g.r12, .int .i64 g.r13, .int .i64 g.r14, .slice g.E g.m g.d] 29)).alloc (.cells #[.string e.nm, .string e.cur, .slice e.A e.n e.c, .slice e.B e.m e.d, .bool e.jt] 59)) e.A e.n e.L e.B e.m e.K := he.up hB
 have hz2 := hz.up hB
 rw [hs0] at hB hG hE ⊢
 have HS0 := Lib.hid hs0
 have HG := Lib.hid hG
 have HE := Lib.hid hE
 have HU := Lib.hid hU
 have HNM := Lib.hid h1
 have HCU := Lib.hid h2
 have HMV := Lib.hid h3
 have HRO := Lib.hid h4
 have HSZ := Lib.hid hsz
 have HEK := Lib.hid hek
 have HZ := Lib.hid hz2
 have HY := Lib.hid he.hy
 have HLM := Lib.hid he.lm
 have HV := Lib.hid hv
 have d4 := hG.c4
 obtain ⟨c0, c1, c2, c3, c4, lt⟩ := hE
 clear hz hz2 ln hl he hn hB1 hG e1 h1 h2 h3 h4 hv hU hsz hek hs1 hs2
 cases q1
 ·have HR := Lib.hid (show r = false from HV.out)
  clear HV
  go_enter Try.func36, Try.ntmps36
  go_wp2_with (first | (go_at_call 54; refine (HNM.out _).mono ?_; rintro e1 w1 ⟨rfl, rfl⟩))
  go_ret
  exact ⟨by rw [HR.out]; rfl, hB⟩
 cases q2
 ·have HR := Lib.hid (show r = false from HV.out)
  clear HV
  go_enter Try.func36, Try.ntmps36
  go_wp2_with (first | (go_at_call 54; refine (HNM.out _).mono ?_; rintro e1 w1 ⟨rfl, rfl⟩) | (go_at_call 49; refine (HCU.out _).mono ?_; rintro e1 w1 ⟨rfl, rfl⟩))
  go_ret
  exact ⟨by rw [HR.out]; rfl, hB⟩
 cases q3
 ·have HR := Lib.hid (show r = false from HV.out)
  clear HV
  go_enter Try.func36, Try.ntmps36
  go_wp2_with (first | (go_at_call 54; refine (HNM.out _).mono ?_; rintro e1 w1 ⟨rfl, rfl⟩) | (go_at_call 49; refine (HCU.out _).mono ?_; rintro e1 w1 ⟨rfl, rfl⟩) | (go_at_call 55; (with_reducible refine (HMV.out _ HEK.out HZ.out).mono ?_); rintro e1 w1 ⟨rfl, hb⟩; have hB2 := hB.trans (hb.mono HSZ.out); have HSZ2 := Lib.hid (Nat.le_trans HSZ.out hb.size); have HG2 := Lib.hid (HG.out.up hb); have HE2 := Lib.hid (HE.out.up hb); clear hb hB HSZ HG HE c0 c1 c2 c3 c4 lt; (try clear d4); have hB := hB2; have HSZ := HSZ2; have HG := HG2; have HE := HE2; clear hB2 HSZ2 HG2 HE2; obtain ⟨c0, c1, c2, c3, c4, lt⟩ := HE.out))
  go_ret
  exact ⟨by rw [HR.out]; rfl, hB⟩
 obtain ⟨P, hP⟩ : ∃ P : Nat → Bool, (fun i => opnB g.R (e.K.getD i lnk0).tgt) = P := ⟨_, rfl⟩
 have hv2 := HV.out
 rw [hP] at hv2
 have HV2 := Lib.hid (show r = allTo P e.m from hv2)
 have HP := Lib.hid (fun i => show opnB g.R (e.K.getD i lnk0).tgt = P i from by rw [← hP])
 clear HV hP hv2
 go_enter Try.func36, Try.ntmps36
 go_wp2_with (first | (go_at_call 54; refine (HNM.out _).mono ?_; rintro e1 w1 ⟨rfl, rfl⟩) | (go_at_call 49; refine (HCU.out _).mono ?_; rintro e1 w1 ⟨rfl, rfl⟩) | (go_at_call 55; (with_reducible refine (HMV.out _ HEK.out HZ.out).mono ?_); rintro e1 w1 ⟨rfl, hb⟩; have hB2 := hB.trans (hb.mono HSZ.out); have HSZ2 := Lib.hid (Nat.le_trans HSZ.out hb.size); have HG2 := Lib.hid (HG.out.up hb); have HE2 := Lib.hid (HE.out.up hb); clear hb hB HSZ HG HE c0 c1 c2 c3 c4 lt; (try clear d4); have hB := hB2; have HSZ := HSZ2; have HG := HG2; have HE := HE2; clear hB2 HSZ2 HG2 HE2; obtain ⟨c0, c1, c2, c3, c4, lt⟩ := HE.out) | (refine wpList_load_is rfl 26 _ rfl (.pointer (some ⟨s0, 5, none⟩)) rfl U (gb_rU HG.out HU.out) ?_) | (go_at_call 53; refine (HRO.out _).mono ?_; rintro e1 w2 ⟨⟨t, rfl, ht⟩, hb⟩; have HT := Lib.hid ht; clear ht; have hB2 := hB.trans (hb.mono HSZ.out); have HSZ2 := Lib.hid (Nat.le_trans HSZ.out hb.size); have HG2 := Lib.hid (HG.out.up hb); have HE2 := Lib.hid (HE.out.up hb); clear hb hB HSZ HG HE c0 c1 c2 c3 c4 lt; (try clear d4); have hB := hB2; have HSZ := HSZ2; have HG := HG2; have HE := HE2; clear hB2 HSZ2 HG2 HE2; obtain ⟨c0, c1, c2, c3, c4, lt⟩ := HE.out))
 clear hs0 HNM HCU HMV HEK HZ HG c0 c1 c2 c3 c4 lt
 obtain ⟨n, hn2⟩ : ∃ n, e.m = n := ⟨_, rfl⟩
 obtain ⟨B, hB9⟩ : ∃ B, e.B = B := ⟨_, rfl⟩
 rw [hn2] at hm HLM HV2 HE
 rw [hB9] at HY HE
 rw [hn2]
 clear hn2 hB9
 have HSW : Hid (s0 = w.heap.size) := Lib.hid HS0.out.symm
 go_loopg [6] n (fun kx s6 wr => ∃ k : Nat, s6 = .int .i64 k ∧ k ≤ n ∧ n - k ≤ kx ∧ Hid (allTo P k = true) ∧ Hid (EB wr (s0 + 1) e.nm e.cur e.A e.n e.c B n e.d e.jt) ∧ Hid (RolAt wr t g) ∧ Below s0 w wr)
 case atStart => exact ⟨0, rfl, by omega, by omega, Lib.hid rfl, HE, HT, hB⟩
 case round =>
  clear hB HE HT HSZ
  obtain ⟨k, rfl, hk, hkx, HA, HE, HT, hB⟩ := hrel
  obtain ⟨c0, c1, c2, c3, c4, lt⟩ := HE.out
  by_cases hlt : k < n
  ·have hltz : (k : Int) < (n : Int) := by omega
   obtain ⟨b, off, rfl, hbw, hcs⟩ := HY.out (by rw [HLM.out]; omega)
   have hb0 : b < s0 := by have := HS0.out; omega
   have hdl := hcs k (by rw [HLM.out]; exact hlt)
   have hp := HP.out k
   have hno : P k = false → r = false := fun h => by rw [HV2.out]; exact allTo_no hlt h
   obtain ⟨x, hx⟩ : ∃ x, e.K.getD k lnk0 = x := ⟨_, rfl⟩
   rw [hx] at hdl hp
   have HDL := Lib.hid hdl
   have HNo := Lib.hid hno
   have HPk : Hid (P k = allTo (fun j => !(decide (x.tgt = g.R.getD j 0) && !rlM j)) 15) := Lib.hid hp.symm
   clear hcs hx hp hno hbw hdl
   go_wp2_with fail
   clear c0 c1 c2 c3 c4 lt
   go_loopg [7] 15 (fun jx s7 W => ∃ j : Nat, s7 = .int .i64 j ∧ j ≤ 15 ∧ 15 - j ≤ jx ∧ Hid (allTo (fun j => !(decide (x.tgt = g.R.getD j 0) && !rlM j)) j = true) ∧ Hid (EB W (s0 + 1) e.nm e.cur e.A e.n e.c (some ⟨b, off, none⟩) n e.d e.jt) ∧ Hid (RolAt W t g) ∧ Below s0 w W)
   case atStart => exact ⟨0, rfl, by omega, by omega, Lib.hid rfl, HE, HT, hB⟩
   case round =>
    clear hB HE HT
    obtain ⟨j, rfl, hj, hjx, HJ, HE, HT, hB⟩ := hrel
    rename World => W
    by_cases hjl : j < 15
    ·have hjz : (j : Int) < 15 := by omega
     obtain ⟨c0, c1, c2, c3, c4, lt⟩ := HE.out
     obtain ⟨d0, d1, d2⟩ := HDL.out.up hB hb0
     obtain ⟨r0, r1, r2, r3, r4⟩ := HT.out.row hjl
     simp only [Nat.zero_add] at r0 r1 r2 r3 r4
     have hpj : allTo (fun j => !(decide (x.tgt = g.R.getD j 0) && !rlM j)) (j + 1) = !(decide (x.tgt = g.R.getD j 0) && !rlM j) := by
      show (allTo _ j && _) = _
      rw [HJ.out, Bool.true_and]
     have hpn : (!(decide (x.tgt = g.R.getD j 0) && !rlM j)) = false → P k = false := fun h => by rw [HPk.out]; exact allTo_no hjl h
     obtain ⟨y, hy⟩ : ∃ y, g.R.getD j 0 = y := ⟨_, rfl⟩
     obtain ⟨m9, hm9⟩ : ∃ m9, rlM j = m9 := ⟨_, rfl⟩
     rw [hy] at r1 hpj hpn
     rw [hm9] at r4 hpj hpn
     have HBK := Lib.hid hB
     have HPJ := Lib.hid hpj
     clear hy hm9 hpj
     by_cases h1 : x.tgt = y
     ·have e1 : (x.tgt == y) = true := by simp [h1]
      rw [decide_eq_true h1] at hpn
      have hpj2 := HPJ.out
      rw [decide_eq_true h1] at hpj2
      clear h1
      cases m9
      ·have HR := Lib.hid (HNo.out (hpn rfl))
       clear hpn hpj2
       go_wp2_with fail
       go_quiet (fail)
       have hB4 := below_drewN HBK.out nq
       generalize World.drewN _ nq = W8 at *
       go_wp2_with fail
       go_ret
       exact ⟨by rw [HR.out]; rfl, hB4⟩
      ·have HJ2 := Lib.hid (hpj2.trans rfl)
       clear hpn hpj2
       go_wp2_with fail
       go_quiet (fail)
       have hB4 := below_drewN HBK.out nq
       have HE4 := Lib.hid (HE.out.up (below_drewN (Below.refl _ _) nq))
       have HT4 := Lib.hid (HT.out.up (below_drewN (Below.refl _ _) nq))
       clear HE HT hB HBK c0 c1 c2 c3 c4 lt d0 d1 d2 r0 r1 r2 r3 r4
       generalize World.drewN _ nq = W8 at *
       go_wp2_with fail
       go_roundg (15 - (j + 1))
       case measure => omega
       case rel => exact ⟨j + 1, by go_num, by omega, by omega, HJ2, HE4, HT4, hB4⟩
     ·have e1 : (x.tgt == y) = false := by simp [h1]
      have hpj2 := HPJ.out
      rw [decide_eq_false h1] at hpj2
      have HJ2 := Lib.hid (hpj2.trans rfl)
      clear h1 hpn hpj2
      go_wp2_with fail
      go_quiet (fail)
      have hB4 := below_drewN HBK.out nq
      have HE4 := Lib.hid (HE.out.up (below_drewN (Below.refl _ _) nq))
      have HT4 := Lib.hid (HT.out.up (below_drewN (Below.refl _ _) nq))
      clear HE HT hB HBK c0 c1 c2 c3 c4 lt d0 d1 d2 r0 r1 r2 r3 r4
      generalize World.drewN _ nq = W8 at *
      go_wp2_with fail
      go_roundg (15 - (j + 1))
      case measure => omega
      case rel => exact ⟨j + 1, by go_num, by omega, by omega, HJ2, HE4, HT4, hB4⟩
    ·obtain rfl : j = 15 := by omega
     have HA2 : Hid (allTo P (k + 1) = true) := Lib.hid (by show (allTo P k && P k) = true; rw [HA.out, HPk.out, HJ.out]; rfl)
     go_wp2_with fail
     go_roundg (n - (k + 1))
     case measure => omega
     case rel => exact ⟨k + 1, by go_num, by omega, by omega, HA2, HE, HT, hB⟩
  ·obtain rfl : k = n := by omega
   have hltz : ¬ (k : Int) < (k : Int) := by omega
   have HR : Hid (r = true) := Lib.hid (by rw [HV2.out]; exact HA.out)
   go_wp2_with fail
   go_ret
   exact ⟨by rw [HR.out]; rfl, hB⟩
def rowR (L : List Acc) (R : List Int) (i : Nat) : Bool := chkR L R i && dsR R i
def bokR (g : Grp) (L : List Acc) : Bool := curB g.cur && (clV g.cy g.cm g.cp && (vB L true && (allTo (fun i => basB (L.getD i acc0)) L.length && allTo (rowR L g.R) 15)))
set_option maxRecDepth 20000 in
set_option maxHeartbeats 6400000 in
theorem rbooks_any (g : Grp) (L : List Acc) (w : World) (hz : AccAt w g.A L) (ln : L.length = g.n) (hl : g.n ≤ 1000) (hs1 : g.cur.size ≤ maxLen) :
  Calls Try.prog 34 #[grpV g] w fun e' w' => e' = .returned (.bool (bokR g L)) ∧ Below w.heap.size w w' := by
 have hB := below_alloc_new (w := w) (.cells #[.string g.cur, .int .i64 g.cy, .int .i64 g.cm, .int .i64 g.cp, .slice g.A g.n g.c, .int .i64 g.r0, .int .i64 g.r1, .int .i64 g.r2, .int .i64 g.r3, .int .i64 g.r4, .int .i64 g.r5, .int .i64 g.r6, .int .i64 g.r7, .int .i64 g.r8, .int .i64 g.r9, .int .i64 g.r10, .int .i64 g.r11, .int .i64 g.r12, .int .i64 g.r13, .int .i64 g.r14, .slice g.E g.m g.d] 29)
 have hG := gb_new w 29 g
 have h1 := fun w => rcur_any g.cur w hs1
 have h2 := fun w => rvalid7_any g.cy g.cm g.cp w
 have h3 : ∀ w, AccAt w g.A L → Calls Try.prog 51 #[.slice g.A g.n g.c, .bool true] w fun e' w' => e' = .returned (.bool (vB L true)) ∧ Below w.heap.size w w' := fun w h => by
  have h9 := rvalid8_any g.A g.c L true w h (by omega)
  rw [ln, ← vB_eq] at h9
  exact h9
 have h4 := fun w => rroles_any g w
 have h5 := fun x w h => racct_any g L x w h ln hl
 have hv : bokR g L = (curB g.cur && (clV g.cy g.cm g.cp && (vB L true && (allTo (fun i => basB (L.getD i acc0)) L.length && allTo (rowR L g.R) 15)))) := rfl
 rw [ln] at hv
 have hck : ∀ k, rowR L g.R k = (((fnd L (g.R.getD k 0)).isSome && (decide ((fndA L (g.R.getD k 0)).kind = rlK k) && decide ((fndA L (g.R.getD k 0)).basis = rlB k))) && allTo (fun j => !decide (g.R.getD j 0 = g.R.getD k 0)) k) := fun _ => rfl
 obtain ⟨U, hU⟩ : ∃ U : Value, rolV g = U := ⟨_, rfl⟩
 rw [hU] at h4
 obtain ⟨X, hX⟩ : ∃ X : Value, X = grpV g := ⟨_, rfl⟩
 rw [← hX] at h5
 generalize bokR g L = r at *
 generalize curB g.cur = q1 at *
 generalize clV g.cy g.cm g.cp = q2 at *
 generalize vB L true = q3 at *
 obtain ⟨P, hP⟩ : ∃ P : Nat → Bool, (fun i => basB (L.getD i acc0)) = P := ⟨_, rfl⟩
 have hpb : ∀ k, basB (L.getD k acc0) = P k := fun k => by rw [← hP]
 obtain ⟨T, hT⟩ : ∃ T : Nat → Bool, rowR L g.R = T := ⟨_, rfl⟩
 rw [hP, hT] at hv
 simp only [hT] at hck
 obtain ⟨s0, hs0⟩ : ∃ s0, w.heap.size = s0 := ⟨_, rfl⟩
 have hsz : s0 ≤ (w.alloc (.cells #[.string g.cur, .int .i64 g.cy, .int .i64 g.cm, .int .i64 g.cp, .slice g.A g.n g.c, .int .i64 g.r0, .int .i64 g.r1, .int .i64 g.r2, .int .i64 g.r3, .int .i64 g.r4, .int .i64 g.r5, .int .i64 g.r6, .int .i64 g.r7, .int .i64 g.r8, .int .i64 g.r9, .int .i64 g.r10, .int .i64 g.r11, .int .i64 g.r12, .int .i64 g.r13, .int .i64 g.r14, .slice g.E g.m g.d] 29)).heap.size := by simp; omega
 rw [hs0] at hB hG ⊢
 have HS0 := Lib.hid hs0
 have HG := Lib.hid hG
 have HU := Lib.hid hU
 have HX := Lib.hid hX
 have HCU := Lib.hid h1
 have HCL := Lib.hid h2
 have HCH := Lib.hid h3
 have HRO := Lib.hid h4
 have H5 := Lib.hid h5
 have HSZ := Lib.hid hsz
 have HZ := Lib.hid hz
 have HL := Lib.hid ln
 have HV := Lib.hid hv
 have HPB := Lib.hid hpb
 have HCK := Lib.hid hck
 have c0 := hG.c0
 have c1 := hG.c1
 have c2 := hG.c2
 have c3 := hG.c3
 have c4 := hG.c4
 clear hz ln hG h1 h2 h3 h4 h5 hv hck hU hX hsz hP hT hpb hs1
 cases q1
 ·have HR := Lib.hid (show r = false from HV.out)
  clear HV
  go_enter Try.func34, Try.ntmps34
  go_wp2_with (first | (go_at_call 49; refine (HCU.out _).mono ?_; rintro e1 w1 ⟨rfl, rfl⟩))
  go_ret
  exact ⟨by rw [HR.out]; rfl, hB⟩
 cases q2
 ·have HR := Lib.hid (show r = false from HV.out)
  clear HV
  go_enter Try.func34, Try.ntmps34
  go_wp2_with (first | (go_at_call 49; refine (HCU.out _).mono ?_; rintro e1 w1 ⟨rfl, rfl⟩) | (go_at_call 50; refine (HCL.out _).mono ?_; rintro e1 w1 ⟨rfl, hb⟩; have hB2 := hB.trans (hb.mono HSZ.out); have HSZ2 := Lib.hid (Nat.le_trans HSZ.out hb.size); have HG2 := Lib.hid (HG.out.up hb); clear hb hB HSZ HG c0 c1 c2 c3 c4; have hB := hB2; have HSZ := HSZ2; have HG := HG2; clear hB2 HSZ2 HG2; have c0 := HG.out.c0; have c1 := HG.out.c1; have c2 := HG.out.c2; have c3 := HG.out.c3; have c4 := HG.out.c4))
  go_ret
  exact ⟨by rw [HR.out]; rfl, hB⟩
 cases q3
 ·have HR := Lib.hid (show r = false from HV.out)
  clear HV
  go_enter Try.func34, Try.ntmps34
  go_wp2_with (first | (go_at_call 49; refine (HCU.out _).mono ?_; rintro e1 w1 ⟨rfl, rfl⟩) | (go_at_call 50; refine (HCL.out _).mono ?_; rintro e1 w1 ⟨rfl, hb⟩; have hB2 := hB.trans (hb.mono HSZ.out); have HSZ2 := Lib.hid (Nat.le_trans HSZ.out hb.size); have HG2 := Lib.hid (HG.out.up hb); clear hb hB HSZ HG c0 c1 c2 c3 c4; have hB := hB2; have HSZ := HSZ2; have HG := HG2; clear hB2 HSZ2 HG2; have c0 := HG.out.c0; have c1 := HG.out.c1; have c2 := HG.out.c2; have c3 := HG.out.c3; have c4 := HG.out.c4) | (go_at_call 51; (with_reducible refine (HCH.out _ (HZ.out.up (by rw [HS0.out]; exact hB))).mono ?_); rintro e1 w2 ⟨rfl, hb⟩; have hB2 := hB.trans (hb.mono HSZ.out); have HSZ2 := Lib.hid (Nat.le_trans HSZ.out hb.size); have HG2 := Lib.hid (HG.out.up hb); clear hb hB HSZ HG c0 c1 c2 c3 c4; have hB := hB2; have HSZ := HSZ2; have HG := HG2; clear hB2 HSZ2 HG2; have c0 := HG.out.c0; have c1 := HG.out.c1; have c2 := HG.out.c2; have c3 := HG.out.c3; have c4 := HG.out.c4))
  go_ret
  exact ⟨by rw [HR.out]; rfl, hB⟩
 have HV2 := Lib.hid (show r = (allTo P g.n && allTo T 15) from HV.out)
 clear HV
 go_enter Try.func34, Try.ntmps34
 go_wp2_with (first | (go_at_call 49; refine (HCU.out _).mono ?_; rintro e1 w1 ⟨rfl, rfl⟩) | (go_at_call 50; refine (HCL.out _).mono ?_; rintro e1 w1 ⟨rfl, hb⟩; have hB2 := hB.trans (hb.mono HSZ.out); have HSZ2 := Lib.hid (Nat.le_trans HSZ.out hb.size); have HG2 := Lib.hid (HG.out.up hb); clear hb hB HSZ HG c0 c1 c2 c3 c4; have hB := hB2; have HSZ := HSZ2; have HG := HG2; clear hB2 HSZ2 HG2; have c0 := HG.out.c0; have c1 := HG.out.c1; have c2 := HG.out.c2; have c3 := HG.out.c3; have c4 := HG.out.c4) | (go_at_call 51; (with_reducible refine (HCH.out _ (HZ.out.up (by rw [HS0.out]; exact hB))).mono ?_); rintro e1 w2 ⟨rfl, hb⟩; have hB2 := hB.trans (hb.mono HSZ.out); have HSZ2 := Lib.hid (Nat.le_trans HSZ.out hb.size); have HG2 := Lib.hid (HG.out.up hb); clear hb hB HSZ HG c0 c1 c2 c3 c4; have hB := hB2; have HSZ := HSZ2; have HG := HG2; clear hB2 HSZ2 HG2; have c0 := HG.out.c0; have c1 := HG.out.c1; have c2 := HG.out.c2; have c3 := HG.out.c3; have c4 := HG.out.c4))
 clear hs0 HCU HCL HCH c0 c1 c2 c3 c4
 obtain ⟨A, hA⟩ : ∃ A, g.A = A := ⟨_, rfl⟩
 rw [hA]
 have HAE := Lib.hid hA
 have HZA : Hid (AccAt w A L) := Lib.hid (by rw [← hA]; exact HZ.out)
 clear hA
 go_loopg [3] g.n (fun kx s3 wr => ∃ k : Nat, s3 = .int .i64 k ∧ k ≤ g.n ∧ g.n - k ≤ kx ∧ Hid (allTo P k = true) ∧ Hid (GB wr s0 g) ∧ Below s0 w wr)
 case atStart => exact ⟨0, rfl, by omega, by omega, Lib.hid rfl, HG, hB⟩
 case round =>
  clear hB HG HSZ
  obtain ⟨k, rfl, hk, hkx, HA, HG, hB⟩ := hrel
  have HSZ : Hid (s0 ≤ wr.heap.size) := Lib.hid (Nat.le_of_lt HG.out.lt)
  by_cases hlt : k < g.n
  ·have hltz : (k : Int) < (g.n : Int) := by omega
   obtain ⟨b, off, rfl, hbw, hcs⟩ := HZA.out (by rw [HL.out]; omega)
   have c4 := HG.out.c4
   rw [HAE.out] at c4
   obtain ⟨d0, d1, d2, d3⟩ := (hcs k (by rw [HL.out]; exact hlt)).up hB (by have := HS0.out; omega)
   have hp := HPB.out k
   have hno : P k = false → r = false := fun h => by rw [HV2.out, allTo_no hlt h]; rfl
   have hnx : P k = true → Hid (allTo P (k + 1) = true) := fun h => Lib.hid (by show (allTo P k && P k) = true; rw [HA.out, h]; rfl)
   obtain ⟨x, hx⟩ : ∃ x, L.getD k acc0 = x := ⟨_, rfl⟩
   rw [hx] at d0 d1 d2 d3 hp
   have hb := fun w => rbas_any x w
   rw [hp] at hb
   generalize P k = q at *
   have HBA := Lib.hid hb
   clear hcs hx hp hb HA hbw
   cases q
   ·have HR := Lib.hid (hno rfl)
    clear hno hnx
    go_wp2_with (go_at_call 52; refine (HBA.out _).mono ?_; rintro e1 w2 ⟨rfl, hb⟩; have hB2 := hB.trans (hb.mono HSZ.out); clear hb)
    go_ret
    exact ⟨by rw [HR.out]; rfl, hB2⟩
   ·have HA2 := hnx rfl
    clear hno hnx
    go_wp2_with (go_at_call 52; refine (HBA.out _).mono ?_; rintro e1 w2 ⟨rfl, hb⟩; have hB2 := hB.trans (hb.mono HSZ.out); have HG2 := Lib.hid (HG.out.up hb); clear hb)
    go_roundg (g.n - (k + 1))
    case measure => omega
    case rel => exact ⟨k + 1, by go_num, by omega, by omega, HA2, HG2, hB2⟩
  ·have hke : k = g.n := by omega
   have hltz : ¬ (k : Int) < (g.n : Int) := by omega
   have HV3 : Hid (r = allTo T 15) := Lib.hid (by rw [HV2.out, ← hke, HA.out]; rfl)
   have c4 := HG.out.c4
   rw [HAE.out] at c4
   have c0 := HG.out.c0
   have c1 := HG.out.c1
   have c2 := HG.out.c2
   have c3 := HG.out.c3
   clear hke HV2 HPB HL
   go_wp2_with (first | (refine wpList_load_is rfl 26 _ rfl (.pointer (some ⟨s0, 5, none⟩)) rfl U (gb_rU HG.out HU.out) ?_) | (go_at_call 53; refine (HRO.out _).mono ?_; rintro e1 w2 ⟨⟨t, rfl, ht⟩, hb⟩; have HT := Lib.hid ht; clear ht; have hB2 := hB.trans (hb.mono HSZ.out); have HSZ2 := Lib.hid (Nat.le_trans HSZ.out hb.size); have HG2 := Lib.hid (HG.out.up hb); clear hb hB HSZ HG c0 c1 c2 c3 c4; have hB := hB2; have HSZ := HSZ2; have HG := HG2; clear hB2 HSZ2 HG2; have c0 := HG.out.c0; have c1 := HG.out.c1; have c2 := HG.out.c2; have c3 := HG.out.c3; have c4 := HG.out.c4))
   clear c0 c1 c2 c3 c4 HRO HU HSZ HAE HZA HA
   go_loopg [5] 15 (fun kx s5 wr => ∃ k : Nat, s5 = .int .i64 k ∧ k ≤ 15 ∧ 15 - k ≤ kx ∧ Hid (allTo T k = true) ∧ Hid (GB wr s0 g) ∧ Hid (RolAt wr t g) ∧ Below s0 w wr)
   case atStart => exact ⟨0, rfl, by omega, by omega, Lib.hid rfl, HG, HT, hB⟩
   case round =>
    clear hB HG HT
    rename World => wr
    obtain ⟨k, rfl, hk, hkx, HA, HG, HT, hB⟩ := hrel
    by_cases hlt : k < 15
    ·have hltz : (k : Int) < 15 := by omega
     have hsz : s0 ≤ wr.heap.size := Nat.le_of_lt HG.out.lt
     have hrow := HT.out.row hlt
     have hck := HCK.out k
     have hno : T k = false → r = false := fun h => by rw [HV3.out]; exact allTo_no hlt h
     have hnx : T k = true → Hid (allTo T (k + 1) = true) := fun h => Lib.hid (by show (allTo T k && T k) = true; rw [HA.out, h]; rfl)
     obtain ⟨x, hx⟩ : ∃ x, g.R.getD k 0 = x := ⟨_, rfl⟩
     rw [hx] at hrow hck
     obtain ⟨y2, hy2⟩ : ∃ y, rlK k = y := ⟨_, rfl⟩
     obtain ⟨y3, hy3⟩ : ∃ y, rlB k = y := ⟨_, rfl⟩
     rw [hy2, hy3] at hck
     have RK2 := Lib.hid hy2
     have RK3 := Lib.hid hy3
     clear hy2 hy3
     have h5 := fun w h => H5.out x w h
     generalize (fnd L x).isSome = q1 at *
     generalize fndA L x = fa at *
     have HROW := Lib.hid hrow
     have H5x := Lib.hid h5
     have HNo := Lib.hid hno
     have HNx := Lib.hid hnx
     have HCKx := Lib.hid hck
     have HX1 := Lib.hid hx
     clear hrow h5 hno hnx hck hx HA
     have HZr : Hid (AccAt wr g.A L) := Lib.hid (HZ.out.up (by rw [HS0.out]; exact hB))
     have HC : Hid (∀ w', Below wr.heap.size wr w' → w'.cell? ⟨t, k * 5 + 1, none⟩ = some (.int .i64 x)) := Lib.hid fun w' h => by
      have h1 := HROW.out.2.1
      rw [Nat.zero_add] at h1
      exact (h.cell (p := ⟨t, k * 5 + 1, none⟩) HT.out.1).trans h1
     go_upto_region 12 with fail
     go_cut [6, 7] from 42 to 95 (fun v6 v7 wx => ∃ g6, v6 = .pointer (some ⟨g6, 0, none⟩) ∧ v7 = .bool q1 ∧ Hid (AB wx g6 fa) ∧ Hid (GB wx s0 g) ∧ Hid (RolAt wx t g) ∧ Below s0 w wx)
     case first =>
      refine wp_region_held_drew (S := fun w9 => Below wr.heap.size wr w9) (by kernel_rfl) (dc_drew (Below.refl _ _)) (fun hH => ?_)
      refine wpAnyH_take (i := 0) (v := X) rfl (by kernel_rfl) (by kernel_rfl) (by kernel_rfl) (fun _ _ _ h => h) (yieldsIf_load_is rfl 29 _ rfl (.pointer (some ⟨s0, 0, none⟩)) rfl X (fun w9 h9 => gb_lV (HG.out.up h9) HX.out)) hH ?_
      try simp only [Act.put, List.setIfInBounds_toArray]
      refine wpAnyH_take (i := 1) (v := .slice (some ⟨t, 0, none⟩) 15 15) rfl (by kernel_rfl) (by kernel_rfl) (by kernel_rfl) (fun _ _ _ h => h) (Or.inl ⟨by rfl, fun w9 h9 => by go_simp⟩) hH ?_
      try simp only [Act.put]
      refine wpAnyH_take (i := 2) (v := .int .i64 (k : Int)) rfl (by kernel_rfl) (by kernel_rfl) (by kernel_rfl) (fun _ _ _ h => h) (Or.inl ⟨by rfl, fun w9 h9 => by go_simp⟩) hH ?_
      try simp only [Act.put]
      refine wpAnyH_take (i := 3) (v := .pointer (some ⟨t, k * 5, none⟩)) rfl (by kernel_rfl) (by kernel_rfl) (by kernel_rfl) (fun _ _ _ h => h) (Or.inl ⟨by rfl, fun w9 h9 => by go_simp⟩) hH ?_
      try simp only [Act.put]
      refine wpAnyH_take (i := 4) (v := .pointer (some ⟨t, k * 5 + 1, none⟩)) rfl (by kernel_rfl) (by kernel_rfl) (by kernel_rfl) (fun _ _ _ h => h) (Or.inl ⟨by rfl, fun w9 h9 => by go_simp⟩) hH ?_
      try simp only [Act.put]
      refine wpAnyH_take (i := 5) (v := .int .i64 x) rfl (by kernel_rfl) (by kernel_rfl) (by kernel_rfl) (fun _ _ _ h => h) (Or.inl ⟨by rfl, fun w9 h9 => by have hc9 := HC.out w9 h9; go_simp⟩) hH ?_
      try simp only [Act.put]
      refine wpAnyH_ready (rs := [6, 10]) (by kernel_rfl) (by simp) ?_
      refine AllReadyH.cons rfl (fun K hK => ?_) (AllReadyH.cons rfl (fun K hK => ?_) AllReadyH.nil)
      ·go_simp
       go_wp2_with (go_at_call 19; refine (H5x.out _ (HZr.out.up hH)).mono ?_; rintro e1 w3 ⟨rfl, hb⟩; have hB3 : Below wr.heap.size wr w3 := below_more hH hb; clear hb)
       refine hK.out _ _ hB3 (fun hH2 => ?_)
       clear hK K
       try simp only [Act.put, List.setIfInBounds_toArray, List.set_cons_zero, List.set_cons_succ]
       refine wpAnyH_take (i := 7) (v := .tuple #[accV fa, .bool q1]) rfl (by kernel_rfl) (by kernel_rfl) (by kernel_rfl) (fun _ _ _ h => h) (Or.inl ⟨by rfl, fun w9 h9 => by go_simp⟩) hH2 ?_
       try simp only [Act.put, List.setIfInBounds_toArray]
       refine wpAnyH_take (i := 8) (v := accV fa) rfl (by kernel_rfl) (by kernel_rfl) (by kernel_rfl) (fun _ _ _ h => h) (Or.inl ⟨by rfl, fun w9 h9 => by go_simp⟩) hH2 ?_
       try simp only [Act.put]
       refine wpAnyH_take (i := 9) (v := .bool q1) rfl (by kernel_rfl) (by kernel_rfl) (by kernel_rfl) (fun _ _ _ h => h) (Or.inl ⟨by rfl, fun w9 h9 => by go_simp⟩) hH2 ?_
       try simp only [Act.put]
       refine wpAnyH_ready (rs := [10]) (by kernel_rfl) (by simp) ?_
       refine AllReadyH.cons rfl (fun K hK => ?_) AllReadyH.nil
       go_simp
       refine hK.out _ _ (below_new hB3 _) (fun hH3 => ?_)
       clear hK K
       try simp only [Act.put, List.setIfInBounds_toArray, List.set_cons_zero, List.set_cons_succ]
       refine wpAnyH_ready (rs := [11]) (by kernel_rfl) (by simp) ?_
       refine AllReadyH.cons rfl (fun K hK => ?_) AllReadyH.nil
       go_simp
       refine hK.out _ _ (below_new hB3 _) (fun hH4 => ?_)
       clear hK K
       try simp only [Act.put, List.setIfInBounds_toArray, List.set_cons_zero, List.set_cons_succ]
       refine wpAnyH_ready (rs := [12]) (by kernel_rfl) (by simp) ?_
       refine AllReadyH.cons rfl (fun K hK => ?_) AllReadyH.nil
       go_simp
       refine hK.out _ _ hH4 (fun hH5 => ?_)
       clear hK K
       try simp only [Act.put, List.setIfInBounds_toArray, List.set_cons_zero, List.set_cons_succ]
       refine wpAnyH_done (by kernel_rfl) ?_ _
       go_wp2_with fail
       go_meet
       exact ⟨_, rfl, rfl, Lib.hid (ab_new w3 52 fa), Lib.hid (HG.out.up (below_new hB3 _)), Lib.hid (HT.out.up (below_new hB3 _)), hB.trans ((below_new hB3 _).mono hsz)⟩
      ·go_simp
       refine hK.out _ _ (below_new (dc_drew (Below.refl _ _)) _) (fun hH1 => ?_)
       clear hK K
       try simp only [Act.put, List.setIfInBounds_toArray, List.set_cons_zero, List.set_cons_succ]
       refine wpAnyH_ready (rs := [6]) (by kernel_rfl) (by simp) ?_
       refine AllReadyH.cons rfl (fun K hK => ?_) AllReadyH.nil
       go_simp
       go_wp2_with (go_at_call 19; refine (H5x.out _ (HZr.out.up hH1)).mono ?_; rintro e1 w3 ⟨rfl, hb⟩; have hB3 : Below wr.heap.size wr w3 := below_more hH1 hb; have HA0 : Hid (AB w3 wr.heap.size acc0) := Lib.hid ((ab_new wr.drew 52 acc0).up hb); clear hb)
       refine hK.out _ _ hB3 (fun hH2 => ?_)
       clear hK K
       try simp only [Act.put, List.setIfInBounds_toArray, List.set_cons_zero, List.set_cons_succ]
       refine wpAnyH_take (i := 7) (v := .tuple #[accV fa, .bool q1]) rfl (by kernel_rfl) (by kernel_rfl) (by kernel_rfl) (fun _ _ _ h => h) (Or.inl ⟨by rfl, fun w9 h9 => by go_simp⟩) hH2 ?_
       try simp only [Act.put, List.setIfInBounds_toArray]
       refine wpAnyH_take (i := 8) (v := accV fa) rfl (by kernel_rfl) (by kernel_rfl) (by kernel_rfl) (fun _ _ _ h => h) (Or.inl ⟨by rfl, fun w9 h9 => by go_simp⟩) hH2 ?_
       try simp only [Act.put]
       refine wpAnyH_take (i := 9) (v := .bool q1) rfl (by kernel_rfl) (by kernel_rfl) (by kernel_rfl) (fun _ _ _ h => h) (Or.inl ⟨by rfl, fun w9 h9 => by go_simp⟩) hH2 ?_
       try simp only [Act.put]
       obtain ⟨⟨z0, z1, z2, z3⟩, zlt, zf⟩ := HA0.out
       have zf0 := zf 0
       have zf1 := zf 1
       have zf2 := zf 2
       have zf3 := zf 3
       simp only [Nat.zero_add] at z1 z2 z3
       clear zf
       refine wpAnyH_ready (rs := [11]) (by kernel_rfl) (by simp) ?_
       refine AllReadyH.cons rfl (fun K hK => ?_) AllReadyH.nil
       go_simp
       refine hK.out _ _ (bset4 hB3 (Nat.le_refl _) _ _ _ _) (fun hH4 => ?_)
       clear hK K
       try simp only [Act.put, List.setIfInBounds_toArray, List.set_cons_zero, List.set_cons_succ]
       refine wpAnyH_ready (rs := [12]) (by kernel_rfl) (by simp) ?_
       refine AllReadyH.cons rfl (fun K hK => ?_) AllReadyH.nil
       go_simp
       refine hK.out _ _ hH4 (fun hH5 => ?_)
       clear hK K
       try simp only [Act.put, List.setIfInBounds_toArray, List.set_cons_zero, List.set_cons_succ]
       refine wpAnyH_done (by kernel_rfl) ?_ _
       go_wp2_with fail
       go_meet
       have hB5 := bset4 hB3 (Nat.le_refl _) (.int .i64 fa.code) (.int .i64 fa.kind) (.int .i64 fa.basis) (.int .i64 fa.par)
       exact ⟨_, rfl, rfl, Lib.hid (ab_set4 HA0.out fa), Lib.hid (HG.out.up hB5), Lib.hid (HT.out.up hB5), hB.trans (hB5.mono hsz)⟩
     case rest =>
     clear HG HT hB HC HZr H5x
     rename World => wc
     obtain ⟨g6, rfl, rfl, HA6, HG, HT, hB⟩ := hcut
     obtain ⟨⟨z0, z1, z2, z3⟩, zlt, -⟩ := HA6.out
     simp only [Nat.zero_add] at z1 z2 z3
     obtain ⟨r0, r1, r2, r3, r4⟩ := HT.out.row hlt
     simp only [Nat.zero_add] at r0 r1 r2 r3 r4
     have e2 : (fa.kind != y2) = !decide (fa.kind = y2) := by by_cases h : fa.kind = y2 <;> simp [h]
     have e3 : (fa.basis != y3) = !decide (fa.basis = y3) := by by_cases h : fa.basis = y3 <;> simp [h]
     rw [RK2.out] at r2
     rw [RK3.out] at r3
     have hck9 := HCKx.out
     clear HCKx
     generalize decide (fa.kind = y2) = q2 at *
     generalize decide (fa.basis = y3) = q3 at *
     have HCKy := Lib.hid hck9
     have HBK := Lib.hid hB
     clear hck9
     rcases (show q1 = false ∨ (q1 = true ∧ q2 = false) ∨ (q1 = true ∧ q2 = true ∧ q3 = false) ∨ (q1 = true ∧ q2 = true ∧ q3 = true) from by cases q1 <;> cases q2 <;> cases q3 <;> simp) with rfl | ⟨rfl, rfl⟩ | ⟨rfl, rfl, rfl⟩ | ⟨rfl, rfl, rfl⟩
     ·have HR := Lib.hid (HNo.out (by rw [HCKy.out]; rfl))
      go_wp2_with fail
      go_quiet (fail)
      have hB4 := below_drewN HBK.out nq
      generalize World.drewN _ nq = W8 at *
      go_wp2_with fail
      go_ret
      exact ⟨by rw [HR.out]; rfl, hB4⟩
     ·have HR := Lib.hid (HNo.out (by rw [HCKy.out]; rfl))
      go_wp2_with fail
      go_quiet (fail)
      have hB4 := below_drewN HBK.out nq
      generalize World.drewN _ nq = W8 at *
      go_wp2_with fail
      go_ret
      exact ⟨by rw [HR.out]; rfl, hB4⟩
     ·have HR := Lib.hid (HNo.out (by rw [HCKy.out]; rfl))
      go_wp2_with fail
      go_quiet (fail)
      have hB4 := below_drewN HBK.out nq
      generalize World.drewN _ nq = W8 at *
      go_wp2_with fail
      go_ret
      exact ⟨by rw [HR.out]; rfl, hB4⟩
     have HCKz : Hid (T k = allTo (fun j => !decide (g.R.getD j 0 = x)) k) := Lib.hid (by rw [HCKy.out]; rfl)
     go_wp2_with fail
     go_quiet (fail)
     have hB4 := below_drewN HBK.out nq
     have HG4 := Lib.hid (HG.out.up (below_drewN (Below.refl _ _) nq))
     have HT4 := Lib.hid (HT.out.up (below_drewN (Below.refl _ _) nq))
     clear HG HT hB HBK HA6 z0 z1 z2 z3 zlt r0 r1 r2 r3 r4 HCKy
     generalize World.drewN _ nq = W8 at *
     go_wp2_with fail
     go_loopg [8] k (fun jx s8 W => ∃ j : Nat, s8 = .int .i64 j ∧ j ≤ k ∧ k - j ≤ jx ∧ Hid (allTo (fun j => !decide (g.R.getD j 0 = x)) j = true) ∧ Hid (GB W s0 g) ∧ Hid (RolAt W t g) ∧ Below s0 w W)
     case atStart => exact ⟨0, rfl, by omega, by omega, Lib.hid rfl, HG4, HT4, hB4⟩
     case round =>
      clear hB4 HG4 HT4
      rename World => W
      obtain ⟨j, rfl, hj, hjx, HJ, HG, HT, hB⟩ := hrel
      by_cases hjl : j < k
      ·have hjz : (j : Int) < (k : Int) := by omega
       have hj15 : j < 15 := by omega
       have hj15z : (j : Int) < 15 := by omega
       obtain ⟨-, r1, -, -, -⟩ := HT.out.row hlt
       obtain ⟨-, p1, -, -, -⟩ := HT.out.row hj15
       simp only [Nat.zero_add] at r1 p1
       rw [HX1.out] at r1
       have hpj : allTo (fun j => !decide (g.R.getD j 0 = x)) (j + 1) = !decide (g.R.getD j 0 = x) := by
        show (allTo _ j && _) = _
        rw [HJ.out, Bool.true_and]
       have hpn : (!decide (g.R.getD j 0 = x)) = false → T k = false := fun h => by rw [HCKz.out]; exact allTo_no hjl h
       generalize g.R.getD j 0 = y at *
       have HBK := Lib.hid hB
       by_cases h1 : y = x
       ·have e1 : (y == x) = true := by simp [h1]
        have HR := Lib.hid (HNo.out (hpn (by rw [decide_eq_true h1]; rfl)))
        clear h1 hpn hpj
        go_wp2_with fail
        go_quiet (fail)
        have hB4 := below_drewN HBK.out nq
        generalize World.drewN _ nq = W8 at *
        go_wp2_with fail
        go_ret
        exact ⟨by rw [HR.out]; rfl, hB4⟩
       ·have e1 : (y == x) = false := by simp [h1]
        rw [decide_eq_false h1] at hpj
        have HJ2 := Lib.hid (hpj.trans rfl)
        clear h1 hpn hpj
        go_wp2_with fail
        go_quiet (fail)
        have hB4 := below_drewN HBK.out nq
        have HG4 := Lib.hid (HG.out.up (below_drewN (Below.refl _ _) nq))
        have HT4 := Lib.hid (HT.out.up (below_drewN (Below.refl _ _) nq))
        clear HG HT hB HBK r1 p1
        generalize World.drewN _ nq = W8 at *
        go_wp2_with fail
        go_roundg (k - (j + 1))
        case measure => omega
        case rel => exact ⟨j + 1, by go_num, by omega, by omega, HJ2, HG4, HT4, hB4⟩
      ·obtain rfl : j = k := by omega
       have hjz : ¬ (j : Int) < (j : Int) := by omega
       have HA2 := HNx.out (by rw [HCKz.out]; exact HJ.out)
       go_wp2_with fail
       go_roundg (15 - (j + 1))
       case measure => omega
       case rel => exact ⟨j + 1, by go_num, by omega, by omega, HA2, HG, HT, hB⟩
    ·obtain rfl : k = 15 := by omega
     have HR := Lib.hid (HV3.out.trans HA.out)
     go_wp2_with fail
     go_ret
     exact ⟨by rw [HR.out]; rfl, hB⟩
def fnE (G : List Ent) (nm : ByteArray) : Int := if fix G nm < G.length then fix G nm else 0
def fnQ (G : List Ent) (nm : ByteArray) : Bool := decide (fix G nm < G.length)
theorem fn_at {G : List Ent} {nm : ByteArray} {k : Nat} (hk : k < G.length) (h0 : ∀ j, j < k → (G.getD j ent0).nm ≠ nm) (h : (G.getD k ent0).nm = nm) : fnE G nm = k ∧ fnQ G nm = true := by
 have := fix_at hk h0 h
 unfold fnE fnQ
 rw [this]
 exact ⟨if_pos hk, decide_eq_true hk⟩
theorem fn_no {G : List Ent} {nm : ByteArray} (h0 : ∀ j, j < G.length → (G.getD j ent0).nm ≠ nm) : fnE G nm = 0 ∧ fnQ G nm = false := by
 have := fix_no h0
 unfold fnE fnQ
 rw [this]
 exact ⟨if_neg (by omega), decide_eq_false (by omega)⟩
set_option maxRecDepth 20000 in
set_option maxHeartbeats 1600000 in
theorem rfind10_any (g : Grp) (G : List Ent) (nm : ByteArray) (w : World) (he : EntsAt w g.E G) (lg : G.length = g.m) (hm : g.m ≤ 1000) :
  Calls Try.prog 35 #[grpV g, .string nm] w fun e w' => e = .returned (.tuple #[.int .i64 (fnE G nm), .bool (fnQ G nm)]) ∧ Below w.heap.size w w' := by
 have hB := below_alloc_new (w := w) (.cells #[.string g.cur, .int .i64 g.cy, .int .i64 g.cm, .int .i64 g.cp, .slice g.A g.n g.c, .int .i64 g.r0, .int .i64 g.r1, .int .i64 g.r2, .int .i64 g.r3, .int .i64 g.r4, .int .i64 g.r5, .int .i64 g.r6, .int .i64 g.r7, .int .i64 g.r8, .int .i64 g.r9, .int .i64 g.r10, .int .i64 g.r11, .int .i64 g.r12, .int .i64 g.r13, .int .i64 g.r14, .slice g.E g.m g.d] 29)
 have c20 := (gb_new w 29 g).c20
 have hlt20 : w.heap.size < (w.alloc (.cells #[.string g.cur, .int .i64 g.cy, .int .i64 g.cm, .int .i64 g.cp, .slice g.A g.n g.c, .int .i64 g.r0, .int .i64 g.r1, .int .i64 g.r2, .int .i64 g.r3, .int .i64 g.r4, .int .i64 g.r5, .int .i64 g.r6, .int .i64 g.r7, .int .i64 g.r8, .int .i64 g.r9, .int .i64 g.r10, .int .i64 g.r11, .int .i64 g.r12, .int .i64 g.r13, .int .i64 g.r14, .slice g.E g.m g.d] 29)).heap.size := by simp
 have hat := fun k => fn_at (G := G) (nm := nm) (k := k)
 have hno := fn_no (G := G) (nm := nm)
 obtain ⟨s0, hs0⟩ : ∃ s0, w.heap.size = s0 := ⟨_, rfl⟩
 generalize fnE G nm = z at *
 generalize fnQ G nm = q at *
 rw [hs0] at hB c20 hlt20 ⊢
 obtain ⟨E, hE⟩ : ∃ E, g.E = E := ⟨_, rfl⟩
 obtain ⟨m, hm2⟩ : ∃ m, g.m = m := ⟨_, rfl⟩
 rw [hE, hm2] at c20 hB hlt20
 rw [hE] at he
 rw [hm2] at lg hm
 have HM := Lib.hid lg
 have HZ := Lib.hid he
 have HAt := Lib.hid hat
 have HNo := Lib.hid hno
 have HS0 := Lib.hid hs0
 clear he lg hat hno
 go_enter Try.func35, Try.ntmps35
 go_wp2_with fail
 clear hs0 hE hm2
 go_loopg [6] m (fun kx s6 wr => ∃ k : Nat, s6 = .int .i64 k ∧ k ≤ m ∧ m - k ≤ kx ∧ Hid (∀ j, j < k → (G.getD j ent0).nm ≠ nm) ∧ Hid (wr.cell? ⟨s0, 20, none⟩ = some (.slice E m g.d)) ∧ Hid (s0 < wr.heap.size) ∧ Below s0 w wr)
 case atStart => exact ⟨0, rfl, by omega, by omega, Lib.hid (fun j h => absurd h (by omega)), Lib.hid c20, Lib.hid hlt20, hB⟩
 case round =>
  clear hB c20 hlt20
  obtain ⟨k, rfl, hk, hkx, HN, HC, HL, hB⟩ := hrel
  have c20 := HC.out
  by_cases hlt : k < m
  ·have hltz : (k : Int) < (m : Int) := by omega
   obtain ⟨b, off, rfl, hbw, hcs⟩ := ent_at HZ.out (k := k) (by rw [HM.out]; omega)
   obtain ⟨c0, c1, c2, c3, c4⟩ := hcs.up hB (by have := HS0.out; omega)
   have ha := HAt.out k (by rw [HM.out]; exact hlt) HN.out
   have hnx : (G.getD k ent0).nm ≠ nm → Hid (∀ j, j < k + 1 → (G.getD j ent0).nm ≠ nm) := fun h => Lib.hid fun j hj => by
    rcases Nat.lt_or_ge j k with h1 | h1
    ·exact HN.out j h1
    ·obtain rfl : j = k := by omega
     exact h
   obtain ⟨x, hx⟩ : ∃ x, G.getD k ent0 = x := ⟨_, rfl⟩
   rw [hx] at c0 c1 c2 c3 c4 ha hnx
   clear hcs hx HN
   by_cases hq : x.nm = nm
   ·have e3 : (x.nm.toList == nm.toList) = true := by rw [hq]; exact beq_self_eq_true _
    have HR := Lib.hid (ha hq)
    clear ha hnx hq
    go_wp2_with fail
    go_ret2
    exact ⟨by rw [HR.out.1, HR.out.2]; rfl, hB⟩
   ·have e3 : (x.nm.toList == nm.toList) = false := beq_eq_false_iff_ne.2 fun h => hq (bl_inj h)
    have HN2 := hnx hq
    clear ha hnx hq
    go_wp2_with fail
    go_roundg (m - (k + 1))
    case measure => omega
    case rel => exact ⟨k + 1, by go_num, by omega, by omega, HN2, HC, HL, hB⟩
  ·obtain rfl : k = m := by omega
   have hltz : ¬ (k : Int) < (k : Int) := by omega
   have HR := Lib.hid (HNo.out (by rw [HM.out]; exact HN.out))
   go_wp2_with fail
   go_ret2
   exact ⟨by rw [HR.out.1, HR.out.2]; rfl, hB⟩
def rowX (L : List Acc) (R : List Int) (G : List Ent) (i : Nat) : Bool := dsN G i && enrB L R (G.getD i ent0)
def ensR (L : List Acc) (R : List Int) (G : List Ent) : Bool := decide (1 ≤ G.length) && (decide (G.length ≤ 12) && (!(G.getD 0 ent0).jt && allTo (rowX L R G) G.length))
def grpR (g : Grp) (L : List Acc) (G : List Ent) : Bool := bokR g L && ensR L g.R G
theorem fn_row {G : List Ent} {k : Nat} (hk : k < G.length) : (dsN G k = true → fnE G (G.getD k ent0).nm = k) ∧ (dsN G k = false → fnE G (G.getD k ent0).nm ≠ k) := by
 have hle : fix G (G.getD k ent0).nm ≤ k := by
  obtain ⟨nm, hnm⟩ : ∃ nm, (G.getD k ent0).nm = nm := ⟨_, rfl⟩
  rw [hnm]
  rw [List.getD_eq_getElem?_getD, List.getElem?_eq_getElem hk] at hnm
  rcases Nat.lt_or_ge k (fix G nm) with h | h
  ·have h3 := List.not_of_lt_findIdx (show k < G.findIdx fun e => decide (e.nm = nm) from h)
   simp only [Option.getD_some] at hnm
   simp [hnm] at h3
  ·exact h
 have h1 := fix_ds hk
 have e : fnE G (G.getD k ent0).nm = (fix G (G.getD k ent0).nm : Nat) := by
  unfold fnE
  rw [if_pos (by omega)]
 rw [e]
 refine ⟨fun h => by rw [h1.2 h], fun h h2 => ?_⟩
 rw [h1.1 (by omega)] at h; cases h
def rv10Fa (X : Value) (g : Grp) (b off k s0 : Nat) (x : Ent) (z : Int) (q : Bool) : List (Nat × AS.Fact) := [(36, AS.Fact.is (X)), (37, AS.Fact.is (.pointer (some ⟨s0, 20, none⟩))), (38, AS.Fact.is (.slice (some ⟨b, off, none⟩) g.m g.d)), (39, AS.Fact.is (.int .i64 (k : Int))), (40, AS.Fact.is (.pointer (some ⟨b, off + k * 5, none⟩))), (41, AS.Fact.is (.pointer (some ⟨b, off + k * 5, none⟩))), (42, AS.Fact.is (.string x.nm)), (43, AS.Fact.is (.tuple #[.int .i64 z, .bool q])), (35, AS.Fact.is (.tuple #[.int .i64 z, .bool q])), (44, AS.Fact.is (.int .i64 z)), (45, AS.Fact.is (.bool q)), (4, AS.Fact.is (.int .i64 z)), (5, AS.Fact.is (.bool q))]
def rv10Fb (k : Nat) (z : Int) : List (Nat × AS.Fact) := [(46, AS.Fact.is (.int .i64 z)), (47, AS.Fact.is (.int .i64 (k : Int))), (48, AS.Fact.is (.bool true)), (49, AS.Fact.is (.bool true)), (50, AS.Fact.is (undef)), (51, AS.Fact.is (undef)), (52, AS.Fact.is (undef)), (53, AS.Fact.is (undef)), (54, AS.Fact.is (undef)), (55, AS.Fact.is (undef)), (56, AS.Fact.is (undef)), (57, AS.Fact.is (undef)), (58, AS.Fact.is (.bool true))]
def rv10Fc (X : Value) (g : Grp) (b off k s0 : Nat) (x : Ent) (z : Int) (q2 : Bool) : List (Nat × AS.Fact) := [(46, AS.Fact.is (.int .i64 z)), (47, AS.Fact.is (.int .i64 (k : Int))), (48, AS.Fact.is (.bool false)), (49, AS.Fact.is (.bool false)), (50, AS.Fact.is (X)), (51, AS.Fact.is (.pointer (some ⟨s0, 20, none⟩))), (52, AS.Fact.is (.slice (some ⟨b, off, none⟩) g.m g.d)), (53, AS.Fact.is (.int .i64 (k : Int))), (54, AS.Fact.is (.pointer (some ⟨b, off + k * 5, none⟩))), (55, AS.Fact.is (eV x)), (56, AS.Fact.is (.bool q2)), (57, AS.Fact.is (.bool (!q2))), (58, AS.Fact.is (.bool (!q2)))]
set_option maxRecDepth 20000 in
set_option maxHeartbeats 6400000 in
theorem rvalid10_any (g : Grp) (L : List Acc) (G : List Ent) (w : World) (hk : GrK w g L G) (hs : Sm g G) (hw : GrW g L G) :
  Calls Try.prog 18 #[grpV g] w fun e' w' => e' = .returned (.bool (grpR g L G)) ∧ Below w.heap.size w w' := by
 have hv : grpR g L G = (bokR g L && (decide (1 ≤ G.length) && (decide (G.length ≤ 12) && (!(G.getD 0 ent0).jt && allTo (rowX L g.R G) G.length)))) := rfl
 rw [hk.lg] at hv
 have hrow : ∀ k, rowX L g.R G k = (dsN G k && enrB L g.R (G.getD k ent0)) := fun _ => rfl
 have h1 : ∀ k, k < g.m → ∀ w, AccAt w g.A L → EntsK w G → Calls Try.prog 36 #[grpV g, eV (G.getD k ent0)] w fun e' w' => e' = .returned (.bool (enrB L g.R (G.getD k ent0))) ∧ Below w.heap.size w w' := fun k hk2 w hz he => by
  have hm := getD_mem_acc (d := ent0) (L := G) (i := k) (by rw [hk.lg]; exact hk2)
  have := hs.e _ hm
  have := hs.n
  have := hw.txt _ hm
  exact rent_any g L _ w hz hk.ln (by omega) (he _ hm) (by omega) (by omega) this.1 this.2
 have h2 := fun nm w h => rfind10_any g G nm w h hk.lg (by have := hs.m; omega)
 have h3 := fun w h => rbooks_any g L w h hk.ln (by have := hs.n; omega) hw.cur
 have hfn : ∀ k, k < g.m → (dsN G k = true → fnE G (G.getD k ent0).nm = k) ∧ (dsN G k = false → fnE G (G.getD k ent0).nm ≠ k) := fun k hk2 => fn_row (by rw [hk.lg]; exact hk2)
 have hat := fun k (hk2 : k < g.m) => ent_at hk.he (k := k) (by rw [hk.lg]; exact hk2)
 obtain ⟨X, hX⟩ : ∃ X : Value, X = grpV g := ⟨_, rfl⟩
 rw [← hX] at h1 h2 h3
 generalize grpR g L G = r at *
 generalize bokR g L = qb at *
 obtain ⟨P, hP⟩ : ∃ P : Nat → Bool, rowX L g.R G = P := ⟨_, rfl⟩
 rw [hP] at hv
 simp only [hP] at hrow
 obtain ⟨s0, hs0⟩ : ∃ s0, w.heap.size = s0 := ⟨_, rfl⟩
 have hm14 := hs.m
 have HS0 := Lib.hid hs0
 have HX := Lib.hid hX
 have HV := Lib.hid hv
 have HRow := Lib.hid hrow
 have H1 := Lib.hid h1
 have H2 := Lib.hid h2
 have HBO := Lib.hid h3
 have HFN := Lib.hid hfn
 have HAt := Lib.hid hat
 have HZ := Lib.hid hk.hz
 have HEK := Lib.hid hk.hk
 have HEA := Lib.hid hk.he
 clear hk hs hw hv hrow h1 h2 h3 hfn hat hX hP
 by_cases hqm : qb = false ∨ g.m = 0
 ·have hB := below_alloc_new (w := w) (.cells #[.string g.cur, .int .i64 g.cy, .int .i64 g.cm, .int .i64 g.cp, .slice g.A g.n g.c, .int .i64 g.r0, .int .i64 g.r1, .int .i64 g.r2, .int .i64 g.r3, .int .i64 g.r4, .int .i64 g.r5, .int .i64 g.r6, .int .i64 g.r7, .int .i64 g.r8, .int .i64 g.r9, .int .i64 g.r10, .int .i64 g.r11, .int .i64 g.r12, .int .i64 g.r13, .int .i64 g.r14, .slice g.E g.m g.d] 29)
  have hG := gb_new w 29 g
  have HB := Lib.hid hB
  have hsz : s0 ≤ (w.alloc (.cells #[.string g.cur, .int .i64 g.cy, .int .i64 g.cm, .int .i64 g.cp, .slice g.A g.n g.c, .int .i64 g.r0, .int .i64 g.r1, .int .i64 g.r2, .int .i64 g.r3, .int .i64 g.r4, .int .i64 g.r5, .int .i64 g.r6, .int .i64 g.r7, .int .i64 g.r8, .int .i64 g.r9, .int .i64 g.r10, .int .i64 g.r11, .int .i64 g.r12, .int .i64 g.r13, .int .i64 g.r14, .slice g.E g.m g.d] 29)).heap.size := by simp; omega
  rw [hs0] at hB hG ⊢
  have HG := Lib.hid hG
  have HSZ := Lib.hid hsz
  have c20 := hG.c20
  have c20' := fun w' (h : Below (w.alloc (.cells #[.string g.cur, .int .i64 g.cy, .int .i64 g.cm, .int .i64 g.cp, .slice g.A g.n g.c, .int .i64 g.r0, .int .i64 g.r1, .int .i64 g.r2, .int .i64 g.r3, .int .i64 g.r4, .int .i64 g.r5, .int .i64 g.r6, .int .i64 g.r7, .int .i64 g.r8, .int .i64 g.r9, .int .i64 g.r10, .int .i64 g.r11, .int .i64 g.r12, .int .i64 g.r13, .int .i64 g.r14, .slice g.E g.m g.d] 29)).heap.size (w.alloc (.cells #[.string g.cur, .int .i64 g.cy, .int .i64 g.cm, .int .i64 g.cp, .slice g.A g.n g.c, .int .i64 g.r0, .int .i64 g.r1, .int .i64 g.r2, .int .i64 g.r3, .int .i64 g.r4, .int .i64 g.r5, .int .i64 g.r6, .int .i64 g.r7, .int .i64 g.r8, .int .i64 g.r9, .int .i64 g.r10, .int .i64 g.r11, .int .i64 g.r12, .int .i64 g.r13, .int .i64 g.r14, .slice g.E g.m g.d] 29)) w') => (hG.up h).c20
  have HC := Lib.hid c20'
  clear hG c20' hsz
  rcases hqm with rfl | hm0
  ·have HR : Hid (r = false) := Lib.hid (by rw [HV.out]; rfl)
   go_enter Try.func18, Try.ntmps18
   go_wp2_with (first | (refine wpList_load_is rfl 29 _ rfl (.pointer (some ⟨s0, 0, none⟩)) rfl X (gb_lV HG.out HX.out) ?_) | (go_at_call 34; (with_reducible refine (HBO.out _ (HZ.out.up (HB.out))).mono ?_); rintro e1 w1 ⟨rfl, hb⟩; have hB2 := hB.trans (hb.mono HSZ.out); have HG2 := Lib.hid (HG.out.up hb); have HSZ2 : Hid (s0 ≤ w1.heap.size) := Lib.hid (Nat.le_trans HSZ.out hb.size); clear hb hB HSZ HG HB))
   go_ret
   exact ⟨by rw [HR.out]; rfl, hB2⟩
  ·have HR : Hid (r = false) := Lib.hid (by rw [HV.out, decide_eq_false (show ¬ 1 ≤ g.m by omega)]; simp)
   have em : decide ((g.m : Int) < 1) = true := decide_eq_true (by omega)
   clear hm0
   cases qb
   ·go_enter Try.func18, Try.ntmps18
    go_wp2_with (first | (refine wpList_load_is rfl 29 _ rfl (.pointer (some ⟨s0, 0, none⟩)) rfl X (gb_lV HG.out HX.out) ?_) | (go_at_call 34; (with_reducible refine (HBO.out _ (HZ.out.up (HB.out))).mono ?_); rintro e1 w1 ⟨rfl, hb⟩; have hB2 := hB.trans (hb.mono HSZ.out); have HG2 := Lib.hid (HG.out.up hb); have HSZ2 : Hid (s0 ≤ w1.heap.size) := Lib.hid (Nat.le_trans HSZ.out hb.size); clear hb hB HSZ HG HB))
    go_ret
    exact ⟨by rw [HR.out]; rfl, hB2⟩
   ·go_enter Try.func18, Try.ntmps18
    go_wp2_with (first | (refine wpList_load_is rfl 29 _ rfl (.pointer (some ⟨s0, 0, none⟩)) rfl X (gb_lV HG.out HX.out) ?_) | (go_at_call 34; (with_reducible refine (HBO.out _ (HZ.out.up (HB.out))).mono ?_); rintro e1 w1 ⟨rfl, hb⟩; have hB2 := hB.trans (hb.mono HSZ.out); have HG2 := Lib.hid (HG.out.up hb); have HSZ2 : Hid (s0 ≤ w1.heap.size) := Lib.hid (Nat.le_trans HSZ.out hb.size); have hb9 := hb; clear hb hB HSZ HG HB c20; have c20 := HC.out w1 hb9; clear hb9))
    go_ret
    exact ⟨by rw [HR.out]; rfl, hB2⟩
 have hqb : qb = true := by cases qb; exact absurd (.inl rfl) hqm; rfl
 subst hqb
 have hm1 : 1 ≤ g.m := by
  rcases Nat.eq_zero_or_pos g.m with h | h
  ·exact absurd (.inr h) hqm
  ·exact h
 clear hqm
 have em : decide ((g.m : Int) < 1) = false := decide_eq_false (by omega)
 obtain ⟨b, off, eE, hbw, hc0⟩ := HAt.out 0 (by omega)
 have hB := below_alloc_new (w := w) (.cells #[.string g.cur, .int .i64 g.cy, .int .i64 g.cm, .int .i64 g.cp, .slice g.A g.n g.c, .int .i64 g.r0, .int .i64 g.r1, .int .i64 g.r2, .int .i64 g.r3, .int .i64 g.r4, .int .i64 g.r5, .int .i64 g.r6, .int .i64 g.r7, .int .i64 g.r8, .int .i64 g.r9, .int .i64 g.r10, .int .i64 g.r11, .int .i64 g.r12, .int .i64 g.r13, .int .i64 g.r14, .slice g.E g.m g.d] 29)
 have HB := Lib.hid hB
 have hG := gb_new w 29 g
 have hsz : s0 ≤ (w.alloc (.cells #[.string g.cur, .int .i64 g.cy, .int .i64 g.cm, .int .i64 g.cp, .slice g.A g.n g.c, .int .i64 g.r0, .int .i64 g.r1, .int .i64 g.r2, .int .i64 g.r3, .int .i64 g.r4, .int .i64 g.r5, .int .i64 g.r6, .int .i64 g.r7, .int .i64 g.r8, .int .i64 g.r9, .int .i64 g.r10, .int .i64 g.r11, .int .i64 g.r12, .int .i64 g.r13, .int .i64 g.r14, .slice g.E g.m g.d] 29)).heap.size := by simp; omega
 have hc20 : ∀ w', Below (w.alloc (.cells #[.string g.cur, .int .i64 g.cy, .int .i64 g.cm, .int .i64 g.cp, .slice g.A g.n g.c, .int .i64 g.r0, .int .i64 g.r1, .int .i64 g.r2, .int .i64 g.r3, .int .i64 g.r4, .int .i64 g.r5, .int .i64 g.r6, .int .i64 g.r7, .int .i64 g.r8, .int .i64 g.r9, .int .i64 g.r10, .int .i64 g.r11, .int .i64 g.r12, .int .i64 g.r13, .int .i64 g.r14, .slice g.E g.m g.d] 29)).heap.size (w.alloc (.cells #[.string g.cur, .int .i64 g.cy, .int .i64 g.cm, .int .i64 g.cp, .slice g.A g.n g.c, .int .i64 g.r0, .int .i64 g.r1, .int .i64 g.r2, .int .i64 g.r3, .int .i64 g.r4, .int .i64 g.r5, .int .i64 g.r6, .int .i64 g.r7, .int .i64 g.r8, .int .i64 g.r9, .int .i64 g.r10, .int .i64 g.r11, .int .i64 g.r12, .int .i64 g.r13, .int .i64 g.r14, .slice g.E g.m g.d] 29)) w' → w'.cell? ⟨s0, 20, none⟩ = some (.slice (some ⟨b, off, none⟩) g.m g.d) := fun w' h => by rw [← eE, ← hs0]; exact (hG.up h).c20
 have hd4 : ∀ w', Below w.heap.size w w' → w'.cell? ⟨b, off + 4, none⟩ = some (.bool (G.getD 0 ent0).jt) := fun w' h => by
  have := (hc0.up h hbw).c4
  simpa only [Nat.zero_mul, Nat.add_zero] using this
 rw [hs0] at hB hG
 rw [eE] at hB hG hsz hc20
 have HB : Hid (Below w.heap.size w (w.alloc (.cells #[.string g.cur, .int .i64 g.cy, .int .i64 g.cm, .int .i64 g.cp, .slice g.A g.n g.c, .int .i64 g.r0, .int .i64 g.r1, .int .i64 g.r2, .int .i64 g.r3, .int .i64 g.r4, .int .i64 g.r5, .int .i64 g.r6, .int .i64 g.r7, .int .i64 g.r8, .int .i64 g.r9, .int .i64 g.r10, .int .i64 g.r11, .int .i64 g.r12, .int .i64 g.r13, .int .i64 g.r14, .slice (some ⟨b, off, none⟩) g.m g.d] 29))) := Lib.hid (by rw [hs0]; exact hB)
 have HG := Lib.hid hG
 have HSZ := Lib.hid hsz
 have HC := Lib.hid hc20
 have HD4 := Lib.hid hd4
 have hv2 := HV.out
 rw [decide_eq_true hm1, Bool.true_and, Bool.true_and] at hv2
 have h0z : (0 : Int) < (g.m : Int) := by omega
 rw [hs0]
 have c20 := hG.c20
 rw [eE] at c20
 rcases Nat.lt_or_ge 12 g.m with k1 | k1
 ·have e1 : decide ((12 : Int) < (g.m : Int)) = true := decide_eq_true (by omega)
  have HR : Hid (r = false) := Lib.hid (by rw [hv2, decide_eq_false (by omega)]; rfl)
  clear k1 hv2 hbw hc0 hc20 hd4 hG hsz
  go_enter Try.func18, Try.ntmps18
  go_wp2_with (first | (refine wpList_load_is rfl 29 _ rfl (.pointer (some ⟨s0, 0, none⟩)) rfl X (gb_lV HG.out HX.out) ?_) | (go_at_call 34; (with_reducible refine (HBO.out _ (HZ.out.up (HB.out))).mono ?_); rintro e1 w1 ⟨rfl, hb⟩; have hB2 := hB.trans (hb.mono HSZ.out); have HG2 := Lib.hid (HG.out.up hb); have HSZ2 : Hid (s0 ≤ w1.heap.size) := Lib.hid (Nat.le_trans HSZ.out hb.size); have hb9 := hb; clear hb hB HSZ HG HB c20; have c20 := HC.out w1 hb9; have d4 := HD4.out w1 (by rw [hs0]; exact hB2); clear hb9))
  go_ret
  exact ⟨by rw [HR.out]; rfl, hB2⟩
 have e1 : decide ((12 : Int) < (g.m : Int)) = false := decide_eq_false (by omega)
 rw [decide_eq_true k1, Bool.true_and] at hv2
 generalize (G.getD 0 ent0).jt = jt at *
 cases jt
 case true =>
  have HR : Hid (r = false) := Lib.hid (by rw [hv2]; rfl)
  clear k1 hv2 hbw hc0 hc20 hd4 hG hsz
  go_enter Try.func18, Try.ntmps18
  go_wp2_with (first | (refine wpList_load_is rfl 29 _ rfl (.pointer (some ⟨s0, 0, none⟩)) rfl X (gb_lV HG.out HX.out) ?_) | (go_at_call 34; (with_reducible refine (HBO.out _ (HZ.out.up (HB.out))).mono ?_); rintro e1 w1 ⟨rfl, hb⟩; have hB2 := hB.trans (hb.mono HSZ.out); have HG2 := Lib.hid (HG.out.up hb); have HSZ2 : Hid (s0 ≤ w1.heap.size) := Lib.hid (Nat.le_trans HSZ.out hb.size); have hb9 := hb; clear hb hB HSZ HG HB c20; have c20 := HC.out w1 hb9; have d4 := HD4.out w1 (by rw [hs0]; exact hB2); clear hb9))
  go_ret
  exact ⟨by rw [HR.out]; rfl, hB2⟩
 have HV2 := Lib.hid (show r = allTo P g.m from hv2)
 clear k1 hv2 hc0 hc20 hd4 hG HV hsz
 go_enter Try.func18, Try.ntmps18
 go_wp2_with (first | (refine wpList_load_is rfl 29 _ rfl (.pointer (some ⟨s0, 0, none⟩)) rfl X (gb_lV HG.out HX.out) ?_) | (go_at_call 34; (with_reducible refine (HBO.out _ (HZ.out.up (HB.out))).mono ?_); rintro e1 w1 ⟨rfl, hb⟩; have hB2 := hB.trans (hb.mono HSZ.out); have HG2 := Lib.hid (HG.out.up hb); have HSZ2 : Hid (s0 ≤ w1.heap.size) := Lib.hid (Nat.le_trans HSZ.out hb.size); have hb9 := hb; clear hb hB HSZ HG HB c20; have c20 := HC.out w1 hb9; have d4 := HD4.out w1 (by rw [hs0]; exact hB2); clear hb9))
 clear c20
 try clear c20
 have hat2 : ∀ k, k < g.m → E5 w b (off + k * 5) (G.getD k ent0) := fun k hk => by
  obtain ⟨b', off', e', hb', hc'⟩ := HAt.out k hk
  rw [eE] at e'
  cases e'
  exact hc'
 have HAt2 := Lib.hid hat2
 have HEA2 : Hid (EntsAt w (some ⟨b, off, none⟩) G) := Lib.hid (by rw [← eE]; exact HEA.out)
 have HEE := Lib.hid eE
 have HBW := Lib.hid hbw
 clear HAt hat2 hs0 eE hbw HEA HC HD4
 go_loopg [3] g.m (fun kx s3 wr => ∃ k : Nat, s3 = .int .i64 k ∧ k ≤ g.m ∧ g.m - k ≤ kx ∧ Hid (allTo P k = true) ∧ Hid (GB wr s0 g) ∧ Below s0 w wr)
 case atStart => exact ⟨0, rfl, by omega, by omega, Lib.hid rfl, HG2, hB2⟩
 case round =>
  clear hB2 HG2
  obtain ⟨k, rfl, hk, hkx, HA, HG, hB⟩ := hrel
  obtain ⟨W0, hW0⟩ : ∃ W0, wr = W0 := ⟨_, rfl⟩
  subst hW0
  have HC20 : Hid (∀ w', Below wr.heap.size wr w' → w'.cell? ⟨s0, 20, none⟩ = some (.slice (some ⟨b, off, none⟩) g.m g.d)) := Lib.hid fun w' h => by rw [← HEE.out]; exact (HG.out.up h).c20
  have c20 := HC20.out wr (Below.refl _ _)
  have hsz : s0 ≤ wr.heap.size := Nat.le_of_lt HG.out.lt
  by_cases hlt : k < g.m
  ·have hltz : (k : Int) < (g.m : Int) := by omega
   have hd5 := (HAt2.out k hlt).up hB (by have := HS0.out; have := HBW.out; omega)
   have hno : P k = false → r = false := fun h => by rw [HV2.out]; exact allTo_no hlt h
   have hnx : P k = true → Hid (allTo P (k + 1) = true) := fun h => Lib.hid (by show (allTo P k && P k) = true; rw [HA.out, h]; rfl)
   have hrow := HRow.out k
   have hfn := HFN.out k hlt
   have h1x := fun w h h' => H1.out k hlt w h h'
   obtain ⟨x, hx⟩ : ∃ x, G.getD k ent0 = x := ⟨_, rfl⟩
   rw [hx] at hd5 hrow hfn h1x
   have h2x := fun w h => H2.out x.nm w h
   have hea : EntsAt wr (some ⟨b, off, none⟩) G := HEA2.out.up (by rw [HS0.out]; exact hB)
   have hea3 : ∀ w, EntsAt w (some ⟨b, off, none⟩) G → EntsAt w g.E G := fun w h => by rw [HEE.out]; exact h
   generalize enrB L g.R x = q2 at *
   generalize P k = pk at *
   obtain ⟨z, hz⟩ : ∃ z, fnE G x.nm = z := ⟨_, rfl⟩
   obtain ⟨q, hq⟩ : ∃ q, fnQ G x.nm = q := ⟨_, rfl⟩
   rw [hz, hq] at h2x
   rw [hz] at hfn
   have hfi : ∀ w, EntsAt w (some ⟨b, off, none⟩) G → Calls Try.prog 35 #[X, .string x.nm] w fun e' w' => e' = .returned (.tuple #[.int .i64 z, .bool q]) ∧ Below w.heap.size w w' := fun w h => h2x w (hea3 w h)
   have hbW : b < wr.heap.size := by have := HS0.out; have := HBW.out; omega
   have HD5 := Lib.hid hd5
   have HEA := Lib.hid hea
   have HFI := Lib.hid hfi
   have HEN := Lib.hid h1x
   have HNoo := Lib.hid hno
   have HNx := Lib.hid hnx
   have HRo := Lib.hid hrow
   have HFx := Lib.hid hfn
   have HZ9 : Hid (AccAt wr g.A L) := Lib.hid (HZ.out.up (by rw [HS0.out]; exact hB))
   have HEK9 : Hid (EntsK wr G) := Lib.hid (HEK.out.up (by rw [HS0.out]; exact hB))
   clear hd5 hno hnx hrow hfn h1x hx h2x hea hea3 hz hq hfi HA
   go_wp2_with fail
   refine AS.region_facts (rv10Fa X g b off k s0 x z q) (HNo wr) [[], [], [37], [], [38, 39], [40], [41], [36, 42], [43], [35], [35], [44], [45]] [] [[]] [0, 0, 0, 0, 0, 0, 0, 0, 0, 0, 0, 0, 0] [] (fun u => by simp only [rv10Fa, AS.temps, List.map_cons, List.map_nil, fillL, List.setIfInBounds_toArray, List.set_cons_zero, List.set_cons_succ]; rfl) (by kernel_rfl) (by kernel_rfl) (HNo.st wr) (dc_drew (Below.refl _ _)) ?_ ?_
   ·refine AS.sc rfl rfl rfl ?_ ?_
    ·intro k_ u w_ hk_ hJ hF K hK
     clear hF
     refine wp_load_is 29 _ rfl (.pointer (some ⟨s0, 0, none⟩)) rfl X (gb_lV (HG.out.up (hJ : Below wr.heap.size wr w_)) HX.out) ?_
     exact hK.out _ _ (Below.refl _ _) (rfl) trivial
    refine AS.sc rfl rfl rfl ?_ ?_
    ·intro k_ u w_ hk_ hJ hF K hK
     clear hF
     go_simp
     exact hK.out _ _ (Below.refl _ _) (rfl) trivial
    refine AS.sc rfl rfl rfl ?_ ?_
    ·intro k_ u w_ hk_ hJ hF K hK
     have h37 : u 37 = .pointer (some ⟨s0, 20, none⟩) := AS.facts_get hF 37 (by simp)
     clear hF
     simp only [h37] at hK ⊢
     clear h37
     have c20 := HC20.out w_ (hJ : Below wr.heap.size wr w_)
     go_simp
     exact hK.out _ _ (Below.refl _ _) (rfl) trivial
    refine AS.sc rfl rfl rfl ?_ ?_
    ·intro k_ u w_ hk_ hJ hF K hK
     clear hF
     go_simp
     exact hK.out _ _ (Below.refl _ _) (rfl) trivial
    refine AS.sc rfl rfl rfl ?_ ?_
    ·intro k_ u w_ hk_ hJ hF K hK
     have h38 : u 38 = .slice (some ⟨b, off, none⟩) g.m g.d := AS.facts_get hF 38 (by simp)
     have h39 : u 39 = .int .i64 (k : Int) := AS.facts_get hF 39 (by simp)
     clear hF
     simp only [h38, h39] at hK ⊢
     clear h38 h39
     go_simp
     exact hK.out _ _ (Below.refl _ _) (rfl) trivial
    refine AS.sc rfl rfl rfl ?_ ?_
    ·intro k_ u w_ hk_ hJ hF K hK
     have h40 : u 40 = .pointer (some ⟨b, off + k * 5, none⟩) := AS.facts_get hF 40 (by simp)
     clear hF
     simp only [h40] at hK ⊢
     clear h40
     go_simp
     exact hK.out _ _ (Below.refl _ _) (rfl) trivial
    refine AS.sc rfl rfl rfl ?_ ?_
    ·intro k_ u w_ hk_ hJ hF K hK
     have h41 : u 41 = .pointer (some ⟨b, off + k * 5, none⟩) := AS.facts_get hF 41 (by simp)
     clear hF
     simp only [h41] at hK ⊢
     clear h41
     obtain ⟨d0, d1, d2, d3, d4⟩ := HD5.out.up (hJ : Below wr.heap.size wr w_) hbW
     go_simp
     exact hK.out _ _ (Below.refl _ _) (rfl) trivial
    refine AS.sc rfl rfl rfl ?_ ?_
    ·intro k_ u w_ hk_ hJ hF K hK
     have h36 : u 36 = X := AS.facts_get hF 36 (by simp)
     have h42 : u 42 = .string x.nm := AS.facts_get hF 42 (by simp)
     clear hF
     simp only [h36, h42] at hK ⊢
     clear h36 h42
     have he9 := HEA.out.up (hJ : Below wr.heap.size wr w_)
     go_simp
     refine (HFI.out _ he9).mono ?_
     rintro e w3 ⟨rfl, hb⟩
     exact hK.out _ _ hb (rfl) trivial
    refine AS.sc rfl rfl rfl ?_ ?_
    ·intro k_ u w_ hk_ hJ hF K hK
     have h43 : u 43 = .tuple #[.int .i64 z, .bool q] := AS.facts_get hF 43 (by simp)
     clear hF
     simp only [h43] at hK ⊢
     clear h43
     go_simp
     exact hK.out _ _ (Below.refl _ _) (rfl) trivial
    refine AS.sc rfl rfl rfl ?_ ?_
    ·intro k_ u w_ hk_ hJ hF K hK
     have h35 : u 35 = .tuple #[.int .i64 z, .bool q] := AS.facts_get hF 35 (by simp)
     clear hF
     simp only [h35] at hK ⊢
     clear h35
     go_simp
     exact hK.out _ _ (Below.refl _ _) (rfl) trivial
    refine AS.sc rfl rfl rfl ?_ ?_
    ·intro k_ u w_ hk_ hJ hF K hK
     have h35 : u 35 = .tuple #[.int .i64 z, .bool q] := AS.facts_get hF 35 (by simp)
     clear hF
     simp only [h35] at hK ⊢
     clear h35
     go_simp
     exact hK.out _ _ (Below.refl _ _) (rfl) trivial
    refine AS.sc rfl rfl rfl ?_ ?_
    ·intro k_ u w_ hk_ hJ hF K hK
     have h44 : u 44 = .int .i64 z := AS.facts_get hF 44 (by simp)
     clear hF
     simp only [h44] at hK ⊢
     clear h44
     go_simp
     exact hK.out _ _ (Below.refl _ _) (rfl) trivial
    refine AS.sc rfl rfl rfl ?_ ?_
    ·intro k_ u w_ hk_ hJ hF K hK
     have h45 : u 45 = .bool q := AS.facts_get hF 45 (by simp)
     clear hF
     simp only [h45] at hK ⊢
     clear h45
     go_simp
     exact hK.out _ _ (Below.refl _ _) (rfl) trivial
    exact AS.StepsOk.nil
   ·intro u W9 hJ9 hF
    have h4 : u 4 = .int .i64 z := AS.facts_get hF 4 (by simp [rv10Fa, AS.temps])
    have h5 : u 5 = .bool q := AS.facts_get hF 5 (by simp [rv10Fa, AS.temps])
    have hB9 : Below wr.heap.size wr W9 := hJ9
    clear hF hJ9
    rename World => W8
    try simp only [h4, h5]
    clear h4 h5
    have HG8 := Lib.hid (HG.out.up hB9)
    have hB8 := hB.trans (hB9.mono hsz)
    have hsz8 : s0 ≤ W8.heap.size := Nat.le_of_lt HG8.out.lt
    have HC28 : Hid (∀ w', Below W8.heap.size W8 w' → w'.cell? ⟨s0, 20, none⟩ = some (.slice (some ⟨b, off, none⟩) g.m g.d)) := Lib.hid fun w' h => by rw [← HEE.out]; exact (HG8.out.up h).c20
    have HD58 := Lib.hid (HD5.out.up hB9 hbW)
    have hbW8 : b < W8.heap.size := Nat.lt_of_lt_of_le hbW hB9.size
    have HZ98 := Lib.hid (HZ9.out.up hB9)
    have HEK98 := Lib.hid (HEK9.out.up hB9)
    clear HG HC20 HD5 HZ9 HEK9 HEA HFI hB9 hbW c20 hB
    cases hds : dsN G k
    ·have HZK : Hid ((z != (k : Int)) = true) := Lib.hid (by simpa using HFx.out.2 hds)
     have HR := Lib.hid (HNoo.out (by rw [HRo.out, hds]; rfl))
     have hB := hB8
     clear hds HRo HFx HNoo HNx
     go_wp2_with fail
     refine AS.region_facts (rv10Fb k z) (HNo W8) [[], [], [46, 47], [48], [49], [49], [49], [49], [49], [49], [49], [49], [49, 57]] [] [[]] [0, 0, 0, 0, 0, 0, 0, 0, 0, 0, 0, 0, 0] [] (fun u => by simp only [rv10Fb, AS.temps, List.map_cons, List.map_nil, fillL, List.setIfInBounds_toArray, List.set_cons_zero, List.set_cons_succ]; rfl) (by kernel_rfl) (by kernel_rfl) (HNo.st W8) (dc_drew (Below.refl _ _)) ?_ ?_
     ·refine AS.sc rfl rfl rfl ?_ ?_
      ·intro k_ u w_ hk_ hJ hF K hK
       clear hF
       go_simp
       exact hK.out _ _ (Below.refl _ _) (rfl) trivial
      refine AS.sc rfl rfl rfl ?_ ?_
      ·intro k_ u w_ hk_ hJ hF K hK
       clear hF
       go_simp
       exact hK.out _ _ (Below.refl _ _) (rfl) trivial
      refine AS.sc rfl rfl rfl ?_ ?_
      ·intro k_ u w_ hk_ hJ hF K hK
       have h46 : u 46 = .int .i64 z := AS.facts_get hF 46 (by simp)
       have h47 : u 47 = .int .i64 (k : Int) := AS.facts_get hF 47 (by simp)
       clear hF
       simp only [h46, h47] at hK ⊢
       clear h46 h47
       have hz9 := HZK.out
       go_simp
       exact hK.out _ _ (Below.refl _ _) (rfl) trivial
      refine AS.sc rfl rfl rfl ?_ ?_
      ·intro k_ u w_ hk_ hJ hF K hK
       have h48 : u 48 = .bool true := AS.facts_get hF 48 (by simp)
       clear hF
       simp only [h48] at hK ⊢
       clear h48
       go_simp
       exact hK.out _ _ (Below.refl _ _) (rfl) trivial
      refine AS.sc rfl rfl rfl ?_ ?_
      ·intro k_ u w_ hk_ hJ hF K hK
       have h49 : u 49 = .bool true := AS.facts_get hF 49 (by simp)
       clear hF
       simp only [h49] at hK ⊢
       clear h49
       go_simp
       exact hK.out _ _ (Below.refl _ _) (rfl) trivial
      refine AS.sc rfl rfl rfl ?_ ?_
      ·intro k_ u w_ hk_ hJ hF K hK
       have h49 : u 49 = .bool true := AS.facts_get hF 49 (by simp)
       clear hF
       simp only [h49] at hK ⊢
       clear h49
       go_simp
       exact hK.out _ _ (Below.refl _ _) (rfl) trivial
      refine AS.sc rfl rfl rfl ?_ ?_
      ·intro k_ u w_ hk_ hJ hF K hK
       have h49 : u 49 = .bool true := AS.facts_get hF 49 (by simp)
       clear hF
       simp only [h49] at hK ⊢
       clear h49
       go_simp
       exact hK.out _ _ (Below.refl _ _) (rfl) trivial
      refine AS.sc rfl rfl rfl ?_ ?_
      ·intro k_ u w_ hk_ hJ hF K hK
       have h49 : u 49 = .bool true := AS.facts_get hF 49 (by simp)
       clear hF
       simp only [h49] at hK ⊢
       clear h49
       go_simp
       exact hK.out _ _ (Below.refl _ _) (rfl) trivial
      refine AS.sc rfl rfl rfl ?_ ?_
      ·intro k_ u w_ hk_ hJ hF K hK
       have h49 : u 49 = .bool true := AS.facts_get hF 49 (by simp)
       clear hF
       simp only [h49] at hK ⊢
       clear h49
       go_simp
       exact hK.out _ _ (Below.refl _ _) (rfl) trivial
      refine AS.sc rfl rfl rfl ?_ ?_
      ·intro k_ u w_ hk_ hJ hF K hK
       have h49 : u 49 = .bool true := AS.facts_get hF 49 (by simp)
       clear hF
       simp only [h49] at hK ⊢
       clear h49
       go_simp
       exact hK.out _ _ (Below.refl _ _) (rfl) trivial
      refine AS.sc rfl rfl rfl ?_ ?_
      ·intro k_ u w_ hk_ hJ hF K hK
       have h49 : u 49 = .bool true := AS.facts_get hF 49 (by simp)
       clear hF
       simp only [h49] at hK ⊢
       clear h49
       go_simp
       exact hK.out _ _ (Below.refl _ _) (rfl) trivial
      refine AS.sc rfl rfl rfl ?_ ?_
      ·intro k_ u w_ hk_ hJ hF K hK
       have h49 : u 49 = .bool true := AS.facts_get hF 49 (by simp)
       clear hF
       simp only [h49] at hK ⊢
       clear h49
       go_simp
       exact hK.out _ _ (Below.refl _ _) (rfl) trivial
      refine AS.sc rfl rfl rfl ?_ ?_
      ·intro k_ u w_ hk_ hJ hF K hK
       have h49 : u 49 = .bool true := AS.facts_get hF 49 (by simp)
       have h57 : u 57 = undef := AS.facts_get hF 57 (by simp)
       clear hF
       simp only [h49, h57] at hK ⊢
       clear h49 h57
       go_simp
       exact hK.out _ _ (Below.refl _ _) (rfl) trivial
      exact AS.StepsOk.nil
     ·intro u W9 hJ9 hF
      have h58 : u 58 = .bool true := AS.facts_get hF 58 (by simp [rv10Fb, AS.temps])
      have hB9 : Below W8.heap.size W8 W9 := hJ9
      clear hF hJ9
      simp only [h58]
      clear h58
      go_wp2_with fail
      go_ret
      exact ⟨by rw [HR.out]; rfl, hB8.trans (hB9.mono hsz8)⟩
    ·have hzk := HFx.out.1 hds
     have HZK : Hid ((z != (k : Int)) = false) := Lib.hid (by rw [hzk]; simp)
     have hrow := HRo.out
     rw [hds, Bool.true_and] at hrow
     clear hds hzk HRo HFx
     go_wp2_with fail
     refine AS.region_facts (rv10Fc X g b off k s0 x z q2) (HNo W8) [[], [], [46, 47], [48], [49], [49], [51, 49], [49], [52, 53, 49], [54, 49], [50, 55, 49], [56, 49], [49, 57]] [] [[]] [0, 0, 0, 0, 0, 0, 0, 0, 0, 0, 0, 0, 0] [] (fun u => by simp only [rv10Fc, AS.temps, List.map_cons, List.map_nil, fillL, List.setIfInBounds_toArray, List.set_cons_zero, List.set_cons_succ]; rfl) (by kernel_rfl) (by kernel_rfl) (HNo.st W8) (dc_drew (Below.refl _ _)) ?_ ?_
     ·refine AS.sc rfl rfl rfl ?_ ?_
      ·intro k_ u w_ hk_ hJ hF K hK
       clear hF
       go_simp
       exact hK.out _ _ (Below.refl _ _) (rfl) trivial
      refine AS.sc rfl rfl rfl ?_ ?_
      ·intro k_ u w_ hk_ hJ hF K hK
       clear hF
       go_simp
       exact hK.out _ _ (Below.refl _ _) (rfl) trivial
      refine AS.sc rfl rfl rfl ?_ ?_
      ·intro k_ u w_ hk_ hJ hF K hK
       have h46 : u 46 = .int .i64 z := AS.facts_get hF 46 (by simp)
       have h47 : u 47 = .int .i64 (k : Int) := AS.facts_get hF 47 (by simp)
       clear hF
       simp only [h46, h47] at hK ⊢
       clear h46 h47
       have hz9 := HZK.out
       go_simp
       exact hK.out _ _ (Below.refl _ _) (rfl) trivial
      refine AS.sc rfl rfl rfl ?_ ?_
      ·intro k_ u w_ hk_ hJ hF K hK
       have h48 : u 48 = .bool false := AS.facts_get hF 48 (by simp)
       clear hF
       simp only [h48] at hK ⊢
       clear h48
       go_simp
       exact hK.out _ _ (Below.refl _ _) (rfl) trivial
      refine AS.sc rfl rfl rfl ?_ ?_
      ·intro k_ u w_ hk_ hJ hF K hK
       have h49 : u 49 = .bool false := AS.facts_get hF 49 (by simp)
       clear hF
       simp only [h49] at hK ⊢
       clear h49
       refine wp_load_is 29 _ rfl (.pointer (some ⟨s0, 0, none⟩)) rfl X (gb_lV (HG8.out.up (hJ : Below W8.heap.size W8 w_)) HX.out) ?_
       exact hK.out _ _ (Below.refl _ _) (rfl) trivial
      refine AS.sc rfl rfl rfl ?_ ?_
      ·intro k_ u w_ hk_ hJ hF K hK
       have h49 : u 49 = .bool false := AS.facts_get hF 49 (by simp)
       clear hF
       simp only [h49] at hK ⊢
       clear h49
       go_simp
       exact hK.out _ _ (Below.refl _ _) (rfl) trivial
      refine AS.sc rfl rfl rfl ?_ ?_
      ·intro k_ u w_ hk_ hJ hF K hK
       have h51 : u 51 = .pointer (some ⟨s0, 20, none⟩) := AS.facts_get hF 51 (by simp)
       have h49 : u 49 = .bool false := AS.facts_get hF 49 (by simp)
       clear hF
       simp only [h51, h49] at hK ⊢
       clear h51 h49
       have c20 := HC28.out w_ (hJ : Below W8.heap.size W8 w_)
       go_simp
       exact hK.out _ _ (Below.refl _ _) (rfl) trivial
      refine AS.sc rfl rfl rfl ?_ ?_
      ·intro k_ u w_ hk_ hJ hF K hK
       have h49 : u 49 = .bool false := AS.facts_get hF 49 (by simp)
       clear hF
       simp only [h49] at hK ⊢
       clear h49
       go_simp
       exact hK.out _ _ (Below.refl _ _) (rfl) trivial
      refine AS.sc rfl rfl rfl ?_ ?_
      ·intro k_ u w_ hk_ hJ hF K hK
       have h52 : u 52 = .slice (some ⟨b, off, none⟩) g.m g.d := AS.facts_get hF 52 (by simp)
       have h53 : u 53 = .int .i64 (k : Int) := AS.facts_get hF 53 (by simp)
       have h49 : u 49 = .bool false := AS.facts_get hF 49 (by simp)
       clear hF
       simp only [h52, h53, h49] at hK ⊢
       clear h52 h53 h49
       go_simp
       exact hK.out _ _ (Below.refl _ _) (rfl) trivial
      refine AS.sc rfl rfl rfl ?_ ?_
      ·intro k_ u w_ hk_ hJ hF K hK
       have h54 : u 54 = .pointer (some ⟨b, off + k * 5, none⟩) := AS.facts_get hF 54 (by simp)
       have h49 : u 49 = .bool false := AS.facts_get hF 49 (by simp)
       clear hF
       simp only [h54, h49] at hK ⊢
       clear h54 h49
       obtain ⟨d0, d1, d2, d3, d4⟩ := HD58.out.up (hJ : Below W8.heap.size W8 w_) hbW8
       go_simp
       exact hK.out _ _ (Below.refl _ _) (rfl) trivial
      refine AS.sc rfl rfl rfl ?_ ?_
      ·intro k_ u w_ hk_ hJ hF K hK
       have h50 : u 50 = X := AS.facts_get hF 50 (by simp)
       have h55 : u 55 = eV x := AS.facts_get hF 55 (by simp)
       have h49 : u 49 = .bool false := AS.facts_get hF 49 (by simp)
       clear hF
       simp only [h50, h55, h49] at hK ⊢
       clear h50 h55 h49
       have he9 := HEK98.out.up (hJ : Below W8.heap.size W8 w_)
       have hz9 := HZ98.out.up (hJ : Below W8.heap.size W8 w_)
       go_simp
       refine (HEN.out _ hz9 he9).mono ?_
       rintro e w3 ⟨rfl, hb⟩
       exact hK.out _ _ hb (rfl) trivial
      refine AS.sc rfl rfl rfl ?_ ?_
      ·intro k_ u w_ hk_ hJ hF K hK
       have h56 : u 56 = .bool q2 := AS.facts_get hF 56 (by simp)
       have h49 : u 49 = .bool false := AS.facts_get hF 49 (by simp)
       clear hF
       simp only [h56, h49] at hK ⊢
       clear h56 h49
       go_simp
       exact hK.out _ _ (Below.refl _ _) (rfl) trivial
      refine AS.sc rfl rfl rfl ?_ ?_
      ·intro k_ u w_ hk_ hJ hF K hK
       have h49 : u 49 = .bool false := AS.facts_get hF 49 (by simp)
       have h57 : u 57 = .bool (!q2) := AS.facts_get hF 57 (by simp)
       clear hF
       simp only [h49, h57] at hK ⊢
       clear h49 h57
       go_simp
       exact hK.out _ _ (Below.refl _ _) (rfl) trivial
      exact AS.StepsOk.nil
     ·intro u W9 hJ9 hF
      have h58 : u 58 = .bool (!q2) := AS.facts_get hF 58 (by simp [rv10Fc, AS.temps])
      have hB9 : Below W8.heap.size W8 W9 := hJ9
      clear hF hJ9
      simp only [h58]
      clear h58
      cases q2
      ·have HR := Lib.hid (HNoo.out hrow)
       go_wp2_with fail
       go_ret
       exact ⟨by rw [HR.out]; rfl, hB8.trans (hB9.mono hsz8)⟩
      ·have HA2 := HNx.out hrow
       have HG10 := Lib.hid (HG8.out.up hB9)
       go_wp2_with fail
       go_roundg (g.m - (k + 1))
       case measure => omega
       case rel => exact ⟨k + 1, by go_num, by omega, by omega, HA2, HG10, hB8.trans (hB9.mono hsz8)⟩
  ·have hke : k = g.m := by omega
   have hltz : ¬ (k : Int) < (g.m : Int) := by omega
   have HR : Hid (r = true) := Lib.hid (by rw [HV2.out, ← hke]; exact HA.out)
   clear hke
   go_wp2_with fail
   go_ret
   exact ⟨by rw [HR.out]; rfl, hB⟩
theorem allTo_and {p q : Nat → Bool} : ∀ {n : Nat}, allTo (fun i => p i && q i) n = (allTo p n && allTo q n)
 | 0 => rfl
 | n + 1 => by
  show (allTo (fun i => p i && q i) n && (p n && q n)) = ((allTo p n && p n) && (allTo q n && q n))
  rw [allTo_and]
  cases allTo p n <;> cases allTo q n <;> cases p n <;> cases q n <;> rfl
theorem allTo_all {p : Acc → Bool} {L : List Acc} : L.all p = allTo (fun i => p (L.getD i acc0)) L.length := by
 rw [Bool.eq_iff_iff, all_getD (d := acc0), allTo_is]
theorem grp_eq (g : Grp) (L : List Acc) (G : List Ent) : grpP g L G = grpR g L G := by
 have h1 : rlsB L g.R = allTo (rowR L g.R) 15 := by
  unfold rlsB
  exact allTo_and.symm
 have h2 : chaB L = (vB L true && allTo (fun i => basB (L.getD i acc0)) L.length) := by
  unfold chaB
  rw [allTo_all]
 have h3 : rlsB L g.R = true → ensP L g.R G = ensR L g.R G := fun h => by
  have hd : allTo (dsR g.R) 15 = true := by
   unfold rlsB at h
   rw [Bool.and_eq_true] at h
   exact h.2
  have he : ∀ e, enpB L g.R e = enrB L g.R e := fun e => by
   unfold enpB enrB
   congr 4
   funext i
   exact opn_eq (R_len g) hd _
  unfold ensP ensR
  congr 4
  funext i
  unfold rowP rowX
  rw [he]
 unfold grpP grpR bokR
 rw [h2, ← h1]
 cases hr : rlsB L g.R
 ·simp
 ·rw [h3 hr]
  cases curB g.cur <;> cases clV g.cy g.cm g.cp <;> cases vB L true <;> simp
def resB (L : List Acc) (c : Int) : Bool := decide ((fndA L c).kind = 4) || decide ((fndA L c).kind = 5)
theorem fndA_no {L : List Acc} {c : Int} (h : (fnd L c).isSome = false) : fndA L c = acc0 := by
 unfold fndA
 cases hf : fnd L c with
 | none => rfl
 | some a => rw [hf] at h; cases h
set_option maxRecDepth 20000 in
set_option maxHeartbeats 1600000 in
theorem gres_any (g : Grp) (L : List Acc) (c : Int) (w : World) (hz : AccAt w g.A L) (ln : L.length = g.n) (hl : g.n ≤ 1000) :
  Calls Try.prog 43 #[grpV g, .int .i64 c] w fun e w' => e = .returned (.bool (resB L c)) ∧ Below w.heap.size w w' := by
 have hB := below_alloc_new (w := w) (.cells #[.string g.cur, .int .i64 g.cy, .int .i64 g.cm, .int .i64 g.cp, .slice g.A g.n g.c, .int .i64 g.r0, .int .i64 g.r1, .int .i64 g.r2, .int .i64 g.r3, .int .i64 g.r4, .int .i64 g.r5, .int .i64 g.r6, .int .i64 g.r7, .int .i64 g.r8, .int .i64 g.r9, .int .i64 g.r10, .int .i64 g.r11, .int .i64 g.r12, .int .i64 g.r13, .int .i64 g.r14, .slice g.E g.m g.d] 29)
 have hG := gb_new w 29 g
 obtain ⟨V, hV⟩ : ∃ V, V = grpV g := ⟨_, rfl⟩
 have hz2 := hz.up hB
 have h1 := fun w h => gacct_any g L c w h ln hl
 rw [← hV] at h1
 have HV := Lib.hid hV
 clear hV
 have hno := fndA_no (L := L) (c := c)
 have hv : resB L c = (decide ((fndA L c).kind = 4) || decide ((fndA L c).kind = 5)) := rfl
 rw [hv]
 clear hv
 generalize fndA L c = x at *
 obtain ⟨q, hq⟩ : ∃ q, (fnd L c).isSome = q := ⟨_, rfl⟩
 rw [hq] at h1 hno
 clear hq
 obtain ⟨s0, hs0⟩ : ∃ s0, w.heap.size = s0 := ⟨_, rfl⟩
 have hs1 : s0 ≤ (w.alloc (.cells #[.string g.cur, .int .i64 g.cy, .int .i64 g.cm, .int .i64 g.cp, .slice g.A g.n g.c, .int .i64 g.r0, .int .i64 g.r1, .int .i64 g.r2, .int .i64 g.r3, .int .i64 g.r4, .int .i64 g.r5, .int .i64 g.r6, .int .i64 g.r7, .int .i64 g.r8, .int .i64 g.r9, .int .i64 g.r10, .int .i64 g.r11, .int .i64 g.r12, .int .i64 g.r13, .int .i64 g.r14, .slice g.E g.m g.d] 29)).heap.size := by simp; omega
 rw [hs0] at hB hG ⊢
 have HG := Lib.hid hG
 clear hG
 have HZ := Lib.hid hz2
 have H1 := Lib.hid h1
 have HS1 := Lib.hid hs1
 clear hz hz2 ln hl h1 hs1
 cases q
 ·have HX := Lib.hid (hno rfl)
  clear hno
  go_enter Try.func43, Try.ntmps43
  go_wp2_with (first | (refine wpList_load_is rfl 29 _ rfl (.pointer (some ⟨s0, 0, none⟩)) rfl V (gb_lV HG.out HV.out) ?_) | (go_at_call 63; refine (H1.out _ HZ.out).mono ?_; rintro e w1 ⟨rfl, hb⟩; have hB2 := (hB.trans (hb.mono HS1.out)).alloc (Nat.le_trans HS1.out hb.size) (.cells #[.int .i64 x.code, .int .i64 x.kind, .int .i64 x.basis, .int .i64 x.par] 52); clear hb; obtain ⟨⟨z0, z1, z2, z3⟩, zlt, -⟩ := ab_new w1 52 x; simp only [Nat.zero_add] at z1 z2 z3))
  go_ret
  exact ⟨by rw [HX.out]; rfl, hB2⟩
 ·clear hno
  have e5 : (x.kind == 5) = decide (x.kind = 5) := rfl
  by_cases k4 : x.kind = 4
  ·have e4 : (x.kind == 4) = true := by simp [k4]
   rw [decide_eq_true k4]
   clear k4
   go_enter Try.func43, Try.ntmps43
   go_wp2_with (first | (refine wpList_load_is rfl 29 _ rfl (.pointer (some ⟨s0, 0, none⟩)) rfl V (gb_lV HG.out HV.out) ?_) | (go_at_call 63; refine (H1.out _ HZ.out).mono ?_; rintro e w1 ⟨rfl, hb⟩; have hB2 := (hB.trans (hb.mono HS1.out)).alloc (Nat.le_trans HS1.out hb.size) (.cells #[.int .i64 x.code, .int .i64 x.kind, .int .i64 x.basis, .int .i64 x.par] 52); clear hb; obtain ⟨⟨z0, z1, z2, z3⟩, zlt, -⟩ := ab_new w1 52 x; simp only [Nat.zero_add] at z1 z2 z3))
   go_ret
   exact ⟨rfl, hB2⟩
 
  ·have e4 : (x.kind == 4) = false := by simp [k4]
   rw [decide_eq_false k4]
   clear k4
   go_enter Try.func43, Try.ntmps43
   go_wp2_with (first | (refine wpList_load_is rfl 29 _ rfl (.pointer (some ⟨s0, 0, none⟩)) rfl V (gb_lV HG.out HV.out) ?_) | (go_at_call 63; refine (H1.out _ HZ.out).mono ?_; rintro e w1 ⟨rfl, hb⟩; have hB2 := (hB.trans (hb.mono HS1.out)).alloc (Nat.le_trans HS1.out hb.size) (.cells #[.int .i64 x.code, .int .i64 x.kind, .int .i64 x.basis, .int .i64 x.par] 52); clear hb; obtain ⟨⟨z0, z1, z2, z3⟩, zlt, -⟩ := ab_new w1 52 x; simp only [Nat.zero_add] at z1 z2 z3))
   go_ret
   exact ⟨rfl, hB2⟩
set_option maxRecDepth 20000 in
set_option maxHeartbeats 1600000 in
theorem rres_any (g : Grp) (L : List Acc) (c : Int) (w : World) (hz : AccAt w g.A L) (ln : L.length = g.n) (hl : g.n ≤ 1000) :
  Calls Try.prog 17 #[grpV g, .int .i64 c] w fun e w' => e = .returned (.bool (resB L c)) ∧ Below w.heap.size w w' := by
 have hB := below_alloc_new (w := w) (.cells #[.string g.cur, .int .i64 g.cy, .int .i64 g.cm, .int .i64 g.cp, .slice g.A g.n g.c, .int .i64 g.r0, .int .i64 g.r1, .int .i64 g.r2, .int .i64 g.r3, .int .i64 g.r4, .int .i64 g.r5, .int .i64 g.r6, .int .i64 g.r7, .int .i64 g.r8, .int .i64 g.r9, .int .i64 g.r10, .int .i64 g.r11, .int .i64 g.r12, .int .i64 g.r13, .int .i64 g.r14, .slice g.E g.m g.d] 29)
 have hG := gb_new w 29 g
 obtain ⟨V, hV⟩ : ∃ V, V = grpV g := ⟨_, rfl⟩
 have hz2 := hz.up hB
 have h1 := fun w h => racct_any g L c w h ln hl
 rw [← hV] at h1
 have HV := Lib.hid hV
 clear hV
 have hno := fndA_no (L := L) (c := c)
 have hv : resB L c = (decide ((fndA L c).kind = 4) || decide ((fndA L c).kind = 5)) := rfl
 rw [hv]
 clear hv
 generalize fndA L c = x at *
 obtain ⟨q, hq⟩ : ∃ q, (fnd L c).isSome = q := ⟨_, rfl⟩
 rw [hq] at h1 hno
 clear hq
 obtain ⟨s0, hs0⟩ : ∃ s0, w.heap.size = s0 := ⟨_, rfl⟩
 have hs1 : s0 ≤ (w.alloc (.cells #[.string g.cur, .int .i64 g.cy, .int .i64 g.cm, .int .i64 g.cp, .slice g.A g.n g.c, .int .i64 g.r0, .int .i64 g.r1, .int .i64 g.r2, .int .i64 g.r3, .int .i64 g.r4, .int .i64 g.r5, .int .i64 g.r6, .int .i64 g.r7, .int .i64 g.r8, .int .i64 g.r9, .int .i64 g.r10, .int .i64 g.r11, .int .i64 g.r12, .int .i64 g.r13, .int .i64 g.r14, .slice g.E g.m g.d] 29)).heap.size := by simp; omega
 rw [hs0] at hB hG ⊢
 have HG := Lib.hid hG
 clear hG
 have HZ := Lib.hid hz2
 have H1 := Lib.hid h1
 have HS1 := Lib.hid hs1
 clear hz hz2 ln hl h1 hs1
 clear hno
 have e5 : (x.kind == 5) = decide (x.kind = 5) := rfl
 by_cases k4 : x.kind = 4
 ·have e4 : (x.kind == 4) = true := by simp [k4]
  rw [decide_eq_true k4]
  clear k4
  go_enter Try.func17, Try.ntmps17
  go_wp2_with (first | (refine wpList_load_is rfl 29 _ rfl (.pointer (some ⟨s0, 0, none⟩)) rfl V (gb_lV HG.out HV.out) ?_) | (go_at_call 19; refine (H1.out _ HZ.out).mono ?_; rintro e w1 ⟨rfl, hb⟩; have hB2 := (hB.trans (hb.mono HS1.out)).alloc (Nat.le_trans HS1.out hb.size) (.cells #[.int .i64 x.code, .int .i64 x.kind, .int .i64 x.basis, .int .i64 x.par] 52); clear hb; obtain ⟨⟨z0, z1, z2, z3⟩, zlt, -⟩ := ab_new w1 52 x; simp only [Nat.zero_add] at z1 z2 z3))
  go_ret
  exact ⟨rfl, hB2⟩

 ·have e4 : (x.kind == 4) = false := by simp [k4]
  rw [decide_eq_false k4]
  clear k4
  go_enter Try.func17, Try.ntmps17
  go_wp2_with (first | (refine wpList_load_is rfl 29 _ rfl (.pointer (some ⟨s0, 0, none⟩)) rfl V (gb_lV HG.out HV.out) ?_) | (go_at_call 19; refine (H1.out _ HZ.out).mono ?_; rintro e w1 ⟨rfl, hb⟩; have hB2 := (hB.trans (hb.mono HS1.out)).alloc (Nat.le_trans HS1.out hb.size) (.cells #[.int .i64 x.code, .int .i64 x.kind, .int .i64 x.basis, .int .i64 x.par] 52); clear hb; obtain ⟨⟨z0, z1, z2, z3⟩, zlt, -⟩ := ab_new w1 52 x; simp only [Nat.zero_add] at z1 z2 z3))
  go_ret
  exact ⟨rfl, hB2⟩
def plI (L : List Acc) (r b c d : Int) : Int := if (resB L c && decide (d < b)) = true then r else c
def plL (L : List Acc) (r b : Int) (X : List Lnk) : List Bal := X.map fun d => ⟨plI L r b d.frm d.tgt, d.since⟩
def cyE (g : Grp) (L : List Acc) (G : List Ent) (p : Int) : Int := if grpP g L G = true then clE g.cy g.cm g.cp p else 1
def cyB (g : Grp) (p : Int) : Int := pdB g.cy g.cm g.cp p
def knoB (L : List Acc) (X : List Lnk) : Bool := X.all fun d => (fnd L d.frm).isSome
def amsB (X : List Lnk) : Bool := X.all fun d => amtB d.since
def cvN (L : List Acc) (X : List Lnk) : Int := if knoB L X = true then (if amsB X = true then 0 else 1) else 8
def cvE (g : Grp) (L : List Acc) (G : List Ent) (X : List Lnk) (p : Int) : Int := if cyE g L G p = 0 then cvN L X else cyE g L G p
def plE (g : Grp) (L : List Acc) (G : List Ent) (c p : Int) : Int := if cyE g L G p = 0 then (if (fnd L c).isSome = true then 0 else 8) else cyE g L G p
def plN (g : Grp) (L : List Acc) (G : List Ent) (c d p : Int) : Int := if plE g L G c p = 0 then plI L g.r6 (cyB g p) c d else 0
def caE (g : Grp) (L : List Acc) (G : List Ent) (X : List Lnk) (p : Int) : Int := if cvE g L G X p = 0 then lisE (plL L g.r6 (cyB g p) X) else cvE g L G X p
def caL (g : Grp) (L : List Acc) (G : List Ent) (X : List Lnk) (p : Int) : List Bal := if cvE g L G X p = 0 then lisL (plL L g.r6 (cyB g p) X) else []
def totS (q : Lnk → Bool) (X : List Lnk) : Int := sumI X (fun d => if q d = true then d.since else 0)
def toE (v S : Int) : Int := if v = 0 then (if amtB S = true then 0 else 2) else v
def toN (v S : Int) : Int := if toE v S = 0 then S else 0
def qRes (L : List Acc) (r b : Int) (d : Lnk) : Bool := resB L (plI L r b d.frm d.tgt)
def qRet (L : List Acc) (r b : Int) (d : Lnk) : Bool := !decide (plI L r b d.frm d.tgt = d.frm)
theorem grp_parts {g : Grp} {L : List Acc} {G : List Ent} (h : grpP g L G = true) : clV g.cy g.cm g.cp = true ∧ vB L true = true ∧ rlsB L g.R = true := by
 unfold grpP chaB at h
 simp only [Bool.and_eq_true] at h
 exact ⟨h.2.1, h.2.2.1.1, h.2.2.2.1⟩
theorem cyE_in {g : Grp} {L : List Acc} {G : List Ent} {p : Int} (h : grpP g L G = true) (hp : 0 ≤ p ∧ p < g.cp) : cyE g L G p = 0 := by
 unfold cyE
 rw [if_pos h]
 exact clE_in (grp_parts h).1 hp
theorem cyE_out {g : Grp} {L : List Acc} {G : List Ent} {p : Int} (h : grpP g L G = true) (hp : ¬ (0 ≤ p ∧ p < g.cp)) : cyE g L G p = 2 := by
 unfold cyE
 rw [if_pos h]
 exact clE_out (grp_parts h).1 hp
theorem cyE_bad {g : Grp} {L : List Acc} {G : List Ent} {p : Int} (h : grpP g L G = false) : cyE g L G p = 1 := by
 unfold cyE
 rw [h]; rfl
theorem resB_fnd {L : List Acc} {c : Int} (h : resB L c = true) : (fnd L c).isSome = true := by
 cases h1 : (fnd L c).isSome
 ·unfold resB at h
  rw [fndA_no h1] at h
  simp at h
 ·rfl
theorem plL_len {L : List Acc} {r b : Int} {X : List Lnk} : (plL L r b X).length = X.length := by unfold plL; rw [List.length_map]
theorem plL_take {L : List Acc} {r b : Int} {X : List Lnk} {k : Nat} (hk : k < X.length) : plL L r b (X.take (k + 1)) = plL L r b (X.take k) ++ [⟨plI L r b (X.getD k lnk0).frm (X.getD k lnk0).tgt, (X.getD k lnk0).since⟩] := by
 unfold plL
 rw [take_succ_getD (d := lnk0) hk, List.map_append]; rfl
theorem totS_take {q : Lnk → Bool} {X : List Lnk} {k : Nat} (hk : k < X.length) : totS q (X.take (k + 1)) = totS q (X.take k) + if q (X.getD k lnk0) = true then (X.getD k lnk0).since else 0 := by
 unfold totS
 rw [take_succ_getD (d := lnk0) hk, sumI_app, sumI_cons, sumI_nil]; omega
theorem totS_bound {q : Lnk → Bool} : ∀ {X : List Lnk}, amsB X = true → -(X.length * 1000000000000 : Int) ≤ totS q X ∧ totS q X ≤ X.length * 1000000000000
 | [], _ => by simp [totS, sumI]
 | x :: X, h => by
  unfold amsB at h
  rw [List.all_cons, Bool.and_eq_true] at h
  have ih := totS_bound (q := q) (X := X) h.2
  have hx := amtB_is.1 h.1
  unfold totS at ih ⊢
  rw [sumI_cons, List.length_cons]
  split <;> omega
theorem cvE_ok {g : Grp} {L : List Acc} {G : List Ent} {X : List Lnk} {p : Int} (h : cvE g L G X p = 0) : cyE g L G p = 0 ∧ knoB L X = true ∧ amsB X = true := by
 unfold cvE at h
 by_cases h2 : cyE g L G p = 0
 ·rw [if_pos h2] at h
  unfold cvN at h
  split at h
  ·rename_i h3
   split at h
   ·rename_i h4; exact ⟨h2, h3, h4⟩
   ·cases h
  ·cases h
 ·rw [if_neg h2] at h; exact absurd h h2
theorem ca_sum {L : List Acc} {r b : Int} {X : List Lnk} {h : Int → Bool} (hE : lisE (plL L r b X) = 0) : sumI (lisL (plL L r b X)) (fun x => if h x.acct = true then x.amt else 0) = totS (fun d => h (plI L r b d.frm d.tgt)) X := by
 have h1 : amtsB (sumsL (plL L r b X)) = true := by
  unfold lisE at hE
  split at hE
  ·rename_i h2; exact h2
  ·cases hE
 unfold lisL
 rw [if_pos h1, pick0_sum, sumsL_sum]
 unfold plL totS
 rw [sumI_map]
abbrev wr (x : Int) : Int := wrap64 x
def ltK (a b : Int × Int) : Prop := a.1 < b.1 ∨ a.1 = b.1 ∧ a.2 < b.2
instance (a b : Int × Int) : Decidable (ltK a b) := by unfold ltK; infer_instance
def grpC (g : Grp) : List Value := [.string g.cur, .int .i64 g.cy, .int .i64 g.cm, .int .i64 g.cp, .slice g.A g.n g.c, .int .i64 g.r0, .int .i64 g.r1, .int .i64 g.r2, .int .i64 g.r3, .int .i64 g.r4, .int .i64 g.r5, .int .i64 g.r6, .int .i64 g.r7, .int .i64 g.r8, .int .i64 g.r9, .int .i64 g.r10, .int .i64 g.r11, .int .i64 g.r12, .int .i64 g.r13, .int .i64 g.r14, .slice g.E g.m g.d]
theorem grpV_is (g : Grp) : grpV g = .agg (grpC g).toArray := rfl
structure Rg (w : World) (b : Nat) (cs : List Value) : Prop where
 cell : ∀ j v, cs[j]? = some v → w.cell? ⟨b, j, none⟩ = some v
 lt : b < w.heap.size
theorem Rg.load {P : Program} {w : World} {b : Nat} {cs : List Value} (h : Rg w b cs) (off : Nat) (ty : TypeId) (sub : List Value) (hs : sub = (cs.drop off).take sub.length) (d : TypeDesc) (hu : P.underlying ty = some d) (hd : d.isRow = true) (hi : (P.info? ty).map (·.size) = some sub.length) :
  (Instr.loadAt ty (.pointer (some ⟨b, off, none⟩))).run P w = .ok (.agg sub.toArray) w :=
 run_loadAt_mid w b off ty sub d (fun j v hj => h.cell _ _ (by
  rw [hs, List.getElem?_take] at hj
  split at hj
  ·rwa [List.getElem?_drop] at hj
  ·cases hj)) hu hd hi
theorem wpList_build_is {P : Program} {w : World} {ops : Array Oper} {rest : List Oper} {o : Oper} {a : Act} {Q : Exit → Act → World → Prop} (hg : o.guard = none) (ty : TypeId) (ps : Array (Nat × Operand)) (hop : o.op = .build ty ps) (L : List (Nat × Value)) (hL : (ps.toList.map fun p => (p.1, a.eval p.2)) = L) (V : Value)
  (hl : (Instr.build ty L.toArray).run P w = .ok V w) (h : wpList P ops Q rest (a.put o.dst V) w) : wpList P ops Q (o :: rest) a w := by
 refine wpList_plain hg fun K hK => ?_
 have he : (ps.map fun p => (p.1, a.eval p.2)) = L.toArray := by rw [← hL]; exact Array.ext' (by rw [Array.toList_map])
 have hl2 : (Instr.build ty (ps.map fun x => match x with | (i, x) => (i, a.eval x))).run P w = .ok V w := by
  rw [← he] at hl; exact hl
 unfold Oper.wp execOp
 simp only [hop, Sem.run_bind, hl2, Sem.run_pure, Result.andThen_ok]
 exact hK _ _ h
end Go.Proofs.Ytompehjecamdiaa
