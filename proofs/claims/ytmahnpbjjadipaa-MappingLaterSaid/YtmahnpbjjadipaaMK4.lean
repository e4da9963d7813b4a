/- Contracts of the functions that the statements reach, part 4: what was proved of each, callees first. -/
import Derived.Deep.RegionHeldLaw
import Derived.Deep.AppendLies
import Derived.BigQuiet
import Derived.Test.YtmahnpbjjadipaaMK3
namespace Go.Proofs.Ytmahnpbjjadipaa
open Go.RowKit
structure V9 (w : World) (s0 : Nat) (nm cur : ByteArray) (A : Option Addr) (n cp : Nat) (B : Option Addr) (m d : Nat) (jt : Bool) (L : List Acc) (K : List Lnk) (C : Option Addr) (c : List Acc) : Prop where
 eb : EB w s0 nm cur A n cp B m d jt
 hz : AccAt w A L
 hy : LnkAt w B K
 hx : AccAt w C c
theorem V9.up {w w2 : World} {s0 : Nat} {nm cur : ByteArray} {A : Option Addr} {n cp : Nat} {B : Option Addr} {m d : Nat} {jt : Bool} {L : List Acc} {K : List Lnk} {C : Option Addr} {c : List Acc} (h : V9 w s0 nm cur A n cp B m d jt L K C c) (hb : Below w.heap.size w w2) : V9 w2 s0 nm cur A n cp B m d jt L K C c :=
 ⟨h.eb.up hb, h.hz.up hb, h.hy.up hb, h.hx.up hb⟩
theorem mvB_no5 {L : List Acc} {K : List Lnk} {c : List Acc} {k : Nat} (hk : k < K.length) (h : dfB K k = false) : mvB L K c = false := by
 unfold mvB
 rw [allTo_no (p := dfB K) hk h]; simp
theorem dfB_no {K : List Lnk} {k j : Nat} (hj : j < k) (h : smB K k j = true) : dfB K k = false := by
 unfold dfB
 exact allTo_no (k := j) hj (by rw [h]; rfl)
set_option maxRecDepth 20000 in
set_option maxHeartbeats 6400000 in
theorem rval9_any (nm cur : ByteArray) (A : Option Addr) (cp : Nat) (L : List Acc) (B : Option Addr) (d : Nat) (K : List Lnk) (jt : Bool) (C : Option Addr) (cc : Nat) (c : List Acc) (w : World) (hz : AccAt w A L) (hy : LnkAt w B K) (hx : AccAt w C c) (hl : L.length ≤ 1000) (hm : K.length ≤ 1000) (hc : c.length ≤ 1000) :
  Calls Try.prog 12 #[entV nm cur A L.length cp B K.length d jt, .slice C c.length cc] w fun e w' => e = .returned (.bool (mvB L K c)) ∧ Below w.heap.size w w' := by
 have hB := below_alloc_new (w := w) (.cells #[.string nm, .string cur, .slice A L.length cp, .slice B K.length d, .bool jt] 25)
 have hV9 : V9 (w.alloc (.cells #[.string nm, .string cur, .slice A L.length cp, .slice B K.length d, .bool jt] 25)) w.heap.size nm cur A L.length cp B K.length d jt L K C c := ⟨eb_new _ _ _ _ _ _ _ _ _ _ _, hz.up hB, hy.up hB, hx.up hB⟩
 have h1 : ∀ w, AccAt w C c → Calls Try.prog 25 #[.slice C c.length cc, .bool true] w fun e w' => e = .returned (.bool (vB c true)) ∧ Below w.heap.size w w' := fun w h => by rw [vB_eq]; exact rvalid8_any C cc c true w h hc
 have h2 : ∀ w, AccAt w A L → Calls Try.prog 25 #[.slice A L.length cp, .bool false] w fun e w' => e = .returned (.bool (vB L false)) ∧ Below w.heap.size w w' := fun w h => by rw [vB_eq]; exact rvalid8_any A cp L false w h hl
 have h3 := fun x w h => rfind_any A cp L x w h hl
 have h4 := fun x w h => rfind_any C cc c x w h hc
 have h5 := fun x w => rvd_any x w
 have N1 := mvB_no1 (L := L) (K := K) (c := c)
 have N2 := mvB_no2 (L := L) (K := K) (c := c)
 have N3 := mvB_no3 (L := L) (K := K) (c := c)
 have N4 := fun k => mvB_no4 (L := L) (K := K) (c := c) (k := k)
 have N5 := fun k j (hk : k < K.length) (hj : j < k) h => mvB_no5 (L := L) (c := c) hk (dfB_no (K := K) hj h)
 have NE := fun h1 h2 h3 h4 (h5 : allTo (dfB K) K.length = true) => (mvB_end (L := L) (K := K) (c := c) h1 h2 h3 h4).trans h5
 have hD : ∀ i, dfB K i = allTo (fun k => !smB K i k) i := fun _ => rfl
 have hS : ∀ i k, smB K i k = (decide ((K.getD k lnk0).frm = (K.getD i lnk0).frm) && decide ((K.getD k lnk0).since = (K.getD i lnk0).since)) := fun _ _ => rfl
 have hP : ∀ k, lnkB L c (K.getD k lnk0) = ((fnd L (K.getD k lnk0).frm).isSome && ((fnd c (K.getD k lnk0).tgt).isSome && (decide ((fndA L (K.getD k lnk0).frm).kind = (fndA c (K.getD k lnk0).tgt).kind) && vdB (K.getD k lnk0).since))) := fun _ => rfl
 generalize mvB L K c = r at *
 obtain ⟨P, hPe⟩ : ∃ P : Nat → Bool, (fun i => lnkB L c (K.getD i lnk0)) = P := ⟨_, rfl⟩
 have hPk : ∀ k, lnkB L c (K.getD k lnk0) = P k := fun k => by rw [← hPe]
 rw [hPe] at NE
 simp only [hPk] at N4 hP
 obtain ⟨D9, hD9⟩ : ∃ D9 : Nat → Bool, dfB K = D9 := ⟨_, rfl⟩
 rw [hD9] at NE
 simp only [hD9] at hD
 obtain ⟨S9, hS9⟩ : ∃ S9 : Nat → Nat → Bool, smB K = S9 := ⟨_, rfl⟩
 simp only [hS9] at hD hS N5
 obtain ⟨b1, hb1⟩ : ∃ b, vB c true = b := ⟨_, rfl⟩
 rw [hb1] at h1 N1 NE
 obtain ⟨b2, hb2⟩ : ∃ b, vB L false = b := ⟨_, rfl⟩
 rw [hb2] at h2 N2 NE
 obtain ⟨n, hn2⟩ : ∃ n, L.length = n := ⟨_, rfl⟩
 obtain ⟨k0, hk0⟩ : ∃ k0, c.length = k0 := ⟨_, rfl⟩
 obtain ⟨m, hm2⟩ : ∃ m, K.length = m := ⟨_, rfl⟩
 obtain ⟨s0, hs0⟩ : ∃ s0, w.heap.size = s0 := ⟨_, rfl⟩
 rw [hn2, hm2] at hV9 hB
 rw [hs0] at hV9 hB
 rw [hn2] at h2 h3
 rw [hk0] at h1 h4
 rw [hm2] at N3 N4 N5 NE hm
 rw [hn2, hm2, hk0]
 have HN1 := Lib.hid N1
 have HN2 := Lib.hid N2
 have HN3 := Lib.hid N3
 have HN4 := Lib.hid N4
 have HN5 := Lib.hid N5
 have HNE := Lib.hid NE
 have HD := Lib.hid hD
 have HS := Lib.hid hS
 have HP := Lib.hid hP
 have HM := Lib.hid hm2
 have H1 := Lib.hid h1
 have H2 := Lib.hid h2
 have H3 := Lib.hid h3
 have H4 := Lib.hid h4
 have H5 := Lib.hid h5
 have HS0 := Lib.hid hs0
 have HV := Lib.hid hV9
 obtain ⟨c0, c1, c2, c3, c4, lt⟩ := HV.out.eb
 rw [← HS0.out] at c0 c1 c2 c3 c4 lt
 clear hz hy hx h1 h2 h3 h4 h5 N1 N2 N3 N4 N5 NE hD hS hP hPe hPk hD9 hS9 hb1 hb2 hn2 hk0 hm2 hs0 hl hc hV9
 cases b1
 ·have HR := Lib.hid (HN1.out rfl)
  clear HN1 HN2 HN3 HN4 HN5 HNE
  go_enter Try.func12, Try.ntmps12
  go_wp2_with (go_at_call 25; first
   | ((with_reducible refine (H1.out _ HV.out.hx).mono ?_); rintro e w1 ⟨rfl, hb⟩; have hsq := hB.size; rw [HS0.out] at hsq; replace HV := Lib.hid (HV.out.up hb); replace hB := hB.trans (hb.mono hsq); clear hb hsq c0 c1 c2 c3 c4 lt; obtain ⟨c0, c1, c2, c3, c4, lt⟩ := HV.out.eb; rw [← HS0.out] at c0 c1 c2 c3 c4 lt))
  go_ret
  exact ⟨by rw [HR.out]; rfl, by first | exact hB | (rw [HS0.out]; exact hB)⟩
 cases b2
 ·have HR := Lib.hid (HN2.out rfl)
  clear HN1 HN2 HN3 HN4 HN5 HNE
  go_enter Try.func12, Try.ntmps12
  go_wp2_with (go_at_call 25; first
   | ((with_reducible refine (H1.out _ HV.out.hx).mono ?_); rintro e w1 ⟨rfl, hb⟩; have hsq := hB.size; rw [HS0.out] at hsq; replace HV := Lib.hid (HV.out.up hb); replace hB := hB.trans (hb.mono hsq); clear hb hsq c0 c1 c2 c3 c4 lt; obtain ⟨c0, c1, c2, c3, c4, lt⟩ := HV.out.eb; rw [← HS0.out] at c0 c1 c2 c3 c4 lt)
   | ((with_reducible refine (H2.out _ HV.out.hz).mono ?_); rintro e w2 ⟨rfl, hb⟩; have hsq := hB.size; rw [HS0.out] at hsq; replace HV := Lib.hid (HV.out.up hb); replace hB := hB.trans (hb.mono hsq); clear hb hsq c0 c1 c2 c3 c4 lt; obtain ⟨c0, c1, c2, c3, c4, lt⟩ := HV.out.eb; rw [← HS0.out] at c0 c1 c2 c3 c4 lt))
  go_ret
  exact ⟨by rw [HR.out]; rfl, by first | exact hB | (rw [HS0.out]; exact hB)⟩
 rcases Nat.lt_or_ge 400 m with hm4 | hm4
 ·have HR := Lib.hid (HN3.out hm4)
  have e4 : decide ((400 : Int) < (m : Int)) = true := decide_eq_true (by omega)
  clear HN1 HN2 HN3 HN4 HN5 HNE hm4
  go_enter Try.func12, Try.ntmps12
  go_wp2_with (go_at_call 25; first
   | ((with_reducible refine (H1.out _ HV.out.hx).mono ?_); rintro e w1 ⟨rfl, hb⟩; have hsq := hB.size; rw [HS0.out] at hsq; replace HV := Lib.hid (HV.out.up hb); replace hB := hB.trans (hb.mono hsq); clear hb hsq c0 c1 c2 c3 c4 lt; obtain ⟨c0, c1, c2, c3, c4, lt⟩ := HV.out.eb; rw [← HS0.out] at c0 c1 c2 c3 c4 lt)
   | ((with_reducible refine (H2.out _ HV.out.hz).mono ?_); rintro e w2 ⟨rfl, hb⟩; have hsq := hB.size; rw [HS0.out] at hsq; replace HV := Lib.hid (HV.out.up hb); replace hB := hB.trans (hb.mono hsq); clear hb hsq c0 c1 c2 c3 c4 lt; obtain ⟨c0, c1, c2, c3, c4, lt⟩ := HV.out.eb; rw [← HS0.out] at c0 c1 c2 c3 c4 lt))
  go_ret
  exact ⟨by rw [HR.out]; rfl, by first | exact hB | (rw [HS0.out]; exact hB)⟩
 have e4 : decide ((400 : Int) < (m : Int)) = false := decide_eq_false (by omega)
 have HNE2 := Lib.hid (HNE.out rfl rfl hm4)
 clear HN1 HN2 HN3 HNE hm4
 go_enter Try.func12, Try.ntmps12
 go_wp2_with (go_at_call 25; first
  | ((with_reducible refine (H1.out _ HV.out.hx).mono ?_); rintro e w1 ⟨rfl, hb⟩; have hsq := hB.size; rw [HS0.out] at hsq; replace HV := Lib.hid (HV.out.up hb); replace hB := hB.trans (hb.mono hsq); clear hb hsq c0 c1 c2 c3 c4 lt; obtain ⟨c0, c1, c2, c3, c4, lt⟩ := HV.out.eb; rw [← HS0.out] at c0 c1 c2 c3 c4 lt)
  | ((with_reducible refine (H2.out _ HV.out.hz).mono ?_); rintro e w2 ⟨rfl, hb⟩; have hsq := hB.size; rw [HS0.out] at hsq; replace HV := Lib.hid (HV.out.up hb); replace hB := hB.trans (hb.mono hsq); clear hb hsq c0 c1 c2 c3 c4 lt; obtain ⟨c0, c1, c2, c3, c4, lt⟩ := HV.out.eb; rw [← HS0.out] at c0 c1 c2 c3 c4 lt))
 clear c0 c1 c2 c3 c4 lt
 rw [HS0.out]
 go_loopg [5] m (fun kx s5 wr => ∃ k : Nat, s5 = .int .i64 k ∧ k ≤ m ∧ m - k ≤ kx ∧ Hid (allTo P k = true) ∧ Hid (allTo D9 k = true) ∧ Hid (V9 wr s0 nm cur A n cp B m d jt L K C c) ∧ Below s0 w wr)
 case atStart => exact ⟨0, rfl, by omega, by omega, Lib.hid rfl, Lib.hid rfl, HV, hB⟩
 case round =>
  clear HV hB
  try clear HV
  try clear hB
  obtain ⟨k, rfl, hk, hkx, HA, HA9, HV, hB⟩ := hrel
  have hsz : s0 ≤ wr.heap.size := by have := hB.size; have := HS0.out; omega
  obtain ⟨c0, c1, c2, c3, c4, lt⟩ := HV.out.eb
  by_cases hlt : k < m
  ·have hltz : (k : Int) < (m : Int) := by omega
   obtain ⟨b, off, eB, hbw, hcs⟩ := HV.out.hy (by rw [HM.out]; omega)
   subst eB
   have l3 := hcs k (by rw [HM.out]; exact hlt)
   have hp := HP.out k
   have hno := HN4.out k hlt
   have hs9 := fun j => HS.out k j
   obtain ⟨x, hx⟩ : ∃ x, K.getD k lnk0 = x := ⟨_, rfl⟩
   rw [hx] at l3 hp
   simp only [hx] at hs9
   have hb6 := below_alloc_new (w := wr) (.cells #[.int .i64 x.frm, .int .i64 x.tgt, .int .i64 x.since] 46)
   have HV1 := Lib.hid (HV.out.up hb6)
   have HL1 := Lib.hid (lb_new wr 46 x)
   have HB1 : Hid (Below s0 w (wr.alloc (.cells #[.int .i64 x.frm, .int .i64 x.tgt, .int .i64 x.since] 46))) := Lib.hid (hB.alloc hsz _)
   have HSZ1 : Hid (s0 ≤ (wr.alloc (.cells #[.int .i64 x.frm, .int .i64 x.tgt, .int .i64 x.since] 46)).heap.size) := Lib.hid (by simp; omega)
   have h3 := fun w h => H3.out x.frm w h
   have h4 := fun w h => H4.out x.tgt w h
   have h5 := fun w => H5.out x.since w
   generalize (fnd L x.frm).isSome = q1 at *
   generalize (fnd c x.tgt).isSome = q2 at *
   generalize fndA L x.frm = fa at *
   generalize fndA c x.tgt = fb at *
   generalize vdB x.since = q4 at *
   obtain ⟨q3, hq3⟩ : ∃ q3, decide (fa.kind = fb.kind) = q3 := ⟨_, rfl⟩
   have e3 : (fa.kind != fb.kind) = !q3 := by rw [← hq3]; by_cases h : fa.kind = fb.kind <;> simp [h]
   rw [hq3] at hp
   obtain ⟨d0, d1, d2⟩ := l3
   obtain ⟨⟨v0, v1, v2⟩, vlt⟩ := HL1.out
   simp only [Nat.zero_add] at v1 v2
   obtain ⟨y0, y1, y2, y3, y4, ylt⟩ := HV1.out.eb
   have H3x := Lib.hid h3
   have H4x := Lib.hid h4
   have H5x := Lib.hid h5
   have HS9 := Lib.hid hs9
   have HNo := Lib.hid hno
   have HPx := Lib.hid hp
   have HXE := Lib.hid hx
   clear hcs hx hb6 h3 h4 h5 hq3 hp hno hs9
   rcases (show q1 = false ∨ (q1 = true ∧ q2 = false) ∨ (q1 = true ∧ q2 = true ∧ q3 = false) ∨ (q1 = true ∧ q2 = true ∧ q3 = true ∧ q4 = false) ∨ (q1 = true ∧ q2 = true ∧ q3 = true ∧ q4 = true) from by cases q1 <;> cases q2 <;> cases q3 <;> cases q4 <;> simp) with rfl | ⟨rfl, rfl⟩ | ⟨rfl, rfl, rfl⟩ | ⟨rfl, rfl, rfl, rfl⟩ | ⟨rfl, rfl, rfl, rfl⟩
   ·have HR := Lib.hid (HNo.out (by rw [HPx.out]; rfl))
    clear HNo HPx
    go_wp2_with (first
     | (go_at_call 26; first
     | ((with_reducible refine (H3x.out _ HV1.out.hz).mono ?_); rintro e w2 ⟨rfl, hb⟩; have HA3 := Lib.hid (ab_new w2 50 fa); have HV2 := Lib.hid ((HV1.out.up hb).up (below_alloc_new (.cells #[.int .i64 fa.code, .int .i64 fa.kind, .int .i64 fa.basis, .int .i64 fa.par] 50))); have HL2 := Lib.hid ((HL1.out.up hb).up (below_alloc_new (.cells #[.int .i64 fa.code, .int .i64 fa.kind, .int .i64 fa.basis, .int .i64 fa.par] 50))); have HB2 := Lib.hid ((HB1.out.trans (hb.mono HSZ1.out)).alloc (Nat.le_trans HSZ1.out hb.size) (.cells #[.int .i64 fa.code, .int .i64 fa.kind, .int .i64 fa.basis, .int .i64 fa.par] 50)); have HSZ2 : Hid (s0 ≤ (w2.alloc (.cells #[.int .i64 fa.code, .int .i64 fa.kind, .int .i64 fa.basis, .int .i64 fa.par] 50)).heap.size) := Lib.hid (Nat.le_trans (Nat.le_trans HSZ1.out hb.size) (by (simp))); clear hb v0 v1 v2 vlt y0 y1 y2 y3 y4 ylt; obtain ⟨⟨v0, v1, v2⟩, vlt⟩ := HL2.out; simp only [Nat.zero_add] at v1 v2; obtain ⟨y0, y1, y2, y3, y4, ylt⟩ := HV2.out.eb)
     | ((with_reducible refine (H4x.out _ HV2.out.hx).mono ?_); rintro e w3 ⟨rfl, hb⟩; have HA4 := Lib.hid ((HA3.out.up hb).up (below_alloc_new (.cells #[.int .i64 fb.code, .int .i64 fb.kind, .int .i64 fb.basis, .int .i64 fb.par] 50))); have HA5 := Lib.hid (ab_new w3 50 fb); have HV3 := Lib.hid ((HV2.out.up hb).up (below_alloc_new (.cells #[.int .i64 fb.code, .int .i64 fb.kind, .int .i64 fb.basis, .int .i64 fb.par] 50))); have HL3 := Lib.hid ((HL2.out.up hb).up (below_alloc_new (.cells #[.int .i64 fb.code, .int .i64 fb.kind, .int .i64 fb.basis, .int .i64 fb.par] 50))); have HB3 := Lib.hid ((HB2.out.trans (hb.mono HSZ2.out)).alloc (Nat.le_trans HSZ2.out hb.size) (.cells #[.int .i64 fb.code, .int .i64 fb.kind, .int .i64 fb.basis, .int .i64 fb.par] 50)); clear hb v0 v1 v2 vlt y0 y1 y2 y3 y4 ylt; obtain ⟨⟨v0, v1, v2⟩, vlt⟩ := HL3.out; simp only [Nat.zero_add] at v1 v2; obtain ⟨y0, y1, y2, y3, y4, ylt⟩ := HV3.out.eb; obtain ⟨⟨x0, x1, x2, x3⟩, xlt⟩ := HA4.out; obtain ⟨⟨z0, z1, z2, z3⟩, zlt⟩ := HA5.out; simp only [Nat.zero_add] at x1 x2 x3 z1 z2 z3))
     | (go_at_call 27; (with_reducible refine (H5x.out _).mono ?_); rintro e w4 ⟨rfl, rfl⟩))
    go_ret
    exact ⟨by rw [HR.out]; rfl, by first | exact HB3.out | (rw [HS0.out]; exact HB3.out)⟩
   ·have HR := Lib.hid (HNo.out (by rw [HPx.out]; rfl))
    clear HNo HPx
    go_wp2_with (first
     | (go_at_call 26; first
     | ((with_reducible refine (H3x.out _ HV1.out.hz).mono ?_); rintro e w2 ⟨rfl, hb⟩; have HA3 := Lib.hid (ab_new w2 50 fa); have HV2 := Lib.hid ((HV1.out.up hb).up (below_alloc_new (.cells #[.int .i64 fa.code, .int .i64 fa.kind, .int .i64 fa.basis, .int .i64 fa.par] 50))); have HL2 := Lib.hid ((HL1.out.up hb).up (below_alloc_new (.cells #[.int .i64 fa.code, .int .i64 fa.kind, .int .i64 fa.basis, .int .i64 fa.par] 50))); have HB2 := Lib.hid ((HB1.out.trans (hb.mono HSZ1.out)).alloc (Nat.le_trans HSZ1.out hb.size) (.cells #[.int .i64 fa.code, .int .i64 fa.kind, .int .i64 fa.basis, .int .i64 fa.par] 50)); have HSZ2 : Hid (s0 ≤ (w2.alloc (.cells #[.int .i64 fa.code, .int .i64 fa.kind, .int .i64 fa.basis, .int .i64 fa.par] 50)).heap.size) := Lib.hid (Nat.le_trans (Nat.le_trans HSZ1.out hb.size) (by (simp))); clear hb v0 v1 v2 vlt y0 y1 y2 y3 y4 ylt; obtain ⟨⟨v0, v1, v2⟩, vlt⟩ := HL2.out; simp only [Nat.zero_add] at v1 v2; obtain ⟨y0, y1, y2, y3, y4, ylt⟩ := HV2.out.eb)
     | ((with_reducible refine (H4x.out _ HV2.out.hx).mono ?_); rintro e w3 ⟨rfl, hb⟩; have HA4 := Lib.hid ((HA3.out.up hb).up (below_alloc_new (.cells #[.int .i64 fb.code, .int .i64 fb.kind, .int .i64 fb.basis, .int .i64 fb.par] 50))); have HA5 := Lib.hid (ab_new w3 50 fb); have HV3 := Lib.hid ((HV2.out.up hb).up (below_alloc_new (.cells #[.int .i64 fb.code, .int .i64 fb.kind, .int .i64 fb.basis, .int .i64 fb.par] 50))); have HL3 := Lib.hid ((HL2.out.up hb).up (below_alloc_new (.cells #[.int .i64 fb.code, .int .i64 fb.kind, .int .i64 fb.basis, .int .i64 fb.par] 50))); have HB3 := Lib.hid ((HB2.out.trans (hb.mono HSZ2.out)).alloc (Nat.le_trans HSZ2.out hb.size) (.cells #[.int .i64 fb.code, .int .i64 fb.kind, .int .i64 fb.basis, .int .i64 fb.par] 50)); clear hb v0 v1 v2 vlt y0 y1 y2 y3 y4 ylt; obtain ⟨⟨v0, v1, v2⟩, vlt⟩ := HL3.out; simp only [Nat.zero_add] at v1 v2; obtain ⟨y0, y1, y2, y3, y4, ylt⟩ := HV3.out.eb; obtain ⟨⟨x0, x1, x2, x3⟩, xlt⟩ := HA4.out; obtain ⟨⟨z0, z1, z2, z3⟩, zlt⟩ := HA5.out; simp only [Nat.zero_add] at x1 x2 x3 z1 z2 z3))
     | (go_at_call 27; (with_reducible refine (H5x.out _).mono ?_); rintro e w4 ⟨rfl, rfl⟩))
    go_ret
    exact ⟨by rw [HR.out]; rfl, by first | exact HB3.out | (rw [HS0.out]; exact HB3.out)⟩
   ·have HR := Lib.hid (HNo.out (by rw [HPx.out]; rfl))
    clear HNo HPx
    go_wp2_with (first
     | (go_at_call 26; first
     | ((with_reducible refine (H3x.out _ HV1.out.hz).mono ?_); rintro e w2 ⟨rfl, hb⟩; have HA3 := Lib.hid (ab_new w2 50 fa); have HV2 := Lib.hid ((HV1.out.up hb).up (below_alloc_new (.cells #[.int .i64 fa.code, .int .i64 fa.kind, .int .i64 fa.basis, .int .i64 fa.par] 50))); have HL2 := Lib.hid ((HL1.out.up hb).up (below_alloc_new (.cells #[.int .i64 fa.code, .int .i64 fa.kind, .int .i64 fa.basis, .int .i64 fa.par] 50))); have HB2 := Lib.hid ((HB1.out.trans (hb.mono HSZ1.out)).alloc (Nat.le_trans HSZ1.out hb.size) (.cells #[.int .i64 fa.code, .int .i64 fa.kind, .int .i64 fa.basis, .int .i64 fa.par] 50)); have HSZ2 : Hid (s0 ≤ (w2.alloc (.cells #[.int .i64 fa.code, .int .i64 fa.kind, .int .i64 fa.basis, .int .i64 fa.par] 50)).heap.size) := Lib.hid (Nat.le_trans (Nat.le_trans HSZ1.out hb.size) (by (simp))); clear hb v0 v1 v2 vlt y0 y1 y2 y3 y4 ylt; obtain ⟨⟨v0, v1, v2⟩, vlt⟩ := HL2.out; simp only [Nat.zero_add] at v1 v2; obtain ⟨y0, y1, y2, y3, y4, ylt⟩ := HV2.out.eb)
     | ((with_reducible refine (H4x.out _ HV2.out.hx).mono ?_); rintro e w3 ⟨rfl, hb⟩; have HA4 := Lib.hid ((HA3.out.up hb).up (below_alloc_new (.cells #[.int .i64 fb.code, .int .i64 fb.kind, .int .i64 fb.basis, .int .i64 fb.par] 50))); have HA5 := Lib.hid (ab_new w3 50 fb); have HV3 := Lib.hid ((HV2.out.up hb).up (below_alloc_new (.cells #[.int .i64 fb.code, .int .i64 fb.kind, .int .i64 fb.basis, .int .i64 fb.par] 50))); have HL3 := Lib.hid ((HL2.out.up hb).up (below_alloc_new (.cells #[.int .i64 fb.code, .int .i64 fb.kind, .int .i64 fb.basis, .int .i64 fb.par] 50))); have HB3 := Lib.hid ((HB2.out.trans (hb.mono HSZ2.out)).alloc (Nat.le_trans HSZ2.out hb.size) (.cells #[.int .i64 fb.code, .int .i64 fb.kind, .int .i64 fb.basis, .int .i64 fb.par] 50)); clear hb v0 v1 v2 vlt y0 y1 y2 y3 y4 ylt; obtain ⟨⟨v0, v1, v2⟩, vlt⟩ := HL3.out; simp only [Nat.zero_add] at v1 v2; obtain ⟨y0, y1, y2, y3, y4, ylt⟩ := HV3.out.eb; obtain ⟨⟨x0, x1, x2, x3⟩, xlt⟩ := HA4.out; obtain ⟨⟨z0, z1, z2, z3⟩, zlt⟩ := HA5.out; simp only [Nat.zero_add] at x1 x2 x3 z1 z2 z3))
     | (go_at_call 27; (with_reducible refine (H5x.out _).mono ?_); rintro e w4 ⟨rfl, rfl⟩))
    go_ret
    exact ⟨by rw [HR.out]; rfl, by first | exact HB3.out | (rw [HS0.out]; exact HB3.out)⟩
   ·have HR := Lib.hid (HNo.out (by rw [HPx.out]; rfl))
    clear HNo HPx
    go_wp2_with (first
     | (go_at_call 26; first
     | ((with_reducible refine (H3x.out _ HV1.out.hz).mono ?_); rintro e w2 ⟨rfl, hb⟩; have HA3 := Lib.hid (ab_new w2 50 fa); have HV2 := Lib.hid ((HV1.out.up hb).up (below_alloc_new (.cells #[.int .i64 fa.code, .int .i64 fa.kind, .int .i64 fa.basis, .int .i64 fa.par] 50))); have HL2 := Lib.hid ((HL1.out.up hb).up (below_alloc_new (.cells #[.int .i64 fa.code, .int .i64 fa.kind, .int .i64 fa.basis, .int .i64 fa.par] 50))); have HB2 := Lib.hid ((HB1.out.trans (hb.mono HSZ1.out)).alloc (Nat.le_trans HSZ1.out hb.size) (.cells #[.int .i64 fa.code, .int .i64 fa.kind, .int .i64 fa.basis, .int .i64 fa.par] 50)); have HSZ2 : Hid (s0 ≤ (w2.alloc (.cells #[.int .i64 fa.code, .int .i64 fa.kind, .int .i64 fa.basis, .int .i64 fa.par] 50)).heap.size) := Lib.hid (Nat.le_trans (Nat.le_trans HSZ1.out hb.size) (by (simp))); clear hb v0 v1 v2 vlt y0 y1 y2 y3 y4 ylt; obtain ⟨⟨v0, v1, v2⟩, vlt⟩ := HL2.out; simp only [Nat.zero_add] at v1 v2; obtain ⟨y0, y1, y2, y3, y4, ylt⟩ := HV2.out.eb)
     | ((with_reducible refine (H4x.out _ HV2.out.hx).mono ?_); rintro e w3 ⟨rfl, hb⟩; have HA4 := Lib.hid ((HA3.out.up hb).up (below_alloc_new (.cells #[.int .i64 fb.code, .int .i64 fb.kind, .int .i64 fb.basis, .int .i64 fb.par] 50))); have HA5 := Lib.hid (ab_new w3 50 fb); have HV3 := Lib.hid ((HV2.out.up hb).up (below_alloc_new (.cells #[.int .i64 fb.code, .int .i64 fb.kind, .int .i64 fb.basis, .int .i64 fb.par] 50))); have HL3 := Lib.hid ((HL2.out.up hb).up (below_alloc_new (.cells #[.int .i64 fb.code, .int .i64 fb.kind, .int .i64 fb.basis, .int .i64 fb.par] 50))); have HB3 := Lib.hid ((HB2.out.trans (hb.mono HSZ2.out)).alloc (Nat.le_trans HSZ2.out hb.size) (.cells #[.int .i64 fb.code, .int .i64 fb.kind, .int .i64 fb.basis, .int .i64 fb.par] 50)); clear hb v0 v1 v2 vlt y0 y1 y2 y3 y4 ylt; obtain ⟨⟨v0, v1, v2⟩, vlt⟩ := HL3.out; simp only [Nat.zero_add] at v1 v2; obtain ⟨y0, y1, y2, y3, y4, ylt⟩ := HV3.out.eb; obtain ⟨⟨x0, x1, x2, x3⟩, xlt⟩ := HA4.out; obtain ⟨⟨z0, z1, z2, z3⟩, zlt⟩ := HA5.out; simp only [Nat.zero_add] at x1 x2 x3 z1 z2 z3))
     | (go_at_call 27; (with_reducible refine (H5x.out _).mono ?_); rintro e w4 ⟨rfl, rfl⟩))
    go_ret
    exact ⟨by rw [HR.out]; rfl, by first | exact HB3.out | (rw [HS0.out]; exact HB3.out)⟩
   ·have HP2 : Hid (allTo P (k + 1) = true) := Lib.hid (by show (allTo P k && P k) = true; rw [HA.out, HPx.out]; rfl)
    clear HNo HPx
    go_wp2_with (first
     | (go_at_call 26; first
     | ((with_reducible refine (H3x.out _ HV1.out.hz).mono ?_); rintro e w2 ⟨rfl, hb⟩; have HA3 := Lib.hid (ab_new w2 50 fa); have HV2 := Lib.hid ((HV1.out.up hb).up (below_alloc_new (.cells #[.int .i64 fa.code, .int .i64 fa.kind, .int .i64 fa.basis, .int .i64 fa.par] 50))); have HL2 := Lib.hid ((HL1.out.up hb).up (below_alloc_new (.cells #[.int .i64 fa.code, .int .i64 fa.kind, .int .i64 fa.basis, .int .i64 fa.par] 50))); have HB2 := Lib.hid ((HB1.out.trans (hb.mono HSZ1.out)).alloc (Nat.le_trans HSZ1.out hb.size) (.cells #[.int .i64 fa.code, .int .i64 fa.kind, .int .i64 fa.basis, .int .i64 fa.par] 50)); have HSZ2 : Hid (s0 ≤ (w2.alloc (.cells #[.int .i64 fa.code, .int .i64 fa.kind, .int .i64 fa.basis, .int .i64 fa.par] 50)).heap.size) := Lib.hid (Nat.le_trans (Nat.le_trans HSZ1.out hb.size) (by (simp))); clear hb v0 v1 v2 vlt y0 y1 y2 y3 y4 ylt; obtain ⟨⟨v0, v1, v2⟩, vlt⟩ := HL2.out; simp only [Nat.zero_add] at v1 v2; obtain ⟨y0, y1, y2, y3, y4, ylt⟩ := HV2.out.eb)
     | ((with_reducible refine (H4x.out _ HV2.out.hx).mono ?_); rintro e w3 ⟨rfl, hb⟩; have HA4 := Lib.hid ((HA3.out.up hb).up (below_alloc_new (.cells #[.int .i64 fb.code, .int .i64 fb.kind, .int .i64 fb.basis, .int .i64 fb.par] 50))); have HA5 := Lib.hid (ab_new w3 50 fb); have HV3 := Lib.hid ((HV2.out.up hb).up (below_alloc_new (.cells #[.int .i64 fb.code, .int .i64 fb.kind, .int .i64 fb.basis, .int .i64 fb.par] 50))); have HL3 := Lib.hid ((HL2.out.up hb).up (below_alloc_new (.cells #[.int .i64 fb.code, .int .i64 fb.kind, .int .i64 fb.basis, .int .i64 fb.par] 50))); have HB3 := Lib.hid ((HB2.out.trans (hb.mono HSZ2.out)).alloc (Nat.le_trans HSZ2.out hb.size) (.cells #[.int .i64 fb.code, .int .i64 fb.kind, .int .i64 fb.basis, .int .i64 fb.par] 50)); clear hb v0 v1 v2 vlt y0 y1 y2 y3 y4 ylt; obtain ⟨⟨v0, v1, v2⟩, vlt⟩ := HL3.out; simp only [Nat.zero_add] at v1 v2; obtain ⟨y0, y1, y2, y3, y4, ylt⟩ := HV3.out.eb; obtain ⟨⟨x0, x1, x2, x3⟩, xlt⟩ := HA4.out; obtain ⟨⟨z0, z1, z2, z3⟩, zlt⟩ := HA5.out; simp only [Nat.zero_add] at x1 x2 x3 z1 z2 z3))
     | (go_at_call 27; (with_reducible refine (H5x.out _).mono ?_); rintro e w4 ⟨rfl, rfl⟩))
    obtain ⟨g6, hg6⟩ : ∃ g6, wr.heap.size = g6 := ⟨_, rfl⟩
    rw [hg6] at HL3 ⊢
    obtain ⟨W3, hW3⟩ : ∃ W3, w3.alloc (.cells #[.int .i64 fb.code, .int .i64 fb.kind, .int .i64 fb.basis, .int .i64 fb.par] 50) = W3 := ⟨_, rfl⟩
    rw [hW3] at HV3 HL3 HB3 ⊢
    clear v0 v1 v2 vlt y0 y1 y2 y3 y4 ylt x0 x1 x2 x3 xlt z0 z1 z2 z3 zlt HV1 HV2 HL1 HL2 HB1 HB2 HA3 HA4 HA5 c0 c1 c2 c3 c4 lt d0 d1 d2 hW3 hg6 HV
    go_loopg [11] k (fun jx s11 W => ∃ j : Nat, s11 = .int .i64 j ∧ j ≤ k ∧ k - j ≤ jx ∧ Hid (allTo (fun t => !S9 k t) j = true) ∧ Hid (V9 W s0 nm cur A n cp (some ⟨b, off, none⟩) m d jt L K C c) ∧ Hid (LB W g6 x) ∧ Below s0 w W)
    case atStart => exact ⟨0, rfl, by omega, by omega, Lib.hid rfl, HV3, HL3, HB3.out⟩
    case round =>
     clear HV3 HL3 HB3
     rename World => W
     obtain ⟨j, rfl, hj, hjx, HJ, HV, HL, hB⟩ := hrel
     obtain ⟨c0, c1, c2, c3, c4, lt⟩ := HV.out.eb
     obtain ⟨⟨v0, v1, v2⟩, vlt⟩ := HL.out
     simp only [Nat.zero_add] at v1 v2
     by_cases hjl : j < k
     ·have hjz : (j : Int) < (k : Int) := by omega
      have hjm : j < m := by omega
      have hjmz : (j : Int) < (m : Int) := by omega
      obtain ⟨b9, off9, eB, hbw, hcs⟩ := HV.out.hy (by rw [HM.out]; omega)
      cases eB
      obtain ⟨d0, d1, d2⟩ := hcs j (by rw [HM.out]; omega)
      have hs9 := HS9.out j
      have hno := HN5.out k j hlt hjl
      obtain ⟨y, hy⟩ : ∃ y, K.getD j lnk0 = y := ⟨_, rfl⟩
      rw [hy] at d0 d1 d2 hs9
      have HBK := Lib.hid hB
      clear hcs hy
      by_cases h1 : y.frm = x.frm
      ·have e1 : (y.frm == x.frm) = true := by simp [h1]
       rw [decide_eq_true h1, Bool.true_and] at hs9
       by_cases h2 : y.since = x.since
       ·have e2 : (y.since == x.since) = true := by simp [h2]
        have HR := Lib.hid (hno (hs9.trans (decide_eq_true h2)))
        clear h1 h2 hs9 hno
        go_wp2_with fail
        go_quiet (fail)
        have hB4 := below_drewN HBK.out nq
        generalize World.drewN _ nq = W8 at *
        go_wp2_with fail
        go_ret
        exact ⟨by rw [HR.out]; rfl, by first | exact hB4 | (rw [HS0.out]; exact hB4)⟩
       ·have e2 : (y.since == x.since) = false := by simp [h2]
        have HJ2 : Hid (allTo (fun t => !S9 k t) (j + 1) = true) := Lib.hid (by show (allTo (fun t => !S9 k t) j && !S9 k j) = true; rw [HJ.out, hs9, decide_eq_false h2]; rfl)
        clear h1 h2 hs9 hno
        go_wp2_with fail
        go_quiet (fail)
        have hB4 := below_drewN HBK.out nq
        have HV4 := Lib.hid (HV.out.up (below_drewN (Below.refl _ _) nq))
        have HL4 := Lib.hid (HL.out.up (below_drewN (Below.refl _ _) nq))
        clear HV HL hB HBK c0 c1 c2 c3 c4 lt v0 v1 v2 vlt d0 d1 d2
        generalize World.drewN _ nq = W8 at *
        go_wp2_with fail
        go_roundg (k - (j + 1))
        case measure => omega
        case rel => exact ⟨j + 1, by go_num, by omega, by omega, HJ2, HV4, HL4, hB4⟩
      ·have e1 : (y.frm == x.frm) = false := by simp [h1]
       have HJ2 : Hid (allTo (fun t => !S9 k t) (j + 1) = true) := Lib.hid (by show (allTo (fun t => !S9 k t) j && !S9 k j) = true; rw [HJ.out, hs9, decide_eq_false h1]; rfl)
       clear h1 hs9 hno
       go_wp2_with fail
       go_quiet (fail)
       have hB4 := below_drewN HBK.out nq
       have HV4 := Lib.hid (HV.out.up (below_drewN (Below.refl _ _) nq))
       have HL4 := Lib.hid (HL.out.up (below_drewN (Below.refl _ _) nq))
       clear HV HL hB HBK c0 c1 c2 c3 c4 lt v0 v1 v2 vlt d0 d1 d2
       generalize World.drewN _ nq = W8 at *
       go_wp2_with fail
       go_roundg (k - (j + 1))
       case measure => omega
       case rel => exact ⟨j + 1, by go_num, by omega, by omega, HJ2, HV4, HL4, hB4⟩
     ·obtain rfl : j = k := by omega
      have hjz : ¬ (j : Int) < (j : Int) := by omega
      have HD2 : Hid (allTo D9 (j + 1) = true) := Lib.hid (by show (allTo D9 j && D9 j) = true; rw [HA9.out, HD.out j]; exact HJ.out)
      go_wp2_with fail
      go_roundg (m - (j + 1))
      case measure => omega
      case rel => exact ⟨j + 1, by go_num, by omega, by omega, HP2, HD2, HV, hB⟩
  ·obtain rfl : k = m := by omega
   have hltz : ¬ (k : Int) < (k : Int) := by omega
   have HR := Lib.hid (HNE2.out HA.out HA9.out)
   go_wp2_with fail
   go_ret
   exact ⟨by rw [HR.out]; rfl, by first | exact hB | (rw [HS0.out]; exact hB)⟩
theorem step_append_row {P : Program} {ops : Array Oper} {o : Oper} {a : Act} {tm : Array Value} {w : World} {K : Act → World → Prop} {Q : Exit → Act → World → Prop} {E : Prop} (hgd : o.guard = none) (s x : Operand) (t : TypeId)
  (ho : o.op = .call { callee := .builtin .append, args := #[s, x], argTypes := #[t, t] })
  (base : Nat) (e : TypeId) (i : TypeInfo) (z : Value) (size bytes : Nat) (ht : P.underlying t = some (.slice e)) (hi : P.info? e = some i) (hz : i.zero = some z)
  (hsize : i.size = size) (hby : i.bytes = bytes) (hzs : z.cells.size = size) (hsz : 0 < size)
  (v : Value) (n : Nat) (xs : List Value) (hs : a.eval s = v) (hown : w.ownsRow base e size v n xs)
  (X : Option Addr) (m c : Nat) (news : List Value) (hx : a.eval x = .slice X m c) (hl : news.length = m * size) (hnews : 0 < m → ∃ ad, X = some ad ∧ ∀ j u, news[j]? = some u → w.cell? (ad.add j) = some u) (h1 : ∀ u ∈ news, u.oneCell' = true)
  (h63 : n + m ≤ maxLen) (hbytes : (n + m) * bytes ≤ 140737488355328) (hbase : base ≤ w.heap.size)
  (h : ∀ v' w', Hid (w'.ownsRow base e size v' (n + m) (xs ++ news)) → Hid (w.grownBy w' v.ownBlock) → K (a.put o.dst v') w') :
  if Region.wanted o (yielded ops tm) = true then Oper.wp P o a w K Q else E := by
 have hw1 : ∀ y, Region.wanted o y = true := fun y => by simp [Region.wanted, hgd]
 rw [if_pos (hw1 _)]
 rcases Nat.eq_zero_or_pos m with h0 | h0
 ·subst h0
  have hne : news = [] := List.eq_nil_of_length_eq_zero (by rw [hl]; simp)
  subst hne
  have hrun : (Builtin.append_ #[t, t] o.type #[v, .slice X 0 c]).run P w = .ok v w := by
   rcases hown.2 with ⟨rfl, h9⟩ | ⟨g, cap, cur, rfl, hb, hg, hn, hcap, hcs, hcur⟩
   ·cases X <;> simp [Builtin.append_, run_underlying ht, sizeOf, typeInfo, hi, Builtin.lenOf, Builtin.firstCells, loadCells, loadCellsFrom]
   ·cases X <;> simp [Builtin.append_, run_underlying ht, sizeOf, typeInfo, hi, Builtin.lenOf, Builtin.firstCells, storeCells, loadCells, loadCellsFrom, hn]
  unfold Oper.wp
  simp [execOp, ho, resolve, invoke, builtin, hs, hx, hrun, Result.andThen]
  exact h v w (Lib.hid (by simpa using hown)) (Lib.hid ⟨rfl, rfl, rfl, Nat.le_refl _, fun _ _ _ => rfl⟩)
 ·obtain ⟨ad, rfl, hn2⟩ := hnews h0
  obtain ⟨v', w', hr, h2, h3, h4, h5⟩ := run_append_own_at (P := P) w base t o.type e i z size bytes ht hi hz hsize hby hzs hsz v n xs hown ad m c news hl hn2 h1 h63 hbytes hbase
  unfold Oper.wp execOp
  simp only [ho, resolve, invoke, builtin, Sem.run_bind, Sem.run_pure, Result.andThen_ok, List.map_toArray, List.map_cons, List.map_nil, hs, hx, hr]
  exact h v' w' (Lib.hid h2) (Lib.hid h3)
theorem step_app_ints {P : Program} {ops : Array Oper} {o : Oper} {a : Act} {tm : Array Value} {w : World} {K : Act → World → Prop} {Q : Exit → Act → World → Prop} {E : Prop} (hgd : o.guard = none) (s x : Operand) (t : TypeId)
  (ho : o.op = .call { callee := .builtin .append, args := #[s, x], argTypes := #[t, t] })
  (base : Nat) (e : TypeId) (i : TypeInfo) (bytes : Nat) (ht : P.underlying t = some (.slice e)) (hi : P.info? e = some i) (hz : i.zero = some (.int .i64 0)) (hsize : i.size = 1) (hby : i.bytes = bytes) (hb8 : bytes ≤ 8)
  (v : Value) (L : List Int) (hs : a.eval s = v) (hown : OwnI .i64 e w base v L) (X : Option Addr) (m c : Nat) (M : List Int) (hm : M.length = m) (hx : a.eval x = .slice X m c) (hX : IntsAt .i64 w X M)
  (hlen : L.length + m ≤ 100000000) (hbase : base ≤ w.heap.size)
  (h : ∀ v' w', Hid (OwnI .i64 e w' base v' (L ++ M)) → Hid (w.grownBy w' v.ownBlock) → Below base w w' → K (a.put o.dst v') w') :
  if Region.wanted o (yielded ops tm) = true then Oper.wp P o a w K Q else E := by
 subst hm
 have hbb : (L.length + M.length) * bytes ≤ (L.length + M.length) * 8 := Nat.mul_le_mul_left _ hb8
 refine step_append_row hgd s x t ho base e i (.int .i64 0) 1 bytes ht hi hz hsize hby rfl (by decide) v L.length (L.map fun d => Value.int .i64 d) hs hown X M.length c (M.map fun d => Value.int .i64 d) hx (by simp) ?_ ?_ (by unfold maxLen; omega) (by omega) hbase ?_
 ·intro h0
  obtain ⟨b, off, rfl, hbw, hcs⟩ := hX h0
  refine ⟨_, rfl, fun j u hj => ?_⟩
  have hjl : j < M.length := by
   rcases Nat.lt_or_ge j M.length with h1 | h1
   ·exact h1
   ·rw [List.getElem?_eq_none (by simpa using h1)] at hj; cases hj
  have h3 : u = .int .i64 (M.getD j 0) := by
   rw [List.getElem?_map, List.getElem?_eq_getElem hjl] at hj
   simp at hj
   rw [← hj, List.getD_eq_getElem?_getD, List.getElem?_eq_getElem hjl]; rfl
  rw [h3, ← hcs j hjl]
  unfold Addr.add
  split
  ·rename_i h0; subst h0; simp
  ·rfl
 ·intro u hu
  obtain ⟨d, _, rfl⟩ := List.mem_map.1 hu
  rfl
 ·intro v' w' h2 h3
  refine h v' w' (Lib.hid ?_) h3 ((Below.refl base w).grown h3.out hbase (fun j hj => (World.ownsRow.lt hown j hj).1))
  have h4 := h2.out
  rw [← List.map_append, ← List.length_append] at h4
  exact h4
theorem step_app_bals {P : Program} {ops : Array Oper} {o : Oper} {a : Act} {tm : Array Value} {w : World} {K : Act → World → Prop} {Q : Exit → Act → World → Prop} {E : Prop} (hgd : o.guard = none) (s x : Operand) (t : TypeId)
  (ho : o.op = .call { callee := .builtin .append, args := #[s, x], argTypes := #[t, t] })
  (base : Nat) (e : TypeId) (i : TypeInfo) (bytes : Nat) (ht : P.underlying t = some (.slice e)) (hi : P.info? e = some i) (hz : i.zero = some (.agg #[.int .i64 0, .int .i64 0])) (hsize : i.size = 2) (hby : i.bytes = bytes) (hb8 : bytes ≤ 16)
  (v : Value) (L : List Bal) (hs : a.eval s = v) (hown : OwnB e w base v L) (X : Option Addr) (m c : Nat) (M : List Bal) (hm : M.length = m) (hx : a.eval x = .slice X m c) (hX : BalAt w X M)
  (hlen : L.length + m ≤ 100000000) (hbase : base ≤ w.heap.size)
  (h : ∀ v' w', Hid (OwnB e w' base v' (L ++ M)) → Hid (w.grownBy w' v.ownBlock) → Below base w w' → K (a.put o.dst v') w') :
  if Region.wanted o (yielded ops tm) = true then Oper.wp P o a w K Q else E := by
 subst hm
 have hbb : (L.length + M.length) * bytes ≤ (L.length + M.length) * 16 := Nat.mul_le_mul_left _ hb8
 refine step_append_row hgd s x t ho base e i (.agg #[.int .i64 0, .int .i64 0]) 2 bytes ht hi hz hsize hby rfl (by decide) v L.length (L.flatMap balC) hs hown X M.length c (M.flatMap balC) hx (balC_len M) ?_ ?_ (by unfold maxLen; omega) (by omega) hbase ?_
 ·intro h0
  obtain ⟨b, off, rfl, hbw, hcs⟩ := hX h0
  refine ⟨_, rfl, fun j u hj => ?_⟩
  have hjl : j < M.length * 2 := by
   rcases Nat.lt_or_ge j (M.length * 2) with h1 | h1
   ·exact h1
   ·rw [List.getElem?_eq_none (by rw [balC_len]; exact h1)] at hj; cases hj
  have hadd : (⟨b, off, none⟩ : Addr).add j = ⟨b, off + j, none⟩ := by unfold Addr.add; split <;> simp_all
  rw [hadd, ← hj]
  rcases Nat.mod_two_eq_zero_or_one j with h2 | h2
  ·obtain ⟨q, rfl⟩ : ∃ q, j = q * 2 := ⟨j / 2, by omega⟩
   rw [(balC_get M q (by omega)).1]
   exact (hcs q (by omega)).c0
  ·obtain ⟨q, rfl⟩ : ∃ q, j = q * 2 + 1 := ⟨j / 2, by omega⟩
   rw [(balC_get M q (by omega)).2, ← Nat.add_assoc]
   exact (hcs q (by omega)).c1
 ·intro u hu
  obtain ⟨d, _, hu⟩ := List.mem_flatMap.1 hu
  simp [balC] at hu
  rcases hu with rfl | rfl <;> rfl
 ·intro v' w' h2 h3
  refine h v' w' (Lib.hid ?_) h3 ((Below.refl base w).grown h3.out hbase (fun j hj => (World.ownsRow.lt hown j hj).1))
  have h4 := h2.out
  rw [← List.flatMap_append, ← List.length_append] at h4
  exact h4
theorem IntsAt.drop {w : World} {b off : Nat} {D : List Int} (h : IntsAt .i64 w (some ⟨b, off, none⟩) D) (k : Nat) : IntsAt .i64 w (some ⟨b, off + k, none⟩) (D.drop k) := fun h0 => by
 rw [List.length_drop] at h0
 obtain ⟨b', off', e, hlt, hc⟩ := h (by omega)
 cases e
 refine ⟨b, off + k, rfl, hlt, fun i hi => ?_⟩
 rw [List.length_drop] at hi
 rw [Nat.add_assoc, hc (k + i) (by omega), List.getD_eq_getElem?_getD, List.getD_eq_getElem?_getD, List.getElem?_drop]
theorem BalAt.take {w : World} {b off : Nat} {D : List Bal} (h : BalAt w (some ⟨b, off, none⟩) D) (k : Nat) : BalAt w (some ⟨b, off, none⟩) (D.take k) := fun h0 => by
 rw [List.length_take] at h0
 obtain ⟨b', off', e, hlt, hc⟩ := h (by omega)
 cases e
 refine ⟨b, off, rfl, hlt, fun i hi => ?_⟩
 rw [List.length_take] at hi
 have := hc i (by omega)
 rw [List.getD_eq_getElem?_getD] at this ⊢
 rw [List.getElem?_take, if_pos (by omega)]
 exact this
theorem BalAt.drop {w : World} {b off : Nat} {D : List Bal} (h : BalAt w (some ⟨b, off, none⟩) D) (k : Nat) : BalAt w (some ⟨b, off + k * 2, none⟩) (D.drop k) := fun h0 => by
 rw [List.length_drop] at h0
 obtain ⟨b', off', e, hlt, hc⟩ := h (by omega)
 cases e
 refine ⟨b, off + k * 2, rfl, hlt, fun i hi => ?_⟩
 rw [List.length_drop] at hi
 have := hc (k + i) (by omega)
 rw [List.getD_eq_getElem?_getD] at this ⊢
 rw [List.getElem?_drop, show off + k * 2 + i * 2 = off + (k + i) * 2 by omega]
 exact this
theorem OwnI.low {k : IntKind} {e : TypeId} {w : World} {base b2 : Nat} {v : Value} {L : List Int} (h : OwnI k e w base v L) (hb : b2 ≤ base) : OwnI k e w b2 v L := by
 obtain ⟨h1, h2⟩ := h
 rcases h2 with h2 | ⟨g, cap, cur, rfl, hbg, hg⟩
 ·exact ⟨h1, .inl h2⟩
 ·exact ⟨h1, .inr ⟨g, cap, cur, rfl, Nat.le_trans hb hbg, hg⟩⟩
theorem OwnB.low {e : TypeId} {w : World} {base b2 : Nat} {v : Value} {L : List Bal} (h : OwnB e w base v L) (hb : b2 ≤ base) : OwnB e w b2 v L := by
 obtain ⟨h1, h2⟩ := h
 rcases h2 with h2 | ⟨g, cap, cur, rfl, hbg, hg⟩
 ·exact ⟨h1, .inl h2⟩
 ·exact ⟨h1, .inr ⟨g, cap, cur, rfl, Nat.le_trans hb hbg, hg⟩⟩
theorem infoI_int9 : (Try.prog.info? 3).map (fun i => (i.zero, i.size, i.bytes)) = some (some (.int .i64 0), 1, 8) := by kernel_rfl
theorem box1_at (w : World) (v : Value) (t : TypeId) : (w.alloc (.cells #[v] t)).cell? ⟨w.heap.size, 0, none⟩ = some v := by
 simp only [World.cell?]; rw [heap_alloc_new]; rfl
theorem box_o9 (w : World) (v : Value) (t : TypeId) (o : Obj) : ((w.alloc (.cells #[v] t)).alloc o).cell? ⟨w.heap.size, 0, none⟩ = some v :=
 ((below_alloc_new (w := w.alloc (.cells #[v] t)) o).cell (p := ⟨w.heap.size, 0, none⟩) (by simp)).trans (box1_at w v t)
theorem box_n9 (w : World) (v : Value) (t : TypeId) (o : Obj) : ((w.alloc o).alloc (.cells #[v] t)).cell? ⟨w.heap.size + 1, 0, none⟩ = some v := by
 have h := box1_at (w.alloc o) v t
 have e : (w.alloc o).heap.size = w.heap.size + 1 := by simp
 rwa [e] at h
theorem ownI_second {k : IntKind} (w : World) (o : Obj) (e : TypeId) : OwnI k e ((w.alloc o).alloc (.cells #[] e)) w.heap.size (.slice (some ⟨w.heap.size + 1, 0, none⟩) 0 0) [] := by
 have h := OwnI.empty (k := k) (e := e) (base := w.heap.size) (w := w.alloc o) (by simp)
 have e1 : (w.alloc o).heap.size = w.heap.size + 1 := by simp
 rwa [e1] at h
theorem ints_one {w : World} {g : Nat} {x : Int} (h : w.cell? ⟨g, 0, none⟩ = some (.int .i64 x)) (hlt : g < w.heap.size) : IntsAt .i64 w (some ⟨g, 0, none⟩) [x] := fun _ => ⟨g, 0, rfl, hlt, fun i hi => by
 obtain rfl : i = 0 := by simpa using hi
 exact h⟩
theorem datesL_succ {K : List Lnk} {k : Nat} (hk : k < K.length) : datesL (K.take (k + 1)) = insD (K.getD k lnk0).since (datesL (K.take k)) := by
 unfold datesL
 rw [take_succ_getD (d := lnk0) hk, List.map_append, List.map_cons, List.map_nil, keysL_snoc]
theorem datesL_len {K : List Lnk} : (datesL K).length ≤ K.length := by
 unfold datesL
 have := keysL_len (l := K.map (·.since))
 simpa using this
set_option maxRecDepth 20000 in
set_option maxHeartbeats 3200000 in
theorem rdates9_any (nm cur : ByteArray) (A : Option Addr) (n cp : Nat) (B : Option Addr) (d : Nat) (K : List Lnk) (jt : Bool) (w : World) (hy : LnkAt w B K) (hm : K.length ≤ 1000) :
    Calls Try.prog 17 #[entV nm cur A n cp B K.length d jt] w fun e w' => ∃ v, e = .returned v ∧ SlI w' v (datesL K) ∧ Below w.heap.size w w' := by
  have hB := below_alloc_new (w := w) (.cells #[.string nm, .string cur, .slice A n cp, .slice B K.length d, .bool jt] 25)
  have hEB := eb_new w 25 nm cur A n cp B K.length d jt
  have hTK := fun k hk => datesL_succ (K := K) (k := k) hk
  have hTL : ∀ k, (datesL (K.take k)).length ≤ 1000 := fun k => by have := datesL_len (K := K.take k); rw [List.length_take] at this; omega
  have hTE : ∀ k, K.length ≤ k → datesL (K.take k) = datesL K := fun k hk => by rw [List.take_of_length_le hk]
  have hT0 : datesL (K.take 0) = [] := rfl
  have hTA : ∀ k, Asc (datesL (K.take k)) := fun k => keysL_is.1
  obtain ⟨m, hm2⟩ : ∃ m, K.length = m := ⟨_, rfl⟩
  rw [hm2] at hm hB hEB hTK hTE
  have hY := hy.up hB
  rw [hm2]
  obtain ⟨s0, hs0⟩ : ∃ s0, w.heap.size = s0 := ⟨_, rfl⟩
  rw [hs0] at hEB hB
  have HM := Lib.hid hm2
  have HEB := Lib.hid hEB
  have HY := Lib.hid hY
  have HTK := Lib.hid hTK
  have HTL := Lib.hid hTL
  have HTE := Lib.hid hTE
  have HT0 := Lib.hid hT0
  have HTA := Lib.hid hTA
  have HS0 := Lib.hid hs0
  obtain ⟨i0, hi, hz0, hz1, hz2⟩ := info_parts infoI_int9
  clear hEB hY hTK hTL hTE hT0 hTA hm2 hy
  go_enter Try.func17, Try.ntmps17
  go_wp2_with fail
  have hO : Hid (OwnI .i64 3 (w.alloc (.cells #[.string nm, .string cur, .slice A n cp, .slice B m d, .bool jt] 25)) s0 (.slice none 0 0) (datesL (K.take 0))) := Lib.hid (by rw [HT0.out]; exact OwnI.nil)
  have hNZ : Hid (datesL (K.take 0) = [] → (.slice none 0 0 : Value) = .slice none 0 0) := Lib.hid (fun _ => rfl)
  clear hs0
  go_loopg [3, 4] m (fun kx s3 s4 wr => ∃ k : Nat, s4 = .int .i64 k ∧ k ≤ m ∧ m - k ≤ kx ∧ Hid (OwnI .i64 3 wr s0 s3 (datesL (K.take k))) ∧ Hid (datesL (K.take k) = [] → s3 = .slice none 0 0) ∧ Hid (EB wr s0 nm cur A n cp B m d jt) ∧ Hid (LnkAt wr B K) ∧ Below s0 w wr)
  case atStart => exact ⟨0, rfl, by omega, by omega, hO, hNZ, HEB, HY, hB⟩
  case round =>
    clear hO hNZ HEB HY hB
    obtain ⟨k, rfl, hk, hkx, hO, hNZ, HEB, HY, hB⟩ := hrel
    have hsz : s0 < wr.heap.size := HEB.out.lt
    obtain ⟨c0, c1, c2, c3, c4, lt⟩ := HEB.out
    by_cases hlt : k < m
    · have hltz : (k : Int) < (m : Int) := by omega
      obtain ⟨b, off, eB, hbw, hcs⟩ := HY.out (by rw [HM.out]; omega)
      subst eB
      obtain ⟨d0, d1, d2⟩ := hcs k (by rw [HM.out]; exact hlt)
      have htk := HTK.out k hlt
      have htl := HTL.out k
      have hta := HTA.out k
      obtain ⟨x, hx⟩ : ∃ x, (K.getD k lnk0).since = x := ⟨_, rfl⟩
      rw [hx] at d2 htk
      obtain ⟨D, hD⟩ : ∃ D, datesL (K.take k) = D := ⟨_, rfl⟩
      rw [hD] at htk htl hta hO hNZ
      obtain ⟨A3, cp3, e3, hI3⟩ := hO.out.ints
      obtain ⟨q, hq⟩ : ∃ q, D.length = q := ⟨_, rfl⟩
      rw [hq] at e3 htl
      subst e3
      have HI3 := Lib.hid hI3
      have HTKx := Lib.hid htk
      have HAx := Lib.hid hta
      have HQ := Lib.hid hq
      have HCS := Lib.hid hcs
      clear hI3 htk hta hq hD hx hcs
      go_wp2_with fail
      go_loopg [6] q (fun jx s6 W => ∃ j : Nat, s6 = .int .i64 j ∧ j ≤ q ∧ q - j ≤ jx ∧ Hid (∀ i, i < j → D.getD i 0 < x) ∧ W = wr)
      case atStart => exact ⟨0, rfl, by omega, by omega, Lib.hid (fun i h => absurd h (by omega)), rfl⟩
      case round =>
        obtain ⟨j, rfl, hj, hjx, HLT, rfl⟩ := hrel
        by_cases hjq : j < q
        · have hjz : (j : Int) < (q : Int) := by omega
          obtain ⟨b3, off3, e3, hb3, hc3⟩ := HI3.out (by rw [HQ.out]; omega)
          subst e3
          have p0 := hc3 j (by rw [HQ.out]; exact hjq)
          obtain ⟨y, hy⟩ : ∃ y, D.getD j 0 = y := ⟨_, rfl⟩
          rw [hy] at p0
          have HYE := Lib.hid hy
          clear hc3 hy
          by_cases h1 : y < x
          · have e1 : decide (y < x) = true := decide_eq_true h1
            have HLT2 : Hid (∀ i, i < j + 1 → D.getD i 0 < x) := Lib.hid (fun i hi => by
              rcases Nat.lt_or_ge i j with h9 | h9
              · exact HLT.out i h9
              · obtain rfl : i = j := by omega
                rw [HYE.out]; exact h1)
            clear h1
            go_wp2_with fail
            go_roundg (q - (j + 1))
            case measure => omega
            case rel => exact ⟨j + 1, by go_num, by omega, by omega, HLT2, rfl⟩
          · have e1 : decide (y < x) = false := decide_eq_false h1
            by_cases h2 : y = x
            · have e2 : (y == x) = true := by simp [h2]
              have hO2 : Hid (OwnI .i64 3 wr s0 (.slice (some ⟨b3, off3, none⟩) q cp3) (datesL (K.take (k + 1)))) := Lib.hid (by
                rw [HTKx.out, insD_at (k := j) (by rw [HQ.out]; omega) HLT.out (fun _ => by rw [HYE.out]; omega), if_pos ⟨by rw [HQ.out]; exact hjq, by rw [HYE.out]; exact h2⟩]
                exact hO.out)
              have hNZ2 : Hid (datesL (K.take (k + 1)) = [] → (.slice (some ⟨b3, off3, none⟩) q cp3 : Value) = .slice none 0 0) := Lib.hid (fun h9 => by
                have := congrArg List.length (HTKx.out.symm.trans h9)
                exact absurd (mem_insD.2 (.inl rfl) : x ∈ insD x D) (by rw [HTKx.out.symm.trans h9]; simp))
              clear h1 h2
              go_wp2_with fail
              go_roundg (m - (k + 1))
              case measure => omega
              case rel => exact ⟨k + 1, by go_num, by omega, by omega, hO2, hNZ2, HEB, HY, hB⟩
            · have e2 : (y == x) = false := by simp [h2]
              have hins : insD x D = D.take j ++ x :: D.drop j := by
                rw [insD_at (k := j) (by rw [HQ.out]; omega) HLT.out (fun _ => by rw [HYE.out]; omega), if_neg (fun h => h2 (by rw [← HYE.out]; exact h.2))]
              have HINS := Lib.hid (HTKx.out.trans hins)
              clear h1 h2 hins
              go_wp2_with fail
              have hDl : (D.take j).length = j := by rw [List.length_take, HQ.out]; omega
              have hDd : (D.drop j).length = q - j := by rw [List.length_drop, HQ.out]
              have hcap : q ≤ cp3 := by
                rcases hO.out.2 with ⟨h9, -⟩ | ⟨g, cap, cur, h9, -, -, h8, -⟩
                · cases h9
                · cases h9; rw [← HQ.out]; exact h8
              have hjc : (j : Int) ≤ (cp3 : Int) := by omega
              have hcj : ¬ cp3 = j := by omega
              have HDL := Lib.hid hDl
              have HDD := Lib.hid hDd
              have HT9 := Lib.hid (HI3.out.take j)
              have HD9 := Lib.hid (HI3.out.drop j)
              obtain ⟨T9, hT9⟩ : ∃ T9, D.take j = T9 := ⟨_, rfl⟩
              obtain ⟨D9, hD9⟩ : ∃ D9, D.drop j = D9 := ⟨_, rfl⟩
              rw [hT9] at HDL HT9 HINS
              rw [hD9] at HDD HD9 HINS
              clear hDl hDd hT9 hD9
              go_region_held_law (fun w' => True) (trivial)
                (first
                  | (refine step_app_ints rfl (.tmp 46) (.tmp 49) 33 rfl wr.heap.size 3 i0 8 Try.underlying33 hi hz0 hz1 hz2 (by omega) (.slice (some ⟨wr.heap.size, 0, none⟩) 0 0) [] rfl (by first | exact OwnI.empty (Nat.le_refl _) | exact (OwnI.empty (Nat.le_refl _)).alloc _) (some ⟨b3, off3, none⟩) j _ T9 HDL.out rfl (by first | exact HT9.out.up (dc_drew (below_alloc_new _)) | exact HT9.out.up (dc_drew (below_new (below_alloc_new _) _))) (by first | (simp; done) | (simp; omega)) (by first | (simp; done) | (simp; omega)) ?_
                     intro v5 w5 ho5 hg5 hb5
                     have HB5 : Below wr.heap.size wr w5 := by first | exact (dc_drew (below_alloc_new _)).trans hb5 | exact (dc_drew (below_new (below_alloc_new _) _)).trans hb5
                     try (have hbx : w5.cell? ⟨wr.heap.size + 1, 0, none⟩ = some (.int .i64 x) := hg5.out.cell (show World.cell? _ _ = _ from box_n9 _ _ _ _) (by simp [Value.ownBlock]))
                     clear hb5 hg5)
                  | (refine step_app_ints rfl (.tmp 46) (.tmp 49) 33 rfl wr.heap.size 3 i0 8 Try.underlying33 hi hz0 hz1 hz2 (by omega) (.slice (some ⟨wr.heap.size + 1, 0, none⟩) 0 0) [] rfl (by first | exact ownI_second _ _ _) (some ⟨b3, off3, none⟩) j _ T9 HDL.out rfl (by first | exact HT9.out.up (dc_drew (below_alloc_new _)) | exact HT9.out.up (dc_drew (below_new (below_alloc_new _) _))) (by first | (simp; done) | (simp; omega)) (by first | (simp; done) | (simp; omega)) ?_
                     intro v5 w5 ho5 hg5 hb5
                     have HB5 : Below wr.heap.size wr w5 := by first | exact (dc_drew (below_alloc_new _)).trans hb5 | exact (dc_drew (below_new (below_alloc_new _) _)).trans hb5
                     try (have hbx : w5.cell? ⟨wr.heap.size, 0, none⟩ = some (.int .i64 x) := hg5.out.cell (show World.cell? _ _ = _ from box_o9 _ _ _ _) (by simp [Value.ownBlock]))
                     clear hb5 hg5)
                  | (refine step_app_ints rfl (.tmp 50) (.tmp 52) 33 rfl wr.heap.size 3 i0 8 Try.underlying33 hi hz0 hz1 hz2 (by omega) v5 T9 rfl (by first | exact ho5.out | exact ho5.out.alloc _) (some ⟨_, 0, none⟩) 1 _ [x] rfl rfl (by first | exact ints_one hbx (World.block_lt_of_cell? _ _ hbx) | exact ints_one (box1_at _ _ _) (by simp)) (by rw [HDL.out]; omega) (by have := HB5.size; first | exact this | (simp; omega)) ?_
                     intro v6 w6 ho6 hg6 hb6
                     have HB6 : Below wr.heap.size wr w6 := by first | exact HB5.trans hb6 | exact (below_new HB5 _).trans hb6
                     clear hb6 hg6)
                  | (refine step_app_ints rfl (.tmp 53) (.tmp 56) 33 rfl wr.heap.size 3 i0 8 Try.underlying33 hi hz0 hz1 hz2 (by omega) v6 (T9 ++ [x]) rfl ho6.out (some ⟨b3, off3 + j, none⟩) _ _ D9 HDD.out rfl (HD9.out.up HB6) (by rw [List.length_append, HDL.out]; first | (simp; done) | (simp; omega)) HB6.size ?_
                     intro v7 w7 ho7 hg7 hb7
                     have HB7 := HB6.trans hb7
                     clear hb7 hg7))
              all_goals
                have HO7 : Hid (OwnI .i64 3 w7 s0 v7 (datesL (K.take (k + 1)))) := Lib.hid (by rw [HINS.out]; have h9 := ho7.out.low (Nat.le_of_lt hsz); simpa using h9)
                have HNZ7 : Hid (datesL (K.take (k + 1)) = [] → v7 = .slice none 0 0) := Lib.hid (fun h9 => by
                  rw [HINS.out] at h9; exact absurd h9 (by simp))
                have HEB7 := Lib.hid (HEB.out.up HB7)
                have HY7 := Lib.hid (HY.out.up HB7)
                have hB7 : Below s0 w w7 := hB.trans (HB7.mono (Nat.le_of_lt hsz))
                clear ho5 ho6 ho7 HB5 HB6 HB7
                go_wp2_with fail
                go_roundg (m - (k + 1))
                case measure => omega
                case rel => exact ⟨k + 1, by go_num, by omega, by omega, HO7, HNZ7, HEB7, HY7, hB7⟩
        · obtain rfl : j = q := by omega
          have hjz : ¬ (j : Int) < (j : Int) := by omega
          have hDD := HQ.out
          have hins : insD x D = D ++ [x] := by
            rw [insD_at (k := j) (by omega) HLT.out (fun h => by omega), if_neg (fun h => by omega), ← hDD, List.take_length, List.drop_length]
          have HINS : Hid (datesL (K.take (k + 1)) = D ++ x :: []) := Lib.hid (HTKx.out.trans hins)
          have HT9 := Lib.hid HI3.out
          have HDL := Lib.hid hDD
          have hnz := hNZ.out
          have hnil : j = 0 → (.slice A3 j cp3 : Value) = .slice none 0 0 := fun h => hnz (List.eq_nil_of_length_eq_zero (by omega))
          have hcap : j ≤ cp3 := by
            rcases hO.out.2 with ⟨h9, h8⟩ | ⟨g, cap, cur, h9, -, -, h8, -⟩
            · omega
            · cases h9; omega
          clear hDD hins hnz
          obtain ⟨T9, hT9⟩ : ∃ T9, D = T9 := ⟨_, rfl⟩
          rw [hT9] at HDL HT9 HINS
          clear hT9
          rcases Nat.eq_zero_or_pos j with h0 | h0
          · have h9 := hnil h0
            subst h0
            cases h9
            clear hnil hcap
            go_wp2_with fail
            go_region_held_law (fun w' => True) (trivial)
              (first
                | (refine step_app_ints rfl (.tmp 46) (.tmp 49) 33 rfl wr.heap.size 3 i0 8 Try.underlying33 hi hz0 hz1 hz2 (by omega) (.slice (some ⟨wr.heap.size, 0, none⟩) 0 0) [] rfl (by first | exact OwnI.empty (Nat.le_refl _) | exact (OwnI.empty (Nat.le_refl _)).alloc _) none 0 _ T9 HDL.out rfl (by rw [List.eq_nil_of_length_eq_zero HDL.out]; exact IntsAt.nil) (by first | (simp; done) | (simp; omega)) (by first | (simp; done) | (simp; omega)) ?_
                   intro v5 w5 ho5 hg5 hb5
                   have HB5 : Below wr.heap.size wr w5 := by first | exact (dc_drew (below_alloc_new _)).trans hb5 | exact (dc_drew (below_new (below_alloc_new _) _)).trans hb5
                   try (have hbx : w5.cell? ⟨wr.heap.size + 1, 0, none⟩ = some (.int .i64 x) := hg5.out.cell (show World.cell? _ _ = _ from box_n9 _ _ _ _) (by simp [Value.ownBlock]))
                   clear hb5 hg5)
                | (refine step_app_ints rfl (.tmp 46) (.tmp 49) 33 rfl wr.heap.size 3 i0 8 Try.underlying33 hi hz0 hz1 hz2 (by omega) (.slice (some ⟨wr.heap.size + 1, 0, none⟩) 0 0) [] rfl (by first | exact ownI_second _ _ _) none 0 _ T9 HDL.out rfl (by rw [List.eq_nil_of_length_eq_zero HDL.out]; exact IntsAt.nil) (by first | (simp; done) | (simp; omega)) (by first | (simp; done) | (simp; omega)) ?_
                   intro v5 w5 ho5 hg5 hb5
                   have HB5 : Below wr.heap.size wr w5 := by first | exact (dc_drew (below_alloc_new _)).trans hb5 | exact (dc_drew (below_new (below_alloc_new _) _)).trans hb5
                   try (have hbx : w5.cell? ⟨wr.heap.size, 0, none⟩ = some (.int .i64 x) := hg5.out.cell (show World.cell? _ _ = _ from box_o9 _ _ _ _) (by simp [Value.ownBlock]))
                   clear hb5 hg5)
                | (refine step_app_ints rfl (.tmp 50) (.tmp 52) 33 rfl wr.heap.size 3 i0 8 Try.underlying33 hi hz0 hz1 hz2 (by omega) v5 T9 rfl (by first | exact ho5.out | exact ho5.out.alloc _) (some ⟨_, 0, none⟩) 1 _ [x] rfl rfl (by first | exact ints_one hbx (World.block_lt_of_cell? _ _ hbx) | exact ints_one (box1_at _ _ _) (by simp)) (by rw [HDL.out]; omega) (by have := HB5.size; first | exact this | (simp; omega)) ?_
                   intro v6 w6 ho6 hg6 hb6
                   have HB6 : Below wr.heap.size wr w6 := by first | exact HB5.trans hb6 | exact (below_new HB5 _).trans hb6
                   clear hb6 hg6)
                | (refine step_app_ints rfl (.tmp 53) (.tmp 56) 33 rfl wr.heap.size 3 i0 8 Try.underlying33 hi hz0 hz1 hz2 (by omega) v6 (T9 ++ [x]) rfl ho6.out _ _ _ [] rfl rfl IntsAt.nil (by rw [List.length_append, HDL.out]; first | (simp; done) | (simp; omega)) HB6.size ?_
                   intro v7 w7 ho7 hg7 hb7
                   have HB7 := HB6.trans hb7
                   clear hb7 hg7))
            all_goals
              have HO7 : Hid (OwnI .i64 3 w7 s0 v7 (datesL (K.take (k + 1)))) := Lib.hid (by rw [HINS.out]; have h9 := ho7.out.low (Nat.le_of_lt hsz); simpa using h9)
              have HNZ7 : Hid (datesL (K.take (k + 1)) = [] → v7 = .slice none 0 0) := Lib.hid (fun h9 => by
                rw [HINS.out] at h9; exact absurd h9 (by simp))
              have HEB7 := Lib.hid (HEB.out.up HB7)
              have HY7 := Lib.hid (HY.out.up HB7)
              have hB7 : Below s0 w w7 := hB.trans (HB7.mono (Nat.le_of_lt hsz))
              clear ho5 ho6 ho7 HB5 HB6 HB7
              go_wp2_with fail
              go_roundg (m - (k + 1))
              case measure => omega
              case rel => exact ⟨k + 1, by go_num, by omega, by omega, HO7, HNZ7, HEB7, HY7, hB7⟩
          · obtain ⟨b3, off3, e3, hb3, hc3⟩ := HI3.out (by rw [HQ.out]; omega)
            subst e3
            have hjc : (j : Int) ≤ (cp3 : Int) := by omega
            clear hc3 hnil
            by_cases hcj : cp3 = j
            · subst hcj
              go_wp2_with fail
              go_region_held_law (fun w' => True) (trivial)
                (first
                  | (refine step_app_ints rfl (.tmp 46) (.tmp 49) 33 rfl wr.heap.size 3 i0 8 Try.underlying33 hi hz0 hz1 hz2 (by omega) (.slice (some ⟨wr.heap.size, 0, none⟩) 0 0) [] rfl (by first | exact OwnI.empty (Nat.le_refl _) | exact (OwnI.empty (Nat.le_refl _)).alloc _) (some ⟨b3, off3, none⟩) cp3 _ T9 HDL.out rfl (by first | exact HT9.out.up (dc_drew (below_alloc_new _)) | exact HT9.out.up (dc_drew (below_new (below_alloc_new _) _))) (by first | (simp; done) | (simp; omega)) (by first | (simp; done) | (simp; omega)) ?_
                     intro v5 w5 ho5 hg5 hb5
                     have HB5 : Below wr.heap.size wr w5 := by first | exact (dc_drew (below_alloc_new _)).trans hb5 | exact (dc_drew (below_new (below_alloc_new _) _)).trans hb5
                     try (have hbx : w5.cell? ⟨wr.heap.size + 1, 0, none⟩ = some (.int .i64 x) := hg5.out.cell (show World.cell? _ _ = _ from box_n9 _ _ _ _) (by simp [Value.ownBlock]))
                     clear hb5 hg5)
                  | (refine step_app_ints rfl (.tmp 46) (.tmp 49) 33 rfl wr.heap.size 3 i0 8 Try.underlying33 hi hz0 hz1 hz2 (by omega) (.slice (some ⟨wr.heap.size + 1, 0, none⟩) 0 0) [] rfl (by first | exact ownI_second _ _ _) (some ⟨b3, off3, none⟩) cp3 _ T9 HDL.out rfl (by first | exact HT9.out.up (dc_drew (below_alloc_new _)) | exact HT9.out.up (dc_drew (below_new (below_alloc_new _) _))) (by first | (simp; done) | (simp; omega)) (by first | (simp; done) | (simp; omega)) ?_
                     intro v5 w5 ho5 hg5 hb5
                     have HB5 : Below wr.heap.size wr w5 := by first | exact (dc_drew (below_alloc_new _)).trans hb5 | exact (dc_drew (below_new (below_alloc_new _) _)).trans hb5
                     try (have hbx : w5.cell? ⟨wr.heap.size, 0, none⟩ = some (.int .i64 x) := hg5.out.cell (show World.cell? _ _ = _ from box_o9 _ _ _ _) (by simp [Value.ownBlock]))
                     clear hb5 hg5)
                  | (refine step_app_ints rfl (.tmp 50) (.tmp 52) 33 rfl wr.heap.size 3 i0 8 Try.underlying33 hi hz0 hz1 hz2 (by omega) v5 T9 rfl (by first | exact ho5.out | exact ho5.out.alloc _) (some ⟨_, 0, none⟩) 1 _ [x] rfl rfl (by first | exact ints_one hbx (World.block_lt_of_cell? _ _ hbx) | exact ints_one (box1_at _ _ _) (by simp)) (by rw [HDL.out]; omega) (by have := HB5.size; first | exact this | (simp; omega)) ?_
                     intro v6 w6 ho6 hg6 hb6
                     have HB6 : Below wr.heap.size wr w6 := by first | exact HB5.trans hb6 | exact (below_new HB5 _).trans hb6
                     clear hb6 hg6)
                  | (refine step_app_ints rfl (.tmp 53) (.tmp 56) 33 rfl wr.heap.size 3 i0 8 Try.underlying33 hi hz0 hz1 hz2 (by omega) v6 (T9 ++ [x]) rfl ho6.out _ _ _ [] (by simp) rfl IntsAt.nil (by rw [List.length_append, HDL.out]; first | (simp; done) | (simp; omega)) HB6.size ?_
                     intro v7 w7 ho7 hg7 hb7
                     have HB7 := HB6.trans hb7
                     clear hb7 hg7))
              all_goals
                have HO7 : Hid (OwnI .i64 3 w7 s0 v7 (datesL (K.take (k + 1)))) := Lib.hid (by rw [HINS.out]; have h9 := ho7.out.low (Nat.le_of_lt hsz); simpa using h9)
                have HNZ7 : Hid (datesL (K.take (k + 1)) = [] → v7 = .slice none 0 0) := Lib.hid (fun h9 => by
                  rw [HINS.out] at h9; exact absurd h9 (by simp))
                have HEB7 := Lib.hid (HEB.out.up HB7)
                have HY7 := Lib.hid (HY.out.up HB7)
                have hB7 : Below s0 w w7 := hB.trans (HB7.mono (Nat.le_of_lt hsz))
                clear ho5 ho6 ho7 HB5 HB6 HB7
                go_wp2_with fail
                go_roundg (m - (k + 1))
                case measure => omega
                case rel => exact ⟨k + 1, by go_num, by omega, by omega, HO7, HNZ7, HEB7, HY7, hB7⟩
            · go_wp2_with fail
              go_region_held_law (fun w' => True) (trivial)
                (first
                  | (refine step_app_ints rfl (.tmp 46) (.tmp 49) 33 rfl wr.heap.size 3 i0 8 Try.underlying33 hi hz0 hz1 hz2 (by omega) (.slice (some ⟨wr.heap.size, 0, none⟩) 0 0) [] rfl (by first | exact OwnI.empty (Nat.le_refl _) | exact (OwnI.empty (Nat.le_refl _)).alloc _) (some ⟨b3, off3, none⟩) j _ T9 HDL.out rfl (by first | exact HT9.out.up (dc_drew (below_alloc_new _)) | exact HT9.out.up (dc_drew (below_new (below_alloc_new _) _))) (by first | (simp; done) | (simp; omega)) (by first | (simp; done) | (simp; omega)) ?_
                     intro v5 w5 ho5 hg5 hb5
                     have HB5 : Below wr.heap.size wr w5 := by first | exact (dc_drew (below_alloc_new _)).trans hb5 | exact (dc_drew (below_new (below_alloc_new _) _)).trans hb5
                     try (have hbx : w5.cell? ⟨wr.heap.size + 1, 0, none⟩ = some (.int .i64 x) := hg5.out.cell (show World.cell? _ _ = _ from box_n9 _ _ _ _) (by simp [Value.ownBlock]))
                     clear hb5 hg5)
                  | (refine step_app_ints rfl (.tmp 46) (.tmp 49) 33 rfl wr.heap.size 3 i0 8 Try.underlying33 hi hz0 hz1 hz2 (by omega) (.slice (some ⟨wr.heap.size + 1, 0, none⟩) 0 0) [] rfl (by first | exact ownI_second _ _ _) (some ⟨b3, off3, none⟩) j _ T9 HDL.out rfl (by first | exact HT9.out.up (dc_drew (below_alloc_new _)) | exact HT9.out.up (dc_drew (below_new (below_alloc_new _) _))) (by first | (simp; done) | (simp; omega)) (by first | (simp; done) | (simp; omega)) ?_
                     intro v5 w5 ho5 hg5 hb5
                     have HB5 : Below wr.heap.size wr w5 := by first | exact (dc_drew (below_alloc_new _)).trans hb5 | exact (dc_drew (below_new (below_alloc_new _) _)).trans hb5
                     try (have hbx : w5.cell? ⟨wr.heap.size, 0, none⟩ = some (.int .i64 x) := hg5.out.cell (show World.cell? _ _ = _ from box_o9 _ _ _ _) (by simp [Value.ownBlock]))
                     clear hb5 hg5)
                  | (refine step_app_ints rfl (.tmp 50) (.tmp 52) 33 rfl wr.heap.size 3 i0 8 Try.underlying33 hi hz0 hz1 hz2 (by omega) v5 T9 rfl (by first | exact ho5.out | exact ho5.out.alloc _) (some ⟨_, 0, none⟩) 1 _ [x] rfl rfl (by first | exact ints_one hbx (World.block_lt_of_cell? _ _ hbx) | exact ints_one (box1_at _ _ _) (by simp)) (by rw [HDL.out]; omega) (by have := HB5.size; first | exact this | (simp; omega)) ?_
                     intro v6 w6 ho6 hg6 hb6
                     have HB6 : Below wr.heap.size wr w6 := by first | exact HB5.trans hb6 | exact (below_new HB5 _).trans hb6
                     clear hb6 hg6)
                  | (refine step_app_ints rfl (.tmp 53) (.tmp 56) 33 rfl wr.heap.size 3 i0 8 Try.underlying33 hi hz0 hz1 hz2 (by omega) v6 (T9 ++ [x]) rfl ho6.out _ _ _ [] (by simp) rfl IntsAt.nil (by rw [List.length_append, HDL.out]; first | (simp; done) | (simp; omega)) HB6.size ?_
                     intro v7 w7 ho7 hg7 hb7
                     have HB7 := HB6.trans hb7
                     clear hb7 hg7))
              all_goals
                have HO7 : Hid (OwnI .i64 3 w7 s0 v7 (datesL (K.take (k + 1)))) := Lib.hid (by rw [HINS.out]; have h9 := ho7.out.low (Nat.le_of_lt hsz); simpa using h9)
                have HNZ7 : Hid (datesL (K.take (k + 1)) = [] → v7 = .slice none 0 0) := Lib.hid (fun h9 => by
                  rw [HINS.out] at h9; exact absurd h9 (by simp))
                have HEB7 := Lib.hid (HEB.out.up HB7)
                have HY7 := Lib.hid (HY.out.up HB7)
                have hB7 : Below s0 w w7 := hB.trans (HB7.mono (Nat.le_of_lt hsz))
                clear ho5 ho6 ho7 HB5 HB6 HB7
                go_wp2_with fail
                go_roundg (m - (k + 1))
                case measure => omega
                case rel => exact ⟨k + 1, by go_num, by omega, by omega, HO7, HNZ7, HEB7, HY7, hB7⟩
    · obtain rfl : k = m := by omega
      have hltz : ¬ (k : Int) < (k : Int) := by omega
      have ho := hO.out
      rw [HTE.out k (Nat.le_refl _)] at ho
      have HO := Lib.hid ho.sli
      clear ho
      go_wp2_with fail
      go_ret
      exact ⟨_, rfl, HO.out, by first | exact hB | (rw [HS0.out]; exact hB)⟩
set_option maxRecDepth 20000 in
set_option maxHeartbeats 1600000 in
theorem rsameb_any (A B : Option Addr) (c d : Nat) (zs ys : List Bal) (w : World) (hz : BalAt w A zs) (hy : BalAt w B ys) (hl : zs.length ≤ 100000) (hl2 : ys.length ≤ 100000) :
  Calls Try.prog 20 #[.slice A zs.length c, .slice B ys.length d] w fun e w' => e = .returned (.bool (decide (zs = ys))) ∧ Below w.heap.size w w' := by
 have hB := Below.refl w.heap.size w
 obtain ⟨n, hn⟩ : ∃ n, zs.length = n := ⟨_, rfl⟩
 obtain ⟨m, hm⟩ : ∃ m, ys.length = m := ⟨_, rfl⟩
 rw [hn] at hl ⊢
 rw [hm] at hl2 ⊢
 by_cases hnm : n = m
 ·subst hnm
  have HN := Lib.hid hn
  have HM := Lib.hid hm
  have HZ := Lib.hid hz
  have HY := Lib.hid hy
  clear hn hm hz hy
  have hnn : ((n : Int) != (n : Int)) = false := by simp
  go_enter Try.func20, Try.ntmps20
  go_wp2_with fail
  go_loopg [5] n (fun kx s5 wr => ∃ k : Nat, s5 = .int .i64 k ∧ k ≤ n ∧ n - k ≤ kx ∧ Hid (zs.take k = ys.take k) ∧ Below w.heap.size w wr)
  case atStart => exact ⟨0, rfl, by omega, by omega, Lib.hid (by simp), hB⟩
  case round =>
   clear hB
   obtain ⟨k, rfl, hk, hkx, HT, hB⟩ := hrel
   by_cases hlt : k < n
   ·have hltz : (k : Int) < (n : Int) := by omega
    obtain ⟨b, off, rfl, hbw, hcs⟩ := HZ.out (by rw [HN.out]; omega)
    obtain ⟨b2, off2, rfl, hbw2, hcs2⟩ := HY.out (by rw [HM.out]; omega)
    obtain ⟨c0, c1⟩ := (hcs k (by rw [HN.out]; exact hlt)).up hB hbw
    obtain ⟨d0, d1⟩ := (hcs2 k (by rw [HM.out]; exact hlt)).up hB hbw2
    have ht1 := take_succ_getD (d := bal0) (L := zs) (i := k) (by rw [HN.out]; exact hlt)
    have ht2 := take_succ_getD (d := bal0) (L := ys) (i := k) (by rw [HM.out]; exact hlt)
    generalize zs.getD k bal0 = x at *
    generalize ys.getD k bal0 = y at *
    by_cases hxy : x = y
    ·subst hxy
     have HT2 : Hid (zs.take (k + 1) = ys.take (k + 1)) := Lib.hid (by rw [ht1, ht2, HT.out])
     clear ht1 ht2 hcs hcs2
     go_wp2_with fail
     go_quiet (fail)
     replace hB := below_drewN hB nq
     generalize World.drewN _ nq = W1 at *
     go_wp2_with fail
     go_roundg (n - (k + 1))
     case measure => omega
     case rel => exact ⟨k + 1, by go_num, by omega, by omega, HT2, hB⟩
    ·have hno : Hid (decide (zs = ys) = false) := Lib.hid (decide_eq_false fun e => by
      rw [e, ht2] at ht1
      have := List.append_cancel_left ht1
      simp at this; exact hxy this.symm)
     have hne : x.acct ≠ y.acct ∨ (x.acct = y.acct ∧ x.amt ≠ y.amt) := by
      by_cases h1 : x.acct = y.acct
      ·exact .inr ⟨h1, fun h2 => hxy (by cases x; cases y; simp at h1 h2; rw [h1, h2])⟩
      ·exact .inl h1
     clear ht1 ht2 hcs hcs2 hxy
     rcases hne with h1 | ⟨h1, h2⟩
     ·have q1 : (x.acct == y.acct) = false := by simp [h1]
      clear h1
      go_wp2_with fail
      go_quiet (fail)
      replace hB := below_drewN hB nq
      generalize World.drewN _ nq = W1 at *
      go_wp2_with fail
      go_ret
      exact ⟨by rw [hno.out]; rfl, hB⟩
     ·have q1 : (x.acct == y.acct) = true := by simp [h1]
      have q2 : (x.amt == y.amt) = false := by simp [h2]
      clear h1 h2
      go_wp2_with fail
      go_quiet (fail)
      replace hB := below_drewN hB nq
      generalize World.drewN _ nq = W1 at *
      go_wp2_with fail
      go_ret
      exact ⟨by rw [hno.out]; rfl, hB⟩
   ·obtain rfl : k = n := by omega
    have hltz : ¬ (k : Int) < (k : Int) := by omega
    have hyes : Hid (decide (zs = ys) = true) := Lib.hid (decide_eq_true (by have h := HT.out; rwa [List.take_of_length_le (by rw [HN.out]; omega), List.take_of_length_le (by rw [HM.out]; omega)] at h))
    go_wp2_with fail
    go_ret
    exact ⟨by rw [hyes.out]; rfl, hB⟩
 ·have hno : Hid (decide (zs = ys) = false) := Lib.hid (decide_eq_false fun e => hnm (by rw [← hn, ← hm, e]))
  have hnn : ((n : Int) != (m : Int)) = true := by simp; omega
  clear hn hm hz hy
  go_enter Try.func20, Try.ntmps20
  go_wp2_with fail
  go_ret
  exact ⟨by rw [hno.out]; rfl, hB⟩
theorem balC_set : ∀ (L : List Bal) (i : Nat) (z : Int), i < L.length → (L.flatMap balC).set (i * 2 + 1) (.int .i64 z) = (L.set i ⟨(L.getD i bal0).acct, z⟩).flatMap balC
 | [], i, _, h => by simp at h
 | a :: L, 0, z, _ => by simp [balC]
 | a :: L, i + 1, z, h => by
  have := balC_set L i z (by simpa using h)
  have e1 : (i + 1) * 2 + 1 = i * 2 + 1 + 1 + 1 := by omega
  rw [List.flatMap_cons, e1]
  simp only [balC, List.cons_append, List.nil_append, List.set_cons_succ, List.flatMap_cons, List.getD_cons_succ]
  rw [this]
theorem OwnB.fz {e : TypeId} {w : World} {base g n cap : Nat} {L : List Bal} (h : OwnB e w base (.slice (some ⟨g, 0, none⟩) n cap) L) (i : Nat) : w.frozen? ⟨g, i, none⟩ = false := by
 rcases h.2 with ⟨h9, -⟩ | ⟨g', cap', cur, h9, -, hg, -⟩
 ·cases h9
 ·cases h9
  simp [World.frozen?, hg]
theorem OwnB.set {e : TypeId} {w : World} {base g n cap : Nat} {L : List Bal} (h : OwnB e w base (.slice (some ⟨g, 0, none⟩) n cap) L) {i : Nat} (hi : i < L.length) (z : Int) :
  OwnB e (w.setCell ⟨g, i * 2 + 1, none⟩ (.int .i64 z)) base (.slice (some ⟨g, 0, none⟩) n cap) (L.set i ⟨(L.getD i bal0).acct, z⟩) := by
 obtain ⟨h1, h2⟩ := h
 rcases h2 with ⟨h9, -⟩ | ⟨g', cap', cur, h9, hb, hg, hn, hcap, hsz, hcur⟩
 ·cases h9
 ·cases h9
  refine ⟨by rw [balC_len, List.length_set], .inr ⟨g, cap, cur.setIfInBounds (i * 2 + 1) (.int .i64 z), by rw [List.length_set], hb, ?_, by rw [List.length_set]; exact hn, hcap, by simpa using hsz, ?_⟩⟩
  ·simp [World.setCell, Array.getElem?_modify, hg]
  ·rw [List.length_set, ← balC_set L i z hi, ← hcur]
   simp [List.take_set]
theorem OwnB.at0 {e : TypeId} {w : World} {base : Nat} {v : Value} {L : List Bal} (h : OwnB e w base v L) (h0 : 0 < L.length) : ∃ g cap, v = .slice (some ⟨g, 0, none⟩) L.length cap ∧ base ≤ g ∧ g < w.heap.size ∧ L.length ≤ cap := by
 rcases h.2 with ⟨rfl, h9⟩ | ⟨g, cap, cur, rfl, hb, hg, hn, hcap, hsz, hcur⟩
 ·omega
 ·refine ⟨g, cap, rfl, hb, ?_, hn⟩
  rcases Nat.lt_or_ge g w.heap.size with h1 | h1
  ·exact h1
  ·rw [Array.getElem?_eq_none h1] at hg; cases hg
theorem bals_one {w : World} {g : Nat} {x : Bal} (h : w.cell? ⟨g, 0, none⟩ = some (.int .i64 x.acct)) (h1 : w.cell? ⟨g, 1, none⟩ = some (.int .i64 x.amt)) : BalAt w (some ⟨g, 0, none⟩) [x] := fun _ => ⟨g, 0, rfl, World.block_lt_of_cell? w ⟨g, 0, none⟩ h, fun i hi => by
 obtain rfl : i = 0 := by simpa using hi
 exact ⟨h, h1⟩⟩
theorem bb_o9 (w : World) (t : TypeId) (x : Bal) (o : Obj) : BB ((w.alloc (.cells #[.int .i64 x.acct, .int .i64 x.amt] t)).alloc o) w.heap.size x := (bb_new w t x).up (below_alloc_new o)
theorem bb_n9 (w : World) (t : TypeId) (x : Bal) (o : Obj) : BB ((w.alloc o).alloc (.cells #[.int .i64 x.acct, .int .i64 x.amt] t)) (w.heap.size + 1) x := by
 have h := bb_new (w.alloc o) t x
 have e : (w.alloc o).heap.size = w.heap.size + 1 := by simp
 rwa [e] at h
theorem BB.drew9 {w : World} {g : Nat} {x : Bal} (h : BB w g x) : BB w.drew g x := ⟨⟨h.cells.c0, h.cells.c1⟩, h.lt⟩
theorem BB.grown {w w' : World} {g : Nat} {x : Bal} {r : Option Nat} (hg : w.grownBy w' r) (h : BB w g x) (hne : some g ≠ r) : BB w' g x :=
 ⟨⟨hg.cell h.cells.c0 hne, hg.cell h.cells.c1 hne⟩, Nat.lt_of_lt_of_le h.lt hg.size⟩
theorem BB.row {w : World} {g : Nat} {x : Bal} (h : BB w g x) : BalAt w (some ⟨g, 0, none⟩) [x] := bals_one h.cells.c0 h.cells.c1
theorem ownB_second (w : World) (o : Obj) (e : TypeId) : OwnB e ((w.alloc o).alloc (.cells #[] e)) w.heap.size (.slice (some ⟨w.heap.size + 1, 0, none⟩) 0 0) [] := by
 have h := OwnB.empty (e := e) (base := w.heap.size) (w := w.alloc o) (by simp)
 have e1 : (w.alloc o).heap.size = w.heap.size + 1 := by simp
 rwa [e1] at h
set_option maxRecDepth 20000 in
set_option maxHeartbeats 3200000 in
theorem rput9_any (base : Nat) (v : Value) (S : List Bal) (x : Bal) (w : World) (ho : OwnB 71 w base v S) (hbase : base ≤ w.heap.size) (hq : S.length ≤ 1000)
    (hbd : ∀ y ∈ S, -9000000000000000 ≤ y.amt + x.amt ∧ y.amt + x.amt ≤ 9000000000000000) (R : List Bal)
    (hR : ∀ k, k ≤ S.length → (∀ i, i < k → (S.getD i bal0).acct < x.acct) → (k < S.length → x.acct ≤ (S.getD k bal0).acct) → R = if k < S.length ∧ (S.getD k bal0).acct = x.acct then S.set k ⟨x.acct, (S.getD k bal0).amt + x.amt⟩ else S.take k ++ x :: S.drop k) :
    Calls Try.prog 41 #[v, .int .i64 x.acct, .int .i64 x.amt] w fun e w' => ∃ v', e = .returned v' ∧ OwnB 71 w' base v' R ∧ Below base w w' := by
  obtain ⟨i0, hi, hz0, hz1, hz2⟩ := info_parts infoI_bal
  have hB := Below.refl base w
  obtain ⟨A3, cp3, e3, hI3⟩ := ho.slb
  obtain ⟨q, hqq⟩ : ∃ q, S.length = q := ⟨_, rfl⟩
  rw [hqq] at e3 hq
  subst e3
  have HQ := Lib.hid hqq
  have HO := Lib.hid ho
  have HI3 := Lib.hid hI3
  have HBD := Lib.hid hbd
  have HR := Lib.hid hR
  have HBS := Lib.hid hbase
  clear hqq ho hI3 hbd hR hbase
  go_enter Try.func41, Try.ntmps41
  go_wp2_with fail
  go_loopg [7] q (fun jx s7 W => ∃ j : Nat, s7 = .int .i64 j ∧ j ≤ q ∧ q - j ≤ jx ∧ Hid (∀ i, i < j → (S.getD i bal0).acct < x.acct) ∧ W = w)
  case atStart => exact ⟨0, rfl, by omega, by omega, Lib.hid (fun i h => absurd h (by omega)), rfl⟩
  case round =>
    obtain ⟨j, rfl, hj, hjx, HLT, hW⟩ := hrel
    have hW2 := hW.symm
    subst hW2
    by_cases hjq : j < q
    · have hjz : (j : Int) < (q : Int) := by omega
      obtain ⟨g3, cap3, e3, hb3, hg3, hcap⟩ := HO.out.at0 (by rw [HQ.out]; omega)
      have e4 := e3
      rw [HQ.out] at e4
      cases e4
      rw [HQ.out] at hcap
      obtain ⟨b9, off9, e9, -, hc3⟩ := HI3.out (by rw [HQ.out]; omega)
      cases e9
      obtain ⟨p0, p1⟩ := hc3 j (by rw [HQ.out]; exact hjq)
      simp only [Nat.zero_add] at p0 p1
      have hbd := HBD.out _ (getD_mem_acc (d := bal0) (show j < S.length by rw [HQ.out]; exact hjq))
      have hset := HO.out.set (i := j) (by rw [HQ.out]; exact hjq) ((S.getD j bal0).amt + x.amt)
      have hr := HR.out j (by rw [HQ.out]; exact hj) HLT.out
      have hfz := HO.out.fz (j * 2 + 1)
      obtain ⟨y, hy⟩ : ∃ y, S.getD j bal0 = y := ⟨_, rfl⟩
      rw [hy] at p0 p1 hbd hset hr
      have HYE := Lib.hid hy
      clear hc3 hy e3
      by_cases h1 : y.acct = x.acct
      · have e1 : (y.acct == x.acct) = true := by simp [h1]
        have hr2 := hr (fun _ => by omega)
        rw [if_pos ⟨by rw [HQ.out]; exact hjq, h1⟩] at hr2
        rw [h1, ← hr2] at hset
        obtain ⟨Z, hZ⟩ : ∃ Z, y.amt + x.amt = Z := ⟨_, rfl⟩
        have hZw : IntKind.i64.wrap (y.amt + x.amt) = Z := by rw [hZ, IntKind.wrap_i64]; omega
        rw [hZ] at hset
        have HSET := Lib.hid hset
        have hBS : Below base w (w.setCell ⟨g3, j * 2 + 1, none⟩ (.int .i64 Z)) := Below.setCell (p := ⟨g3, j * 2 + 1, none⟩) hB hb3 _
        clear hr hr2 hset hbd hZ h1
        go_wp2_with fail
        go_ret
        exact ⟨_, rfl, HSET.out, hBS⟩
      · have e1 : (y.acct == x.acct) = false := by simp [h1]
        by_cases h2 : x.acct < y.acct
        · have e2 : decide (x.acct < y.acct) = true := decide_eq_true h2
          have hr2 := hr (fun _ => by omega)
          rw [if_neg (fun h => h1 h.2)] at hr2
          have HINS := Lib.hid hr2
          have hDl : (S.take j).length = j := by rw [List.length_take, HQ.out]; omega
          have hDd : (S.drop j).length = q - j := by rw [List.length_drop, HQ.out]
          have hjc : (j : Int) ≤ (cp3 : Int) := by omega
          have hcj : ¬ cp3 = j := by omega
          have HDL := Lib.hid hDl
          have HDD := Lib.hid hDd
          have HT9 := Lib.hid (HI3.out.take j)
          have hd9 := HI3.out.drop j
          rw [Nat.zero_add] at hd9
          have HD9 := Lib.hid hd9
          obtain ⟨T9, hT9⟩ : ∃ T9, S.take j = T9 := ⟨_, rfl⟩
          obtain ⟨D9, hD9⟩ : ∃ D9, S.drop j = D9 := ⟨_, rfl⟩
          rw [hT9] at HDL HT9 HINS
          rw [hD9] at HDD HD9 HINS
          clear hDl hDd hT9 hD9 hd9 hr hr2 hset hbd h1 h2 hfz
          go_wp2_with fail
          go_region_held_law (fun w' => True) (trivial)
            (first
              | (refine step_app_bals rfl (.tmp 40) (.tmp 43) 36 rfl w.heap.size 71 i0 16 Try.underlying36 hi hz0 hz1 hz2 (by omega) (.slice (some ⟨w.heap.size, 0, none⟩) 0 0) [] rfl (by first | exact OwnB.empty (Nat.le_refl _) | exact (OwnB.empty (Nat.le_refl _)).alloc _) (some ⟨g3, 0, none⟩) j _ T9 HDL.out rfl (by first | exact HT9.out.up (dc_drew (below_alloc_new _)) | exact HT9.out.up (dc_drew (below_new (below_alloc_new _) _))) (by first | (simp; done) | (simp; omega)) (by first | (simp; done) | (simp; omega)) ?_
                 intro v5 w5 ho5 hg5 hb5
                 have HB5 : Below w.heap.size w w5 := by first | exact (dc_drew (below_alloc_new _)).trans hb5 | exact (dc_drew (below_new (below_alloc_new _) _)).trans hb5
                 try (have hbx : BB w5 (w.heap.size + 1) x := by first | exact BB.grown hg5.out (bb_n9 _ _ _ _) (by simp [Value.ownBlock]) | exact BB.grown hg5.out (bb_n9 _ _ _ _).drew9 (by simp [Value.ownBlock]))
                 clear hb5 hg5)
              | (refine step_app_bals rfl (.tmp 40) (.tmp 43) 36 rfl w.heap.size 71 i0 16 Try.underlying36 hi hz0 hz1 hz2 (by omega) (.slice (some ⟨w.heap.size + 1, 0, none⟩) 0 0) [] rfl (by first | exact ownB_second _ _ _) (some ⟨g3, 0, none⟩) j _ T9 HDL.out rfl (by first | exact HT9.out.up (dc_drew (below_alloc_new _)) | exact HT9.out.up (dc_drew (below_new (below_alloc_new _) _))) (by first | (simp; done) | (simp; omega)) (by first | (simp; done) | (simp; omega)) ?_
                 intro v5 w5 ho5 hg5 hb5
                 have HB5 : Below w.heap.size w w5 := by first | exact (dc_drew (below_alloc_new _)).trans hb5 | exact (dc_drew (below_new (below_alloc_new _) _)).trans hb5
                 try (have hbx : BB w5 (w.heap.size) x := by first | exact BB.grown hg5.out (bb_o9 _ _ _ _) (by simp [Value.ownBlock]) | exact BB.grown hg5.out (bb_o9 _ _ _ _).drew9 (by simp [Value.ownBlock]))
                 clear hb5 hg5)
              | (refine step_app_bals rfl (.tmp 44) (.tmp 48) 36 rfl w.heap.size 71 i0 16 Try.underlying36 hi hz0 hz1 hz2 (by omega) v5 T9 rfl (by first | exact ho5.out | exact ho5.out.alloc _) (some ⟨_, 0, none⟩) 1 _ [x] rfl rfl (by first | exact hbx.row | exact (bb_new _ _ x).row) (by rw [HDL.out]; omega) (by have := HB5.size; first | exact this | (simp; omega)) ?_
                 intro v6 w6 ho6 hg6 hb6
                 have HB6 : Below w.heap.size w w6 := by first | exact HB5.trans hb6 | exact (below_new HB5 _).trans hb6
                 clear hb6 hg6)
              | (refine step_app_bals rfl (.tmp 49) (.tmp 52) 36 rfl w.heap.size 71 i0 16 Try.underlying36 hi hz0 hz1 hz2 (by omega) v6 (T9 ++ [x]) rfl ho6.out (some ⟨g3, j * 2, none⟩) _ _ D9 HDD.out rfl (HD9.out.up HB6) (by rw [List.length_append, HDL.out]; first | (simp; done) | (simp; omega)) HB6.size ?_
                 intro v7 w7 ho7 hg7 hb7
                 have HB7 := HB6.trans hb7
                 clear hb7 hg7))
          all_goals
            have HO7 : Hid (OwnB 71 w7 base v7 R) := Lib.hid (by rw [HINS.out]; have h9 := ho7.out.low HBS.out; simpa using h9)
            have hB7 : Below base w w7 := HB7.mono HBS.out
            clear ho5 ho6 ho7 HB5 HB6 HB7
            go_wp2_with fail
            go_ret
            exact ⟨v7, by simp, HO7.out, hB7⟩
        · have e2 : decide (x.acct < y.acct) = false := decide_eq_false h2
          have HLT2 : Hid (∀ i, i < j + 1 → (S.getD i bal0).acct < x.acct) := Lib.hid (fun i hi => by
            rcases Nat.lt_or_ge i j with h9 | h9
            · exact HLT.out i h9
            · obtain rfl : i = j := by omega
              rw [HYE.out]; omega)
          clear h1 h2 hr hset hbd hfz
          go_wp2_with fail
          go_roundg (q - (j + 1))
          case measure => omega
          case rel => exact ⟨j + 1, by go_num, by omega, by omega, HLT2, rfl⟩
    · obtain rfl : j = q := by omega
      have hjz : ¬ (j : Int) < (j : Int) := by omega
      have hr := HR.out j (by rw [HQ.out]; exact hj) HLT.out (fun h => by rw [HQ.out] at h; omega)
      rw [if_neg (fun h => by have := h.1; rw [HQ.out] at this; omega), ← HQ.out, List.take_length, List.drop_length] at hr
      have HINS := Lib.hid hr
      have hln : Hid (S.length ≤ 100000000) := Lib.hid (by rw [HQ.out]; omega)
      clear hr
      go_wp2_with (at_builtin; refine wpList_append_bg _ rfl (.tmp 54) (.tmp 58) 36 rfl base 71 i0 16 Try.underlying36 hi hz0 hz1 hz2 (by omega) (.slice A3 j cp3) _ (by rfl) HO.out x.acct x.amt _ 1 (by first | rfl | simp) rfl hln.out HBS.out ?_; intro v2 w4 ho2 hb2; replace ho2 := ho2.out; rw [← HINS.out] at ho2; replace ho2 := Lib.hid ho2)
      go_ret
      exact ⟨_, rfl, ho2.out, hb2⟩
set_option maxRecDepth 20000 in
theorem camt9_any (n : Int) (w : World) : Calls Try.prog 53 #[.int .i64 n] w fun e w' => e = .returned (.bool (amtB n)) ∧ w = w' := by
 unfold amtB
 rcases Int.lt_or_le n (-1000000000000) with h | h
 ·have h1 : decide (-1000000000000 ≤ n) = false := decide_eq_false (by omega)
  rw [h1]
  go_enter Try.func53, Try.ntmps53
  go_wp2_with fail
  go_ret
  exact ⟨rfl, rfl⟩
 ·have h1 : decide (-1000000000000 ≤ n) = true := decide_eq_true h
  rw [h1]
  go_enter Try.func53, Try.ntmps53
  go_wp2_with fail
  go_ret
  exact ⟨rfl, rfl⟩
abbrev sumV (g r : Int) : Value := .agg #[.int .i64 g, .int .i64 r]
structure SumZ (g r z : Int) : Prop where
 eq : g * 1000000000000 + r = z
 lo : -1000000000000 < r
 hi : r < 1000000000000
theorem two_at (w : World) (a b : Int) (t : TypeId) : (w.alloc (.cells #[.int .i64 a, .int .i64 b] t)).cell? ⟨w.heap.size, 0, none⟩ = some (.int .i64 a) ∧ (w.alloc (.cells #[.int .i64 a, .int .i64 b] t)).cell? ⟨w.heap.size, 1, none⟩ = some (.int .i64 b) := by
 constructor <;> (simp only [World.cell?]; rw [heap_alloc_new]; rfl)
theorem two_fz (w : World) (a b : Int) (t : TypeId) (i : Nat) : (w.alloc (.cells #[.int .i64 a, .int .i64 b] t)).frozen? ⟨w.heap.size, i, none⟩ = false := by
 simp only [World.frozen?]; rw [heap_alloc_new]; simp
def plusG (g r a : Int) : Int := g + (r + a).tdiv 1000000000000
def plusR (r a : Int) : Int := (r + a).tmod 1000000000000
theorem plus_z {g r z a : Int} (h : SumZ g r z) : SumZ (plusG g r a) (plusR r a) (z + a) := by
 have h1 := Int.mul_tdiv_add_tmod (r + a) 1000000000000
 have h2 : (r + a).tmod 1000000000000 < 1000000000000 := Int.tmod_lt_of_pos _ (by omega)
 have h3 : -1000000000000 < (r + a).tmod 1000000000000 := by
  have := Int.tmod_lt_of_pos (-(r + a)) (show (0 : Int) < 1000000000000 by omega)
  rw [Int.neg_tmod] at this; omega
 obtain ⟨he, _, _⟩ := h
 unfold plusG plusR
 exact ⟨by rw [Int.add_mul]; omega, h3, h2⟩
theorem plus_bd {g r a : Int} (hr : -1000000000000 < r ∧ r < 1000000000000) (ha : -1000000000000 ≤ a ∧ a ≤ 1000000000000) : g - 2 ≤ plusG g r a ∧ plusG g r a ≤ g + 2 := by
 have h1 := Int.mul_tdiv_add_tmod (r + a) 1000000000000
 have h2 : (r + a).tmod 1000000000000 < 1000000000000 := Int.tmod_lt_of_pos _ (by omega)
 have h3 : -1000000000000 < (r + a).tmod 1000000000000 := by
  have := Int.tmod_lt_of_pos (-(r + a)) (show (0 : Int) < 1000000000000 by omega)
  rw [Int.neg_tmod] at this; omega
 unfold plusG
 generalize (r + a).tdiv 1000000000000 = q at *
 generalize (r + a).tmod 1000000000000 = p at *
 omega
set_option maxRecDepth 20000 in
set_option maxHeartbeats 1600000 in
theorem cplus_any (g r a : Int) (w : World) (hg : -1000000 ≤ g ∧ g ≤ 1000000) (hr : -1000000000000 < r ∧ r < 1000000000000) (ha : -1000000000000 ≤ a ∧ a ≤ 1000000000000) :
  Calls Try.prog 38 #[sumV g r, .int .i64 a] w fun e w' => e = .returned (sumV (plusG g r a) (plusR r a)) ∧ Below w.heap.size w w' := by
 have hbd := plus_bd (g := g) hr ha
 have hB := ((Below.refl w.heap.size w).alloc (Nat.le_refl _) (.cells #[.int .i64 g, .int .i64 r] 73)).alloc (by simp) (.cells #[.int .i64 0, .int .i64 0] 73)
 obtain ⟨c0, c1⟩ := two_at w g r 73
 obtain ⟨d0, d1⟩ := two_at (w.alloc (.cells #[.int .i64 g, .int .i64 r] 73)) 0 0 73
 have f0 := two_fz (w.alloc (.cells #[.int .i64 g, .int .i64 r] 73)) 0 0 73 0
 have f1 := two_fz (w.alloc (.cells #[.int .i64 g, .int .i64 r] 73)) 0 0 73 1
 have hup := below_alloc_new (w := w.alloc (.cells #[.int .i64 g, .int .i64 r] 73)) (.cells #[.int .i64 0, .int .i64 0] 73)
 replace c0 := (hup.cell (p := ⟨w.heap.size, 0, none⟩) (by simp)).trans c0
 replace c1 := (hup.cell (p := ⟨w.heap.size, 1, none⟩) (by simp)).trans c1
 have hgq := hbd
 unfold plusG at hgq
 unfold plusG plusR
 obtain ⟨s, hs⟩ : ∃ s, r + a = s := ⟨_, rfl⟩
 rw [hs] at hgq ⊢
 have hs1 : -2000000000000 < s ∧ s < 2000000000000 := by omega
 have hw1 : IntKind.i64.wrap (r + a) = s := by rw [hs, IntKind.wrap_i64]; omega
 obtain ⟨q, hq⟩ : ∃ q, s.tdiv 1000000000000 = q := ⟨_, rfl⟩
 obtain ⟨p, hp⟩ : ∃ p, s.tmod 1000000000000 = p := ⟨_, rfl⟩
 rw [hq] at hgq ⊢
 rw [hp]
 have hq2 : IntKind.i64.wrap (s.tdiv 1000000000000) = q := by rw [hq, IntKind.wrap_i64]; omega
 obtain ⟨g2, hg2⟩ : ∃ g2, g + q = g2 := ⟨_, rfl⟩
 rw [hg2] at hgq ⊢
 have hw3 : IntKind.i64.wrap (g + q) = g2 := by rw [hg2, IntKind.wrap_i64]; omega
 have hnz : ¬ (1000000000000 : Int) = 0 := by decide
 clear hs hq hg2 hgq hs1 hbd hg hr ha
 go_enter Try.func38, Try.ntmps38
 go_wp2_with fail
 obtain ⟨y0, y1⟩ := two_at (w.alloc (.cells #[.int .i64 g, .int .i64 r] 73)) g2 p 73
 have e9 : (w.alloc (.cells #[.int .i64 g, .int .i64 r] 73)).heap.size = w.heap.size + 1 := by simp
 rw [e9] at y0 y1
 exact bodyPost_ret (v := sumV g2 p) (by simp [results, Try.results38, go_sem, y0, y1]) rfl ⟨rfl, ((Below.refl w.heap.size w).alloc (Nat.le_refl _) (.cells #[.int .i64 g, .int .i64 r] 73)).alloc (by simp) (.cells #[.int .i64 g2, .int .i64 p] 73)⟩
set_option maxRecDepth 20000 in
set_option maxHeartbeats 1600000 in
theorem camount_any (g r z : Int) (w : World) (h : SumZ g r z) :
  Calls Try.prog 55 #[sumV g r] w fun e w' => e = .returned (.tuple #[.int .i64 (if amtB z = true then z else 0), .bool (amtB z)]) ∧ Below w.heap.size w w' := by
 obtain ⟨he, h1, h2⟩ := h
 obtain ⟨zv, hzv⟩ : ∃ zv, (if amtB z = true then z else 0) = zv := ⟨_, rfl⟩
 obtain ⟨q, hq⟩ : ∃ q, amtB z = q := ⟨_, rfl⟩
 rw [hzv, hq]
 rw [hq] at hzv
 have HQ := Lib.hid hq
 have HZV := Lib.hid hzv
 have hc := fun w => camt9_any z w
 rw [hq] at hc
 clear hq hzv
 have hB := (Below.refl w.heap.size w).alloc (Nat.le_refl _) (.cells #[.int .i64 g, .int .i64 r] 73)
 obtain ⟨c0, c1⟩ := two_at w g r 73
 rcases Int.lt_or_le g (-1) with hg | hg
 ·have hd : decide (g < -1) = true := decide_eq_true hg
  have ha : Hid (q = false) := Lib.hid (by rw [← HQ.out]; unfold amtB; rw [decide_eq_false (by omega)]; rfl)
  obtain rfl := ha.out
  have ev : Hid (zv = 0) := Lib.hid HZV.out.symm
  clear hg he h1 h2 hc ha HQ
  go_enter Try.func55, Try.ntmps55
  go_wp2_with fail
  go_ret2
  exact ⟨by rw [ev.out]; rfl, hB⟩
 have hd : decide (g < -1) = false := decide_eq_false (by omega)
 rcases Int.lt_or_le 1 g with hg2 | hg2
 ·have hd2 : decide (1 < g) = true := decide_eq_true hg2
  have ha : Hid (q = false) := Lib.hid (by rw [← HQ.out]; unfold amtB; rw [decide_eq_false (show ¬ z ≤ 1000000000000 by omega), Bool.and_false])
  obtain rfl := ha.out
  have ev : Hid (zv = 0) := Lib.hid HZV.out.symm
  clear hg hg2 he h1 h2 hc ha HQ
  go_enter Try.func55, Try.ntmps55
  go_wp2_with fail
  go_ret2
  exact ⟨by rw [ev.out]; rfl, hB⟩
 have hd2 : decide (1 < g) = false := decide_eq_false (by omega)
 obtain ⟨t, ht⟩ : ∃ t, g * 1000000000000 = t := ⟨_, rfl⟩
 have hw1 : IntKind.i64.wrap (g * 1000000000000) = t := by rw [ht, IntKind.wrap_i64]; omega
 rw [ht] at he
 have hw2 : IntKind.i64.wrap (t + r) = z := by rw [he, IntKind.wrap_i64]; omega
 clear ht he hg hg2 h1 h2 HQ
 cases q
 ·have ev : Hid (zv = 0) := Lib.hid HZV.out.symm
  have HC := Lib.hid hc
  clear hc
  go_enter Try.func55, Try.ntmps55
  go_wp2_with (go_at_call 53; refine (HC.out _).mono ?_; rintro e w1 ⟨rfl, rfl⟩)
  go_ret2
  exact ⟨by rw [ev.out]; rfl, hB⟩
 ·have ev : Hid (zv = z) := Lib.hid HZV.out.symm
  have HC := Lib.hid hc
  clear hc
  go_enter Try.func55, Try.ntmps55
  go_wp2_with (go_at_call 53; refine (HC.out _).mono ?_; rintro e w1 ⟨rfl, rfl⟩)
  go_ret2
  exact ⟨by rw [ev.out]; rfl, hB⟩
set_option maxRecDepth 20000 in
set_option maxHeartbeats 1600000 in
theorem carasc9_any (B : Option Addr) (d : Nat) (b : List Bal) (w : World) (hy : BalAt w B b) (hm : b.length ≤ 100000) :
  Calls Try.prog 36 #[.slice B b.length d] w fun e w' => e = .returned (.bool (ascB b)) ∧ Below w.heap.size w w' := by
 have hB := Below.refl w.heap.size w
 obtain ⟨m, hm2⟩ : ∃ m, b.length = m := ⟨_, rfl⟩
 have hA0 : ascB b = allTo (ascP b) m := by unfold ascB; rw [hm2]
 rw [hm2] at hm ⊢
 have HM := Lib.hid hm2
 have HY := Lib.hid hy
 have HA0 := Lib.hid hA0
 clear hm2 hy hA0
 go_enter Try.func36, Try.ntmps36
 go_wp2_with fail
 go_loopg [7] m (fun kx s7 wr => ∃ k : Nat, s7 = .int .i64 k ∧ k ≤ m ∧ m - k ≤ kx ∧ Hid (allTo (ascP b) k = true) ∧ Below w.heap.size w wr)
 case atStart => exact ⟨0, rfl, by omega, by omega, Lib.hid rfl, hB⟩
 case round =>
  clear hB
  obtain ⟨k, rfl, hk, hkx, HC, hB⟩ := hrel
  by_cases hlt : k < m
  ·have hltz : (k : Int) < (m : Int) := by omega
   obtain ⟨bb, off, rfl, hbw, hcs⟩ := HY.out (by rw [HM.out]; omega)
   obtain ⟨c0, c1⟩ := (hcs k (by rw [HM.out]; exact hlt)).up hB hbw
   have hno := fun h => HA0.out.trans (allTo_no (p := ascP b) (k := k) (n := m) hlt h)
   have hyes : allTo (ascP b) (k + 1) = ascP b k := by rw [allTo, HC.out, Bool.true_and]
   have hp : ascP b k = ((decide (k = 0) || decide ((b.getD (k - 1) bal0).acct < (b.getD k bal0).acct)) && amtB (b.getD k bal0).amt) := rfl
   generalize b.getD k bal0 = x at *
   have ha := fun w => camt9_any x.amt w
   have hB1 := below_new hB (.cells #[.int .i64 x.acct, .int .i64 x.amt] 71)
   have HB1 := Lib.hid hB1
   obtain ⟨⟨z0, z1⟩, zlt⟩ := bb_new wr 71 x
   simp only [Nat.zero_add] at z1
   clear hB
   rcases Nat.eq_zero_or_pos k with hk0 | hk0
   ·have e1 : decide (0 < k) = false := decide_eq_false (by omega)
    have e2 : decide ((0 : Int) < (k : Int)) = false := decide_eq_false (by omega)
    rw [decide_eq_true hk0, Bool.true_or, Bool.true_and] at hp
    have HNo := Lib.hid hno
    clear hcs hno hk0 hB1
    cases hq : amtB x.amt
    ·skip
     rw [hq] at ha hp
     have HAm := Lib.hid ha
     have E := Lib.hid (HNo.out hp)
     clear ha hp hq hyes
     go_wp2_with fail
     generalize World.alloc wr _ = W7 at *
     go_quiet ((go_at_call 53; exact quiet_one (same_quiet HAm.out)))
     have hB := below_drewN HB1.out nq
     generalize World.drewN _ nq = W1 at *
     go_wp2_with fail
     go_ret
     exact ⟨by rw [E.out]; rfl, hB⟩
    ·skip
     rw [hq] at ha hp
     have HAm := Lib.hid ha
     have HC2 := Lib.hid (hyes.trans hp)
     clear ha hp hq hyes
     go_wp2_with fail
     generalize World.alloc wr _ = W7 at *
     go_quiet ((go_at_call 53; exact quiet_one (same_quiet HAm.out)))
     have hB := below_drewN HB1.out nq
     generalize World.drewN _ nq = W1 at *
     go_wp2_with fail
     go_roundg (m - (k + 1))
     case measure => omega
     case rel => exact ⟨k + 1, by go_num, by omega, by omega, HC2, hB⟩
   ·obtain ⟨j, hj⟩ : ∃ j, k = j + 1 := ⟨k - 1, by omega⟩
    have hjm : j < m := by omega
    have hjz : (j : Int) < (m : Int) := by omega
    have hj1 : (k : Int) - 1 = (j : Int) := by omega
    have hj2 : IntKind.i64.wrap (j : Int) = (j : Int) := IntWalk.i64_in _ (by omega)
    have e1 : decide (0 < k) = true := decide_eq_true (by omega)
    have e2 : decide ((0 : Int) < (k : Int)) = true := decide_eq_true (by omega)
    obtain ⟨d0, d1⟩ := (hcs j (by rw [HM.out]; exact hjm)).up hB1 hbw
    rw [decide_eq_false (show ¬ k = 0 by omega), Bool.false_or, show k - 1 = j by omega] at hp
    generalize b.getD j bal0 = y at *
    have HNo := Lib.hid hno
    have HJ := Lib.hid hj
    clear hcs hno hk0 hj hB1
    rcases Int.lt_or_le y.acct x.acct with h1 | h1
    ·have e3 : decide (x.acct ≤ y.acct) = false := decide_eq_false (by omega)
     rw [decide_eq_true h1, Bool.true_and] at hp
     clear h1
     cases hq : amtB x.amt
     ·skip
      rw [hq] at ha hp
      have HAm := Lib.hid ha
      have E := Lib.hid (HNo.out hp)
      clear ha hp hq hyes
      go_wp2_with fail
      generalize World.alloc wr _ = W7 at *
      go_quiet ((go_at_call 53; exact quiet_one (same_quiet HAm.out)))
      have hB := below_drewN HB1.out nq
      generalize World.drewN _ nq = W1 at *
      go_wp2_with fail
      go_ret
      exact ⟨by rw [E.out]; rfl, hB⟩
     ·skip
      rw [hq] at ha hp
      have HAm := Lib.hid ha
      have HC2 := Lib.hid (hyes.trans hp)
      clear ha hp hq hyes
      go_wp2_with fail
      generalize World.alloc wr _ = W7 at *
      go_quiet ((go_at_call 53; exact quiet_one (same_quiet HAm.out)))
      have hB := below_drewN HB1.out nq
      generalize World.drewN _ nq = W1 at *
      go_wp2_with fail
      go_roundg (m - (k + 1))
      case measure => omega
      case rel => exact ⟨k + 1, by go_num, by omega, by omega, HC2, hB⟩
    ·have e3 : decide (x.acct ≤ y.acct) = true := decide_eq_true h1
     rw [decide_eq_false (show ¬ y.acct < x.acct by omega), Bool.false_and] at hp
     have E := Lib.hid (HNo.out hp)
     clear hp hyes ha h1
     go_wp2_with fail
     generalize World.alloc wr _ = W7 at *
     go_quiet (fail)
     have hB := below_drewN HB1.out nq
     generalize World.drewN _ nq = W1 at *
     go_wp2_with fail
     go_ret
     exact ⟨by rw [E.out]; rfl, hB⟩
  ·obtain rfl : k = m := by omega
   have hltz : ¬ (k : Int) < (k : Int) := by omega
   have E : Hid (ascB b = true) := Lib.hid (HA0.out.trans HC.out)
   go_wp2_with fail
   go_ret
   exact ⟨by rw [E.out]; rfl, hB⟩
open Go.RowKit Go.Maps
set_option maxRecDepth 20000 in
set_option maxHeartbeats 3200000 in
theorem cparts_any (nm cur : ByteArray) (A : Option Addr) (cp : Nat) (L : List Acc) (B : Option Addr) (d : Nat) (K : List Lnk) (jt : Bool) (w : World) (hz : AccAt w A L) (hy : LnkAt w B K) (hl : L.length ≤ 1000) (hm : K.length ≤ 1000) (hwa : WfC L) (hwl : ∀ l ∈ K, WfL l) :
  Calls Try.prog 37 #[entV nm cur A L.length cp B K.length d jt] w fun e w' => ∃ (mb base n : Nat) (f : Int → Option Value) (GA GB : Int → Value), e = .returned (.map (some mb)) ∧ PI w' mb base n f GA GB L K ∧ n ≤ 2000 ∧ Below w.heap.size w w' := by
 have hn := eb_new w 25 nm cur A L.length cp B K.length d jt
 have hB := below_alloc_new (w := w) (.cells #[.string nm, .string cur, .slice A L.length cp, .slice B K.length d, .bool jt] 25)
 have hMM := below_alloc_new (w := w.alloc (.cells #[.string nm, .string cur, .slice A L.length cp, .slice B K.length d, .bool jt] 25)) (.map #[] 0)
 have hM := MapV.made (w.alloc (.cells #[.string nm, .string cur, .slice A L.length cp, .slice B K.length d, .bool jt] 25))
 have eS : (w.alloc (.cells #[.string nm, .string cur, .slice A L.length cp, .slice B K.length d, .bool jt] 25)).heap.size = w.heap.size + 1 := by simp
 rw [eS] at hM
 have HEB := Lib.hid (hn.up hMM)
 have hB2 := below_more hB hMM
 have HPI : Hid (PI ((w.alloc (.cells #[.string nm, .string cur, .slice A L.length cp, .slice B K.length d, .bool jt] 25)).alloc (.map #[] 0)) (w.heap.size + 1) (w.heap.size + 2) 0 (fun _ => none) (fun _ => nilV) (fun _ => nilV) (L.take 0) []) := Lib.hid ⟨hM, Fam.none, fun _ => rfl⟩
 obtain ⟨n, hn2⟩ : ∃ n, L.length = n := ⟨_, rfl⟩
 obtain ⟨m, hm2⟩ : ∃ m, K.length = m := ⟨_, rfl⟩
 obtain ⟨s0, hs0⟩ : ∃ s0, w.heap.size = s0 := ⟨_, rfl⟩
 rw [hn2, hm2, hs0] at HEB HPI hB2
 rw [hn2] at hl ⊢
 rw [hm2] at hm ⊢
 rw [hs0]
 have HN := Lib.hid hn2
 have HM := Lib.hid hm2
 have HS0 := Lib.hid hs0
 have HZ := Lib.hid hz
 have HY := Lib.hid hy
 have HWA := Lib.hid hwa
 have HWL := Lib.hid hwl
 obtain ⟨iA, hiA, hA0, hA1, hA2⟩ := info_parts infoA
 obtain ⟨iL, hiL, hL0, hL1, hL2⟩ := info_parts infoL
 obtain ⟨c0, c1, c2, c3, c4, lt⟩ := HEB.out
 rw [← HS0.out] at c0 c1 c2 c3 c4 lt
 have hmm := @run_makeMap Try.prog
 clear hn hB hMM hM eS hn2 hm2 hz hy hwa hwl hs0
 go_enter Try.func37, Try.ntmps37
 go_wp2_with fail
 rw [HS0.out]
 clear c0 c1 c2 c3 c4 lt
 go_loopg [14] n (fun kx s14 wr => ∃ (k : Nat) (f : Int → Option Value) (GA GB : Int → Value), s14 = .int .i64 k ∧ k ≤ n ∧ n - k ≤ kx ∧ Hid (PI wr (s0 + 1) (s0 + 2) k f GA GB (L.take k) []) ∧ Hid (EB wr s0 nm cur A n cp B m d jt) ∧ Below s0 w wr)
 case atStart => exact ⟨0, _, _, _, rfl, by omega, by omega, HPI, HEB, hB2⟩
 case round =>
  clear HPI HEB hB2
  obtain ⟨k, f, GA, GB, rfl, hk, hkx, HPI, HEB, hB⟩ := hrel
  have hsz : s0 + 2 ≤ wr.heap.size := by have := HPI.out.map.lt; omega
  by_cases hlt : k < n
  ·have hltz : (k : Int) < (n : Int) := by omega
   obtain ⟨b, off, rfl, hbw, hcs⟩ := HZ.out (by rw [HN.out]; omega)
   have a4 := (hcs k (by rw [HN.out]; exact hlt)).up hB (by have := HS0.out; omega)
   obtain ⟨x, hx⟩ : ∃ x, L.getD k acc0 = x := ⟨_, rfl⟩
   rw [hx] at a4
   have HWX : Hid ((Lit.int .i64 x.code).wf = true) := Lib.hid (HWA.out x (by rw [← hx]; exact getD_mem_acc (by rw [HN.out]; exact hlt)))
   have HTK : Hid (L.take (k + 1) = L.take k ++ [x]) := Lib.hid (by rw [take_succ_getD (d := acc0) (by rw [HN.out]; exact hlt), hx])
   have hval := HPI.out.val x.code
   have hoA := HPI.out.fam.a x.code
   have hoB := HPI.out.fam.b x.code
   obtain ⟨A1, cp1, eA, _⟩ := hoA.reads
   obtain ⟨B1, d1, eB, _⟩ := hoB.reads
   obtain ⟨va, hva⟩ : ∃ va, GA x.code = va := ⟨_, rfl⟩
   obtain ⟨vb, hvb⟩ : ∃ vb, GB x.code = vb := ⟨_, rfl⟩
   rw [hva] at hval eA hoA
   rw [hvb] at hval eB hoB
   obtain ⟨n1, hn1⟩ : ∃ n1, (accC (L.take k) x.code).length = n1 := ⟨_, rfl⟩
   obtain ⟨m1, hm1⟩ : ∃ m1, (lnkC [] x.code).length = m1 := ⟨_, rfl⟩
   rw [hn1] at eA
   rw [hm1] at eB
   have hlen : n1 ≤ 100000000 := by have := accC_len (L := L.take k) (c := x.code); rw [List.length_take] at this; omega
   have hW1 := below_alloc_new (w := wr) (.cells #[.int .i64 x.code, .int .i64 x.kind, .int .i64 x.basis, .int .i64 x.par] 50)
   have hW2 := below_alloc_new (w := (wr.alloc (.cells #[.int .i64 x.code, .int .i64 x.kind, .int .i64 x.basis, .int .i64 x.par] 50))) (.cells #[.string ⟨#[]⟩, .string ⟨#[]⟩, .slice A1 n1 cp1, .slice B1 m1 d1, .bool false] 25)
   have hWb := below_more hW1 hW2
   have eW1 : (wr.alloc (.cells #[.int .i64 x.code, .int .i64 x.kind, .int .i64 x.basis, .int .i64 x.par] 50)).heap.size = wr.heap.size + 1 := by simp
   have hef := ef_new (wr.alloc (.cells #[.int .i64 x.code, .int .i64 x.kind, .int .i64 x.basis, .int .i64 x.par] 50)) 25 ⟨#[]⟩ ⟨#[]⟩ A1 n1 cp1 B1 m1 d1 false
   have hab := (ab_new wr 50 x).up hW2
   rw [eW1] at hef
   have eW2 : ((wr.alloc (.cells #[.int .i64 x.code, .int .i64 x.kind, .int .i64 x.basis, .int .i64 x.par] 50)).alloc (.cells #[.string ⟨#[]⟩, .string ⟨#[]⟩, .slice A1 n1 cp1, .slice B1 m1 d1, .bool false] 25)).heap.size = wr.heap.size + 2 := by simp
   have HOW := Lib.hid (hoA.up hWb)
   have HBW : Hid (Below s0 w ((wr.alloc (.cells #[.int .i64 x.code, .int .i64 x.kind, .int .i64 x.basis, .int .i64 x.par] 50)).alloc (.cells #[.string ⟨#[]⟩, .string ⟨#[]⟩, .slice A1 n1 cp1, .slice B1 m1 d1, .bool false] 25))) := Lib.hid (hB.trans (hWb.mono (by omega)))
   have HEW := Lib.hid (HEB.out.up hWb)
   have HMW := Lib.hid (HPI.out.map.up hWb)
   have HOLD := Lib.hid (fun g (hg9 : va.ownBlock = some g) => hoA.lt hg9)
   have HEF := Lib.hid hef
   have HAB := Lib.hid hab
   have HW1 := Lib.hid hWb
   have HE2 := Lib.hid eW2
   have HVA := Lib.hid hva
   have HVB := Lib.hid hvb
   have HN1 := Lib.hid hn1
   have HM1 := Lib.hid hm1
   subst eA
   subst eB
   have HVAL := Lib.hid hval
   have HPF := Lib.hid HPI.out.fam
   have HPV := Lib.hid HPI.out.val
   obtain ⟨p0, p1, p2, p3⟩ := a4
   obtain ⟨⟨q0, q1, q2, q3, q4, qlt⟩, qfz⟩ := HEF.out
   obtain ⟨⟨r0, r1, r2, r3⟩, rlt⟩ := HAB.out
   simp only [Nat.zero_add] at r1 r2 r3
   clear hcs hx hval hoA hoB hva hvb hn1 hm1 hW1 hW2 hWb eW1 hef hab eW2
   go_wp2_with (first
    | (at_lookup; refine wpList_mapv_look rfl _ _ _ 25 rfl Try.underlying67 ent_zero (s0 + 1) k f rfl (HPI.out.map.up (below_alloc_new _)) x.code rfl HWX.out ?_; rw [HVAL.out])
    | (at_builtin; refine wpList_append_ak _ rfl (.tmp 23) (.tmp 25) 22 rfl (s0 + 2) 50 iA 32 Try.underlying22 hiA hA0 hA1 hA2 (by omega) (.slice A1 n1 cp1) _ rfl HOW.out x _ 1 (by simp) rfl (by rw [HN1.out]; exact hlen) (by rw [HE2.out]; omega) ?_; intro v2 w2 ho2 hg2 hl2 hb2; obtain ⟨A2, c2, hv2, _⟩ := ho2.out.reads; obtain ⟨n2, hn2⟩ : ∃ n2, ((accC (L.take k) x.code) ++ [x]).length = n2 := ⟨_, rfl⟩; rw [hn2] at hv2; replace hn2 := Lib.hid hn2; have ne6 : ∀ g, wr.heap.size ≤ g → some g ≠ (.slice A1 n1 cp1 : Value).ownBlock := (fun g hg9 e9 => (by (have := HOLD.out _ e9.symm; omega))); have hk6 := hg2.out.block (wr.heap.size + 1) (by (rw [HE2.out]; omega)) (ne6 _ (by omega)); have hk5 := hg2.out.block wr.heap.size (by (rw [HE2.out]; omega)) (ne6 _ (by omega)); have hef2 := HEF.out.blk hk6; have hab2 := HAB.out.blk hk5; have HMP := Lib.hid (HMW.out.blk (hg2.out.block (s0 + 1) (by (rw [HE2.out]; omega)) (fun e9 => (by (have := HOLD.out _ e9.symm; omega))))); have HEE := Lib.hid (HEW.out.blk (hg2.out.block s0 (by (rw [HE2.out]; omega)) (fun e9 => (by (have := HOLD.out _ e9.symm; omega))))); have hsz2 := hg2.out.size; rw [HE2.out] at hsz2; have HB2 := Lib.hid (HBW.out.trans (hb2.mono (by omega))); clear hb2 hk5 hk6 ne6 q0 q1 q2 q3 q4 qlt qfz r0 r1 r2 rlt r3; subst hv2; obtain ⟨⟨q0, q1, q2, q3, q4, qlt⟩, qfz⟩ := hef2; obtain ⟨⟨r0, r1, r2, r3⟩, rlt⟩ := hab2; simp only [Nat.zero_add] at r1 r2 r3; have qf2 := qfz 2)
    | (at_mapUpdate; refine wpList_mapv_put rfl _ _ _ _ 25 rfl Try.underlying67 (s0 + 1) k f rfl (HMP.out.blk (Below.heap_setCell _ _ _ _ (by (show s0 + 1 ≠ wr.heap.size + 1; omega)))) x.code rfl (.agg #[.string ⟨#[]⟩, .string ⟨#[]⟩, .slice A2 n2 c2, .slice B1 m1 d1, .bool false]) rfl HWX.out (by omega) ?_; intro w4 hm4 hg4))
   have hkeep : ∀ g, g < w2.heap.size → g ≠ wr.heap.size + 1 → g ≠ s0 + 1 → w4.heap[g]? = w2.heap[g]? := fun g h1 h2 h3 => by
    rw [hg4.out.block g (by simpa [World.setCell] using h1) (fun e => h3 (by injection e)), Below.heap_setCell _ _ _ _ (by show g ≠ wr.heap.size + 1; exact h2)]
   have HFM : Hid (Fam w4 (s0 + 2) (fun c => if c = x.code then .slice A2 n2 c2 else GA c) (GB) (L.take (k + 1)) []) := Lib.hid (by
    rw [HTK.out]
    exact HPF.out.roundA (x := x) (v := .slice A2 n2 c2) (mb := s0 + 1) HW1.out HE2.out (by rw [HVA.out]; exact hg2.out) ho2.out (by rw [HVA.out]; exact hl2.out) hkeep (by omega))
   have HP2 : Hid (PI w4 (s0 + 1) (s0 + 2) (k + 1) (fun z => if z = x.code then some (.agg #[.string ⟨#[]⟩, .string ⟨#[]⟩, .slice A2 n2 c2, .slice B1 m1 d1, .bool false]) else f z) (fun c => if c = x.code then .slice A2 n2 c2 else GA c) (GB) (L.take (k + 1)) []) := Lib.hid ⟨hm4.out, HFM.out, fun c => by
    by_cases hc : c = x.code
    ·subst hc; simp only [if_true, Option.getD_some]; rw [HVB.out]
    ·simp only [if_neg hc]; exact HPV.out c⟩
   have HE4 : Hid (EB w4 s0 nm cur (some ⟨b, off, none⟩) n cp B m d jt) := Lib.hid (HEE.out.blk (hkeep s0 (by have := HEE.out.lt; exact this) (by omega) (by omega)))
   have hB4 : Below s0 w w4 := grown_below (Below.setCell (p := ⟨wr.heap.size + 1, 2, none⟩) HB2.out (by show s0 ≤ wr.heap.size + 1; omega) _) hg4.out (by omega) (by simp [World.setCell]; omega)
   go_roundg (n - (k + 1))
   case measure => omega
   case rel => exact ⟨k + 1, _, _, _, by go_num, by omega, by omega, HP2, HE4, hB4⟩
  ·obtain rfl : k = n := by omega
   have hltz : ¬ (k : Int) < (k : Int) := by omega
   have hPI := HPI.out
   rw [List.take_of_length_le (by rw [HN.out]; omega)] at hPI
   have HPI2 : Hid (PI wr (s0 + 1) (s0 + 2) k f GA GB L (K.take 0)) := Lib.hid hPI
   obtain ⟨c0, c1, c2, c3, c4, lt⟩ := HEB.out
   clear hPI HPI
   go_wp2_with fail
   clear c0 c1 c2 c3 c4 lt
   obtain ⟨n, hnk⟩ : ∃ n, k = n := ⟨_, rfl⟩
   subst hnk
   go_loopg [36] m (fun jx s36 wr => ∃ (j : Nat) (f : Int → Option Value) (GA GB : Int → Value), s36 = .int .i64 j ∧ j ≤ m ∧ m - j ≤ jx ∧ Hid (PI wr (s0 + 1) (s0 + 2) (k + j) f GA GB L (K.take j)) ∧ Hid (EB wr s0 nm cur A k cp B m d jt) ∧ Below s0 w wr)
   case atStart => exact ⟨0, _, _, _, rfl, by omega, by omega, HPI2, HEB, hB⟩
   case round =>
    clear HPI2 HEB hB
    obtain ⟨j, f, GA, GB, rfl, hk, hjx, HPI, HEB, hB⟩ := hrel
    have hsz : s0 + 2 ≤ wr.heap.size := by have := HPI.out.map.lt; omega
    by_cases hlt2 : j < m
    ·have hltz : (j : Int) < (m : Int) := by omega
     obtain ⟨b, off, rfl, hbw, hcs⟩ := HY.out (by rw [HM.out]; omega)
     have a4 := (hcs j (by rw [HM.out]; exact hlt2)).up hB (by have := HS0.out; omega)
     obtain ⟨x, hx⟩ : ∃ x, K.getD j lnk0 = x := ⟨_, rfl⟩
     rw [hx] at a4
     have HWX : Hid ((Lit.int .i64 x.frm).wf = true) := Lib.hid (HWL.out x (by rw [← hx]; exact getD_mem_acc (by rw [HM.out]; exact hlt2))).frm
     have HTK : Hid (K.take (j + 1) = K.take j ++ [x]) := Lib.hid (by rw [take_succ_getD (d := lnk0) (by rw [HM.out]; exact hlt2), hx])
     have hval := HPI.out.val x.frm
     have hoA := HPI.out.fam.a x.frm
     have hoB := HPI.out.fam.b x.frm
     obtain ⟨A1, cp1, eA, _⟩ := hoA.reads
     obtain ⟨B1, d1, eB, _⟩ := hoB.reads
     obtain ⟨va, hva⟩ : ∃ va, GA x.frm = va := ⟨_, rfl⟩
     obtain ⟨vb, hvb⟩ : ∃ vb, GB x.frm = vb := ⟨_, rfl⟩
     rw [hva] at hval eA hoA
     rw [hvb] at hval eB hoB
     obtain ⟨n1, hn1⟩ : ∃ n1, (accC L x.frm).length = n1 := ⟨_, rfl⟩
     obtain ⟨m1, hm1⟩ : ∃ m1, (lnkC (K.take j) x.frm).length = m1 := ⟨_, rfl⟩
     rw [hn1] at eA
     rw [hm1] at eB
     have hlen : m1 ≤ 100000000 := by have := lnkC_len (L := K.take j) (c := x.frm); rw [List.length_take] at this; omega
     have hW1 := below_alloc_new (w := wr) (.cells #[.int .i64 x.frm, .int .i64 x.tgt, .int .i64 x.since] 46)
     have hW2 := below_alloc_new (w := (wr.alloc (.cells #[.int .i64 x.frm, .int .i64 x.tgt, .int .i64 x.since] 46))) (.cells #[.string ⟨#[]⟩, .string ⟨#[]⟩, .slice A1 n1 cp1, .slice B1 m1 d1, .bool false] 25)
     have hWb := below_more hW1 hW2
     have eW1 : (wr.alloc (.cells #[.int .i64 x.frm, .int .i64 x.tgt, .int .i64 x.since] 46)).heap.size = wr.heap.size + 1 := by simp
     have hef := ef_new (wr.alloc (.cells #[.int .i64 x.frm, .int .i64 x.tgt, .int .i64 x.since] 46)) 25 ⟨#[]⟩ ⟨#[]⟩ A1 n1 cp1 B1 m1 d1 false
     have hab := (lb_new wr 46 x).up hW2
     rw [eW1] at hef
     have eW2 : ((wr.alloc (.cells #[.int .i64 x.frm, .int .i64 x.tgt, .int .i64 x.since] 46)).alloc (.cells #[.string ⟨#[]⟩, .string ⟨#[]⟩, .slice A1 n1 cp1, .slice B1 m1 d1, .bool false] 25)).heap.size = wr.heap.size + 2 := by simp
     have HOW := Lib.hid (hoB.up hWb)
     have HBW : Hid (Below s0 w ((wr.alloc (.cells #[.int .i64 x.frm, .int .i64 x.tgt, .int .i64 x.since] 46)).alloc (.cells #[.string ⟨#[]⟩, .string ⟨#[]⟩, .slice A1 n1 cp1, .slice B1 m1 d1, .bool false] 25))) := Lib.hid (hB.trans (hWb.mono (by omega)))
     have HEW := Lib.hid (HEB.out.up hWb)
     have HMW := Lib.hid (HPI.out.map.up hWb)
     have HOLD := Lib.hid (fun g (hg9 : vb.ownBlock = some g) => hoB.lt hg9)
     have HEF := Lib.hid hef
     have HAB := Lib.hid hab
     have HW1 := Lib.hid hWb
     have HE2 := Lib.hid eW2
     have HVA := Lib.hid hva
     have HVB := Lib.hid hvb
     have HN1 := Lib.hid hn1
     have HM1 := Lib.hid hm1
     subst eA
     subst eB
     have HVAL := Lib.hid hval
     have HPF := Lib.hid HPI.out.fam
     have HPV := Lib.hid HPI.out.val
     obtain ⟨p0, p1, p2⟩ := a4
     obtain ⟨⟨q0, q1, q2, q3, q4, qlt⟩, qfz⟩ := HEF.out
     obtain ⟨⟨r0, r1, r2⟩, rlt⟩ := HAB.out
     simp only [Nat.zero_add] at r1 r2
     clear hcs hx hval hoA hoB hva hvb hn1 hm1 hW1 hW2 hWb eW1 hef hab eW2
     go_wp2_with (first
      | (at_lookup; refine wpList_mapv_look rfl _ _ _ 25 rfl Try.underlying67 ent_zero (s0 + 1) (k + j) f rfl (HPI.out.map.up (below_alloc_new _)) x.frm rfl HWX.out ?_; rw [HVAL.out])
      | (at_builtin; refine wpList_append_lk _ rfl (.tmp 45) (.tmp 47) 23 rfl (s0 + 2) 46 iL 24 Try.underlying23 hiL hL0 hL1 hL2 (by omega) (.slice B1 m1 d1) _ rfl HOW.out x _ 1 (by simp) rfl (by rw [HM1.out]; exact hlen) (by rw [HE2.out]; omega) ?_; intro v2 w2 ho2 hg2 hl2 hb2; obtain ⟨A2, c2, hv2, _⟩ := ho2.out.reads; obtain ⟨n2, hn2⟩ : ∃ n2, ((lnkC (K.take j) x.frm) ++ [x]).length = n2 := ⟨_, rfl⟩; rw [hn2] at hv2; replace hn2 := Lib.hid hn2; have ne6 : ∀ g, wr.heap.size ≤ g → some g ≠ (.slice B1 m1 d1 : Value).ownBlock := (fun g hg9 e9 => (by (have := HOLD.out _ e9.symm; omega))); have hk6 := hg2.out.block (wr.heap.size + 1) (by (rw [HE2.out]; omega)) (ne6 _ (by omega)); have hk5 := hg2.out.block wr.heap.size (by (rw [HE2.out]; omega)) (ne6 _ (by omega)); have hef2 := HEF.out.blk hk6; have hab2 := HAB.out.blk hk5; have HMP := Lib.hid (HMW.out.blk (hg2.out.block (s0 + 1) (by (rw [HE2.out]; omega)) (fun e9 => (by (have := HOLD.out _ e9.symm; omega))))); have HEE := Lib.hid (HEW.out.blk (hg2.out.block s0 (by (rw [HE2.out]; omega)) (fun e9 => (by (have := HOLD.out _ e9.symm; omega))))); have hsz2 := hg2.out.size; rw [HE2.out] at hsz2; have HB2 := Lib.hid (HBW.out.trans (hb2.mono (by omega))); clear hb2 hk5 hk6 ne6 q0 q1 q2 q3 q4 qlt qfz r0 r1 r2 rlt; subst hv2; obtain ⟨⟨q0, q1, q2, q3, q4, qlt⟩, qfz⟩ := hef2; obtain ⟨⟨r0, r1, r2⟩, rlt⟩ := hab2; simp only [Nat.zero_add] at r1 r2; have qf2 := qfz 3)
      | (at_mapUpdate; refine wpList_mapv_put rfl _ _ _ _ 25 rfl Try.underlying67 (s0 + 1) (k + j) f rfl (HMP.out.blk (Below.heap_setCell _ _ _ _ (by (show s0 + 1 ≠ wr.heap.size + 1; omega)))) x.frm rfl (.agg #[.string ⟨#[]⟩, .string ⟨#[]⟩, .slice A1 n1 cp1, .slice A2 n2 c2, .bool false]) rfl HWX.out (by omega) ?_; intro w4 hm4 hg4))
     have hkeep : ∀ g, g < w2.heap.size → g ≠ wr.heap.size + 1 → g ≠ s0 + 1 → w4.heap[g]? = w2.heap[g]? := fun g h1 h2 h3 => by
      rw [hg4.out.block g (by simpa [World.setCell] using h1) (fun e => h3 (by injection e)), Below.heap_setCell _ _ _ _ (by show g ≠ wr.heap.size + 1; exact h2)]
     have HFM : Hid (Fam w4 (s0 + 2) (GA) (fun c => if c = x.frm then .slice A2 n2 c2 else GB c) L (K.take (j + 1))) := Lib.hid (by
      rw [HTK.out]
      exact HPF.out.roundB (x := x) (v := .slice A2 n2 c2) (mb := s0 + 1) HW1.out HE2.out (by rw [HVB.out]; exact hg2.out) ho2.out (by rw [HVB.out]; exact hl2.out) hkeep (by omega))
     have HP2 : Hid (PI w4 (s0 + 1) (s0 + 2) (k + j + 1) (fun z => if z = x.frm then some (.agg #[.string ⟨#[]⟩, .string ⟨#[]⟩, .slice A1 n1 cp1, .slice A2 n2 c2, .bool false]) else f z) (GA) (fun c => if c = x.frm then .slice A2 n2 c2 else GB c) L (K.take (j + 1))) := Lib.hid ⟨hm4.out, HFM.out, fun c => by
      by_cases hc : c = x.frm
      ·subst hc; simp only [if_true, Option.getD_some]; rw [HVA.out]
      ·simp only [if_neg hc]; exact HPV.out c⟩
     have HE4 : Hid (EB w4 s0 nm cur A k cp (some ⟨b, off, none⟩) m d jt) := Lib.hid (HEE.out.blk (hkeep s0 (by have := HEE.out.lt; exact this) (by omega) (by omega)))
     have hB4 : Below s0 w w4 := grown_below (Below.setCell (p := ⟨wr.heap.size + 1, 3, none⟩) HB2.out (by show s0 ≤ wr.heap.size + 1; omega) _) hg4.out (by omega) (by simp [World.setCell]; omega)
     go_roundg (m - (j + 1))
     case measure => omega
     case rel => exact ⟨j + 1, _, _, _, by go_num, by omega, by omega, HP2, HE4, hB4⟩
    ·obtain rfl : j = m := by omega
     have hltz : ¬ (j : Int) < (j : Int) := by omega
     have hPI := HPI.out
     rw [List.take_of_length_le (by rw [HM.out]; omega)] at hPI
     have HPI3 := Lib.hid hPI
     clear hPI HPI
     go_wp2_with fail
     go_ret
     exact ⟨_, rfl, _, _, ⟨_, _, _, HPI3.out⟩, by omega, hB⟩
theorem pick0_succ {l : List Bal} {k : Nat} (hk : k < l.length) : pick0 (l.take (k + 1)) = if (l.getD k bal0).amt = 0 then pick0 (l.take k) else pick0 (l.take k) ++ [l.getD k bal0] := by
 unfold pick0
 rw [take_succ_getD (d := bal0) hk, List.filter_append]
 split
 ·rename_i h; simp only [List.filter_cons, h, List.filter_nil]; simp
 ·rename_i h; rw [List.filter_cons, if_pos (by simpa using h), List.filter_nil]
theorem pick0_len {l : List Bal} : (pick0 l).length ≤ l.length := List.length_filter_le _ _
structure SI (w : World) (sb n : Nat) (f : Int → Option Value) (P : List Bal) : Prop where
 map : MapV w sb n f
 dom : ∀ t, (f t).isSome = true ↔ t ∈ P.map (·.acct)
 val : ∀ t, ∃ g r, (f t).getD (.agg #[.int .i64 0, .int .i64 0]) = sumV g r ∧ SumZ g r (ofS P t) ∧ -(2 * P.length : Int) ≤ g ∧ g ≤ 2 * P.length
 wf : ∀ t ∈ P.map (·.acct), (Lit.int .i64 t).wf = true
theorem SI.start {w : World} {sb : Nat} (h : MapV w sb 0 (fun _ => none)) : SI w sb 0 (fun _ => none) [] :=
 ⟨h, fun t => by simp, fun t => ⟨0, 0, rfl, ⟨by simp [ofS, sumI], by omega, by omega⟩, by simp, by simp⟩, fun t h => by simp at h⟩
theorem SI.up {w w2 : World} {sb n : Nat} {f : Int → Option Value} {P : List Bal} (h : SI w sb n f P) (hb : Below w.heap.size w w2) : SI w2 sb n f P := ⟨h.map.up hb, h.dom, h.val, h.wf⟩
theorem SI.step {w w4 : World} {sb n : Nat} {f : Int → Option Value} {P : List Bal} (h : SI w sb n f P) {te a g r : Int} (hv : (f te).getD (.agg #[.int .i64 0, .int .i64 0]) = sumV g r) (hz : SumZ g r (ofS P te))
  (hg : -(2 * P.length : Int) ≤ g ∧ g ≤ 2 * P.length) (ha : -1000000000000 ≤ a ∧ a ≤ 1000000000000) (hw : (Lit.int .i64 te).wf = true) (hm : MapV w4 sb (n + 1) (fun z => if z = te then some (sumV (plusG g r a) (plusR r a)) else f z)) :
  SI w4 sb (n + 1) (fun z => if z = te then some (sumV (plusG g r a) (plusR r a)) else f z) (P ++ [⟨te, a⟩]) := by
 refine ⟨hm, fun t => ?_, fun t => ?_, fun t ht => ?_⟩
 ·by_cases hc : t = te
  ·subst hc; simp
  ·simp only [if_neg hc]
   rw [h.dom t]; simp [hc]
 ·by_cases hc : t = te
  ·subst hc
   simp only [if_true, Option.getD_some]
   have hb := plus_bd (g := g) (r := r) (a := a) ⟨hz.lo, hz.hi⟩ ha
   refine ⟨_, _, rfl, ?_, ?_, ?_⟩
   ·rw [ofS_snoc, if_pos rfl]; exact plus_z hz
   ·rw [List.length_append, List.length_cons, List.length_nil]; omega
   ·rw [List.length_append, List.length_cons, List.length_nil]; omega
  ·simp only [if_neg hc]
   obtain ⟨g', r', e1, e2, e3, e4⟩ := h.val t
   refine ⟨g', r', e1, ?_, ?_, ?_⟩
   ·rw [ofS_snoc, if_neg (fun e => hc e.symm), Int.add_zero]; exact e2
   ·rw [List.length_append, List.length_cons, List.length_nil]; omega
   ·rw [List.length_append, List.length_cons, List.length_nil]; omega
 ·rw [List.map_append, List.mem_append] at ht
  rcases ht with ht | ht
  ·exact h.wf t ht
  ·simp at ht; rw [ht]; exact hw
def lisE (P : List Bal) : Int := if amtsB (sumsL P) = true then 0 else 2
def lisL (P : List Bal) : List Bal := if amtsB (sumsL P) = true then pick0 (sumsL P) else []
set_option maxRecDepth 20000 in
set_option maxHeartbeats 3200000 in
theorem clisted_any (sb m : Nat) (f : Int → Option Value) (P : List Bal) (w : World) (h : SI w sb m f P) (hm : m ≤ 1000000) (hp : P.length ≤ 1000) :
  Calls Try.prog 39 #[.map (some sb)] w fun e w' => ∃ v, e = .returned (.tuple #[v, .int .i64 (lisE P)]) ∧ SlB w' v (lisL P) ∧ Below w.heap.size w w' := by
 have hB := Below.refl w.heap.size w
 have hsb := h.map.lt
 have hE1 : amtsB (sumsL P) = false → lisE P = 2 ∧ lisL P = [] := fun h => by unfold lisE lisL; rw [h]; exact ⟨rfl, rfl⟩
 have hE0 : amtsB (sumsL P) = true → lisE P = 0 ∧ lisL P = pick0 (sumsL P) := fun h => by unfold lisE lisL; rw [h]; exact ⟨rfl, rfl⟩
 have hsl := sumsL_len (P := P)
 obtain ⟨hasc, hmem⟩ := keysL_is (l := P.map (·.acct))
 have hDK : ∀ D : List Int, Asc D → (∀ x, x ∈ D ↔ (f x).isSome = true) → D = keysL (P.map (·.acct)) := fun D h1 h2 => keysL_ext h1 fun x => by rw [h2 x, h.dom x]
 have hg : ∀ i, i < (sumsL P).length → (sumsL P).getD i bal0 = ⟨(keysL (P.map (·.acct))).getD i 0, ofS P ((keysL (P.map (·.acct))).getD i 0)⟩ := by
  intro i hi
  have hi' : i < (keysL (P.map (·.acct))).length := by unfold sumsL at hi; rwa [List.length_map] at hi
  unfold sumsL
  rw [List.getD_eq_getElem?_getD, List.getElem?_map, List.getD_eq_getElem?_getD, List.getElem?_eq_getElem hi']; rfl
 have hlen : (keysL (P.map (·.acct))).length = (sumsL P).length := by unfold sumsL; rw [List.length_map]
 have hT : ∀ i, i < (sumsL P).length → (keysL (P.map (·.acct))).getD i 0 = ((sumsL P).getD i bal0).acct := fun i hi => by rw [hg i hi]
 have hV : ∀ i, i < (sumsL P).length → ∃ g r, (f ((sumsL P).getD i bal0).acct).getD (.agg #[.int .i64 0, .int .i64 0]) = sumV g r ∧ SumZ g r ((sumsL P).getD i bal0).amt := fun i hi => by
  obtain ⟨g, r, e1, e2, -⟩ := h.val ((sumsL P).getD i bal0).acct
  refine ⟨g, r, e1, ?_⟩
  rw [hg i hi] at e2 ⊢
  exact e2
 have hWF : ∀ i, i < (sumsL P).length → (Lit.int .i64 ((sumsL P).getD i bal0).acct).wf = true := fun i hi => by
  refine h.wf _ ((hmem _).1 ?_)
  rw [← hT i hi]
  exact getD_mem_acc (by rw [hlen]; exact hi)
 have hmap := h.map
 generalize lisE P = re at *
 generalize lisL P = rl at *
 generalize keysL (P.map (·.acct)) = D0 at *
 generalize sumsL P = S at *
 obtain ⟨n, hn⟩ : ∃ n, S.length = n := ⟨_, rfl⟩
 rw [hn] at hsl hlen hT hV hWF
 have hn1 : n ≤ 1000 := by omega
 have HN := Lib.hid hn
 have HLEN := Lib.hid hlen
 have HT := Lib.hid hT
 have HV := Lib.hid hV
 have HWF := Lib.hid hWF
 have HDK := Lib.hid hDK
 have HE1 := Lib.hid hE1
 have HE0 := Lib.hid hE0
 have HMP := Lib.hid hmap
 obtain ⟨i0, hi, hz1, hz2, hz3⟩ := info_parts infoI_bal
 clear h hE1 hE0 hsl hasc hmem hDK hg hlen hT hV hWF hmap hn hp
 go_enter Try.func39, Try.ntmps39
 go_wp2_with (first
  | (go_at_call 54; refine (keyss_any _ _).mono ?_; rintro e w1 ⟨rfl, rfl⟩)
  | (go_at_call 34; refine (sorteds_any sb m f w HMP.out hm).mono ?_; rintro e w2 ⟨v, D, rfl, h1, h2, h3, hb⟩; have hDD := HDK.out D h2 h3; subst hDD; obtain ⟨AD, cD, hvD, hiD⟩ := h1; rw [HLEN.out] at hvD; subst hvD; have HID := Lib.hid hiD; have HBA := Lib.hid hb; clear hb h2 h3 hiD))
 obtain ⟨s1, hs1⟩ : ∃ s1, w2.heap.size = s1 := ⟨_, rfl⟩
 have hws : w.heap.size ≤ s1 := by rw [← hs1]; exact HBA.out.size
 have hB1 : Below s1 w2 w2 := Below.refl _ _
 have HM2 := Lib.hid (HMP.out.up HBA.out)
 have HS1 := Lib.hid hs1
 clear hs1
 have hO : Hid (OwnB 71 w2 s1 (.slice none 0 0) (pick0 (S.take 0))) := Lib.hid OwnB.nil
 go_loopg [4, 13] n (fun kx s4 s13 wr => ∃ k : Nat, s13 = .int .i64 k ∧ k ≤ n ∧ n - k ≤ kx ∧ Hid (amtsB (S.take k) = true) ∧ Hid (OwnB 71 wr s1 s4 (pick0 (S.take k))) ∧ Below s1 w2 wr)
 case atStart => exact ⟨0, rfl, by omega, by omega, Lib.hid rfl, hO, hB1⟩
 case round =>
  clear hB1 hO hB
  obtain ⟨k, rfl, hk, hkx, HA, hO, hB⟩ := hrel
  have hsz : s1 ≤ wr.heap.size := by have := hB.size; have := HS1.out; omega
  by_cases hlt : k < n
  ·have hltz : (k : Int) < (n : Int) := by omega
   obtain ⟨bD, offD, rfl, hbD, hcD⟩ := HID.out (by rw [HLEN.out]; omega)
   have hcell := (hB.cell (p := ⟨bD, offD + k, none⟩) (by rw [← HS1.out]; exact hbD)).trans (hcD k (by rw [HLEN.out]; exact hlt))
   rw [HT.out k hlt] at hcell
   obtain ⟨g, r, hv, hz⟩ := HV.out k hlt
   have hwf := HWF.out k hlt
   have htk := pick0_succ (l := S) (k := k) (by rw [HN.out]; exact hlt)
   have hno := fun h => all_false_getD (d := bal0) (p := fun x : Bal => amtB x.amt) (L := S) (k := k) (by rw [HN.out]; exact hlt) h
   have h9 := take_all_getD (d := bal0) (p := fun x : Bal => amtB x.amt) S k (by rw [HN.out]; exact hlt)
   have hln : Hid ((pick0 (S.take k)).length ≤ 100000000) := Lib.hid (by have := pick0_len (l := S.take k); rw [List.length_take] at this; omega)
   generalize S.getD k bal0 = x at *
   obtain ⟨t, z⟩ := x
   dsimp only at hcell hv hz hwf htk hno h9
   have ha := fun w => camount_any g r z w hz
   have HVV := Lib.hid hv
   have HWX := Lib.hid hwf
   have HNo := Lib.hid hno
   have H9 := Lib.hid h9
   have HMR := Lib.hid (HM2.out.up (by rw [HS1.out]; exact hB))
   clear hcD hv hz hwf hno h9
   cases hq : amtB z
   ·rw [hq] at ha
    have E := Lib.hid (HE1.out (HNo.out hq)).1
    have R := Lib.hid (HE1.out (HNo.out hq)).2
    have HAm := Lib.hid ha
    clear ha hq htk
    go_wp2_with (first
     | (at_lookup; refine wpList_mapv_look rfl _ _ _ 73 rfl Try.underlying69 sum_zero sb m f rfl HMR.out t rfl HWX.out ?_; rw [HVV.out])
     | (go_at_call 55; (with_reducible refine (HAm.out _).mono ?_); rintro e w3 ⟨rfl, hb⟩; replace hB := hB.trans (hb.mono hsz); clear hb))
    go_ret2
    exact ⟨_, by rw [E.out]; rfl, by rw [R.out]; exact SlB.nil, HBA.out.trans (hB.mono hws)⟩
   ·rw [hq] at ha
    have HAm := Lib.hid ha
    have HA2 : Hid (amtsB (S.take (k + 1)) = true) := Lib.hid (by show (S.take (k + 1)).all _ = true; rw [H9.out]; show (amtsB (S.take k) && amtB z) = true; rw [HA.out, hq]; rfl)
    clear ha hq
    by_cases h0 : z = 0
    ·rw [if_pos h0] at htk
     have e0 : (z != 0) = false := by simp [h0]
     have HTK := Lib.hid htk
     clear h0 htk
     go_wp2_with (first
      | (at_lookup; refine wpList_mapv_look rfl _ _ _ 73 rfl Try.underlying69 sum_zero sb m f rfl HMR.out t rfl HWX.out ?_; rw [HVV.out])
      | (go_at_call 55; (with_reducible refine (HAm.out _).mono ?_); rintro e w3 ⟨rfl, hb⟩; have hO2 : Hid (OwnB 71 w3 s1 u4 (pick0 (S.take (k + 1)))) := Lib.hid (by (rw [HTK.out]; exact hO.out.up hb)); replace hB := hB.trans (hb.mono hsz); clear hb))
     go_roundg (n - (k + 1))
     case measure => omega
     case rel => exact ⟨k + 1, by go_num, by omega, by omega, HA2, hO2, hB⟩
    ·rw [if_neg h0] at htk
     have e0 : (z != 0) = true := by simp [h0]
     have HTK := Lib.hid htk
     clear h0 htk
     go_wp2_with (first
      | (at_lookup; refine wpList_mapv_look rfl _ _ _ 73 rfl Try.underlying69 sum_zero sb m f rfl HMR.out t rfl HWX.out ?_; rw [HVV.out])
      | (go_at_call 55; (with_reducible refine (HAm.out _).mono ?_); rintro e w3 ⟨rfl, hb⟩; have hO2 : Hid (OwnB 71 w3 s1 u4 (pick0 (S.take k))) := Lib.hid (hO.out.up hb); have hsz3 := hb.size; replace hsz3 := Nat.le_trans hsz hsz3; replace hB := hB.trans (hb.mono hsz); clear hb)
      | (at_builtin; refine wpList_append_bg _ rfl (.tmp 28) (.tmp 32) 36 rfl s1 71 i0 16 Try.underlying36 hi hz1 hz2 hz3 (by omega) u4 _ (by rfl) hO2.out t z _ 1 (by first | rfl | simp) rfl hln.out hsz3 ?_; intro v2 w4 ho2 hb2; replace ho2 := ho2.out; rw [← HTK.out] at ho2; replace ho2 := Lib.hid ho2; replace hB := hB.trans hb2; clear hb2))
     go_roundg (n - (k + 1))
     case measure => omega
     case rel => exact ⟨k + 1, by go_num, by omega, by omega, HA2, ho2, hB⟩
  ·obtain rfl : k = n := by omega
   have hltz : ¬ (k : Int) < (k : Int) := by omega
   have hA := HA.out
   rw [List.take_of_length_le (by rw [HN.out]; omega)] at hA
   obtain ⟨hE, hR⟩ := HE0.out hA
   have ho := hO.out.slb
   rw [List.take_of_length_le (by rw [HN.out]; omega), ← hR] at ho
   have HO := Lib.hid ho
   have E := Lib.hid hE
   clear ho hA hE hR
   go_wp2_with fail
   go_ret2
   exact ⟨_, by rw [E.out]; rfl, HO.out, HBA.out.trans (hB.mono hws)⟩
set_option maxRecDepth 20000 in
set_option maxHeartbeats 3200000 in
theorem cat9_any (nm cur : ByteArray) (A : Option Addr) (c : Nat) (L : List Acc) (B : Option Addr) (d : Nat) (K : List Lnk) (jt : Bool) (code day : Int) (w : World) (hz : AccAt w A L) (hy : LnkAt w B K) (hl : L.length ≤ 1000) (hm : K.length ≤ 1000) :
  Calls Try.prog 13 #[entV nm cur A L.length c B K.length d jt, .int .i64 code, .int .i64 day] w fun e w' => e = .returned (.tuple #[.int .i64 (atV L K code day), .int .i64 (atE L K code day)]) ∧ Below w.heap.size w w' := by
 have hn := eb_new w 25 nm cur A L.length c B K.length d jt
 have hB := below_alloc_new (w := w) (.cells #[.string nm, .string cur, .slice A L.length c, .slice B K.length d, .bool jt] 25)
 have HEB := Lib.hid hn
 have hz2 := hz.up hB
 have hy2 := hy.up hB
 have hf := fun w h => cfind_any A c L code w h hl
 have hu := fun w h => cuntil_any B d K code day w h (by omega)
 have hv := fun w => vd_any day w
 have hE : atE L K code day = if vdB day = true then if (fnd L code).isSome = true then match atO K code day with
  | none => 15
  | some _ => 0
 else 8 else 2 := rfl
 have hV : atV L K code day = if vdB day = true then if (fnd L code).isSome = true then match atO K code day with
  | none => 0
  | some l => l.tgt
 else 0 else 0 := rfl
 have hO := atO_flt (K := K) (code := code) (day := day)
 have hfl := fltL_len (K := K) (code := code) (day := day)
 generalize atE L K code day = re at *
 generalize atV L K code day = rv at *
 generalize fndA L code = fa at *
 generalize L.length = n at *
 generalize fltL code day K = FK at *
 obtain ⟨m, hm2⟩ : ∃ m, K.length = m := ⟨_, rfl⟩
 rw [hm2] at hm HEB hB hz2 hy2 hn hu hfl ⊢
 obtain ⟨c0, c1, c2, c3, c4, lt⟩ := hn
 have HZ := Lib.hid hz2
 have HY := Lib.hid hy2
 have HU := Lib.hid hu
 have HFL := Lib.hid hfl
 clear hm2 hz hy hy2 hz2 hu hfl
 cases hq : vdB day
 ·rw [hq] at hv hE hV
  have HE := Lib.hid hE
  have HV := Lib.hid hV
  have HVd := Lib.hid hv
  clear hv hE hV hq hf hO
  go_enter Try.func13, Try.ntmps13
  go_wp2_with (go_at_call 28; refine (HVd.out _).mono ?_; rintro e w1 ⟨rfl, rfl⟩)
  go_ret2
  exact ⟨by rw [HE.out, HV.out]; rfl, hB⟩
 rw [hq, if_pos rfl] at hE hV
 rw [hq] at hv
 have HVd := Lib.hid hv
 clear hq hv
 cases hfs : (fnd L code).isSome
 ·rw [hfs] at hf hE hV
  have HE := Lib.hid hE
  have HV := Lib.hid hV
  have HF := Lib.hid hf
  clear hE hV hf hfs hO
  go_enter Try.func13, Try.ntmps13
  go_wp2_with (first
   | (go_at_call 28; refine (HVd.out _).mono ?_; rintro e w1 ⟨rfl, rfl⟩)
   | (go_at_call 29; refine (HF.out _ HZ.out).mono ?_; rintro e w2 ⟨rfl, hb⟩; replace hB := below_new (below_more hB hb) (.cells #[.int .i64 fa.code, .int .i64 fa.kind, .int .i64 fa.basis, .int .i64 fa.par] 50); clear hb))
  go_ret2
  exact ⟨by rw [HE.out, HV.out]; rfl, hB⟩
 rw [hfs, if_pos rfl] at hE hV
 rw [hfs] at hf
 have HF := Lib.hid hf
 clear hf hfs
 by_cases h0 : FK.length = 0
 ·rw [if_pos h0] at hO
  rw [hO] at hE hV
  have HE := Lib.hid hE
  have HV := Lib.hid hV
  have e0 : ((FK.length : Int) == 0) = true := by simp [h0]
  clear hO hE hV h0
  go_enter Try.func13, Try.ntmps13
  go_wp2_with (first
   | (go_at_call 28; refine (HVd.out _).mono ?_; rintro e w1 ⟨rfl, rfl⟩)
   | (go_at_call 29; refine (HF.out _ HZ.out).mono ?_; rintro e w2 ⟨rfl, hb⟩; replace HEB := Lib.hid ((HEB.out.up hb).up (below_alloc_new (.cells #[.int .i64 fa.code, .int .i64 fa.kind, .int .i64 fa.basis, .int .i64 fa.par] 50))); replace HY := Lib.hid ((HY.out.up hb).up (below_alloc_new (.cells #[.int .i64 fa.code, .int .i64 fa.kind, .int .i64 fa.basis, .int .i64 fa.par] 50))); replace hB := below_new (below_more hB hb) (.cells #[.int .i64 fa.code, .int .i64 fa.kind, .int .i64 fa.basis, .int .i64 fa.par] 50); clear hb c0 c1 c2 c3 c4 lt; obtain ⟨c0, c1, c2, c3, c4, lt⟩ := HEB.out)
   | (go_at_call 30; refine (HU.out _ HY.out).mono ?_; rintro e w3 ⟨v, rfl, ho, hb⟩; obtain ⟨A3, c3', rfl, hr3⟩ := ho.reads; replace hB := below_more hB hb; clear ho hr3 hb))
  go_ret2
  exact ⟨by rw [HE.out, HV.out]; rfl, hB⟩
 ·rw [if_neg h0] at hO
  rw [hO] at hE hV
  have hE2 : re = 0 := hE
  have hV2 : rv = (mxL FK).tgt := hV
  have HE := Lib.hid hE2
  have HV := Lib.hid hV2
  have e0 : ((FK.length : Int) == 0) = false := by simp; intro h; exact h0 (by rw [h]; rfl)
  have hmx := fun A cp w h => cmax_any A cp FK w h (by omega) (by have := HFL.out; omega)
  obtain ⟨z, hzz⟩ : ∃ z, mxL FK = z := ⟨_, rfl⟩
  rw [hzz] at hmx
  have HZZ := Lib.hid hzz
  have HMX := Lib.hid hmx
  have HFK : Hid (FK.length ≠ 0) := Lib.hid h0
  clear hO hE hV h0 hE2 hV2 hmx hzz
  obtain ⟨k, hk⟩ : ∃ k, FK.length = k := ⟨_, rfl⟩
  rw [hk] at e0 HMX
  have HK := Lib.hid hk
  clear hk
  go_enter Try.func13, Try.ntmps13
  go_wp2_with (first
   | (go_at_call 28; refine (HVd.out _).mono ?_; rintro e w1 ⟨rfl, rfl⟩)
   | (go_at_call 29; refine (HF.out _ HZ.out).mono ?_; rintro e w2 ⟨rfl, hb⟩; replace HEB := Lib.hid ((HEB.out.up hb).up (below_alloc_new (.cells #[.int .i64 fa.code, .int .i64 fa.kind, .int .i64 fa.basis, .int .i64 fa.par] 50))); replace HY := Lib.hid ((HY.out.up hb).up (below_alloc_new (.cells #[.int .i64 fa.code, .int .i64 fa.kind, .int .i64 fa.basis, .int .i64 fa.par] 50))); replace hB := below_new (below_more hB hb) (.cells #[.int .i64 fa.code, .int .i64 fa.kind, .int .i64 fa.basis, .int .i64 fa.par] 50); clear hb c0 c1 c2 c3 c4 lt; obtain ⟨c0, c1, c2, c3, c4, lt⟩ := HEB.out)
   | (go_at_call 30; refine (HU.out _ HY.out).mono ?_; rintro e w3 ⟨v, rfl, ho, hb⟩; obtain ⟨A3, c3', hve, hr3⟩ := ho.reads; rw [HK.out] at hve; subst hve; replace hB := below_more hB hb; have HR3 := Lib.hid hr3; clear ho hr3 hb)
   | (go_at_call 31; refine (HMX.out _ _ _ HR3.out).mono ?_; rintro e w4 ⟨rfl, hb⟩; have HL4 := lb_new w4 46 z; obtain ⟨⟨y0, y1, y2⟩, ylt⟩ := HL4; simp only [Nat.zero_add] at y1 y2; replace hB := below_new (below_more hB hb) (.cells #[.int .i64 z.frm, .int .i64 z.tgt, .int .i64 z.since] 46); clear hb))
  go_ret2
  exact ⟨by rw [HE.out, HV.out, HZZ.out]; rfl, hB⟩
end Go.Proofs.Ytmahnpbjjadipaa
