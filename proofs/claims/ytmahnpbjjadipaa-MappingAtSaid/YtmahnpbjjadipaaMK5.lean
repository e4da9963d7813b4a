/- Contracts of the functions that the statements reach, part 5: what was proved of each, callees first. -/
import Derived.Test.YtmahnpbjjadipaaMK4
namespace Go.Proofs.Ytmahnpbjjadipaa
open Go.RowKit Go.Maps
theorem tosL_take {L : List Acc} {K : List Lnk} {day : Int} {b : List Bal} {k : Nat} (hk : k < b.length) : tosL L K day (b.take (k + 1)) = tosL L K day (b.take k) ++ [⟨atV L K (b.getD k bal0).acct day, (b.getD k bal0).amt⟩] := by
 unfold tosL
 rw [take_succ_getD (d := bal0) hk, List.map_append]; rfl
theorem atV_wf {L : List Acc} {K : List Lnk} {c day : Int} (hw : ∀ l ∈ K, WfL l) (h : atE L K c day = 0) : (Lit.int .i64 (atV L K c day)).wf = true := by
 obtain ⟨a, l, -, hl, hv⟩ := atE_zero h
 rw [hv]
 exact (hw l (atO_mem hl).1).tgt
set_option maxRecDepth 20000 in
set_option maxHeartbeats 3200000 in
theorem cmove9_any (nm cur : ByteArray) (A : Option Addr) (cp : Nat) (L : List Acc) (B : Option Addr) (d : Nat) (K : List Lnk) (jt : Bool) (C : Option Addr) (cb : Nat) (b : List Bal) (day : Int) (w : World) (hz : AccAt w A L) (hy : LnkAt w B K) (hx : BalAt w C b)
  (hl : L.length ≤ 1000) (hm : K.length ≤ 1000) (hbl : b.length ≤ 1000) (hwa : WfC L) (hwl : ∀ l ∈ K, WfL l) (hwb : ∀ x ∈ b, (Lit.int .i64 x.acct).wf = true) :
  Calls Try.prog 18 #[entV nm cur A L.length cp B K.length d jt, .slice C b.length cb, .int .i64 day] w fun e w' => ∃ v, e = .returned (.tuple #[v, .int .i64 (moveE L K day b)]) ∧ SlB w' v (moveL L K day b) ∧ Below w.heap.size w w' := by
 have hn := eb_new w 25 nm cur A L.length cp B K.length d jt
 have hB := below_alloc_new (w := w) (.cells #[.string nm, .string cur, .slice A L.length cp, .slice B K.length d, .bool jt] 25)
 have HEB := Lib.hid hn
 have HZ := Lib.hid (hz.up hB)
 have HY := Lib.hid (hy.up hB)
 have HX := Lib.hid (hx.up hB)
 have h1 := fun w h => carasc9_any C cb b w h (by omega)
 have h2 := fun w h h' => cparts_any nm cur A cp L B d K jt w h h' hl hm hwa hwl
 have h3 := fun (c : Int) (A1 : Option Addr) (cp1 : Nat) (B1 : Option Addr) (d1 : Nat) w h h' => cat9_any ⟨#[]⟩ ⟨#[]⟩ A1 cp1 (accC L c) B1 d1 (lnkC K c) false c day w h h' (Nat.le_trans accC_len hl) (Nat.le_trans lnkC_len hm)
 have h3' : ∀ (c : Int) (A1 : Option Addr) (cp1 : Nat) (B1 : Option Addr) (d1 : Nat) (w : World), AccAt w A1 (accC L c) → LnkAt w B1 (lnkC K c) →
   Calls Try.prog 13 #[entV ⟨#[]⟩ ⟨#[]⟩ A1 (accC L c).length cp1 B1 (lnkC K c).length d1 false, .int .i64 c, .int .i64 day] w fun e w' => e = .returned (.tuple #[.int .i64 (atV L K c day), .int .i64 (atE L K c day)]) ∧ Below w.heap.size w w' := fun c A1 cp1 B1 d1 w h h' => by
  have h9 := h3 c A1 cp1 B1 d1 w h h'
  have e1 := (at_part (L := L) (K := K) (c := c) (day := day)).1
  have e2 := (at_part (L := L) (K := K) (c := c) (day := day)).2
  unfold accC lnkC at h9 ⊢
  rw [e1, e2] at h9
  exact h9
 have hWT := fun c h => atV_wf (L := L) (K := K) (c := c) (day := day) hwl h
 have hN1 : ascB b = false → moveE L K day b = 1 ∧ moveL L K day b = [] := fun h => ⟨moveE_asc h, moveL_bad (by rw [moveE_asc h]; decide)⟩
 have hN2 : ascB b = true → ∀ k, k < b.length → (∀ i, i < k → atE L K (b.getD i bal0).acct day = 0) → atE L K (b.getD k bal0).acct day ≠ 0 → moveE L K day b = atE L K (b.getD k bal0).acct day ∧ moveL L K day b = [] := fun h k hk h1 h2 => by
  have h4 := feE_take hk h1 h2
  have h5 := moveE_at (L := L) (K := K) (day := day) h (by rw [h4]; exact h2)
  rw [h4] at h5
  exact ⟨h5, moveL_bad (by rw [h5]; exact h2)⟩
 have hN3 : ascB b = true → (∀ i, i < b.length → atE L K (b.getD i bal0).acct day = 0) → moveE L K day b = lisE (tosL L K day b) ∧ moveL L K day b = lisL (tosL L K day b) := fun h h1 => by
  have h4 := feE_zero h1
  unfold lisE lisL
  cases hq : amtsB (sumsL (tosL L K day b))
  ·have h5 := moveE_no (L := L) (K := K) (day := day) h h4 hq
   exact ⟨h5, moveL_bad (by rw [h5]; decide)⟩
  ·have h5 := moveE_ok (L := L) (K := K) (day := day) h h4 hq
   exact ⟨h5, moveL_ok h5⟩
 have hamt : ascB b = true → ∀ k, k < b.length → -1000000000000 ≤ (b.getD k bal0).amt ∧ (b.getD k bal0).amt ≤ 1000000000000 := fun h k hk => by
  have h4 := allTo_is.1 h k hk
  unfold ascP at h4
  simp only [Bool.and_eq_true] at h4
  exact amtB_is.1 h4.2
 have hTK := fun k hk => tosL_take (L := L) (K := K) (day := day) (b := b) (k := k) hk
 have hTL : ∀ k, (tosL L K day (b.take k)).length ≤ 1000 := fun k => by unfold tosL; rw [List.length_map, List.length_take]; omega
 have hTE : ∀ k, b.length ≤ k → tosL L K day (b.take k) = tosL L K day b := fun k hk => by rw [List.take_of_length_le hk]
 have hT0 : tosL L K day (b.take 0) = [] := rfl
 have hwx : ∀ k, k < b.length → (Lit.int .i64 (b.getD k bal0).acct).wf = true := fun k hk => hwb _ (getD_mem_acc hk)
 generalize moveE L K day b = re at *
 generalize moveL L K day b = rl at *
 generalize tosL L K day = T at *
 obtain ⟨V, hV⟩ : ∃ V : Int → Int, (fun c => atV L K c day) = V := ⟨_, rfl⟩
 obtain ⟨E, hE⟩ : ∃ E : Int → Int, (fun c => atE L K c day) = E := ⟨_, rfl⟩
 have hVc : ∀ c, atV L K c day = V c := fun c => by rw [← hV]
 have hEc : ∀ c, atE L K c day = E c := fun c => by rw [← hE]
 simp only [hVc, hEc] at h3' hWT hN2 hN3 hTK
 obtain ⟨m, hm2⟩ : ∃ m, b.length = m := ⟨_, rfl⟩
 obtain ⟨n, hn2⟩ : ∃ n, L.length = n := ⟨_, rfl⟩
 obtain ⟨p, hp2⟩ : ∃ p, K.length = p := ⟨_, rfl⟩
 rw [hm2] at h1 hN2 hN3 hamt hTK hTE hwx hbl
 rw [hn2, hp2] at h2 hB HEB HZ HY HX
 rw [hn2, hp2, hm2]
 obtain ⟨s0, hs0⟩ : ∃ s0, w.heap.size = s0 := ⟨_, rfl⟩
 have HS0 := Lib.hid hs0
 have HM := Lib.hid hm2
 have H1 := Lib.hid h1
 have H2 := Lib.hid h2
 have H3 := Lib.hid h3'
 have HWT := Lib.hid hWT
 have HN1 := Lib.hid hN1
 have HN2 := Lib.hid hN2
 have HN3 := Lib.hid hN3
 have HAMT := Lib.hid hamt
 have HTK := Lib.hid hTK
 have HTL := Lib.hid hTL
 have HTE := Lib.hid hTE
 have HT0 := Lib.hid hT0
 have HWX := Lib.hid hwx
 have hmm := @run_makeMap Try.prog
 clear hn hz hy hx h1 h2 h3 h3' hWT hN1 hN2 hN3 hamt hTK hTL hTE hT0 hwx hV hE hVc hEc hm2 hn2 hp2 hs0 hwa hwl hwb hl hm
 cases hq : ascB b
 ·rw [hq] at H1
  have E1 := Lib.hid (HN1.out hq).1
  have R1 := Lib.hid (HN1.out hq).2
  clear hq HN1 HN2 HN3 HAMT
  go_enter Try.func18, Try.ntmps18
  go_wp2_with (go_at_call 36; (with_reducible refine (H1.out _ HX.out).mono ?_); rintro e w1 ⟨rfl, hb⟩; replace hB := below_more hB hb; clear hb)
  go_ret2
  exact ⟨_, by rw [E1.out]; rfl, by rw [R1.out]; exact SlB.nil, hB⟩
 rw [hq] at H1
 have HN2' := Lib.hid (HN2.out hq)
 have HN3' := Lib.hid (HN3.out hq)
 have HAMT' := Lib.hid (HAMT.out hq)
 clear hq HN1 HN2 HN3 HAMT
 obtain ⟨c0, c1, c2, c3, c4, lt⟩ := HEB.out
 go_enter Try.func18, Try.ntmps18
 go_wp2_with (first
  | (go_at_call 36; (with_reducible refine (H1.out _ HX.out).mono ?_); rintro e w1 ⟨rfl, hb⟩; replace HEB := Lib.hid (HEB.out.up hb); replace HZ := Lib.hid (HZ.out.up hb); replace HY := Lib.hid (HY.out.up hb); replace HX := Lib.hid (HX.out.up hb); replace hB := below_more hB hb; clear hb c0 c1 c2 c3 c4 lt; obtain ⟨c0, c1, c2, c3, c4, lt⟩ := HEB.out)
  | (go_at_call 37; (with_reducible refine (H2.out _ HZ.out HY.out).mono ?_); rintro e w3 ⟨mb, base, np, fp, GA, GB, rfl, hpi, hnp, hb⟩; replace HX := Lib.hid (HX.out.up hb); replace hB := below_more hB hb; have HPI := Lib.hid hpi; clear hb hpi c0 c1 c2 c3 c4 lt))
 obtain ⟨s3, hs3⟩ : ∃ s3, w3.heap.size = s3 := ⟨_, rfl⟩
 have hSI := SI.start (MapV.made w3)
 have hB3 : Below s3 w3 (w3.alloc (.map #[] 0)) := by rw [← hs3]; exact below_alloc_new _
 have hws : w.heap.size ≤ s3 := by rw [← hs3]; exact hB.size
 rw [hs3] at hSI ⊢
 rw [← HT0.out] at hSI
 have HSI := Lib.hid hSI
 have HS3 := Lib.hid hs3
 have HBA := Lib.hid hB
 have HXA := Lib.hid HX.out
 clear hSI hs3 hB HX HEB HZ HY H1 H2
 go_loopg [22] m (fun kx s22 wr => ∃ (k n2 : Nat) (f2 : Int → Option Value), s22 = .int .i64 k ∧ k ≤ m ∧ m - k ≤ kx ∧ n2 ≤ k ∧ Hid (∀ i, i < k → E (b.getD i bal0).acct = 0) ∧ Hid (SI wr s3 n2 f2 (T (b.take k))) ∧ Below s3 w3 wr)
 case atStart => exact ⟨0, 0, _, rfl, by omega, by omega, by omega, Lib.hid (fun i h => absurd h (by omega)), HSI, hB3⟩
 case round =>
  clear HSI hB3
  obtain ⟨k, n2, f2, rfl, hk, hkx, hn2, HALL, HSI, hB⟩ := hrel
  have hsz : s3 ≤ wr.heap.size := by have := hB.size; have := HS3.out; omega
  by_cases hlt : k < m
  ·have hltz : (k : Int) < (m : Int) := by omega
   obtain ⟨bb, off, rfl, hbw, hcs⟩ := HXA.out (by rw [HM.out]; omega)
   obtain ⟨p0, p1⟩ := (hcs k (by rw [HM.out]; exact hlt)).up hB (by rw [← HS3.out]; exact hbw)
   have hn2' := HN2'.out k hlt HALL.out
   have htk := HTK.out k hlt
   have hamt := HAMT'.out k hlt
   have hwx := HWX.out k hlt
   obtain ⟨x, hxe⟩ : ∃ x, b.getD k bal0 = x := ⟨_, rfl⟩
   rw [hxe] at p0 p1 hn2' htk hamt hwx
   have hW := below_alloc_new (w := wr) (.cells #[.int .i64 x.acct, .int .i64 x.amt] 71)
   have hB1 : Below s3 w3 (wr.alloc (.cells #[.int .i64 x.acct, .int .i64 x.amt] 71)) := hB.alloc hsz _
   have hPI1 := HPI.out.up (by rw [HS3.out]; exact hB1)
   have hAB := bb_new wr 71 x
   have hSI1 := HSI.out.up hW
   have hval := hPI1.val x.acct
   obtain ⟨A1, cp1, eA, hat1⟩ := (hPI1.fam.a x.acct).reads
   obtain ⟨B1, d1, eB, hlk1⟩ := (hPI1.fam.b x.acct).reads
   rw [eA, eB] at hval
   have h3 := H3.out x.acct A1 cp1 B1 d1 (wr.alloc (.cells #[.int .i64 x.acct, .int .i64 x.amt] 71)) hat1 hlk1
   obtain ⟨n1, hn1⟩ : ∃ n1, (accC L x.acct).length = n1 := ⟨_, rfl⟩
   obtain ⟨m1, hm1⟩ : ∃ m1, (lnkC K x.acct).length = m1 := ⟨_, rfl⟩
   rw [hn1, hm1] at hval h3
   have hwt := HWT.out x.acct
   obtain ⟨te, hte⟩ : ∃ te, V x.acct = te := ⟨_, rfl⟩
   obtain ⟨ee, hee⟩ : ∃ ee, E x.acct = ee := ⟨_, rfl⟩
   rw [hte, hee] at h3 hwt
   rw [hte] at htk
   rw [hee] at hn2'
   have HPM := Lib.hid hPI1.map
   have HVAL := Lib.hid hval
   have HAB := Lib.hid hAB
   have HS1 := Lib.hid hSI1
   have HB1 := Lib.hid hB1
   have H3x := Lib.hid h3
   have HWK := Lib.hid hwx
   have HEE := Lib.hid hee
   have HXE := Lib.hid hxe
   have HSW : Hid (s3 ≤ (wr.alloc (.cells #[.int .i64 x.acct, .int .i64 x.amt] 71)).heap.size) := Lib.hid (by simp; omega)
   obtain ⟨⟨r0, r1⟩, rlt⟩ := HAB.out
   simp only [Nat.zero_add] at r1
   clear hcs hW hB1 hPI1 hAB hSI1 hval eA eB hat1 hlk1 h3 hn1 hm1 hwx hee hte hxe
   by_cases he : ee = 0
   ·have e0 : (ee != 0) = false := by simp [he]
    have HWT1 := Lib.hid (hwt he)
    have HAL2 : Hid (∀ i, i < k + 1 → E (b.getD i bal0).acct = 0) := Lib.hid (fun i hi => by
     rcases Nat.lt_or_ge i k with h9 | h9
     ·exact HALL.out i h9
     ·obtain rfl : i = k := by omega
      rw [HXE.out, HEE.out]; exact he)
    have hPL := HTL.out k
    obtain ⟨g, r, hv, hz, hg⟩ := HS1.out.val te
    have hcp := fun w => cplus_any g r x.amt w (by omega) ⟨hz.lo, hz.hi⟩ hamt
    have HV2 := Lib.hid hv
    have HCP := Lib.hid hcp
    have HT2 := Lib.hid htk
    have HSTEP := Lib.hid (fun w4 hm => HS1.out.step (w4 := w4) hv hz hg hamt HWT1.out hm)
    have hn9 : n2 ≤ 1000000 := by omega
    clear hv hcp hz hg hwt hn2' he htk hPL
    go_wp2_with (first
     | (at_lookup; refine wpList_mapv_look rfl _ _ _ 25 rfl Try.underlying67 ent_zero mb np fp rfl HPM.out x.acct rfl HWK.out ?_; rw [HVAL.out])
     | (at_lookup; refine wpList_mapv_look rfl _ _ _ 73 rfl Try.underlying69 sum_zero s3 n2 f2 rfl HSA.out.map te rfl HWT1.out ?_; rw [HV2.out])
     | (go_at_call 13; (with_reducible refine H3x.out.mono ?_); rintro e w5 ⟨rfl, hb⟩; have HSA := Lib.hid (HS1.out.up hb); obtain ⟨⟨z0, z1⟩, zlt⟩ := HAB.out.up hb; simp only [Nat.zero_add] at z1; have HBT := Lib.hid (HB1.out.trans (hb.mono HSW.out)); have HSZ := Lib.hid (Nat.le_trans HSW.out hb.size); clear hb r0 r1 rlt)
     | (go_at_call 38; (with_reducible refine (HCP.out _).mono ?_); rintro e w6 ⟨rfl, hb⟩; have HSB := Lib.hid (HSA.out.up hb); have HBU := Lib.hid (HBT.out.trans (hb.mono HSZ.out)); have HSY := Lib.hid (Nat.le_trans HSZ.out hb.size); clear hb)
     | (at_mapUpdate; refine wpList_mapv_put rfl _ _ _ _ 73 rfl Try.underlying69 s3 n2 f2 rfl HSB.out.map te rfl (sumV (plusG g r x.amt) (plusR r x.amt)) rfl HWT1.out hn9 ?_; intro w7 hm7 hg7; have hB7 := grown_below HBU.out hg7.out (Nat.le_refl _) HSY.out; clear hg7))
    have HSI7 := Lib.hid (HSTEP.out _ hm7.out)
    rw [← HT2.out] at HSI7
    go_roundg (m - (k + 1))
    case measure => omega
    case rel => exact ⟨k + 1, n2 + 1, _, by go_num, by omega, by omega, by omega, HAL2, HSI7, hB7⟩
   ·have e0 : (ee != 0) = true := by simp [he]
    obtain ⟨h8, h9⟩ := hn2' he
    have E1 := Lib.hid h8
    have R1 := Lib.hid h9
    clear hn2' he htk hwt h8 h9
    go_wp2_with (first
     | (at_lookup; refine wpList_mapv_look rfl _ _ _ 25 rfl Try.underlying67 ent_zero mb np fp rfl HPM.out x.acct rfl HWK.out ?_; rw [HVAL.out])
     | (go_at_call 13; (with_reducible refine H3x.out.mono ?_); rintro e w5 ⟨rfl, hb⟩; have HBT := Lib.hid (HB1.out.trans (hb.mono HSW.out)); clear hb))
    go_ret2
    exact ⟨_, by rw [E1.out]; rfl, by rw [R1.out]; exact SlB.nil, HBA.out.trans (HBT.out.mono hws)⟩
  ·obtain rfl : k = m := by omega
   have hltz : ¬ (k : Int) < (k : Int) := by omega
   obtain ⟨h8, h9⟩ := HN3'.out HALL.out
   have hS := HSI.out
   rw [HTE.out k (Nat.le_refl _)] at hS
   have hPL := HTL.out k
   rw [HTE.out k (Nat.le_refl _)] at hPL
   have hls := clisted_any s3 n2 f2 (T b) wr hS (by omega) hPL
   have HLS := Lib.hid hls
   have E1 := Lib.hid h8
   have R1 := Lib.hid h9
   clear h8 h9 hS hPL hls
   go_wp2_with (go_at_call 39; (with_reducible refine HLS.out.mono ?_); rintro e w8 ⟨v, rfl, hs8, hb⟩; replace hB := hB.trans (hb.mono hsz); have HS8 := Lib.hid hs8; clear hb hs8)
   go_ret2
   exact ⟨_, by rw [E1.out]; rfl, by rw [R1.out]; exact HS8.out, HBA.out.trans (hB.mono hws)⟩
open Go.RowKit
theorem sumsL_amt {P : List Bal} (h : ∀ y ∈ P, amtB y.amt = true) (hp : P.length ≤ 1000) : ∀ y ∈ sumsL P, -1000000000000000 ≤ y.amt ∧ y.amt ≤ 1000000000000000 := by
 intro y hy
 unfold sumsL at hy
 obtain ⟨t, -, rfl⟩ := List.mem_map.1 hy
 have h1 := ofS_bound (c := t) (l := P) h
 have h2 := room_1000 (b := P) hp
 dsimp only
 omega
def rmF (nm cur : ByteArray) (A : Option Addr) (n cp : Nat) (B : Option Addr) (p d : Nat) (jt : Bool) (_s0 bb off m k : Nat) (cb : Nat) (x : Bal) (day te ee : Int) : List (Nat × AS.Fact) := [(24, AS.Fact.is (.agg #[.string nm, .string cur, .slice A n cp, .slice B p d, .bool jt])), (25, AS.Fact.is (.slice (some ⟨bb, off, none⟩) (m : Nat) cb)), (26, AS.Fact.is (.int .i64 (k : Int))), (27, AS.Fact.is (.pointer (some ⟨bb, off + k * 2, none⟩))), (28, AS.Fact.is (.pointer (some ⟨bb, off + k * 2, none⟩))), (29, AS.Fact.is (.int .i64 x.acct)), (30, AS.Fact.is (.int .i64 day)), (31, AS.Fact.is (.tuple #[.int .i64 te, .int .i64 ee])), (23, AS.Fact.is (.tuple #[.int .i64 te, .int .i64 ee])), (32, AS.Fact.is (.int .i64 te)), (33, AS.Fact.is (.int .i64 ee)), (10, AS.Fact.is (.int .i64 te)), (11, AS.Fact.is (.int .i64 ee))]
set_option maxRecDepth 20000 in
set_option maxHeartbeats 6400000 in
theorem rmove9_any (nm cur : ByteArray) (A : Option Addr) (cp : Nat) (L : List Acc) (B : Option Addr) (d : Nat) (K : List Lnk) (jt : Bool) (C : Option Addr) (cb : Nat) (b : List Bal) (day : Int) (w : World) (hz : AccAt w A L) (hy : LnkAt w B K) (hx : BalAt w C b)
  (hl : L.length ≤ 1000) (hm : K.length ≤ 1000) (hbl : b.length ≤ 1000) :
  Calls Try.prog 19 #[entV nm cur A L.length cp B K.length d jt, .slice C b.length cb, .int .i64 day] w fun e w' => ∃ v, e = .returned (.tuple #[v, .int .i64 (moveE L K day b)]) ∧ SlB w' v (moveL L K day b) ∧ Below w.heap.size w w' := by
 have hn := eb_new w 25 nm cur A L.length cp B K.length d jt
 have hB := below_alloc_new (w := w) (.cells #[.string nm, .string cur, .slice A L.length cp, .slice B K.length d, .bool jt] 25)
 have HEB := Lib.hid hn
 have HZ := Lib.hid (hz.up hB)
 have HY := Lib.hid (hy.up hB)
 have HX := Lib.hid (hx.up hB)
 have h1 := fun w h => rasc_any C cb b w h (by omega)
 have h3' := fun (c : Int) w h h' => rat9_any nm cur A cp L B d K jt c day w h h' hl hm
 have hN1 : ascB b = false → moveE L K day b = 1 ∧ moveL L K day b = [] := fun h => ⟨moveE_asc h, moveL_bad (by rw [moveE_asc h]; decide)⟩
 have hN2 : ascB b = true → ∀ k, k < b.length → (∀ i, i < k → atE L K (b.getD i bal0).acct day = 0) → atE L K (b.getD k bal0).acct day ≠ 0 → moveE L K day b = atE L K (b.getD k bal0).acct day ∧ moveL L K day b = [] := fun h k hk h1 h2 => by
  have h4 := feE_take hk h1 h2
  have h5 := moveE_at (L := L) (K := K) (day := day) h (by rw [h4]; exact h2)
  rw [h4] at h5
  exact ⟨h5, moveL_bad (by rw [h5]; exact h2)⟩
 have hN3 : ascB b = true → (∀ i, i < b.length → atE L K (b.getD i bal0).acct day = 0) → (amtsB (sumsL (tosL L K day b)) = false → moveE L K day b = 2 ∧ moveL L K day b = []) ∧ (amtsB (sumsL (tosL L K day b)) = true → moveE L K day b = 0 ∧ moveL L K day b = pick0 (sumsL (tosL L K day b))) := fun h h1 => by
  have h4 := feE_zero h1
  refine ⟨fun hq => ?_, fun hq => ?_⟩
  ·have h5 := moveE_no (L := L) (K := K) (day := day) h h4 hq
   exact ⟨h5, moveL_bad (by rw [h5]; decide)⟩
  ·have h5 := moveE_ok (L := L) (K := K) (day := day) h h4 hq
   exact ⟨h5, moveL_ok h5⟩
 have hamt : ascB b = true → ∀ x ∈ b, amtB x.amt = true := fun h x hx => by
  obtain ⟨k, hk, rfl⟩ := mem_getD_acc (d := bal0) hx
  have h4 := allTo_is.1 h k hk
  unfold ascP at h4
  simp only [Bool.and_eq_true] at h4
  exact h4.2
 have hTK := fun k hk => tosL_take (L := L) (K := K) (day := day) (b := b) (k := k) hk
 have hTL : ∀ k, (tosL L K day (b.take k)).length ≤ 1000 := fun k => by unfold tosL; rw [List.length_map, List.length_take]; omega
 have hTE : ∀ k, b.length ≤ k → tosL L K day (b.take k) = tosL L K day b := fun k hk => by rw [List.take_of_length_le hk]
 have hT0 : sumsL (tosL L K day (b.take 0)) = [] := rfl
 have hTM : ascB b = true → ∀ k, ∀ y ∈ sumsL (tosL L K day (b.take k)), -1000000000000000 ≤ y.amt ∧ y.amt ≤ 1000000000000000 := fun h k => sumsL_amt (fun y hy => by
  unfold tosL at hy
  obtain ⟨x, hx, rfl⟩ := List.mem_map.1 hy
  exact hamt h x (List.mem_of_mem_take hx)) (hTL k)
 have hxa : ascB b = true → ∀ k, k < b.length → -1000000000000 ≤ (b.getD k bal0).amt ∧ (b.getD k bal0).amt ≤ 1000000000000 := fun h k hk => amtB_is.1 (hamt h _ (getD_mem_acc hk))
 generalize moveE L K day b = re at *
 generalize moveL L K day b = rl at *
 generalize tosL L K day = T at *
 obtain ⟨V, hV⟩ : ∃ V : Int → Int, (fun c => atV L K c day) = V := ⟨_, rfl⟩
 obtain ⟨E, hE⟩ : ∃ E : Int → Int, (fun c => atE L K c day) = E := ⟨_, rfl⟩
 have hVc : ∀ c, atV L K c day = V c := fun c => by rw [← hV]
 have hEc : ∀ c, atE L K c day = E c := fun c => by rw [← hE]
 simp only [hVc, hEc] at h3' hN2 hN3 hTK
 obtain ⟨m, hm2⟩ : ∃ m, b.length = m := ⟨_, rfl⟩
 obtain ⟨n, hn2⟩ : ∃ n, L.length = n := ⟨_, rfl⟩
 obtain ⟨p, hp2⟩ : ∃ p, K.length = p := ⟨_, rfl⟩
 rw [hm2] at h1 hN2 hN3 hTK hTE hxa hbl
 rw [hn2, hp2] at h3' hB HEB HZ HY HX
 rw [hn2, hp2, hm2]
 obtain ⟨s0, hs0⟩ : ∃ s0, w.heap.size = s0 := ⟨_, rfl⟩
 have HS0 := Lib.hid hs0
 have HM := Lib.hid hm2
 have H1 := Lib.hid h1
 have H3 := Lib.hid h3'
 have HN1 := Lib.hid hN1
 have HN2 := Lib.hid hN2
 have HN3 := Lib.hid hN3
 have HTK := Lib.hid hTK
 have HTL := Lib.hid hTL
 have HTE := Lib.hid hTE
 have HT0 := Lib.hid hT0
 have HTM := Lib.hid hTM
 have HXA := Lib.hid hxa
 clear hn hz hy hx h1 h3' hN1 hN2 hN3 hamt hTK hTL hTE hT0 hTM hxa hV hE hVc hEc hm2 hn2 hp2 hs0 hl hm
 cases hq : ascB b
 ·rw [hq] at H1
  have E1 := Lib.hid (HN1.out hq).1
  have R1 := Lib.hid (HN1.out hq).2
  clear hq HN1 HN2 HN3 HTM HXA
  go_enter Try.func19, Try.ntmps19
  go_wp2_with (go_at_call 40; (with_reducible refine (H1.out _ HX.out).mono ?_); rintro e w1 ⟨rfl, hb⟩; replace hB := below_more hB hb; clear hb)
  go_ret2
  exact ⟨_, by rw [E1.out]; rfl, by rw [R1.out]; exact SlB.nil, hB⟩
 rw [hq] at H1
 have HN2' := Lib.hid (HN2.out hq)
 have HN3' := Lib.hid (HN3.out hq)
 have HTM' := Lib.hid (HTM.out hq)
 have HXA' := Lib.hid (HXA.out hq)
 obtain ⟨i0, hi, hz1, hz2, hz3⟩ := info_parts infoI_bal
 clear hq HN1 HN2 HN3 HTM HXA
 go_enter Try.func19, Try.ntmps19
 go_wp2_with (go_at_call 40; (with_reducible refine (H1.out _ HX.out).mono ?_); rintro e w1 ⟨rfl, hb⟩; replace HEB := Lib.hid (HEB.out.up hb); replace HZ := Lib.hid (HZ.out.up hb); replace HY := Lib.hid (HY.out.up hb); replace HX := Lib.hid (HX.out.up hb); replace hB := below_more hB hb; clear hb)
 obtain ⟨s1, hs1⟩ : ∃ s1, w1.heap.size = s1 := ⟨_, rfl⟩
 have hws : w.heap.size ≤ s1 := by rw [← hs1]; exact hB.size
 have HS1 := Lib.hid hs1
 have HBA := Lib.hid hB
 have hO : Hid (OwnB 71 w1 s1 (.slice none 0 0) (sumsL (T (b.take 0)))) := Lib.hid (by rw [HT0.out]; exact OwnB.nil)
 have hB1 : Below s1 w1 w1 := Below.refl _ _
 rw [HS0.out] at HEB ⊢
 have HEB1 := Lib.hid HEB.out
 have HZ1 := Lib.hid HZ.out
 have HY1 := Lib.hid HY.out
 have HX1 := Lib.hid HX.out
 clear hB hs1 H1 HEB HZ HY HX
 try clear HEB HZ HY HX
 go_loopg [8, 9] m (fun kx s8 s9 wr => ∃ k : Nat, s9 = .int .i64 k ∧ k ≤ m ∧ m - k ≤ kx ∧ Hid (OwnB 71 wr s1 s8 (sumsL (T (b.take k)))) ∧ Hid (∀ i, i < k → E (b.getD i bal0).acct = 0) ∧ Below s1 w1 wr)
 case atStart => exact ⟨0, rfl, by omega, by omega, hO, Lib.hid (fun i h => absurd h (by omega)), hB1⟩
 case round =>
  clear hO hB1
  obtain ⟨k, rfl, hk, hkx, HO, HALL, hB⟩ := hrel
  have hBs : Below w1.heap.size w1 wr := by rw [HS1.out]; exact hB
  have hsz : s1 ≤ wr.heap.size := by have := hB.size; have := HS1.out; omega
  by_cases hlt : k < m
  ·have hltz : (k : Int) < (m : Int) := by omega
   have HEB := Lib.hid (HEB1.out.up hBs)
   have HZ := Lib.hid (HZ1.out.up hBs)
   have HY := Lib.hid (HY1.out.up hBs)
   obtain ⟨bb, off, rfl, hbw, hcs⟩ := HX1.out (by rw [HM.out]; omega)
   obtain ⟨p0, p1⟩ := (hcs k (by rw [HM.out]; exact hlt)).up hBs hbw
   have hn2' := HN2'.out k hlt HALL.out
   have htk := HTK.out k hlt
   have hxa := HXA'.out k hlt
   have htm := HTM'.out k
   have htl := HTL.out k
   obtain ⟨x, hxe⟩ : ∃ x, b.getD k bal0 = x := ⟨_, rfl⟩
   rw [hxe] at p0 p1 hn2' htk hxa
   have h3 := H3.out x.acct wr HZ.out HY.out
   obtain ⟨te, hte⟩ : ∃ te, V x.acct = te := ⟨_, rfl⟩
   obtain ⟨ee, hee⟩ : ∃ ee, E x.acct = ee := ⟨_, rfl⟩
   rw [hte, hee] at h3
   rw [hte] at htk
   rw [hee] at hn2'
   have hR : ∀ j, j ≤ (sumsL (T (b.take k))).length → (∀ i, i < j → ((sumsL (T (b.take k))).getD i bal0).acct < te) → (j < (sumsL (T (b.take k))).length → te ≤ ((sumsL (T (b.take k))).getD j bal0).acct) →
     sumsL (T (b.take (k + 1))) = if j < (sumsL (T (b.take k))).length ∧ ((sumsL (T (b.take k))).getD j bal0).acct = te then (sumsL (T (b.take k))).set j ⟨te, ((sumsL (T (b.take k))).getD j bal0).amt + x.amt⟩ else (sumsL (T (b.take k))).take j ++ ⟨te, x.amt⟩ :: (sumsL (T (b.take k))).drop j := fun j h1 h2 h3 => by
    rw [htk]; exact sumsL_snoc (x := ⟨te, x.amt⟩) h1 h2 h3
   have hSl : (sumsL (T (b.take k))).length ≤ 1000 := Nat.le_trans sumsL_len htl
   obtain ⟨S, hS⟩ : ∃ S, sumsL (T (b.take k)) = S := ⟨_, rfl⟩
   obtain ⟨S2, hS2⟩ : ∃ S2, sumsL (T (b.take (k + 1))) = S2 := ⟨_, rfl⟩
   rw [hS] at hR hSl htm HO
   rw [hS2] at hR
   have hput := fun v w h h' => rput9_any s1 v S ⟨te, x.amt⟩ w h h' hSl (fun y hy => by have := htm y hy; dsimp only; omega) S2 hR
   have HPUT := Lib.hid hput
   have HS2 := Lib.hid hS2
   have H3x := Lib.hid (fun w h h' => H3.out x.acct w h h')
   rw [hte, hee] at H3x
   have HEE := Lib.hid hee
   have HXE := Lib.hid hxe
   have HB2 := Lib.hid ((hcs k (by rw [HM.out]; exact hlt)).up hBs hbw)
   rw [hxe] at HB2
   have hbW : bb < wr.heap.size := Nat.lt_of_lt_of_le hbw hBs.size
   clear hcs h3 hte hee hxe htk htm hxa htl hR hSl hput hS hS2
   go_wp2_with fail
   refine AS.region_facts (rmF nm cur A n cp B p d jt s0 bb off m k cb x day te ee) (HNo wr) [[], [], [], [25, 26], [27], [28], [], [24, 29, 30], [31], [23], [23], [32], [33]] [] [[]] [0, 0, 0, 0, 0, 0, 0, 0, 0, 0, 0, 0, 0] [] (fun u => by simp only [rmF, AS.temps, List.map_cons, List.map_nil, fillL, List.setIfInBounds_toArray, List.set_cons_zero, List.set_cons_succ]; rfl) (by kernel_rfl) (by kernel_rfl) (HNo.st wr) (dc_drew (Below.refl _ _)) ?_ ?_
   ·refine AS.sc rfl rfl rfl ?_ ?_
    ·intro k_ u w_ hk_ hJ hF K hK
     clear hF
     obtain ⟨c0, c1, c2, c3, c4, lt⟩ := HEB.out.up (hJ : Below wr.heap.size wr w_)
     go_simp
     exact hK.out _ _ (Below.refl _ _) (rfl) trivial
    refine AS.sc rfl rfl rfl ?_ ?_
    ·intro k_ u w_ hk_ hJ hF K hK
     clear hF
     go_simp
     exact hK.out _ _ (Below.refl _ _) (rfl) trivial
    refine AS.sc rfl rfl rfl ?_ ?_
    ·intro k_ u w_ hk_ hJ hF K hK
     clear hF
     go_simp
     exact hK.out _ _ (Below.refl _ _) (rfl) trivial
    refine AS.sc rfl rfl rfl ?_ ?_
    ·intro k_ u w_ hk_ hJ hF K hK
     have h25 : u 25 = .slice (some ⟨bb, off, none⟩) (m : Nat) cb := AS.facts_get hF 25 (by simp)
     have h26 : u 26 = .int .i64 (k : Int) := AS.facts_get hF 26 (by simp)
     clear hF
     simp only [h25, h26] at hK ⊢
     clear h25 h26
     go_simp
     exact hK.out _ _ (Below.refl _ _) (rfl) trivial
    refine AS.sc rfl rfl rfl ?_ ?_
    ·intro k_ u w_ hk_ hJ hF K hK
     have h27 : u 27 = .pointer (some ⟨bb, off + k * 2, none⟩) := AS.facts_get hF 27 (by simp)
     clear hF
     simp only [h27] at hK ⊢
     clear h27
     go_simp
     exact hK.out _ _ (Below.refl _ _) (rfl) trivial
    refine AS.sc rfl rfl rfl ?_ ?_
    ·intro k_ u w_ hk_ hJ hF K hK
     have h28 : u 28 = .pointer (some ⟨bb, off + k * 2, none⟩) := AS.facts_get hF 28 (by simp)
     clear hF
     simp only [h28] at hK ⊢
     clear h28
     obtain ⟨p0, p1⟩ := HB2.out.up (hJ : Below wr.heap.size wr w_) hbW
     go_simp
     exact hK.out _ _ (Below.refl _ _) (rfl) trivial
    refine AS.sc rfl rfl rfl ?_ ?_
    ·intro k_ u w_ hk_ hJ hF K hK
     clear hF
     go_simp
     exact hK.out _ _ (Below.refl _ _) (rfl) trivial
    refine AS.sc rfl rfl rfl ?_ ?_
    ·intro k_ u w_ hk_ hJ hF K hK
     have h24 : u 24 = .agg #[.string nm, .string cur, .slice A n cp, .slice B p d, .bool jt] := AS.facts_get hF 24 (by simp)
     have h29 : u 29 = .int .i64 x.acct := AS.facts_get hF 29 (by simp)
     have h30 : u 30 = .int .i64 day := AS.facts_get hF 30 (by simp)
     clear hF
     simp only [h24, h29, h30] at hK ⊢
     clear h24 h29 h30
     have hz9 := HZ.out.up (hJ : Below wr.heap.size wr w_)
     have hy9 := HY.out.up (hJ : Below wr.heap.size wr w_)
     go_simp
     refine (H3x.out _ hz9 hy9).mono ?_
     rintro e w3 ⟨rfl, hb⟩
     exact hK.out _ _ hb (rfl) trivial
    refine AS.sc rfl rfl rfl ?_ ?_
    ·intro k_ u w_ hk_ hJ hF K hK
     have h31 : u 31 = .tuple #[.int .i64 te, .int .i64 ee] := AS.facts_get hF 31 (by simp)
     clear hF
     simp only [h31] at hK ⊢
     clear h31
     go_simp
     exact hK.out _ _ (Below.refl _ _) (rfl) trivial
    refine AS.sc rfl rfl rfl ?_ ?_
    ·intro k_ u w_ hk_ hJ hF K hK
     have h23 : u 23 = .tuple #[.int .i64 te, .int .i64 ee] := AS.facts_get hF 23 (by simp)
     clear hF
     simp only [h23] at hK ⊢
     clear h23
     go_simp
     exact hK.out _ _ (Below.refl _ _) (rfl) trivial
    refine AS.sc rfl rfl rfl ?_ ?_
    ·intro k_ u w_ hk_ hJ hF K hK
     have h23 : u 23 = .tuple #[.int .i64 te, .int .i64 ee] := AS.facts_get hF 23 (by simp)
     clear hF
     simp only [h23] at hK ⊢
     clear h23
     go_simp
     exact hK.out _ _ (Below.refl _ _) (rfl) trivial
    refine AS.sc rfl rfl rfl ?_ ?_
    ·intro k_ u w_ hk_ hJ hF K hK
     have h32 : u 32 = .int .i64 te := AS.facts_get hF 32 (by simp)
     clear hF
     simp only [h32] at hK ⊢
     clear h32
     go_simp
     exact hK.out _ _ (Below.refl _ _) (rfl) trivial
    refine AS.sc rfl rfl rfl ?_ ?_
    ·intro k_ u w_ hk_ hJ hF K hK
     have h33 : u 33 = .int .i64 ee := AS.facts_get hF 33 (by simp)
     clear hF
     simp only [h33] at hK ⊢
     clear h33
     go_simp
     exact hK.out _ _ (Below.refl _ _) (rfl) trivial
    exact AS.StepsOk.nil
   ·intro u W9 hJ9 hF
    have h10 : u 10 = .int .i64 te := AS.facts_get hF 10 (by simp [rmF, AS.temps])
    have h11 : u 11 = .int .i64 ee := AS.facts_get hF 11 (by simp [rmF, AS.temps])
    have hB9 : Below wr.heap.size wr W9 := hJ9
    clear hF hJ9
    have HO5 := Lib.hid (HO.out.up hB9)
    have HB5 := Lib.hid (hB.trans (hB9.mono hsz))
    have HZ5 := Lib.hid (Nat.le_trans hsz hB9.size)
    have p5 : W9.cell? ⟨bb, off + k * 2 + 1, none⟩ = some (.int .i64 x.amt) := (HB2.out.up hB9 hbW).c1
    have hlz : bb < W9.heap.size := World.block_lt_of_cell? W9 _ p5
    simp only [h10, h11]
    clear h10 h11 hB9
    by_cases he : ee = 0
    ·have e0 : (ee != 0) = false := by simp [he]
     have HAL2 : Hid (∀ i, i < k + 1 → E (b.getD i bal0).acct = 0) := Lib.hid (fun i hi => by
      rcases Nat.lt_or_ge i k with h9 | h9
      ·exact HALL.out i h9
      ·obtain rfl : i = k := by omega
       rw [HXE.out, HEE.out]; exact he)
     clear he hn2'
     go_wp2_with (go_at_call 41; (with_reducible refine (HPUT.out _ _ HO5.out HZ5.out).mono ?_); rintro e w6 ⟨v6, rfl, ho6, hb⟩; have HO6 := Lib.hid ho6; rw [← HS2.out] at HO6; have hB6 := HB5.out.trans hb; clear hb ho6)
     go_roundg (m - (k + 1))
     case measure => omega
     case rel => exact ⟨k + 1, by go_num, by omega, by omega, HO6, HAL2, hB6⟩
    ·have e0 : (ee != 0) = true := by simp [he]
     obtain ⟨h8, h9⟩ := hn2' he
     have E1 := Lib.hid h8
     have R1 := Lib.hid h9
     clear hn2' he h8 h9
     go_wp2_with fail
     go_ret2
     exact ⟨_, by rw [E1.out]; rfl, by rw [R1.out]; exact SlB.nil, by first | exact HBA.out.trans (HB5.out.mono hws) | (rw [← HS0.out]; exact HBA.out.trans (HB5.out.mono hws))⟩
  ·obtain rfl : k = m := by omega
   have hltz : ¬ (k : Int) < (k : Int) := by omega
   obtain ⟨hE1, hE0⟩ := HN3'.out HALL.out
   have ho := HO.out
   rw [HTE.out k (Nat.le_refl _)] at ho
   have hsl : (sumsL (T b)).length ≤ 1000 := by have := HTL.out k; rw [HTE.out k (Nat.le_refl _)] at this; exact Nat.le_trans sumsL_len this
   obtain ⟨S, hS⟩ : ∃ S, sumsL (T b) = S := ⟨_, rfl⟩
   rw [hS] at ho hE1 hE0 hsl
   obtain ⟨A8, c8, e8, hat⟩ := ho.slb
   obtain ⟨q, hq⟩ : ∃ q, S.length = q := ⟨_, rfl⟩
   rw [hq] at e8 hsl
   subst e8
   have HE1 := Lib.hid hE1
   have HE0 := Lib.hid hE0
   have HAT := Lib.hid hat
   have HN := Lib.hid hq
   have HB0 : Hid (Below w.heap.size w wr) := Lib.hid (HBA.out.trans (hB.mono hws))
   clear hE1 hE0 ho hS hat hq HO
   go_wp2_with fail
   obtain ⟨s2, hs2⟩ : ∃ s2, wr.heap.size = s2 := ⟨_, rfl⟩
   have hws2 : w.heap.size ≤ s2 := by rw [← hs2]; exact HB0.out.size
   have HS2 := Lib.hid hs2
   have hB2 : Below s2 wr wr := Below.refl _ _
   have hO2 : Hid (OwnB 71 wr s2 (.slice none 0 0) (pick0 (S.take 0))) := Lib.hid OwnB.nil
   clear hs2 hB
   go_loopg [12, 13] q (fun jx s12 s13 W => ∃ j : Nat, s13 = .int .i64 j ∧ j ≤ q ∧ q - j ≤ jx ∧ Hid (amtsB (S.take j) = true) ∧ Hid (OwnB 71 W s2 s12 (pick0 (S.take j))) ∧ Below s2 wr W)
   case atStart => exact ⟨0, rfl, by omega, by omega, Lib.hid rfl, hO2, hB2⟩
   case round =>
    clear hB2 hO2
    rename World => W
    obtain ⟨j, rfl, hj, hjx, HA, hO, hB⟩ := hrel
    have hsz2 : s2 ≤ W.heap.size := by have := hB.size; have := HS2.out; omega
    by_cases hjq : j < q
    ·have hjz : (j : Int) < (q : Int) := by omega
     obtain ⟨b9, off9, rfl, hb9, hc9⟩ := HAT.out (by rw [HN.out]; omega)
     obtain ⟨p0, p1⟩ := (hc9 j (by rw [HN.out]; exact hjq)).up hB (by rw [← HS2.out]; exact hb9)
     have htk := pick0_succ (l := S) (k := j) (by rw [HN.out]; exact hjq)
     have hno := fun h => all_false_getD (d := bal0) (p := fun x : Bal => amtB x.amt) (L := S) (k := j) (by rw [HN.out]; exact hjq) h
     have h9 := take_all_getD (d := bal0) (p := fun x : Bal => amtB x.amt) S j (by rw [HN.out]; exact hjq)
     have hln : Hid ((pick0 (S.take j)).length ≤ 100000000) := Lib.hid (by have := pick0_len (l := S.take j); rw [List.length_take] at this; omega)
     generalize S.getD j bal0 = x at *
     obtain ⟨t, z⟩ := x
     dsimp only at p0 p1 htk hno h9
     have ha := fun w => ramt_any z w
     have HNo := Lib.hid hno
     have H9 := Lib.hid h9
     clear hc9 hno h9
     cases hq : amtB z
     ·rw [hq] at ha
      have E1 := Lib.hid (HE1.out (HNo.out hq)).1
      have R1 := Lib.hid (HE1.out (HNo.out hq)).2
      have HAm := Lib.hid ha
      clear ha hq htk
      go_wp2_with (go_at_call 42; (with_reducible refine (HAm.out _).mono ?_); rintro e w3 ⟨rfl, rfl⟩)
      go_ret2
      exact ⟨_, by rw [E1.out]; rfl, by rw [R1.out]; exact SlB.nil, by first | exact HB0.out.trans (hB.mono hws2) | (rw [← HS0.out]; exact HB0.out.trans (hB.mono hws2))⟩
     ·rw [hq] at ha
      have HAm := Lib.hid ha
      have HA2 : Hid (amtsB (S.take (j + 1)) = true) := Lib.hid (by show (S.take (j + 1)).all _ = true; rw [H9.out]; show (amtsB (S.take j) && amtB z) = true; rw [HA.out, hq]; rfl)
      clear ha hq
      by_cases h0 : z = 0
      ·rw [if_pos h0] at htk
       have e0 : (z != 0) = false := by simp [h0]
       have hO2 : Hid (OwnB 71 W s2 u12 (pick0 (S.take (j + 1)))) := Lib.hid (by rw [htk]; exact hO.out)
       clear h0 htk
       go_wp2_with (go_at_call 42; (with_reducible refine (HAm.out _).mono ?_); rintro e w3 ⟨rfl, rfl⟩)
       go_roundg (q - (j + 1))
       case measure => omega
       case rel => exact ⟨j + 1, by go_num, by omega, by omega, HA2, hO2, hB⟩
      ·rw [if_neg h0] at htk
       have e0 : (z != 0) = true := by simp [h0]
       have HTK2 := Lib.hid htk
       clear h0 htk
       go_wp2_with (first
        | (go_at_call 42; (with_reducible refine (HAm.out _).mono ?_); rintro e w3 ⟨rfl, rfl⟩)
        | (at_builtin; refine wpList_append_bg _ rfl (.tmp 64) (.tmp 69) 36 rfl s2 71 i0 16 Try.underlying36 hi hz1 hz2 hz3 (by omega) u12 _ (by rfl) hO.out t z _ 1 (by first | rfl | simp) rfl hln.out hsz2 ?_; intro v2 w4 ho2 hb2; replace ho2 := ho2.out; rw [← HTK2.out] at ho2; replace ho2 := Lib.hid ho2; replace hB := hB.trans hb2; clear hb2))
       go_roundg (q - (j + 1))
       case measure => omega
       case rel => exact ⟨j + 1, by go_num, by omega, by omega, HA2, ho2, hB⟩
    ·obtain rfl : j = q := by omega
     have hjz : ¬ (j : Int) < (j : Int) := by omega
     have hA := HA.out
     rw [List.take_of_length_le (by rw [HN.out]; omega)] at hA
     obtain ⟨hE, hR⟩ := HE0.out hA
     have ho := hO.out.slb
     rw [List.take_of_length_le (by rw [HN.out]; omega), ← hR] at ho
     have HO9 := Lib.hid ho
     have E1 := Lib.hid hE
     clear ho hA hE hR
     go_wp2_with fail
     go_ret2
     exact ⟨_, by rw [E1.out]; rfl, HO9.out, by first | exact HB0.out.trans (hB.mono hws2) | (rw [← HS0.out]; exact HB0.out.trans (hB.mono hws2))⟩
abbrev mexA : List Acc := [⟨100, 1, 0, 0⟩]
abbrev mexK : List Lnk := [⟨100, 1000, 0⟩, ⟨100, 1100, 50⟩]
theorem mex_v1 : atV mexA mexK 100 49 = 1000 := by kernel_rfl
theorem mex_e1 : atE mexA mexK 100 49 = 0 := by kernel_rfl
theorem mex_v2 : atV mexA mexK 100 (-1) = 0 := by kernel_rfl
theorem mex_e2 : atE mexA mexK 100 (-1) = 15 := by kernel_rfl
theorem mexA_at (w : World) (t : TypeId) : AccAt (w.alloc (.cells #[.int .i64 100, .int .i64 1, .int .i64 0, .int .i64 0] t)) (some ⟨w.heap.size, 0, none⟩) mexA := fun _ => by
 refine ⟨w.heap.size, 0, rfl, by simp, fun i hi => ?_⟩
 match i, hi with
 | 0, _ => constructor <;> (simp only [World.cell?]; rw [heap_alloc_new]; rfl)
theorem mexK_at (w : World) (t : TypeId) : LnkAt (w.alloc (.cells #[.int .i64 100, .int .i64 1000, .int .i64 0, .int .i64 100, .int .i64 1100, .int .i64 50] t)) (some ⟨w.heap.size, 0, none⟩) mexK := fun _ => by
 refine ⟨w.heap.size, 0, rfl, by simp, fun i hi => ?_⟩
 match i, hi with
 | 0, _ => constructor <;> (simp only [World.cell?]; rw [heap_alloc_new]; rfl)
 | 1, _ => constructor <;> (simp only [World.cell?]; rw [heap_alloc_new]; rfl)
set_option maxRecDepth 20000 in
set_option maxHeartbeats 1600000 in
theorem mpawake_any (w : World) : Calls Try.prog 9 #[] w fun e w' => e = .returned (.bool true) ∧ Below w.heap.size w w' := by
 have hz := mexA_at w 50
 have hB1 := below_alloc_new (w := w) (.cells #[.int .i64 100, .int .i64 1, .int .i64 0, .int .i64 0] 50)
 have hy := mexK_at (w.alloc (.cells #[.int .i64 100, .int .i64 1, .int .i64 0, .int .i64 0] 50)) 46
 have e1 : (w.alloc (.cells #[.int .i64 100, .int .i64 1, .int .i64 0, .int .i64 0] 50)).heap.size = w.heap.size + 1 := by simp
 rw [e1] at hy
 have hB2 := below_new hB1 (.cells #[.int .i64 100, .int .i64 1000, .int .i64 0, .int .i64 100, .int .i64 1100, .int .i64 50] 46)
 have hz2 := hz.up (below_alloc_new (.cells #[.int .i64 100, .int .i64 1000, .int .i64 0, .int .i64 100, .int .i64 1100, .int .i64 50] 46))
 have e2 : ((w.alloc (.cells #[.int .i64 100, .int .i64 1, .int .i64 0, .int .i64 0] 50)).alloc (.cells #[.int .i64 100, .int .i64 1000, .int .i64 0, .int .i64 100, .int .i64 1100, .int .i64 50] 46)).heap.size = w.heap.size + 2 := by simp
 have hE := eb_new ((w.alloc (.cells #[.int .i64 100, .int .i64 1, .int .i64 0, .int .i64 0] 50)).alloc (.cells #[.int .i64 100, .int .i64 1000, .int .i64 0, .int .i64 100, .int .i64 1100, .int .i64 50] 46)) 25 ⟨#[]⟩ ⟨#[]⟩ (some ⟨w.heap.size, 0, none⟩) 1 1 (some ⟨w.heap.size + 1, 0, none⟩) 2 2 false
 rw [e2] at hE
 have hup := below_alloc_new (w := (w.alloc (.cells #[.int .i64 100, .int .i64 1, .int .i64 0, .int .i64 0] 50)).alloc (.cells #[.int .i64 100, .int .i64 1000, .int .i64 0, .int .i64 100, .int .i64 1100, .int .i64 50] 46)) (.cells #[.string ⟨#[]⟩, .string ⟨#[]⟩, .slice (some ⟨w.heap.size, 0, none⟩) 1 1, .slice (some ⟨w.heap.size + 1, 0, none⟩) 2 2, .bool false] 25)
 have hB := below_more hB2 hup
 have HZ := Lib.hid (hz2.up hup)
 have HY := Lib.hid (hy.up hup)
 have HE := Lib.hid hE
 have h1 := fun w9 h h' => cat9_any ⟨#[]⟩ ⟨#[]⟩ (some ⟨w.heap.size, 0, none⟩) 1 mexA (some ⟨w.heap.size + 1, 0, none⟩) 2 mexK false 100 49 w9 h h' (by decide) (by decide)
 have h2 := fun w9 h h' => cat9_any ⟨#[]⟩ ⟨#[]⟩ (some ⟨w.heap.size, 0, none⟩) 1 mexA (some ⟨w.heap.size + 1, 0, none⟩) 2 mexK false 100 (-1) w9 h h' (by decide) (by decide)
 have hl1 : mexA.length = 1 := rfl
 have hl2 : mexK.length = 2 := rfl
 rw [mex_v1, mex_e1, hl1, hl2] at h1
 rw [mex_v2, mex_e2, hl1, hl2] at h2
 have H1 := Lib.hid h1
 have H2 := Lib.hid h2
 clear hz hB1 hy e1 hB2 hz2 e2 hE hup h1 h2 hl1 hl2
 obtain ⟨c0, c1, c2, c3, c4, lt⟩ := HE.out
 go_enter Try.func9, Try.ntmps9
 go_wp2_with (go_at_call 13; first
  | ((with_reducible refine (H1.out _ HZ.out HY.out).mono ?_); rintro e w1 ⟨rfl, hb⟩; replace HZ := Lib.hid (HZ.out.up hb); replace HY := Lib.hid (HY.out.up hb); replace HE := Lib.hid (HE.out.up hb); replace hB := below_more hB hb; clear hb c0 c1 c2 c3 c4 lt; obtain ⟨c0, c1, c2, c3, c4, lt⟩ := HE.out)
  | ((with_reducible refine (H2.out _ HZ.out HY.out).mono ?_); rintro e w1 ⟨rfl, hb⟩; replace hB := below_more hB hb; clear hb c0 c1 c2 c3 c4 lt))
 go_ret
 exact ⟨rfl, hB⟩
theorem fewB_is {nm cur : ByteArray} {n m : Nat} (h : fewB nm cur n m = true) : n ≤ 60 ∧ m ≤ 60 := by
 unfold fewB at h
 simp only [Bool.and_eq_true, decide_eq_true_eq] at h
 exact ⟨h.1, h.2.1⟩
def mvF1 (nm cur : ByteArray) (A : Option Addr) (n c : Nat) (B : Option Addr) (m d : Nat) (jt : Bool) (_C : Option Addr) (_k _cc _s0 : Nat) (_q : Bool) : List (Nat × AS.Fact) := [(7, AS.Fact.is (.agg #[.string nm, .string cur, .slice A n c, .slice B m d, .bool jt])), (8, AS.Fact.is (.bool false)), (9, AS.Fact.is (.bool true)), (10, AS.Fact.is (.bool true)), (11, AS.Fact.is (undef)), (12, AS.Fact.is (undef)), (13, AS.Fact.is (undef)), (14, AS.Fact.is (.bool true)), (15, AS.Fact.is (.bool true)), (16, AS.Fact.is (undef)), (17, AS.Fact.is (undef)), (18, AS.Fact.is (undef)), (19, AS.Fact.is (undef)), (20, AS.Fact.is (undef)), (21, AS.Fact.is (undef)), (22, AS.Fact.is (undef)), (23, AS.Fact.is (.bool true)), (4, AS.Fact.is (.bool true))]
def mvF2 (nm cur : ByteArray) (A : Option Addr) (n c : Nat) (B : Option Addr) (m d : Nat) (jt : Bool) (C : Option Addr) (k cc _s0 : Nat) (_q : Bool) : List (Nat × AS.Fact) := [(7, AS.Fact.is (.agg #[.string nm, .string cur, .slice A n c, .slice B m d, .bool jt])), (8, AS.Fact.is (.bool true)), (9, AS.Fact.is (.bool false)), (10, AS.Fact.is (.bool false)), (11, AS.Fact.is (.slice C (k : Nat) cc)), (12, AS.Fact.is (.int .i64 (k : Int))), (13, AS.Fact.is (.bool true)), (14, AS.Fact.is (.bool true)), (15, AS.Fact.is (.bool true)), (16, AS.Fact.is (undef)), (17, AS.Fact.is (undef)), (18, AS.Fact.is (undef)), (19, AS.Fact.is (undef)), (20, AS.Fact.is (undef)), (21, AS.Fact.is (undef)), (22, AS.Fact.is (undef)), (23, AS.Fact.is (.bool true)), (4, AS.Fact.is (.bool true))]
def mvF3 (nm cur : ByteArray) (A : Option Addr) (n c : Nat) (B : Option Addr) (m d : Nat) (jt : Bool) (C : Option Addr) (k cc _s0 : Nat) (q : Bool) : List (Nat × AS.Fact) := [(7, AS.Fact.is (.agg #[.string nm, .string cur, .slice A n c, .slice B m d, .bool jt])), (8, AS.Fact.is (.bool true)), (9, AS.Fact.is (.bool false)), (10, AS.Fact.is (.bool false)), (11, AS.Fact.is (.slice C (k : Nat) cc)), (12, AS.Fact.is (.int .i64 (k : Int))), (13, AS.Fact.is (.bool false)), (14, AS.Fact.is (.bool false)), (15, AS.Fact.is (.bool false)), (16, AS.Fact.is (.agg #[.string nm, .string cur, .slice A n c, .slice B m d, .bool jt])), (17, AS.Fact.is (.slice C (k : Nat) cc)), (18, AS.Fact.is (.bool q)), (19, AS.Fact.is (.agg #[.string nm, .string cur, .slice A n c, .slice B m d, .bool jt])), (20, AS.Fact.is (.slice C (k : Nat) cc)), (21, AS.Fact.is (.bool q)), (22, AS.Fact.is (.bool true)), (23, AS.Fact.is (.bool true)), (4, AS.Fact.is (.bool true))]
set_option maxRecDepth 20000 in
set_option maxHeartbeats 3200000 in
theorem law_mpvalid (nm cur : ByteArray) (A : Option Addr) (n c : Nat) (L : List Acc) (B : Option Addr) (m d : Nat) (K : List Lnk) (jt : Bool) (C : Option Addr) (k cc : Nat) (Lc : List Acc) (w : World) (hk : EntK w A n L B m K) (hlen : Lc.length = k) (hx : AccAt w C Lc) :
  Calls Try.prog 3 #[entV nm cur A n c B m d jt, .slice C k cc] w fun e w' => e = .returned (.bool true) ∧ Below w.heap.size w w' := by
 have hB := below_alloc_new (w := w) (.cells #[.string nm, .string cur, .slice A n c, .slice B m d, .bool jt] 25)
 have HE := Lib.hid (eb_new w 25 nm cur A n c B m d jt)
 have HZ := Lib.hid (hk.hz.up hB)
 have HY := Lib.hid (hk.hy.up hB)
 have hfw := fun w => rfew9_any nm cur A n c B m d jt w
 have hfq := fewB_is (nm := nm) (cur := cur) (n := n) (m := m)
 generalize fewB nm cur n m = fb at *
 have HX := Lib.hid (hx.up hB)
 have h1 : n ≤ 60 → m ≤ 60 → k ≤ 60 → ∀ w, AccAt w A L → LnkAt w B K → AccAt w C Lc → Calls Try.prog 11 #[entV nm cur A n c B m d jt, .slice C k cc] w fun e w' => e = .returned (.bool (mvB L K Lc)) ∧ Below w.heap.size w w' := fun h5 h6 h7 w hz hy hx => by
  have h8 := cval9_any nm cur A c L B d K jt C cc Lc w hz hy hx (by have := hk.ln; omega) (by have := hk.lm; omega) (by omega) hk.wl
  rw [hk.ln, hk.lm, hlen] at h8
  exact h8
 have h2 : n ≤ 60 → m ≤ 60 → k ≤ 60 → ∀ w, AccAt w A L → LnkAt w B K → AccAt w C Lc → Calls Try.prog 12 #[entV nm cur A n c B m d jt, .slice C k cc] w fun e w' => e = .returned (.bool (mvB L K Lc)) ∧ Below w.heap.size w w' := fun h5 h6 h7 w hz hy hx => by
  have h8 := rval9_any nm cur A c L B d K jt C cc Lc w hz hy hx (by have := hk.ln; omega) (by have := hk.lm; omega) (by omega)
  rw [hk.ln, hk.lm, hlen] at h8
  exact h8
 generalize mvB L K Lc = q at *
 have eq : (q == q) = true := by simp
 obtain ⟨s0, hs0⟩ : ∃ s0, w.heap.size = s0 := ⟨_, rfl⟩
 rw [hs0] at hB HE
 have HS0 := Lib.hid hs0
 have HFW := Lib.hid hfw
 clear hk hx hlen hfw hs0
 go_enter Try.func3, Try.ntmps3
 go_wp2_with (go_at_call 9; refine (mpawake_any _).mono ?_; rintro e w1 ⟨rfl, hb⟩; replace HE := Lib.hid (HE.out.up hb); replace HZ := Lib.hid (HZ.out.up hb); replace HY := Lib.hid (HY.out.up hb); replace HX := Lib.hid (HX.out.up hb); have hsq := hB.size; rw [HS0.out] at hsq; replace hB := hB.trans (hb.mono hsq); clear hb hsq)
 rw [HS0.out]
 rename World => wr
 have hsz : s0 ≤ wr.heap.size := by have := hB.size; have := HS0.out; omega
 cases fb
 ·clear h1 h2 hfq
  refine AS.region_facts (mvF1 nm cur A n c B m d jt C k cc s0 q) (HNo wr) [[], [7], [8], [9], [10], [10], [10], [10, 13], [14], [15], [15], [15], [15], [15], [15], [15], [15, 22], [23]] [] [[]] [0, 0, 0, 0, 0, 0, 0, 0, 0, 0, 0, 0, 0, 0, 0, 0, 0, 0] [] (fun u => by simp only [mvF1, AS.temps, List.map_cons, List.map_nil, fillL, List.setIfInBounds_toArray, List.set_cons_zero, List.set_cons_succ]; rfl) (by kernel_rfl) (by kernel_rfl) (HNo.st wr) (dc_drew (Below.refl _ _)) ?_ ?_
  ·refine AS.sc rfl rfl rfl ?_ ?_
   ·intro k_ u w_ hk_ hJ hF K hK
    clear hF
    obtain ⟨c0, c1, c2, c3, c4, lt⟩ := HE.out.up (hJ : Below wr.heap.size wr w_)
    go_simp
    exact hK.out _ _ (Below.refl _ _) (rfl) trivial
   refine AS.sc rfl rfl rfl ?_ ?_
   ·intro k_ u w_ hk_ hJ hF K hK
    have h7 : u 7 = .agg #[.string nm, .string cur, .slice A n c, .slice B m d, .bool jt] := AS.facts_get hF 7 (by simp)
    clear hF
    simp only [h7] at hK ⊢
    clear h7
    go_simp
    refine (HFW.out _).mono ?_
    rintro e w3 ⟨rfl, hb⟩
    exact hK.out _ _ hb (rfl) trivial
   refine AS.sc rfl rfl rfl ?_ ?_
   ·intro k_ u w_ hk_ hJ hF K hK
    have h8 : u 8 = .bool false := AS.facts_get hF 8 (by simp)
    clear hF
    simp only [h8] at hK ⊢
    clear h8
    go_simp
    exact hK.out _ _ (Below.refl _ _) (rfl) trivial
   refine AS.sc rfl rfl rfl ?_ ?_
   ·intro k_ u w_ hk_ hJ hF K hK
    have h9 : u 9 = .bool true := AS.facts_get hF 9 (by simp)
    clear hF
    simp only [h9] at hK ⊢
    clear h9
    go_simp
    exact hK.out _ _ (Below.refl _ _) (rfl) trivial
   refine AS.sc rfl rfl rfl ?_ ?_
   ·intro k_ u w_ hk_ hJ hF K hK
    have h10 : u 10 = .bool true := AS.facts_get hF 10 (by simp)
    clear hF
    simp only [h10] at hK ⊢
    clear h10
    go_simp
    exact hK.out _ _ (Below.refl _ _) (rfl) trivial
   refine AS.sc rfl rfl rfl ?_ ?_
   ·intro k_ u w_ hk_ hJ hF K hK
    have h10 : u 10 = .bool true := AS.facts_get hF 10 (by simp)
    clear hF
    simp only [h10] at hK ⊢
    clear h10
    go_simp
    exact hK.out _ _ (Below.refl _ _) (rfl) trivial
   refine AS.sc rfl rfl rfl ?_ ?_
   ·intro k_ u w_ hk_ hJ hF K hK
    have h10 : u 10 = .bool true := AS.facts_get hF 10 (by simp)
    clear hF
    simp only [h10] at hK ⊢
    clear h10
    go_simp
    exact hK.out _ _ (Below.refl _ _) (rfl) trivial
   refine AS.sc rfl rfl rfl ?_ ?_
   ·intro k_ u w_ hk_ hJ hF K hK
    have h10 : u 10 = .bool true := AS.facts_get hF 10 (by simp)
    have h13 : u 13 = undef := AS.facts_get hF 13 (by simp)
    clear hF
    simp only [h10, h13] at hK ⊢
    clear h10 h13
    go_simp
    exact hK.out _ _ (Below.refl _ _) (rfl) trivial
   refine AS.sc rfl rfl rfl ?_ ?_
   ·intro k_ u w_ hk_ hJ hF K hK
    have h14 : u 14 = .bool true := AS.facts_get hF 14 (by simp)
    clear hF
    simp only [h14] at hK ⊢
    clear h14
    go_simp
    exact hK.out _ _ (Below.refl _ _) (rfl) trivial
   refine AS.sc rfl rfl rfl ?_ ?_
   ·intro k_ u w_ hk_ hJ hF K hK
    have h15 : u 15 = .bool true := AS.facts_get hF 15 (by simp)
    clear hF
    simp only [h15] at hK ⊢
    clear h15
    go_simp
    exact hK.out _ _ (Below.refl _ _) (rfl) trivial
   refine AS.sc rfl rfl rfl ?_ ?_
   ·intro k_ u w_ hk_ hJ hF K hK
    have h15 : u 15 = .bool true := AS.facts_get hF 15 (by simp)
    clear hF
    simp only [h15] at hK ⊢
    clear h15
    go_simp
    exact hK.out _ _ (Below.refl _ _) (rfl) trivial
   refine AS.sc rfl rfl rfl ?_ ?_
   ·intro k_ u w_ hk_ hJ hF K hK
    have h15 : u 15 = .bool true := AS.facts_get hF 15 (by simp)
    clear hF
    simp only [h15] at hK ⊢
    clear h15
    go_simp
    exact hK.out _ _ (Below.refl _ _) (rfl) trivial
   refine AS.sc rfl rfl rfl ?_ ?_
   ·intro k_ u w_ hk_ hJ hF K hK
    have h15 : u 15 = .bool true := AS.facts_get hF 15 (by simp)
    clear hF
    simp only [h15] at hK ⊢
    clear h15
    go_simp
    exact hK.out _ _ (Below.refl _ _) (rfl) trivial
   refine AS.sc rfl rfl rfl ?_ ?_
   ·intro k_ u w_ hk_ hJ hF K hK
    have h15 : u 15 = .bool true := AS.facts_get hF 15 (by simp)
    clear hF
    simp only [h15] at hK ⊢
    clear h15
    go_simp
    exact hK.out _ _ (Below.refl _ _) (rfl) trivial
   refine AS.sc rfl rfl rfl ?_ ?_
   ·intro k_ u w_ hk_ hJ hF K hK
    have h15 : u 15 = .bool true := AS.facts_get hF 15 (by simp)
    clear hF
    simp only [h15] at hK ⊢
    clear h15
    go_simp
    exact hK.out _ _ (Below.refl _ _) (rfl) trivial
   refine AS.sc rfl rfl rfl ?_ ?_
   ·intro k_ u w_ hk_ hJ hF K hK
    have h15 : u 15 = .bool true := AS.facts_get hF 15 (by simp)
    clear hF
    simp only [h15] at hK ⊢
    clear h15
    go_simp
    exact hK.out _ _ (Below.refl _ _) (rfl) trivial
   refine AS.sc rfl rfl rfl ?_ ?_
   ·intro k_ u w_ hk_ hJ hF K hK
    have h15 : u 15 = .bool true := AS.facts_get hF 15 (by simp)
    have h22 : u 22 = undef := AS.facts_get hF 22 (by simp)
    clear hF
    simp only [h15, h22] at hK ⊢
    clear h15 h22
    go_simp
    exact hK.out _ _ (Below.refl _ _) (rfl) trivial
   refine AS.sc rfl rfl rfl ?_ ?_
   ·intro k_ u w_ hk_ hJ hF K hK
    have h23 : u 23 = .bool true := AS.facts_get hF 23 (by simp)
    clear hF
    simp only [h23] at hK ⊢
    clear h23
    go_simp
    exact hK.out _ _ (Below.refl _ _) (rfl) trivial
   exact AS.StepsOk.nil
  ·intro u W9 hJ9 hF
   have h4 : u 4 = .bool true := AS.facts_get hF 4 (by simp [mvF1, AS.temps])
   have hB9 : Below wr.heap.size wr W9 := hJ9
   clear hF hJ9
   simp only [h4]
   clear h4
   have hB8 := hB.trans (hB9.mono hsz)
   clear hB9
   go_wp2_with fail
   go_ret
   exact ⟨rfl, by first | exact hB8 | (rw [HS0.out]; exact hB8)⟩
 rcases Nat.lt_or_ge 60 k with hk6 | hk6
 ·have ek : decide ((60 : Int) < (k : Int)) = true := decide_eq_true (by omega)
  clear h1 h2 hfq hk6
  refine AS.region_facts (mvF2 nm cur A n c B m d jt C k cc s0 q) (HNo wr) [[], [7], [8], [9], [10], [11, 10], [12, 10], [10, 13], [14], [15], [15], [15], [15], [15], [15], [15], [15, 22], [23]] [] [[]] [0, 0, 0, 0, 0, 0, 0, 0, 0, 0, 0, 0, 0, 0, 0, 0, 0, 0] [] (fun u => by simp only [mvF2, AS.temps, List.map_cons, List.map_nil, fillL, List.setIfInBounds_toArray, List.set_cons_zero, List.set_cons_succ]; rfl) (by kernel_rfl) (by kernel_rfl) (HNo.st wr) (dc_drew (Below.refl _ _)) ?_ ?_
  ·refine AS.sc rfl rfl rfl ?_ ?_
   ·intro k_ u w_ hk_ hJ hF K hK
    clear hF
    obtain ⟨c0, c1, c2, c3, c4, lt⟩ := HE.out.up (hJ : Below wr.heap.size wr w_)
    go_simp
    exact hK.out _ _ (Below.refl _ _) (rfl) trivial
   refine AS.sc rfl rfl rfl ?_ ?_
   ·intro k_ u w_ hk_ hJ hF K hK
    have h7 : u 7 = .agg #[.string nm, .string cur, .slice A n c, .slice B m d, .bool jt] := AS.facts_get hF 7 (by simp)
    clear hF
    simp only [h7] at hK ⊢
    clear h7
    go_simp
    refine (HFW.out _).mono ?_
    rintro e w3 ⟨rfl, hb⟩
    exact hK.out _ _ hb (rfl) trivial
   refine AS.sc rfl rfl rfl ?_ ?_
   ·intro k_ u w_ hk_ hJ hF K hK
    have h8 : u 8 = .bool true := AS.facts_get hF 8 (by simp)
    clear hF
    simp only [h8] at hK ⊢
    clear h8
    go_simp
    exact hK.out _ _ (Below.refl _ _) (rfl) trivial
   refine AS.sc rfl rfl rfl ?_ ?_
   ·intro k_ u w_ hk_ hJ hF K hK
    have h9 : u 9 = .bool false := AS.facts_get hF 9 (by simp)
    clear hF
    simp only [h9] at hK ⊢
    clear h9
    go_simp
    exact hK.out _ _ (Below.refl _ _) (rfl) trivial
   refine AS.sc rfl rfl rfl ?_ ?_
   ·intro k_ u w_ hk_ hJ hF K hK
    have h10 : u 10 = .bool false := AS.facts_get hF 10 (by simp)
    clear hF
    simp only [h10] at hK ⊢
    clear h10
    go_simp
    exact hK.out _ _ (Below.refl _ _) (rfl) trivial
   refine AS.sc rfl rfl rfl ?_ ?_
   ·intro k_ u w_ hk_ hJ hF K hK
    have h11 : u 11 = .slice C (k : Nat) cc := AS.facts_get hF 11 (by simp)
    have h10 : u 10 = .bool false := AS.facts_get hF 10 (by simp)
    clear hF
    simp only [h11, h10] at hK ⊢
    clear h11 h10
    go_simp
    exact hK.out _ _ (Below.refl _ _) (rfl) trivial
   refine AS.sc rfl rfl rfl ?_ ?_
   ·intro k_ u w_ hk_ hJ hF K hK
    have h12 : u 12 = .int .i64 (k : Int) := AS.facts_get hF 12 (by simp)
    have h10 : u 10 = .bool false := AS.facts_get hF 10 (by simp)
    clear hF
    simp only [h12, h10] at hK ⊢
    clear h12 h10
    go_simp
    exact hK.out _ _ (Below.refl _ _) (rfl) trivial
   refine AS.sc rfl rfl rfl ?_ ?_
   ·intro k_ u w_ hk_ hJ hF K hK
    have h10 : u 10 = .bool false := AS.facts_get hF 10 (by simp)
    have h13 : u 13 = .bool true := AS.facts_get hF 13 (by simp)
    clear hF
    simp only [h10, h13] at hK ⊢
    clear h10 h13
    go_simp
    exact hK.out _ _ (Below.refl _ _) (rfl) trivial
   refine AS.sc rfl rfl rfl ?_ ?_
   ·intro k_ u w_ hk_ hJ hF K hK
    have h14 : u 14 = .bool true := AS.facts_get hF 14 (by simp)
    clear hF
    simp only [h14] at hK ⊢
    clear h14
    go_simp
    exact hK.out _ _ (Below.refl _ _) (rfl) trivial
   refine AS.sc rfl rfl rfl ?_ ?_
   ·intro k_ u w_ hk_ hJ hF K hK
    have h15 : u 15 = .bool true := AS.facts_get hF 15 (by simp)
    clear hF
    simp only [h15] at hK ⊢
    clear h15
    go_simp
    exact hK.out _ _ (Below.refl _ _) (rfl) trivial
   refine AS.sc rfl rfl rfl ?_ ?_
   ·intro k_ u w_ hk_ hJ hF K hK
    have h15 : u 15 = .bool true := AS.facts_get hF 15 (by simp)
    clear hF
    simp only [h15] at hK ⊢
    clear h15
    go_simp
    exact hK.out _ _ (Below.refl _ _) (rfl) trivial
   refine AS.sc rfl rfl rfl ?_ ?_
   ·intro k_ u w_ hk_ hJ hF K hK
    have h15 : u 15 = .bool true := AS.facts_get hF 15 (by simp)
    clear hF
    simp only [h15] at hK ⊢
    clear h15
    go_simp
    exact hK.out _ _ (Below.refl _ _) (rfl) trivial
   refine AS.sc rfl rfl rfl ?_ ?_
   ·intro k_ u w_ hk_ hJ hF K hK
    have h15 : u 15 = .bool true := AS.facts_get hF 15 (by simp)
    clear hF
    simp only [h15] at hK ⊢
    clear h15
    go_simp
    exact hK.out _ _ (Below.refl _ _) (rfl) trivial
   refine AS.sc rfl rfl rfl ?_ ?_
   ·intro k_ u w_ hk_ hJ hF K hK
    have h15 : u 15 = .bool true := AS.facts_get hF 15 (by simp)
    clear hF
    simp only [h15] at hK ⊢
    clear h15
    go_simp
    exact hK.out _ _ (Below.refl _ _) (rfl) trivial
   refine AS.sc rfl rfl rfl ?_ ?_
   ·intro k_ u w_ hk_ hJ hF K hK
    have h15 : u 15 = .bool true := AS.facts_get hF 15 (by simp)
    clear hF
    simp only [h15] at hK ⊢
    clear h15
    go_simp
    exact hK.out _ _ (Below.refl _ _) (rfl) trivial
   refine AS.sc rfl rfl rfl ?_ ?_
   ·intro k_ u w_ hk_ hJ hF K hK
    have h15 : u 15 = .bool true := AS.facts_get hF 15 (by simp)
    clear hF
    simp only [h15] at hK ⊢
    clear h15
    go_simp
    exact hK.out _ _ (Below.refl _ _) (rfl) trivial
   refine AS.sc rfl rfl rfl ?_ ?_
   ·intro k_ u w_ hk_ hJ hF K hK
    have h15 : u 15 = .bool true := AS.facts_get hF 15 (by simp)
    have h22 : u 22 = undef := AS.facts_get hF 22 (by simp)
    clear hF
    simp only [h15, h22] at hK ⊢
    clear h15 h22
    go_simp
    exact hK.out _ _ (Below.refl _ _) (rfl) trivial
   refine AS.sc rfl rfl rfl ?_ ?_
   ·intro k_ u w_ hk_ hJ hF K hK
    have h23 : u 23 = .bool true := AS.facts_get hF 23 (by simp)
    clear hF
    simp only [h23] at hK ⊢
    clear h23
    go_simp
    exact hK.out _ _ (Below.refl _ _) (rfl) trivial
   exact AS.StepsOk.nil
  ·intro u W9 hJ9 hF
   have h4 : u 4 = .bool true := AS.facts_get hF 4 (by simp [mvF2, AS.temps])
   have hB9 : Below wr.heap.size wr W9 := hJ9
   clear hF hJ9
   simp only [h4]
   clear h4
   have hB8 := hB.trans (hB9.mono hsz)
   clear hB9
   go_wp2_with fail
   go_ret
   exact ⟨rfl, by first | exact hB8 | (rw [HS0.out]; exact hB8)⟩
 ·have ek : decide ((60 : Int) < (k : Int)) = false := decide_eq_false (by omega)
  obtain ⟨h5, h6⟩ := hfq rfl
  have H1 := Lib.hid (h1 h5 h6 hk6)
  have H2 := Lib.hid (h2 h5 h6 hk6)
  clear h1 h2 hfq hk6 h5 h6
  refine AS.region_facts (mvF3 nm cur A n c B m d jt C k cc s0 q) (HNo wr) [[], [7], [8], [9], [10], [11, 10], [12, 10], [10, 13], [14], [15], [15], [16, 17, 15], [15], [15], [19, 20, 15], [18, 21, 15], [15, 22], [23]] [] [[]] [0, 0, 0, 0, 0, 0, 0, 0, 0, 0, 0, 0, 0, 0, 0, 0, 0, 0] [] (fun u => by simp only [mvF3, AS.temps, List.map_cons, List.map_nil, fillL, List.setIfInBounds_toArray, List.set_cons_zero, List.set_cons_succ]; rfl) (by kernel_rfl) (by kernel_rfl) (HNo.st wr) (dc_drew (Below.refl _ _)) ?_ ?_
  ·refine AS.sc rfl rfl rfl ?_ ?_
   ·intro k_ u w_ hk_ hJ hF K hK
    clear hF
    obtain ⟨c0, c1, c2, c3, c4, lt⟩ := HE.out.up (hJ : Below wr.heap.size wr w_)
    go_simp
    exact hK.out _ _ (Below.refl _ _) (rfl) trivial
   refine AS.sc rfl rfl rfl ?_ ?_
   ·intro k_ u w_ hk_ hJ hF K hK
    have h7 : u 7 = .agg #[.string nm, .string cur, .slice A n c, .slice B m d, .bool jt] := AS.facts_get hF 7 (by simp)
    clear hF
    simp only [h7] at hK ⊢
    clear h7
    go_simp
    refine (HFW.out _).mono ?_
    rintro e w3 ⟨rfl, hb⟩
    exact hK.out _ _ hb (rfl) trivial
   refine AS.sc rfl rfl rfl ?_ ?_
   ·intro k_ u w_ hk_ hJ hF K hK
    have h8 : u 8 = .bool true := AS.facts_get hF 8 (by simp)
    clear hF
    simp only [h8] at hK ⊢
    clear h8
    go_simp
    exact hK.out _ _ (Below.refl _ _) (rfl) trivial
   refine AS.sc rfl rfl rfl ?_ ?_
   ·intro k_ u w_ hk_ hJ hF K hK
    have h9 : u 9 = .bool false := AS.facts_get hF 9 (by simp)
    clear hF
    simp only [h9] at hK ⊢
    clear h9
    go_simp
    exact hK.out _ _ (Below.refl _ _) (rfl) trivial
   refine AS.sc rfl rfl rfl ?_ ?_
   ·intro k_ u w_ hk_ hJ hF K hK
    have h10 : u 10 = .bool false := AS.facts_get hF 10 (by simp)
    clear hF
    simp only [h10] at hK ⊢
    clear h10
    go_simp
    exact hK.out _ _ (Below.refl _ _) (rfl) trivial
   refine AS.sc rfl rfl rfl ?_ ?_
   ·intro k_ u w_ hk_ hJ hF K hK
    have h11 : u 11 = .slice C (k : Nat) cc := AS.facts_get hF 11 (by simp)
    have h10 : u 10 = .bool false := AS.facts_get hF 10 (by simp)
    clear hF
    simp only [h11, h10] at hK ⊢
    clear h11 h10
    go_simp
    exact hK.out _ _ (Below.refl _ _) (rfl) trivial
   refine AS.sc rfl rfl rfl ?_ ?_
   ·intro k_ u w_ hk_ hJ hF K hK
    have h12 : u 12 = .int .i64 (k : Int) := AS.facts_get hF 12 (by simp)
    have h10 : u 10 = .bool false := AS.facts_get hF 10 (by simp)
    clear hF
    simp only [h12, h10] at hK ⊢
    clear h12 h10
    go_simp
    exact hK.out _ _ (Below.refl _ _) (rfl) trivial
   refine AS.sc rfl rfl rfl ?_ ?_
   ·intro k_ u w_ hk_ hJ hF K hK
    have h10 : u 10 = .bool false := AS.facts_get hF 10 (by simp)
    have h13 : u 13 = .bool false := AS.facts_get hF 13 (by simp)
    clear hF
    simp only [h10, h13] at hK ⊢
    clear h10 h13
    go_simp
    exact hK.out _ _ (Below.refl _ _) (rfl) trivial
   refine AS.sc rfl rfl rfl ?_ ?_
   ·intro k_ u w_ hk_ hJ hF K hK
    have h14 : u 14 = .bool false := AS.facts_get hF 14 (by simp)
    clear hF
    simp only [h14] at hK ⊢
    clear h14
    go_simp
    exact hK.out _ _ (Below.refl _ _) (rfl) trivial
   refine AS.sc rfl rfl rfl ?_ ?_
   ·intro k_ u w_ hk_ hJ hF K hK
    have h15 : u 15 = .bool false := AS.facts_get hF 15 (by simp)
    clear hF
    simp only [h15] at hK ⊢
    clear h15
    obtain ⟨c0, c1, c2, c3, c4, lt⟩ := HE.out.up (hJ : Below wr.heap.size wr w_)
    go_simp
    exact hK.out _ _ (Below.refl _ _) (rfl) trivial
   refine AS.sc rfl rfl rfl ?_ ?_
   ·intro k_ u w_ hk_ hJ hF K hK
    have h15 : u 15 = .bool false := AS.facts_get hF 15 (by simp)
    clear hF
    simp only [h15] at hK ⊢
    clear h15
    go_simp
    exact hK.out _ _ (Below.refl _ _) (rfl) trivial
   refine AS.sc rfl rfl rfl ?_ ?_
   ·intro k_ u w_ hk_ hJ hF K hK
    have h16 : u 16 = .agg #[.string nm, .string cur, .slice A n c, .slice B m d, .bool jt] := AS.facts_get hF 16 (by simp)
    have h17 : u 17 = .slice C (k : Nat) cc := AS.facts_get hF 17 (by simp)
    have h15 : u 15 = .bool false := AS.facts_get hF 15 (by simp)
    clear hF
    simp only [h16, h17, h15] at hK ⊢
    clear h16 h17 h15
    have hz9 := HZ.out.up (hJ : Below wr.heap.size wr w_)
    have hy9 := HY.out.up (hJ : Below wr.heap.size wr w_)
    have hx9 := HX.out.up (hJ : Below wr.heap.size wr w_)
    go_simp
    refine (H1.out _ hz9 hy9 hx9).mono ?_
    rintro e w3 ⟨rfl, hb⟩
    exact hK.out _ _ hb (rfl) trivial
   refine AS.sc rfl rfl rfl ?_ ?_
   ·intro k_ u w_ hk_ hJ hF K hK
    have h15 : u 15 = .bool false := AS.facts_get hF 15 (by simp)
    clear hF
    simp only [h15] at hK ⊢
    clear h15
    obtain ⟨c0, c1, c2, c3, c4, lt⟩ := HE.out.up (hJ : Below wr.heap.size wr w_)
    go_simp
    exact hK.out _ _ (Below.refl _ _) (rfl) trivial
   refine AS.sc rfl rfl rfl ?_ ?_
   ·intro k_ u w_ hk_ hJ hF K hK
    have h15 : u 15 = .bool false := AS.facts_get hF 15 (by simp)
    clear hF
    simp only [h15] at hK ⊢
    clear h15
    go_simp
    exact hK.out _ _ (Below.refl _ _) (rfl) trivial
   refine AS.sc rfl rfl rfl ?_ ?_
   ·intro k_ u w_ hk_ hJ hF K hK
    have h19 : u 19 = .agg #[.string nm, .string cur, .slice A n c, .slice B m d, .bool jt] := AS.facts_get hF 19 (by simp)
    have h20 : u 20 = .slice C (k : Nat) cc := AS.facts_get hF 20 (by simp)
    have h15 : u 15 = .bool false := AS.facts_get hF 15 (by simp)
    clear hF
    simp only [h19, h20, h15] at hK ⊢
    clear h19 h20 h15
    have hz9 := HZ.out.up (hJ : Below wr.heap.size wr w_)
    have hy9 := HY.out.up (hJ : Below wr.heap.size wr w_)
    have hx9 := HX.out.up (hJ : Below wr.heap.size wr w_)
    go_simp
    refine (H2.out _ hz9 hy9 hx9).mono ?_
    rintro e w3 ⟨rfl, hb⟩
    exact hK.out _ _ hb (rfl) trivial
   refine AS.sc rfl rfl rfl ?_ ?_
   ·intro k_ u w_ hk_ hJ hF K hK
    have h18 : u 18 = .bool q := AS.facts_get hF 18 (by simp)
    have h21 : u 21 = .bool q := AS.facts_get hF 21 (by simp)
    have h15 : u 15 = .bool false := AS.facts_get hF 15 (by simp)
    clear hF
    simp only [h18, h21, h15] at hK ⊢
    clear h18 h21 h15
    go_simp
    exact hK.out _ _ (Below.refl _ _) (rfl) trivial
   refine AS.sc rfl rfl rfl ?_ ?_
   ·intro k_ u w_ hk_ hJ hF K hK
    have h15 : u 15 = .bool false := AS.facts_get hF 15 (by simp)
    have h22 : u 22 = .bool true := AS.facts_get hF 22 (by simp)
    clear hF
    simp only [h15, h22] at hK ⊢
    clear h15 h22
    go_simp
    exact hK.out _ _ (Below.refl _ _) (rfl) trivial
   refine AS.sc rfl rfl rfl ?_ ?_
   ·intro k_ u w_ hk_ hJ hF K hK
    have h23 : u 23 = .bool true := AS.facts_get hF 23 (by simp)
    clear hF
    simp only [h23] at hK ⊢
    clear h23
    go_simp
    exact hK.out _ _ (Below.refl _ _) (rfl) trivial
   exact AS.StepsOk.nil
  ·intro u W9 hJ9 hF
   have h4 : u 4 = .bool true := AS.facts_get hF 4 (by simp [mvF3, AS.temps])
   have hB9 : Below wr.heap.size wr W9 := hJ9
   clear hF hJ9
   simp only [h4]
   clear h4
   have hB8 := hB.trans (hB9.mono hsz)
   clear hB9
   go_wp2_with fail
   go_ret
   exact ⟨rfl, by first | exact hB8 | (rw [HS0.out]; exact hB8)⟩
def maF (nm cur : ByteArray) (A : Option Addr) (n c : Nat) (B : Option Addr) (m d : Nat) (jt : Bool) (_s0 _nd : Nat) (te ee : Int) (D : List Int) : List (Nat × AS.Fact) := [(30, AS.Fact.is (.int .i64 te)), (31, AS.Fact.is (.int .i64 te)), (32, AS.Fact.is (.bool true)), (33, AS.Fact.is (.bool true)), (34, AS.Fact.is (.int .i64 ee)), (35, AS.Fact.is (.int .i64 ee)), (36, AS.Fact.is (.bool true)), (37, AS.Fact.is (.bool true)), (38, AS.Fact.is (.bool true)), (39, AS.Fact.is (.agg #[.string nm, .string cur, .slice A n c, .slice B m d, .bool jt])), (40, HSl D), (41, AS.Fact.is (.agg #[.string nm, .string cur, .slice A n c, .slice B m d, .bool jt])), (42, HSl D), (43, AS.Fact.is (.bool true)), (44, AS.Fact.is (.bool true)), (6, AS.Fact.is (.bool true))]
set_option maxRecDepth 20000 in
set_option maxHeartbeats 3200000 in
theorem law_mpat (nm cur : ByteArray) (A : Option Addr) (n c : Nat) (L : List Acc) (B : Option Addr) (m d : Nat) (K : List Lnk) (jt : Bool) (code day : Int) (w : World) (hk : EntK w A n L B m K) :
  Calls Try.prog 4 #[entV nm cur A n c B m d jt, .int .i64 code, .int .i64 day] w fun e w' => e = .returned (.bool true) ∧ Below w.heap.size w w' := by
 have hB := below_alloc_new (w := w) (.cells #[.string nm, .string cur, .slice A n c, .slice B m d, .bool jt] 25)
 have HE := Lib.hid (eb_new w 25 nm cur A n c B m d jt)
 have HZ := Lib.hid (hk.hz.up hB)
 have HY := Lib.hid (hk.hy.up hB)
 have hfw := fun w => rfew9_any nm cur A n c B m d jt w
 have hfq := fewB_is (nm := nm) (cur := cur) (n := n) (m := m)
 generalize fewB nm cur n m = fb at *
 obtain ⟨s0, hs0⟩ : ∃ s0, w.heap.size = s0 := ⟨_, rfl⟩
 rw [hs0] at hB
 have HS0 := Lib.hid hs0
 have HFW := Lib.hid hfw
 have HK := Lib.hid hk
 clear hk hfw hs0
 obtain ⟨c0, c1, c2, c3, c4, lt⟩ := HE.out
 cases fb
 ·clear hfq
  go_enter Try.func4, Try.ntmps4
  go_wp2_with (first
   | (go_at_call 9; refine (mpawake_any _).mono ?_; rintro e w1 ⟨rfl, hb⟩; replace HE := Lib.hid (HE.out.up hb); have hsq := hB.size; rw [HS0.out] at hsq; replace hB := hB.trans (hb.mono hsq); clear hb hsq c0 c1 c2 c3 c4 lt; obtain ⟨c0, c1, c2, c3, c4, lt⟩ := HE.out)
   | (go_at_call 10; (with_reducible refine (HFW.out _).mono ?_); rintro e w2 ⟨rfl, hb⟩; have hsq := hB.size; rw [HS0.out] at hsq; replace hB := hB.trans (hb.mono hsq); clear hb hsq))
  go_ret
  exact ⟨rfl, by rw [HS0.out]; exact hB⟩
 obtain ⟨h5, h6⟩ := hfq rfl
 have hK2 := HK.out
 have hln : L.length ≤ 1000 := by have := hK2.ln; omega
 have hlm : K.length ≤ 1000 := by have := hK2.lm; omega
 have h1 := fun w h h' => cat9_any nm cur A c L B d K jt code day w h h' hln hlm
 have h2 := fun w h h' => rat9_any nm cur A c L B d K jt code day w h h' hln hlm
 have h4 := fun w h => cdates_any nm cur A c n B d K jt w h hlm hK2.wl
 have h5' := fun w h => rdates9_any nm cur A n c B d K jt w h hlm
 rw [hK2.ln, hK2.lm] at h1 h2
 rw [hK2.lm] at h4 h5'
 have hdl := datesL_len (K := K)
 generalize datesL K = D at *
 obtain ⟨nd, hnd⟩ : ∃ nd, D.length = nd := ⟨_, rfl⟩
 have h6' := fun A B c d w h1 h2 => rsamec_any A B c d D D w h1 h2 (by omega) (by omega)
 rw [show decide (D = D) = true from by simp, hnd] at h6'
 obtain ⟨te, hte⟩ : ∃ te, atV L K code day = te := ⟨_, rfl⟩
 obtain ⟨ee, hee⟩ : ∃ ee, atE L K code day = ee := ⟨_, rfl⟩
 rw [hte, hee] at h1 h2
 have et : (te == te) = true := by simp
 have ett : (ee == ee) = true := by simp
 have H1 := Lib.hid h1
 have H2 := Lib.hid h2
 have H4 := Lib.hid h4
 have H5 := Lib.hid h5'
 have H6 := Lib.hid h6'
 have HND := Lib.hid hnd
 clear h1 h2 h4 h5' h6' hnd hte hee hdl hln hlm hK2 HK h5 h6 hfq
 go_enter Try.func4, Try.ntmps4
 go_wp2_with (first
  | (go_at_call 9; refine (mpawake_any _).mono ?_; rintro e w1 ⟨rfl, hb⟩; replace HE := Lib.hid (HE.out.up hb); replace HZ := Lib.hid (HZ.out.up hb); replace HY := Lib.hid (HY.out.up hb); have hsq := hB.size; rw [HS0.out] at hsq; replace hB := hB.trans (hb.mono hsq); clear hb hsq c0 c1 c2 c3 c4 lt; obtain ⟨c0, c1, c2, c3, c4, lt⟩ := HE.out)
  | (go_at_call 10; (with_reducible refine (HFW.out _).mono ?_); rintro e w1 ⟨rfl, hb⟩; replace HE := Lib.hid (HE.out.up hb); replace HZ := Lib.hid (HZ.out.up hb); replace HY := Lib.hid (HY.out.up hb); have hsq := hB.size; rw [HS0.out] at hsq; replace hB := hB.trans (hb.mono hsq); clear hb hsq c0 c1 c2 c3 c4 lt; obtain ⟨c0, c1, c2, c3, c4, lt⟩ := HE.out)
  | (go_at_call 13; (with_reducible refine (H1.out _ HZ.out HY.out).mono ?_); rintro e w1 ⟨rfl, hb⟩; replace HE := Lib.hid (HE.out.up hb); replace HZ := Lib.hid (HZ.out.up hb); replace HY := Lib.hid (HY.out.up hb); have hsq := hB.size; rw [HS0.out] at hsq; replace hB := hB.trans (hb.mono hsq); clear hb hsq c0 c1 c2 c3 c4 lt; obtain ⟨c0, c1, c2, c3, c4, lt⟩ := HE.out)
  | (go_at_call 14; (with_reducible refine (H2.out _ HZ.out HY.out).mono ?_); rintro e w1 ⟨rfl, hb⟩; replace HE := Lib.hid (HE.out.up hb); replace HZ := Lib.hid (HZ.out.up hb); replace HY := Lib.hid (HY.out.up hb); have hsq := hB.size; rw [HS0.out] at hsq; replace hB := hB.trans (hb.mono hsq); clear hb hsq c0 c1 c2 c3 c4 lt; obtain ⟨c0, c1, c2, c3, c4, lt⟩ := HE.out))
 rw [HS0.out] at HE ⊢
 rename World => wr
 have hsz : s0 ≤ wr.heap.size := by have := hB.size; have := HS0.out; omega
 clear c0 c1 c2 c3 c4 lt
 refine AS.region_facts (maF nm cur A n c B m d jt s0 nd te ee D) (HNo wr) [[], [], [30, 31], [32], [33], [33], [34, 35, 33], [33, 36], [37], [38], [39, 38], [38], [41, 38], [40, 42, 38], [38, 43], [44]] [] [[]] [0, 0, 0, 0, 0, 0, 0, 0, 0, 0, 0, 0, 0, 0, 0, 0] [] (fun u => by simp only [maF, AS.temps, List.map_cons, List.map_nil, fillL, List.setIfInBounds_toArray, List.set_cons_zero, List.set_cons_succ]; rfl) (by kernel_rfl) (by kernel_rfl) (HNo.st wr) (dc_drew (Below.refl _ _)) ?_ ?_
 ·refine AS.sc rfl rfl rfl ?_ ?_
  ·intro k_ u w_ hk_ hJ hF K hK
   clear hF
   go_simp
   exact hK.out _ _ (Below.refl _ _) (rfl) trivial
  refine AS.sc rfl rfl rfl ?_ ?_
  ·intro k_ u w_ hk_ hJ hF K hK
   clear hF
   go_simp
   exact hK.out _ _ (Below.refl _ _) (rfl) trivial
  refine AS.sc rfl rfl rfl ?_ ?_
  ·intro k_ u w_ hk_ hJ hF K hK
   have h30 : u 30 = .int .i64 te := AS.facts_get hF 30 (by simp)
   have h31 : u 31 = .int .i64 te := AS.facts_get hF 31 (by simp)
   clear hF
   simp only [h30, h31] at hK ⊢
   clear h30 h31
   go_simp
   exact hK.out _ _ (Below.refl _ _) (rfl) trivial
  refine AS.sc rfl rfl rfl ?_ ?_
  ·intro k_ u w_ hk_ hJ hF K hK
   have h32 : u 32 = .bool true := AS.facts_get hF 32 (by simp)
   clear hF
   simp only [h32] at hK ⊢
   clear h32
   go_simp
   exact hK.out _ _ (Below.refl _ _) (rfl) trivial
  refine AS.sc rfl rfl rfl ?_ ?_
  ·intro k_ u w_ hk_ hJ hF K hK
   have h33 : u 33 = .bool true := AS.facts_get hF 33 (by simp)
   clear hF
   simp only [h33] at hK ⊢
   clear h33
   go_simp
   exact hK.out _ _ (Below.refl _ _) (rfl) trivial
  refine AS.sc rfl rfl rfl ?_ ?_
  ·intro k_ u w_ hk_ hJ hF K hK
   have h33 : u 33 = .bool true := AS.facts_get hF 33 (by simp)
   clear hF
   simp only [h33] at hK ⊢
   clear h33
   go_simp
   exact hK.out _ _ (Below.refl _ _) (rfl) trivial
  refine AS.sc rfl rfl rfl ?_ ?_
  ·intro k_ u w_ hk_ hJ hF K hK
   have h34 : u 34 = .int .i64 ee := AS.facts_get hF 34 (by simp)
   have h35 : u 35 = .int .i64 ee := AS.facts_get hF 35 (by simp)
   have h33 : u 33 = .bool true := AS.facts_get hF 33 (by simp)
   clear hF
   simp only [h34, h35, h33] at hK ⊢
   clear h34 h35 h33
   go_simp
   exact hK.out _ _ (Below.refl _ _) (rfl) trivial
  refine AS.sc rfl rfl rfl ?_ ?_
  ·intro k_ u w_ hk_ hJ hF K hK
   have h33 : u 33 = .bool true := AS.facts_get hF 33 (by simp)
   have h36 : u 36 = .bool true := AS.facts_get hF 36 (by simp)
   clear hF
   simp only [h33, h36] at hK ⊢
   clear h33 h36
   go_simp
   exact hK.out _ _ (Below.refl _ _) (rfl) trivial
  refine AS.sc rfl rfl rfl ?_ ?_
  ·intro k_ u w_ hk_ hJ hF K hK
   have h37 : u 37 = .bool true := AS.facts_get hF 37 (by simp)
   clear hF
   simp only [h37] at hK ⊢
   clear h37
   go_simp
   exact hK.out _ _ (Below.refl _ _) (rfl) trivial
  refine AS.sc rfl rfl rfl ?_ ?_
  ·intro k_ u w_ hk_ hJ hF K hK
   have h38 : u 38 = .bool true := AS.facts_get hF 38 (by simp)
   clear hF
   simp only [h38] at hK ⊢
   clear h38
   obtain ⟨c0, c1, c2, c3, c4, lt⟩ := HE.out.up (hJ : Below wr.heap.size wr w_)
   go_simp
   exact hK.out _ _ (Below.refl _ _) (rfl) trivial
  refine AS.sc rfl rfl rfl ?_ ?_
  ·intro k_ u w_ hk_ hJ hF K hK
   have h39 : u 39 = .agg #[.string nm, .string cur, .slice A n c, .slice B m d, .bool jt] := AS.facts_get hF 39 (by simp)
   have h38 : u 38 = .bool true := AS.facts_get hF 38 (by simp)
   clear hF
   simp only [h39, h38] at hK ⊢
   clear h39 h38
   have hy9 := HY.out.up (hJ : Below wr.heap.size wr w_)
   go_simp
   refine (H4.out _ hy9).mono ?_
   rintro e w3 ⟨v, rfl, h9, hb⟩
   exact hK.out _ _ hb h9 trivial
  refine AS.sc rfl rfl rfl ?_ ?_
  ·intro k_ u w_ hk_ hJ hF K hK
   have h38 : u 38 = .bool true := AS.facts_get hF 38 (by simp)
   clear hF
   simp only [h38] at hK ⊢
   clear h38
   obtain ⟨c0, c1, c2, c3, c4, lt⟩ := HE.out.up (hJ : Below wr.heap.size wr w_)
   go_simp
   exact hK.out _ _ (Below.refl _ _) (rfl) trivial
  refine AS.sc rfl rfl rfl ?_ ?_
  ·intro k_ u w_ hk_ hJ hF K hK
   have h41 : u 41 = .agg #[.string nm, .string cur, .slice A n c, .slice B m d, .bool jt] := AS.facts_get hF 41 (by simp)
   have h38 : u 38 = .bool true := AS.facts_get hF 38 (by simp)
   clear hF
   simp only [h41, h38] at hK ⊢
   clear h41 h38
   have hy9 := HY.out.up (hJ : Below wr.heap.size wr w_)
   go_simp
   refine (H5.out _ hy9).mono ?_
   rintro e w3 ⟨v, rfl, h9, hb⟩
   exact hK.out _ _ hb h9 trivial
  refine AS.sc rfl rfl rfl ?_ ?_
  ·intro k_ u w_ hk_ hJ hF K hK
   have h40 : SlI w_ (u 40) D := AS.facts_get hF 40 (by simp)
   have h42 : SlI w_ (u 42) D := AS.facts_get hF 42 (by simp)
   have h38 : u 38 = .bool true := AS.facts_get hF 38 (by simp)
   clear hF
   obtain ⟨A8, d8, h40, hI8⟩ := h40
   rw [HND.out] at h40
   obtain ⟨A7, d7, h42, hI7⟩ := h42
   rw [HND.out] at h42
   simp only [h40, h42, h38] at hK ⊢
   clear h40 h42 h38
   go_simp
   refine (H6.out _ _ _ _ _ hI8 hI7).mono ?_
   rintro e w3 ⟨rfl, hb⟩
   exact hK.out _ _ hb (rfl) trivial
  refine AS.sc rfl rfl rfl ?_ ?_
  ·intro k_ u w_ hk_ hJ hF K hK
   have h38 : u 38 = .bool true := AS.facts_get hF 38 (by simp)
   have h43 : u 43 = .bool true := AS.facts_get hF 43 (by simp)
   clear hF
   simp only [h38, h43] at hK ⊢
   clear h38 h43
   go_simp
   exact hK.out _ _ (Below.refl _ _) (rfl) trivial
  refine AS.sc rfl rfl rfl ?_ ?_
  ·intro k_ u w_ hk_ hJ hF K hK
   have h44 : u 44 = .bool true := AS.facts_get hF 44 (by simp)
   clear hF
   simp only [h44] at hK ⊢
   clear h44
   go_simp
   exact hK.out _ _ (Below.refl _ _) (rfl) trivial
  exact AS.StepsOk.nil
 ·intro u W9 hJ9 hF
  have h6 : u 6 = .bool true := AS.facts_get hF 6 (by simp [maF, AS.temps])
  have hB9 : Below wr.heap.size wr W9 := hJ9
  clear hF hJ9
  simp only [h6]
  clear h6
  have hB8 := hB.trans (hB9.mono hsz)
  clear hB9
  go_wp2_with fail
  go_ret
  exact ⟨rfl, by first | exact hB8 | (rw [HS0.out]; exact hB8)⟩
end Go.Proofs.Ytmahnpbjjadipaa
