/- Contracts of the functions that the statements reach, part 6: what was proved of each, callees first. -/
import Derived.Deep.CutRange
import Derived.Test.YtgihmikeapbpkaaGreatDoorK5
namespace Go.Proofs.YtgihmikeapbpkaaGreatDoor
open Go.RowKit
def Top (L : List Nat) : Prop := 0 < L.length → nth L (L.length - 1) ≠ 0
structure RqInv (b : Nat) (L Q : List Nat) (j r : Nat) : Prop where
 val : val4 (Q.drop j) * b + r = val4 (L.drop j)
 lt : r < b
 lim : Lim4 Q
theorem valB_drop4 (L : List Nat) (k : Nat) : val4 (L.drop k) = nth L k + 10000 * val4 (L.drop (k + 1)) := by
 rcases Nat.lt_or_ge k L.length with h | h
 ·exact valB_drop _ _ _ h
 ·rw [List.drop_eq_nil_of_le h, List.drop_eq_nil_of_le (by omega), nth_ge h]; rfl
theorem rq_step {b : Nat} {L Q : List Nat} {j r d r2 : Nat} (h : RqInv b L Q (j + 1) r) (hj : j < Q.length) (hd : d < 10000) (hr : r2 + b * d = nth L j + 10000 * r) (hlt : r2 < b) : RqInv b L (Q.set j d) j r2 := by
 refine ⟨?_, hlt, fun x hx => ?_⟩
 ·rw [valB_drop4 (Q.set j d) j, nth_set_eq hj, drop_set_low (by omega), valB_drop4 L j, ← h.val]
  generalize val4 (Q.drop (j + 1)) = v at *
  generalize nth L j = l at *
  clear h hj hd hlt
  grind
 ·rcases List.mem_or_eq_of_mem_set hx with h1 | h1
  ·exact h.lim x h1
  ·omega
theorem val4_lt_of_top {M : List Nat} {n : Nat} (hn : M.length = n) (h0 : 0 < n) (ht : Top M) : 10000 ^ (n - 1) ≤ val4 M := by
 have h1 := valB_take_succ 10000 M (n - 1) (by omega)
 rw [show n - 1 + 1 = n by omega, List.take_of_length_le (by omega)] at h1
 have h2 := ht (by omega)
 rw [hn] at h2
 have h3 : 10000 ^ (n - 1) * 1 ≤ 10000 ^ (n - 1) * nth M (n - 1) := Nat.mul_le_mul_left _ (by omega)
 unfold val4
 omega
theorem rq_start {L M : List Nat} {l n : Nat} (hL : Lim4 L) (hl : L.length = l) (hn : M.length = n) (h0 : 0 < n) (hnl : n ≤ l) (ht : Top M) :
  RqInv (val4 M) L (List.replicate (l - n + 1) 0) (l - n + 1) (val4 (L.drop (l - n + 1))) := by
 refine ⟨by rw [List.drop_eq_nil_of_le (by simp)]; simp [val4, valB], ?_, fun d hd => by have := (List.mem_replicate.1 hd).2; omega⟩
 have h1 : Lim4 (L.drop (l - n + 1)) := fun d hd => hL d (List.mem_of_mem_drop hd)
 have h2 := valB_lt h1
 rw [List.length_drop, hl, show l - (l - n + 1) = n - 1 by omega] at h2
 have h3 := val4_lt_of_top hn h0 ht
 unfold val4 at *
 omega
theorem rrow_take {w : World} {B c : Nat} {A : Option Addr} {R : List Nat} (h : Row .i64 w B A c R) (hl : Lim4 R) :
  ∃ T, T.length = trimN R R.length ∧ Row .i64 w B A c T ∧ Lim4 T ∧ Top T ∧ val4 T = val4 R := by
 have htl := trimN_le R R.length
 have el : (R.take (trimN R R.length)).length = trimN R R.length := by rw [List.length_take]; omega
 refine ⟨R.take (trimN R R.length), el, h.take _, fun d hd => hl d (List.mem_of_mem_take hd), ?_, ?_⟩
 ·unfold Top; rw [el]; intro h; rw [nth_take (by omega)]; exact trimN_top _ _ h
 ·rw [val4, trimN_val _ _ _ (Nat.le_refl _), List.take_of_length_le (Nat.le_refl _)]
theorem rcmp_val {w : World} {B : Nat} {A A' : Option Addr} {c c' : Nat} {L M : List Nat} (h1 : Row .i64 w B A c L) (h2 : Row .i64 w B A' c' M) (l1 : Lim4 L) (l2 : Lim4 M) (t1 : Top L) (t2 : Top M) : cmpL L M = cmpZ (val4 L) (val4 M) :=
 cmpL_val4 (n := false) (m := false) ⟨h1, l1, t1, fun h => absurd h Bool.false_ne_true⟩ ⟨h2, l2, t2, fun h => absurd h Bool.false_ne_true⟩
theorem len_le4 {L M : List Nat} (hL : Lim4 L) (hM : Top M) (h : val4 M ≤ val4 L) : M.length ≤ L.length := by
 rcases Nat.lt_or_ge L.length M.length with h1 | h1
 ·have := canon_lt4 hL hM h1; omega
 ·exact h1
theorem cmpZ_le0 {x y : Nat} (h : x ≤ y) : decide (cmpZ x y ≤ 0) = true := by unfold cmpZ; split <;> simp; omega
theorem cmpZ_gt0 {x y : Nat} (h : y < x) : decide (cmpZ x y ≤ 0) = false := by unfold cmpZ; rw [if_neg (by omega), if_neg (by omega)]; rfl
theorem blk_one4 (w : World) (f : Nat) : Blk .i64 3 (w.alloc (.cells #[.int .i64 f] 3)) w.heap.size [f] := by
 show _ = _
 rw [heap_alloc_new]; rfl
theorem len_T {T M : List Nat} {n : Nat} (hT : Top T) (hM : Lim4 M) (hn : M.length = n) (hv : val4 T < val4 M * (9999 + 1)) : T.length ≤ n + 1 := by
 rcases Nat.lt_or_ge (n + 1) T.length with h | h
 ·exfalso
  have h1 := val4_lt_of_top rfl (show 0 < T.length by omega) hT
  have h2 := valB_lt hM
  rw [hn] at h2
  have h3 : (10000 : Nat) ^ (n + 1) ≤ 10000 ^ (T.length - 1) := Nat.pow_le_pow_right (by omega) (by omega)
  rw [Nat.pow_succ] at h3
  unfold val4 at *
  omega
 ·exact h
theorem val4_cons (d : Nat) (R : List Nat) : val4 ([d] ++ R) = d + 10000 * val4 R := by simp [valB]
set_option maxRecDepth 20000 in
set_option maxHeartbeats 6400000 in
theorem rquo_long (A A' : Option Addr) (c c' n : Nat) (L M : List Nat) (w : World) (hl : L.length ≤ 100000) (hm : M.length = n) (hn0 : 0 < n) (hml : n ≤ L.length) (hL : Lim4 L) (hM : Lim4 M) (htM : Top M)
  (hR : Row .i64 w w.heap.size A c L) (hR' : Row .i64 w w.heap.size A' c' M) :
  Calls Tryz.prog 128 #[.slice A L.length c, .slice A' n c'] w fun e w' => ∃ A1 c1 Q A2 c2 R, e = .returned (.tuple #[.slice A1 (List.length Q) c1, .slice A2 (List.length R) c2]) ∧
   Row .i64 w' w'.heap.size A1 c1 Q ∧ Row .i64 w' w'.heap.size A2 c2 R ∧ Lim4 Q ∧ Lim4 R ∧ val4 Q * val4 M + val4 R = val4 L ∧ val4 R < val4 M ∧ List.length Q ≤ L.length ∧ List.length R ≤ 3 * L.length + 9 ∧ Below w.heap.size w w' := by
 obtain ⟨i0, hi, hz0, hz1, hz2⟩ := info_parts info3
 obtain ⟨b, o, rfl, hbB, hcs⟩ := hR.spot (by omega)
 have hst := rq_start hL rfl hm hn0 hml htM
 have hlc := hR.len
 generalize hl' : L.length = l at *
 have HL := Lib.hid hl'
 have HM := Lib.hid hm
 have HST := Lib.hid hst
 clear hl' hm hst
 obtain ⟨fr, hfr⟩ : ∃ fr, fr = l - n + 1 := ⟨_, rfl⟩
 have f1 : fr + n = l + 1 := by omega
 have f2 : (l : Int) - (n : Int) + 1 = (fr : Int) := by omega
 have f3 : (0 : Int) ≤ (fr : Int) := by omega
 have f4 : (fr : Int) ≤ (l : Int) := by omega
 have f5 : (l : Int) ≤ (c : Int) := by omega
 have HFR := Lib.hid hfr
 clear hfr
 have hrow0 : Row .i64 w w.heap.size (some ⟨b, o + fr, none⟩) (c - fr) (L.drop fr) := by
  refine ⟨by rw [List.length_drop, HL.out]; omega, fun _ => ⟨b, o + fr, rfl, hbB, Cells.drop hcs fr⟩⟩
 have hrow1 : l = fr → Row .i64 w w.heap.size (some ⟨b, o, none⟩) 0 (L.drop fr) := by
  intro h
  rw [List.drop_eq_nil_of_le (by rw [HL.out]; omega)]
  exact Row.nil _ _ _ _ _
 have hdl : (L.drop fr).length = l - fr := by rw [List.length_drop, HL.out]
 have HR0 := Lib.hid hrow0
 have HR1 := Lib.hid hrow1
 have HDL := Lib.hid hdl
 have HCS := Lib.hid hcs
 clear hrow0 hrow1 hdl hcs hR
 have hcase : (¬ c = fr ∧ ¬ c - fr = 0) ∨ (c = fr ∧ l = fr) := by omega
 rcases hcase with ⟨g1, g2⟩ | ⟨g1, g2⟩
 ·go_enter Tryz.func128, Tryz.ntmps128
  go_wp2_with (first
   | (refine wpList_make_zeros _ rfl (.tmp 25) (.tmp 25) 31 rfl 3 .i64 i0 8 Tryz.underlying31 hi hz0 hz1 hz2 .i64 .i64 _ _ fr rfl rfl (by omega) (by omega) (by omega) (by omega) ?_; intro w1 hb1 hB1 hs1)
   | (at_builtin; refine wpList_append_row rfl (.tmp 27) (.tmp 30) 31 rfl .i64 w1.heap.size 3 i0 8 Tryz.underlying31 hi hz0 hz1 hz2 (by omega) (.slice (some ⟨w1.heap.size, 0, none⟩) 0 0) [] rfl (Own.ofBlk (by show _ = _; rw [heap_alloc_new]; rfl) (Nat.le_refl _) (by simp)) (some ⟨b, o + fr, none⟩) (l - fr) (c - fr) (L.drop fr) HDL.out rfl ((HR0.out.below hB1).alloc (by omega) _) (by simp; omega) (by simp) ?_; intro v2 w2 ho2 hb2)
   | fail)
  have hlies := ho2.out.lies
  rw [List.nil_append] at hlies
  obtain ⟨A2, c2, rfl, hr2, -⟩ := hlies
  rw [HDL.out]
  obtain ⟨lf, hlf⟩ : ∃ lf, l - fr = lf := ⟨_, rfl⟩
  rw [hlf]
  have HLF := Lib.hid hlf
  clear hlf
  have hbQ := (hb1.out.alloc (.cells #[] 3)).below hb2 hb1.out.lt
  have hbw2 := (hB1.trans (Below.less ((Below.refl _ _).alloc (Nat.le_refl _) _) (by omega))).trans (Below.less hb2 (by omega))
  have HB2 := Lib.hid hbw2
  have hg2 : w.heap.size < w2.heap.size := hbQ.lt
  have HBQ := Lib.hid hbQ
  have HR2 := Lib.hid hr2
  have hln2 : (L.drop fr).length ≤ 3 * l + 9 := by rw [HDL.out]; omega
  clear ho2 hb2 hb1 hB1 hbQ hr2 hbw2 hs1
  go_loopw [8, 9] (fun rv iv wr => ∃ (j : Nat) (Q : List Nat) (A2 : Option Addr) (c2 : Nat) (R : List Nat), j ≤ fr ∧ iv = .int .i64 ((j : Int) - 1) ∧ rv = .slice A2 (List.length R) c2 ∧ Row .i64 wr wr.heap.size A2 c2 R ∧ Lim4 R ∧ List.length R ≤ 3 * l + 9 ∧ Blk .i64 3 wr w.heap.size Q ∧ Q.length = fr ∧ Hid (RqInv (val4 M) L Q j (val4 R)) ∧ Below w.heap.size w wr) (fun _ iv _ => (intOf iv + 1).toNat)
  case atStart => exact ⟨fr, _, A2, c2, L.drop fr, Nat.le_refl _, rfl, by rw [HDL.out, HLF.out], HR2.out, fun d hd => hL d (List.mem_of_mem_drop hd), hln2, HBQ.out, by simp, by have := HST.out; rw [← HFR.out] at this; exact this, HB2.out⟩
  case round =>
   obtain ⟨j, Q, A2, c2, R, hj, rfl, rfl, hrR, hlR, hnR, hbQ, hQl, hin, hbw⟩ := hrel
   have hlR' : ∃ lr, List.length R = lr := ⟨_, rfl⟩
   rcases Nat.eq_zero_or_pos j with rfl | hpos
   ·have htQ := rtrim_any (some ⟨w.heap.size, 0, none⟩) fr Q wr (w.heap.size + 1) (by omega) (Row.ofBlk hbQ (Nat.lt_succ_self _) (by omega))
    rw [hQl] at htQ
    have HTQ := Lib.hid htQ
    have HQL := Lib.hid hQl
    have HBQ9 := Lib.hid hbQ
    have HRR := Lib.hid hrR
    clear htQ hQl hbQ hrR hlR'
    go_wp2_with fail
    refine HTQ.out.mono ?_
    rintro e w9 ⟨rfl, rfl⟩
    go_wp2_with fail
    go_ret2
    obtain ⟨QT, r1, r2, r3, r4, r5⟩ := rrow_take (Row.ofBlk (B := wr.heap.size) (c := fr) HBQ9.out HBQ9.out.lt (by rw [HQL.out]; exact Nat.le_refl _)) hin.out.lim
    rw [HQL.out] at r1
    have hv := hin.out.val
    rw [List.drop_zero, List.drop_zero] at hv
    have t1 := trimN_le Q fr
    exact ⟨_, _, QT, _, _, R, by rw [r1]; rfl, r2, HRR.out, r3, hlR, by rw [r5]; exact hv, hin.out.lt, by omega, hnR, hbw⟩
   ·obtain ⟨i, rfl⟩ : ∃ i, j = i + 1 := ⟨j - 1, by omega⟩
    have hi1 : ((i + 1 : Nat) : Int) - 1 = i := by omega
    have hci := (hbw.cell (p := ⟨b, o + i, none⟩) (by exact hbB)).trans (HCS.out i (by rw [HL.out]; omega))
    have hli : i < l := by omega
    have hgq : w.heap.size < wr.heap.size := hbQ.lt
    have hlr9 : List.length R ≤ 3 * l + 9 := hnR
    have HQL := Lib.hid hQl
    rw [hi1]
    clear hi1 hQl
    go_wp2_with (first
     | (at_builtin; refine wpList_append_row rfl (.tmp 42) (.tmp 43) 31 rfl .i64 wr.heap.size 3 i0 8 Tryz.underlying31 hi hz0 hz1 hz2 (by omega) (.slice (some ⟨wr.heap.size, 0, none⟩) 1 1) [nth L i] rfl (Own.ofBlk (blk_one4 wr (nth L i)) (Nat.le_refl _) (by simp)) A2 (List.length R) c2 R rfl rfl (hrR.alloc (Nat.le_refl _) _) (by simp; omega) (by simp) ?_; intro v3 w3 ho3 hb3)
     | fail)
    obtain ⟨A3, c3, hv3, hr3, hl3⟩ := ho3.out.lies
    have hne3 : A3 ≠ none := by
     rintro rfl
     have := hr3.spot (by simp)
     obtain ⟨b9, o9, e9, -, -⟩ := this
     cases e9
    obtain ⟨g3, o3, rfl⟩ : ∃ g3 o3, A3 = some ⟨g3, o3, none⟩ := by
     obtain ⟨b9, o9, e9, -, -⟩ := hr3.spot (by simp)
     exact ⟨b9, o9, e9⟩
    have hg3 : wr.heap.size ≤ g3 := hl3 _ _ rfl
    have hlim3 : Lim4 ([nth L i] ++ R) := by
     intro d hd
     rcases List.mem_append.1 hd with h | h
     ·rw [List.mem_singleton] at h; subst h; exact nth_all hL (by omega) i
     ·exact hlR d h
    have hval3 := val4_cons (nth L i) R
    have hln3 : ([nth L i] ++ R).length ≤ 3 * l + 10 := by simp; omega
    have hbw3 : Below w.heap.size w w3 := hbw.trans (Below.less ((below_alloc_new _).trans hb3) (by omega))
    have hbQ3 := (hbQ.alloc (.cells #[.int .i64 (nth L i)] 3)).below hb3 hgq
    subst hv3
    obtain ⟨a9, ha9⟩ : ∃ a9, nth L i = a9 := ⟨_, rfl⟩
    have HVAL3 := Lib.hid hval3
    generalize [nth L i] ++ R = R3 at *
    clear ho3 hl3 hne3 hval3 ha9 hbQ hbw hb3 hrR
    have htr := rtrim_any (some ⟨g3, o3, none⟩) c3 R3 w3 w3.heap.size (by omega) hr3
    obtain ⟨T, t1, t2, t3, t4, t5⟩ := rrow_take hr3 hlim3
    rw [← t1] at htr
    have hTl := trimN_le R3 R3.length
    have HTR := Lib.hid htr
    have HT1 := Lib.hid t1
    have hTn : List.length T ≤ 3 * l + 10 := by omega
    clear htr t1 hTl hr3 hlim3
    generalize List.length R3 = n3 at *
    refine HTR.out.mono ?_
    rintro e w4 ⟨rfl, rfl⟩
    have HB3 := Lib.hid hbw3
    have HBQ3 := Lib.hid hbQ3
    have HRT := Lib.hid t2
    have HTV := Lib.hid t5
    have hMr := Lib.hid (hR'.below hbw3)
    have hs3 : w.heap.size ≤ w3.heap.size := hbw3.size
    have hgne : w.heap.size ≠ g3 := by omega
    have hs3' : w.heap.size < w3.heap.size := hbQ3.lt
    have hg3s : g3 < w3.heap.size ∨ List.length T = 0 := by
     rcases Nat.eq_zero_or_pos (List.length T) with h | h
     ·exact .inr h
     ·obtain ⟨b9, o9, e9, h9, -⟩ := t2.spot h
      injection e9 with e9
      injection e9 with e9
      subst e9
      exact .inl h9
    clear hbw3 hbQ3 t2 t5 HTR hci
    generalize hTn' : List.length T = nt at *
    have HTN := Lib.hid hTn'
    clear hTn'
    have hup := hin.out.lt
    have hTup : Hid (val4 T < val4 M * (9999 + 1)) := by
     show _ < _
     rw [HTV.out, HVAL3.out]
     have := nth_all hL (show 0 < 10000 by omega) i
     omega
    go_wp2_with fail
    go_loopw [10, 11] (fun lv hv wq => ∃ lo hi : Nat, lo ≤ hi ∧ hi ≤ 9999 ∧ lv = .int .i64 (lo : Int) ∧ hv = .int .i64 (hi : Int) ∧ Hid (val4 M * lo ≤ val4 T ∧ val4 T < val4 M * (hi + 1)) ∧ Below w3.heap.size w3 wq) (fun lv hv _ => (intOf hv - intOf lv).toNat)
    case atStart => exact ⟨0, 9999, by omega, by omega, rfl, rfl, ⟨by simp, hTup⟩, Below.refl _ _⟩
    case round =>
     obtain ⟨lo, hi', hlh, hh9, rfl, rfl, hbs, hbq⟩ := hrel
     by_cases hlt : lo < hi'
     ·obtain ⟨mid, hmid⟩ : ∃ mid, mid = (lo + hi' + 1) / 2 := ⟨_, rfl⟩
      have hm1 : ((lo : Int) + (hi' : Int) + 1) / 2 = (mid : Int) := by omega
      have hm2 : lo < mid := by omega
      have hm3 : mid ≤ hi' := by omega
      have HMID := Lib.hid hmid
      clear hmid
      have hmr : Row .i64 wr wr.heap.size A' c' M := ((hMr.out.more hs3).below hbq).more hbq.size
      have hTr : Row .i64 wr wr.heap.size (some ⟨g3, o3, none⟩) c3 T := (HRT.out.below hbq).more hbq.size
      have hmul := fun (W : World) (hb : Below wr.heap.size wr W) (hm : Row .i64 W W.heap.size (some ⟨wr.heap.size, 0, none⟩) 1 [mid]) => rmul2 A' (some ⟨wr.heap.size, 0, none⟩) c' 1 M [mid] W (by rw [HM.out]; omega) (by simp) hM (fun d hd => by rw [List.mem_singleton] at hd; omega) (hmr.up hb) hm
      rw [HM.out] at hmul
      have HMUL := Lib.hid hmul
      have HTr := Lib.hid hTr
      clear hmul hmr hTr
      go_wp2_with fail
      have hbm := blk_one4 wr mid
      refine (HMUL.out _ (below_alloc_new _) (Row.ofBlk hbm hbm.lt (by simp))).mono ?_
      rintro e w5 ⟨g5, c5, P5, rfl, k1, k2, k3, k4, k5, k6, k7⟩
      have hb5 : Below wr.heap.size wr w5 := (below_alloc_new _).trans (Below.less k6 (by simp))
      have hTr5 := HTr.out.up hb5
      have hcm := rcompare_any (some ⟨g5, 0, none⟩) (some ⟨g3, o3, none⟩) c5 c3 P5 T w5 (by simp at k5; omega) (by rw [HTN.out]; omega) k1 hTr5
      rw [rcmp_val k1 hTr5 k2 t3 k3 t4, k4, show val4 [mid] = mid by simp [valB], HTN.out] at hcm
      have HCM := Lib.hid hcm
      have HB5 := Lib.hid (below_then hbq hb5 hbq.size)
      clear hcm hb5 hTr5 k1 k2 k3 k4 k5 k6 k7 hbm
      generalize List.length P5 = n5 at *
      by_cases hle : val4 M * mid ≤ val4 T
      ·have hd := cmpZ_le0 hle
       have HLE := Lib.hid hle
       clear hle
       generalize cmpZ (val4 M * mid) (val4 T) = cz at *
       go_wp2_with fail
       refine HCM.out.mono ?_
       rintro e w6 ⟨rfl, nq, rfl⟩
       go_wp2_with fail
       go_roundw
       case rel => exact ⟨mid, hi', by omega, hh9, rfl, rfl, ⟨HLE.out, hbs.out.2⟩, below_drewN HB5.out _⟩
       case measure => simp [intOf]; omega
      ·have hd := cmpZ_gt0 (show val4 T < val4 M * mid by omega)
       have HLE := Lib.hid hle
       clear hle
       generalize cmpZ (val4 M * mid) (val4 T) = cz at *
       go_wp2_with fail
       refine HCM.out.mono ?_
       rintro e w6 ⟨rfl, nq, rfl⟩
       go_wp2_with fail
       go_roundw
       case rel => exact ⟨lo, mid - 1, by omega, by omega, rfl, by go_num, ⟨hbs.out.1, by rw [show mid - 1 + 1 = mid by omega]; exact Nat.lt_of_not_le HLE.out⟩, below_drewN HB5.out _⟩
       case measure => simp [intOf]; omega
     ·obtain rfl : lo = hi' := by omega
      have hbQr := HBQ3.out.below hbq hs3'
      have hcq := hbQr.cell i (by rw [HQL.out]; omega)
      have hfq := hbQr.frozen i
      have hbQs := hbQr.set_ i lo
      have hTs : Row .i64 (wr.setCell ⟨w.heap.size, i, none⟩ (.int .i64 lo)) wr.heap.size (some ⟨g3, o3, none⟩) c3 T := ((HRT.out.below hbq).more hbq.size).apart (by exact hgne) _
      have hbs2 : Below w.heap.size w (wr.setCell ⟨w.heap.size, i, none⟩ (.int .i64 lo)) := (HB3.out.trans (Below.less hbq hs3)).setCell (Nat.le_refl _) _
      have hszs : (wr.setCell ⟨w.heap.size, i, none⟩ (.int .i64 (lo : Int))).heap.size = wr.heap.size := setCell_size _ _ _
      have hMs := hR'.below hbs2
      have HBQS := Lib.hid hbQs
      have HTS := Lib.hid hTs
      have HBS2 := Lib.hid hbs2
      have HMS := Lib.hid hMs
      have hwrs : w.heap.size < wr.heap.size := hbQr.lt
      have HSZ := Lib.hid hszs
      clear hbQr hbQs hTs hbs2 hszs hMs hlt
      go_upto_region 17 with (fail)
      change Code.wp Tryz.prog _ _ _ (wr.setCell ⟨w.heap.size, i, none⟩ (.int .i64 lo))
      generalize wr.setCell ⟨w.heap.size, i, none⟩ (.int .i64 (lo : Int)) = ws at *
      clear hcq hfq
      have hbl := blk_one4 ws lo
      have hlo9 : Lim4 [lo] := fun d hd => by rw [List.mem_singleton] at hd; omega
      have htl := rtrim_any (some ⟨ws.heap.size, 0, none⟩) 1 [lo] (ws.alloc (.cells #[.int .i64 lo] 3)) (ws.heap.size + 1) (by simp) (Row.ofBlk hbl (Nat.lt_succ_self _) (by simp))
      obtain ⟨U, u1, u2, u3, u4, u5⟩ := rrow_take (Row.ofBlk (B := ws.heap.size + 1) (c := 1) hbl (Nat.lt_succ_self _) (by simp)) hlo9
      rw [← u1] at htl
      have hU1 : List.length U ≤ 1 := by rw [u1]; exact trimN_le _ _
      have huv : val4 U = lo := by rw [u5]; simp [valB]
      have hba := below_alloc_new (w := ws) (.cells #[.int .i64 lo] 3)
      have hsa : (ws.alloc (.cells #[.int .i64 (lo : Int)] 3)).heap.size = ws.heap.size + 1 := by simp
      rw [← hsa] at u2
      have hmul := rmul2 A' (some ⟨ws.heap.size, 0, none⟩) c' 1 M U (ws.alloc (.cells #[.int .i64 lo] 3)) (by rw [HM.out]; omega) (by omega) hM u3 (((HMS.out.more (by rw [HSZ.out]; omega)).below hba).more (by rw [hsa]; omega)) u2
      rw [HM.out, huv] at hmul
      have hTa : Row .i64 (ws.alloc (.cells #[.int .i64 lo] 3)) (ws.alloc (.cells #[.int .i64 (lo : Int)] 3)).heap.size (some ⟨g3, o3, none⟩) c3 T := (HTS.out.more (by rw [HSZ.out]; exact Nat.le_refl _)).up hba
      have HTL := Lib.hid htl
      have HMUL := Lib.hid hmul
      have HTA := Lib.hid hTa
      have HBA := Lib.hid hba
      have HSA := Lib.hid hsa
      clear htl hmul hTa hba u1 u2 u5 huv hbl hsa
      generalize List.length U = nu at *
      go_wp2_with fail
      refine HTL.out.mono ?_
      rintro e w6 ⟨rfl, rfl⟩
      go_wp2_with fail
      refine HMUL.out.mono ?_
      rintro e w7 ⟨g7, c7, P7, rfl, k1, k2, k3, k4, k5, k6, k7⟩
      have hT7 := HTA.out.up k6
      have hle7 : val4 P7 ≤ val4 T := by rw [k4]; exact hbs.out.1
      have hPT := len_le4 t3 k3 hle7
      have hsb := rsub2 (some ⟨g3, o3, none⟩) (some ⟨g7, 0, none⟩) c3 c7 T P7 w7 (by rw [HTN.out]; omega) hPT t3 k2 hle7 hT7 k1
      rw [HTN.out] at hsb
      have HSB := Lib.hid hsb
      have HP4 := Lib.hid k4
      have HPT := Lib.hid hPT
      have hb7 : Below w.heap.size w w7 := HBS2.out.trans (Below.less (HBA.out.trans (Below.less k6 (by rw [HSA.out]; omega))) (by rw [HSZ.out]; omega))
      have HB7 := Lib.hid hb7
      have hQ7 := (HBQS.out.below HBA.out (by rw [HSZ.out]; exact hwrs)).below k6 (by rw [HSA.out, HSZ.out]; omega)
      have HQ7 := Lib.hid hQ7
      clear hsb k1 k2 k3 k4 k5 k6 k7 hT7 hle7 hPT hb7 hQ7
      generalize List.length P7 = n7 at *
      go_wp2_with fail
      refine HSB.out.mono ?_
      rintro e w8 ⟨A8, c8, R8, rfl, m1, m2, m3, m4, m5⟩
      have HB8 := Lib.hid (below_then HB7.out m5 HB7.out.size)
      have HQ8 := Lib.hid (HQ7.out.below m5 HQ7.out.lt)
      have M1 := Lib.hid m1
      have M3 := Lib.hid m3
      have M4 := Lib.hid m4
      clear m1 m3 m4 m5
      go_wp2_with fail
      go_roundw
      case rel =>
       have hnT := len_T t4 hM HM.out hTup.out
       have e1 := HTN.out
       have e2 := HPT.out
       have e3 := M4.out
       have e4 := M3.out
       have e5 := hbs.out.2
       rw [HP4.out] at e4
       have e6 : val4 M * (lo + 1) = val4 M * lo + val4 M := by rw [Nat.mul_add, Nat.mul_one]
       rw [e6] at e5
       have e7 : val4 R8 + val4 M * lo = nth L i + 10000 * val4 R := by rw [e4, HTV.out, HVAL3.out]
       exact ⟨i, Q.set i lo, A8, c8, R8, by omega, rfl, rfl, M1.out, m2, by omega, HQ8.out, by rw [List.length_set]; exact HQL.out, rq_step hin.out (by rw [HQL.out]; omega) (by omega) e7 (by omega), HB8.out⟩
      case measure => simp [intOf]
 ·obtain rfl : fr = c := g1.symm
  have G2 := Lib.hid g2
  have hl0 : l - fr = 0 := by omega
  have HL0 := Lib.hid hl0
  clear g1 g2 hl0
  go_enter Tryz.func128, Tryz.ntmps128
  go_wp2_with (first
   | (refine wpList_make_zeros _ rfl (.tmp 25) (.tmp 25) 31 rfl 3 .i64 i0 8 Tryz.underlying31 hi hz0 hz1 hz2 .i64 .i64 _ _ fr rfl rfl (by omega) (by omega) (by omega) (by omega) ?_; intro w1 hb1 hB1 hs1)
   | fail)
  change Code.wp Tryz.prog _ _ _ (w1.alloc (.cells #[] 3))
  have hdn : L.drop fr = [] := List.eq_nil_of_length_eq_zero (by rw [HDL.out]; exact HL0.out)
  have hr2 : Row .i64 (w1.alloc (.cells #[] 3)) (w1.alloc (.cells #[] 3)).heap.size (some ⟨w1.heap.size, 0, none⟩) 0 (L.drop fr) := by rw [hdn]; exact Row.nil _ _ _ _ _
  have hbQ := hb1.out.alloc (.cells #[] 3)
  have hbw2 : Below w.heap.size w (w1.alloc (.cells #[] 3)) := hB1.trans ((Below.refl _ _).alloc (by omega) _)
  generalize w1.alloc (.cells #[] 3) = w2 at *
  have HB2 := Lib.hid hbw2
  have hg2 : w.heap.size < w2.heap.size := hbQ.lt
  have HBQ := Lib.hid hbQ
  have HR2 := Lib.hid hr2
  have hln2 : (L.drop fr).length ≤ 3 * l + 9 := by rw [HDL.out]; omega
  clear hb1 hB1 hbQ hr2 hbw2 hs1 hdn
  go_loopw [8, 9] (fun rv iv wr => ∃ (j : Nat) (Q : List Nat) (A2 : Option Addr) (c2 : Nat) (R : List Nat), j ≤ fr ∧ iv = .int .i64 ((j : Int) - 1) ∧ rv = .slice A2 (List.length R) c2 ∧ Row .i64 wr wr.heap.size A2 c2 R ∧ Lim4 R ∧ List.length R ≤ 3 * l + 9 ∧ Blk .i64 3 wr w.heap.size Q ∧ Q.length = fr ∧ Hid (RqInv (val4 M) L Q j (val4 R)) ∧ Below w.heap.size w wr) (fun _ iv _ => (intOf iv + 1).toNat)
  case atStart => exact ⟨fr, _, some ⟨w1.heap.size, 0, none⟩, 0, L.drop fr, Nat.le_refl _, rfl, by rw [HDL.out, HL0.out], HR2.out, fun d hd => hL d (List.mem_of_mem_drop hd), hln2, HBQ.out, by simp, by have := HST.out; rw [← HFR.out] at this; exact this, HB2.out⟩
  case round =>
   obtain ⟨j, Q, A2, c2, R, hj, rfl, rfl, hrR, hlR, hnR, hbQ, hQl, hin, hbw⟩ := hrel
   have hlR' : ∃ lr, List.length R = lr := ⟨_, rfl⟩
   rcases Nat.eq_zero_or_pos j with rfl | hpos
   ·have htQ := rtrim_any (some ⟨w.heap.size, 0, none⟩) fr Q wr (w.heap.size + 1) (by omega) (Row.ofBlk hbQ (Nat.lt_succ_self _) (by omega))
    rw [hQl] at htQ
    have HTQ := Lib.hid htQ
    have HQL := Lib.hid hQl
    have HBQ9 := Lib.hid hbQ
    have HRR := Lib.hid hrR
    clear htQ hQl hbQ hrR hlR'
    go_wp2_with fail
    refine HTQ.out.mono ?_
    rintro e w9 ⟨rfl, rfl⟩
    go_wp2_with fail
    go_ret2
    obtain ⟨QT, r1, r2, r3, r4, r5⟩ := rrow_take (Row.ofBlk (B := wr.heap.size) (c := fr) HBQ9.out HBQ9.out.lt (by rw [HQL.out]; exact Nat.le_refl _)) hin.out.lim
    rw [HQL.out] at r1
    have hv := hin.out.val
    rw [List.drop_zero, List.drop_zero] at hv
    have t1 := trimN_le Q fr
    exact ⟨_, _, QT, _, _, R, by rw [r1]; rfl, r2, HRR.out, r3, hlR, by rw [r5]; exact hv, hin.out.lt, by omega, hnR, hbw⟩
   ·obtain ⟨i, rfl⟩ : ∃ i, j = i + 1 := ⟨j - 1, by omega⟩
    have hi1 : ((i + 1 : Nat) : Int) - 1 = i := by omega
    have hci := (hbw.cell (p := ⟨b, o + i, none⟩) (by exact hbB)).trans (HCS.out i (by rw [HL.out]; omega))
    have hli : i < l := by omega
    have hgq : w.heap.size < wr.heap.size := hbQ.lt
    have hlr9 : List.length R ≤ 3 * l + 9 := hnR
    have HQL := Lib.hid hQl
    rw [hi1]
    clear hi1 hQl
    go_wp2_with (first
     | (at_builtin; refine wpList_append_row rfl (.tmp 42) (.tmp 43) 31 rfl .i64 wr.heap.size 3 i0 8 Tryz.underlying31 hi hz0 hz1 hz2 (by omega) (.slice (some ⟨wr.heap.size, 0, none⟩) 1 1) [nth L i] rfl (Own.ofBlk (blk_one4 wr (nth L i)) (Nat.le_refl _) (by simp)) A2 (List.length R) c2 R rfl rfl (hrR.alloc (Nat.le_refl _) _) (by simp; omega) (by simp) ?_; intro v3 w3 ho3 hb3)
     | fail)
    obtain ⟨A3, c3, hv3, hr3, hl3⟩ := ho3.out.lies
    have hne3 : A3 ≠ none := by
     rintro rfl
     have := hr3.spot (by simp)
     obtain ⟨b9, o9, e9, -, -⟩ := this
     cases e9
    obtain ⟨g3, o3, rfl⟩ : ∃ g3 o3, A3 = some ⟨g3, o3, none⟩ := by
     obtain ⟨b9, o9, e9, -, -⟩ := hr3.spot (by simp)
     exact ⟨b9, o9, e9⟩
    have hg3 : wr.heap.size ≤ g3 := hl3 _ _ rfl
    have hlim3 : Lim4 ([nth L i] ++ R) := by
     intro d hd
     rcases List.mem_append.1 hd with h | h
     ·rw [List.mem_singleton] at h; subst h; exact nth_all hL (by omega) i
     ·exact hlR d h
    have hval3 := val4_cons (nth L i) R
    have hln3 : ([nth L i] ++ R).length ≤ 3 * l + 10 := by simp; omega
    have hbw3 : Below w.heap.size w w3 := hbw.trans (Below.less ((below_alloc_new _).trans hb3) (by omega))
    have hbQ3 := (hbQ.alloc (.cells #[.int .i64 (nth L i)] 3)).below hb3 hgq
    subst hv3
    obtain ⟨a9, ha9⟩ : ∃ a9, nth L i = a9 := ⟨_, rfl⟩
    have HVAL3 := Lib.hid hval3
    generalize [nth L i] ++ R = R3 at *
    clear ho3 hl3 hne3 hval3 ha9 hbQ hbw hb3 hrR
    have htr := rtrim_any (some ⟨g3, o3, none⟩) c3 R3 w3 w3.heap.size (by omega) hr3
    obtain ⟨T, t1, t2, t3, t4, t5⟩ := rrow_take hr3 hlim3
    rw [← t1] at htr
    have hTl := trimN_le R3 R3.length
    have HTR := Lib.hid htr
    have HT1 := Lib.hid t1
    have hTn : List.length T ≤ 3 * l + 10 := by omega
    clear htr t1 hTl hr3 hlim3
    generalize List.length R3 = n3 at *
    refine HTR.out.mono ?_
    rintro e w4 ⟨rfl, rfl⟩
    have HB3 := Lib.hid hbw3
    have HBQ3 := Lib.hid hbQ3
    have HRT := Lib.hid t2
    have HTV := Lib.hid t5
    have hMr := Lib.hid (hR'.below hbw3)
    have hs3 : w.heap.size ≤ w3.heap.size := hbw3.size
    have hgne : w.heap.size ≠ g3 := by omega
    have hs3' : w.heap.size < w3.heap.size := hbQ3.lt
    have hg3s : g3 < w3.heap.size ∨ List.length T = 0 := by
     rcases Nat.eq_zero_or_pos (List.length T) with h | h
     ·exact .inr h
     ·obtain ⟨b9, o9, e9, h9, -⟩ := t2.spot h
      injection e9 with e9
      injection e9 with e9
      subst e9
      exact .inl h9
    clear hbw3 hbQ3 t2 t5 HTR hci
    generalize hTn' : List.length T = nt at *
    have HTN := Lib.hid hTn'
    clear hTn'
    have hup := hin.out.lt
    have hTup : Hid (val4 T < val4 M * (9999 + 1)) := by
     show _ < _
     rw [HTV.out, HVAL3.out]
     have := nth_all hL (show 0 < 10000 by omega) i
     omega
    go_wp2_with fail
    go_loopw [10, 11] (fun lv hv wq => ∃ lo hi : Nat, lo ≤ hi ∧ hi ≤ 9999 ∧ lv = .int .i64 (lo : Int) ∧ hv = .int .i64 (hi : Int) ∧ Hid (val4 M * lo ≤ val4 T ∧ val4 T < val4 M * (hi + 1)) ∧ Below w3.heap.size w3 wq) (fun lv hv _ => (intOf hv - intOf lv).toNat)
    case atStart => exact ⟨0, 9999, by omega, by omega, rfl, rfl, ⟨by simp, hTup⟩, Below.refl _ _⟩
    case round =>
     obtain ⟨lo, hi', hlh, hh9, rfl, rfl, hbs, hbq⟩ := hrel
     by_cases hlt : lo < hi'
     ·obtain ⟨mid, hmid⟩ : ∃ mid, mid = (lo + hi' + 1) / 2 := ⟨_, rfl⟩
      have hm1 : ((lo : Int) + (hi' : Int) + 1) / 2 = (mid : Int) := by omega
      have hm2 : lo < mid := by omega
      have hm3 : mid ≤ hi' := by omega
      have HMID := Lib.hid hmid
      clear hmid
      have hmr : Row .i64 wr wr.heap.size A' c' M := ((hMr.out.more hs3).below hbq).more hbq.size
      have hTr : Row .i64 wr wr.heap.size (some ⟨g3, o3, none⟩) c3 T := (HRT.out.below hbq).more hbq.size
      have hmul := fun (W : World) (hb : Below wr.heap.size wr W) (hm : Row .i64 W W.heap.size (some ⟨wr.heap.size, 0, none⟩) 1 [mid]) => rmul2 A' (some ⟨wr.heap.size, 0, none⟩) c' 1 M [mid] W (by rw [HM.out]; omega) (by simp) hM (fun d hd => by rw [List.mem_singleton] at hd; omega) (hmr.up hb) hm
      rw [HM.out] at hmul
      have HMUL := Lib.hid hmul
      have HTr := Lib.hid hTr
      clear hmul hmr hTr
      go_wp2_with fail
      have hbm := blk_one4 wr mid
      refine (HMUL.out _ (below_alloc_new _) (Row.ofBlk hbm hbm.lt (by simp))).mono ?_
      rintro e w5 ⟨g5, c5, P5, rfl, k1, k2, k3, k4, k5, k6, k7⟩
      have hb5 : Below wr.heap.size wr w5 := (below_alloc_new _).trans (Below.less k6 (by simp))
      have hTr5 := HTr.out.up hb5
      have hcm := rcompare_any (some ⟨g5, 0, none⟩) (some ⟨g3, o3, none⟩) c5 c3 P5 T w5 (by simp at k5; omega) (by rw [HTN.out]; omega) k1 hTr5
      rw [rcmp_val k1 hTr5 k2 t3 k3 t4, k4, show val4 [mid] = mid by simp [valB], HTN.out] at hcm
      have HCM := Lib.hid hcm
      have HB5 := Lib.hid (below_then hbq hb5 hbq.size)
      clear hcm hb5 hTr5 k1 k2 k3 k4 k5 k6 k7 hbm
      generalize List.length P5 = n5 at *
      by_cases hle : val4 M * mid ≤ val4 T
      ·have hd := cmpZ_le0 hle
       have HLE := Lib.hid hle
       clear hle
       generalize cmpZ (val4 M * mid) (val4 T) = cz at *
       go_wp2_with fail
       refine HCM.out.mono ?_
       rintro e w6 ⟨rfl, nq, rfl⟩
       go_wp2_with fail
       go_roundw
       case rel => exact ⟨mid, hi', by omega, hh9, rfl, rfl, ⟨HLE.out, hbs.out.2⟩, below_drewN HB5.out _⟩
       case measure => simp [intOf]; omega
      ·have hd := cmpZ_gt0 (show val4 T < val4 M * mid by omega)
       have HLE := Lib.hid hle
       clear hle
       generalize cmpZ (val4 M * mid) (val4 T) = cz at *
       go_wp2_with fail
       refine HCM.out.mono ?_
       rintro e w6 ⟨rfl, nq, rfl⟩
       go_wp2_with fail
       go_roundw
       case rel => exact ⟨lo, mid - 1, by omega, by omega, rfl, by go_num, ⟨hbs.out.1, by rw [show mid - 1 + 1 = mid by omega]; exact Nat.lt_of_not_le HLE.out⟩, below_drewN HB5.out _⟩
       case measure => simp [intOf]; omega
     ·obtain rfl : lo = hi' := by omega
      have hbQr := HBQ3.out.below hbq hs3'
      have hcq := hbQr.cell i (by rw [HQL.out]; omega)
      have hfq := hbQr.frozen i
      have hbQs := hbQr.set_ i lo
      have hTs : Row .i64 (wr.setCell ⟨w.heap.size, i, none⟩ (.int .i64 lo)) wr.heap.size (some ⟨g3, o3, none⟩) c3 T := ((HRT.out.below hbq).more hbq.size).apart (by exact hgne) _
      have hbs2 : Below w.heap.size w (wr.setCell ⟨w.heap.size, i, none⟩ (.int .i64 lo)) := (HB3.out.trans (Below.less hbq hs3)).setCell (Nat.le_refl _) _
      have hszs : (wr.setCell ⟨w.heap.size, i, none⟩ (.int .i64 (lo : Int))).heap.size = wr.heap.size := setCell_size _ _ _
      have hMs := hR'.below hbs2
      have HBQS := Lib.hid hbQs
      have HTS := Lib.hid hTs
      have HBS2 := Lib.hid hbs2
      have HMS := Lib.hid hMs
      have hwrs : w.heap.size < wr.heap.size := hbQr.lt
      have HSZ := Lib.hid hszs
      clear hbQr hbQs hTs hbs2 hszs hMs hlt
      go_upto_region 17 with (fail)
      change Code.wp Tryz.prog _ _ _ (wr.setCell ⟨w.heap.size, i, none⟩ (.int .i64 lo))
      generalize wr.setCell ⟨w.heap.size, i, none⟩ (.int .i64 (lo : Int)) = ws at *
      clear hcq hfq
      have hbl := blk_one4 ws lo
      have hlo9 : Lim4 [lo] := fun d hd => by rw [List.mem_singleton] at hd; omega
      have htl := rtrim_any (some ⟨ws.heap.size, 0, none⟩) 1 [lo] (ws.alloc (.cells #[.int .i64 lo] 3)) (ws.heap.size + 1) (by simp) (Row.ofBlk hbl (Nat.lt_succ_self _) (by simp))
      obtain ⟨U, u1, u2, u3, u4, u5⟩ := rrow_take (Row.ofBlk (B := ws.heap.size + 1) (c := 1) hbl (Nat.lt_succ_self _) (by simp)) hlo9
      rw [← u1] at htl
      have hU1 : List.length U ≤ 1 := by rw [u1]; exact trimN_le _ _
      have huv : val4 U = lo := by rw [u5]; simp [valB]
      have hba := below_alloc_new (w := ws) (.cells #[.int .i64 lo] 3)
      have hsa : (ws.alloc (.cells #[.int .i64 (lo : Int)] 3)).heap.size = ws.heap.size + 1 := by simp
      rw [← hsa] at u2
      have hmul := rmul2 A' (some ⟨ws.heap.size, 0, none⟩) c' 1 M U (ws.alloc (.cells #[.int .i64 lo] 3)) (by rw [HM.out]; omega) (by omega) hM u3 (((HMS.out.more (by rw [HSZ.out]; omega)).below hba).more (by rw [hsa]; omega)) u2
      rw [HM.out, huv] at hmul
      have hTa : Row .i64 (ws.alloc (.cells #[.int .i64 lo] 3)) (ws.alloc (.cells #[.int .i64 (lo : Int)] 3)).heap.size (some ⟨g3, o3, none⟩) c3 T := (HTS.out.more (by rw [HSZ.out]; exact Nat.le_refl _)).up hba
      have HTL := Lib.hid htl
      have HMUL := Lib.hid hmul
      have HTA := Lib.hid hTa
      have HBA := Lib.hid hba
      have HSA := Lib.hid hsa
      clear htl hmul hTa hba u1 u2 u5 huv hbl hsa
      generalize List.length U = nu at *
      go_wp2_with fail
      refine HTL.out.mono ?_
      rintro e w6 ⟨rfl, rfl⟩
      go_wp2_with fail
      refine HMUL.out.mono ?_
      rintro e w7 ⟨g7, c7, P7, rfl, k1, k2, k3, k4, k5, k6, k7⟩
      have hT7 := HTA.out.up k6
      have hle7 : val4 P7 ≤ val4 T := by rw [k4]; exact hbs.out.1
      have hPT := len_le4 t3 k3 hle7
      have hsb := rsub2 (some ⟨g3, o3, none⟩) (some ⟨g7, 0, none⟩) c3 c7 T P7 w7 (by rw [HTN.out]; omega) hPT t3 k2 hle7 hT7 k1
      rw [HTN.out] at hsb
      have HSB := Lib.hid hsb
      have HP4 := Lib.hid k4
      have HPT := Lib.hid hPT
      have hb7 : Below w.heap.size w w7 := HBS2.out.trans (Below.less (HBA.out.trans (Below.less k6 (by rw [HSA.out]; omega))) (by rw [HSZ.out]; omega))
      have HB7 := Lib.hid hb7
      have hQ7 := (HBQS.out.below HBA.out (by rw [HSZ.out]; exact hwrs)).below k6 (by rw [HSA.out, HSZ.out]; omega)
      have HQ7 := Lib.hid hQ7
      clear hsb k1 k2 k3 k4 k5 k6 k7 hT7 hle7 hPT hb7 hQ7
      generalize List.length P7 = n7 at *
      go_wp2_with fail
      refine HSB.out.mono ?_
      rintro e w8 ⟨A8, c8, R8, rfl, m1, m2, m3, m4, m5⟩
      have HB8 := Lib.hid (below_then HB7.out m5 HB7.out.size)
      have HQ8 := Lib.hid (HQ7.out.below m5 HQ7.out.lt)
      have M1 := Lib.hid m1
      have M3 := Lib.hid m3
      have M4 := Lib.hid m4
      clear m1 m3 m4 m5
      go_wp2_with fail
      go_roundw
      case rel =>
       have hnT := len_T t4 hM HM.out hTup.out
       have e1 := HTN.out
       have e2 := HPT.out
       have e3 := M4.out
       have e4 := M3.out
       have e5 := hbs.out.2
       rw [HP4.out] at e4
       have e6 : val4 M * (lo + 1) = val4 M * lo + val4 M := by rw [Nat.mul_add, Nat.mul_one]
       rw [e6] at e5
       have e7 : val4 R8 + val4 M * lo = nth L i + 10000 * val4 R := by rw [e4, HTV.out, HVAL3.out]
       exact ⟨i, Q.set i lo, A8, c8, R8, by omega, rfl, rfl, M1.out, m2, by omega, HQ8.out, by rw [List.length_set]; exact HQL.out, rq_step hin.out (by rw [HQL.out]; omega) (by omega) e7 (by omega), HB8.out⟩
      case measure => simp [intOf]
set_option maxHeartbeats 6400000
set_option maxRecDepth 20000
def RqPost (L M : List Nat) (w : World) (e : Ending) (w' : World) : Prop := ∃ A1 c1 Q A2 c2 R, e = .returned (.tuple #[.slice A1 (List.length Q) c1, .slice A2 (List.length R) c2]) ∧
 Row .i64 w' w'.heap.size A1 c1 Q ∧ Row .i64 w' w'.heap.size A2 c2 R ∧ Lim4 Q ∧ Lim4 R ∧ val4 Q * val4 M + val4 R = val4 L ∧ val4 R < val4 M ∧ List.length Q ≤ L.length ∧ List.length R ≤ 3 * L.length + 9 ∧ Below w.heap.size w w'
theorem rquo_any (A A' : Option Addr) (c c' : Nat) (L M : List Nat) (w : World) (hl : L.length ≤ 100000) (_hml : M.length ≤ 100000) (hn0 : 0 < M.length) (hL : Lim4 L) (hM : Lim4 M) (htM : Top M)
  (hR : Row .i64 w w.heap.size A c L) (hR' : Row .i64 w w.heap.size A' c' M) :
  Calls Tryz.prog 128 #[.slice A L.length c, .slice A' M.length c'] w (RqPost L M w) := by
 rcases Nat.lt_or_ge L.length M.length with h | h
 ·have hv := canon_lt4 hL htM h
  have hfin : ∀ W, Below w.heap.size w W → RqPost L M w (.returned (.tuple #[.slice none 0 0, .slice A L.length c])) W := fun W hb =>
   ⟨none, 0, [], A, c, L, rfl, Row.nil _ _ _ _ _, (hR.below hb).more hb.size, fun _ h => absurd h (List.not_mem_nil), hL, by simp [valB], hv, by simp, by omega, hb⟩
  have HF := Lib.hid hfin
  clear hfin hv
  generalize L.length = l at *
  generalize M.length = m at *
  go_enter Tryz.func128, Tryz.ntmps128
  go_wp2
  go_ret2
  exact HF.out _ (Below.refl _ _)
 ·exact rquo_long A A' c c' M.length L M w hl rfl hn0 h hL hM htM hR hR'
theorem rsigned_int (neg : Bool) (A : Option Addr) (c : Nat) (R : List Nat) (w : World) (hn : R.length ≤ 4000000) (hlim : Lim4 R) (hR : Row .i64 w w.heap.size A c R) :
  Calls Tryz.prog 109 #[.bool neg, .slice A R.length c] w fun e w' => ∃ T, e = .returned (.agg #[.bool (neg && decide (0 < List.length T)), .slice A (List.length T) c]) ∧ RefR w' w'.heap.size (neg && decide (0 < List.length T)) A c T ∧
   zR (neg && decide (0 < List.length T)) T = (if neg then -(val4 R : Int) else val4 R) ∧ List.length T ≤ R.length ∧ Below w.heap.size w w' := by
 refine (rsigned_pack neg A c R w (Nat.le_refl _) hn hlim hR).mono ?_
 rintro e w' ⟨T, rfl, hr, hl4, htop, hv, hl, hb⟩
 refine ⟨T, rfl, ⟨hr, hl4, htop, fun h0 h1 => by rw [h1] at h0; simp at h0⟩, ?_, hl, hb⟩
 unfold zR
 rw [← hv]
 cases neg
 ·simp
 ·rcases Nat.eq_zero_or_pos (List.length T) with h | h
  ·have : T = [] := List.eq_nil_of_length_eq_zero h
   subst this
   simp [valB]
  ·simp [h]
theorem rq_final {w w4 W : World} {p0 p1 p2 p3 : Value} {k1 k2 : Bool} {A1 A2 : Option Addr} {c1 c2 : Nat} {Q R : List Nat} (hS : St w w4 p0 p1 p2 p3 (.bool false) (.slice none 0 0) (.bool false) (.slice none 0 0))
  (h1 : RefR w4 w4.heap.size k1 A1 c1 Q) (h2 : RefR w4 w4.heap.size k2 A2 c2 R) {u1 v1 u2 v2 : Value}
  (hW : W = setPair (setPair w4 (w.heap.size + 1 + 1) u1 v1) (w.heap.size + 1 + 1 + 1) u2 v2 ∨ W = setPair (setPair w4 (w.heap.size + 1 + 1 + 1) u2 v2) (w.heap.size + 1 + 1) u1 v1) :
  RefR W W.heap.size k1 A1 c1 Q ∧ RefR W W.heap.size k2 A2 c2 R ∧ Below w.heap.size w W := by
 rcases hW with rfl | rfl
 ·have hS2 := hS.s2 u1 v1
  rw [setPair_size, setPair_size]
  exact ⟨RefR.pair hS2.b3 (RefR.pair hS.b2 h1 u1 v1) u2 v2, RefR.pair hS2.b3 (RefR.pair hS.b2 h2 u1 v1) u2 v2, (hS2.s3 u2 v2).bw⟩
 ·have hS2 := hS.s3 u2 v2
  rw [setPair_size, setPair_size]
  exact ⟨RefR.pair hS2.b2 (RefR.pair hS.b3 h1 u2 v2) u1 v1, RefR.pair hS2.b2 (RefR.pair hS.b3 h2 u2 v2) u1 v1, (hS2.s2 u1 v1).bw⟩
def RqrPost (x y : Int) (l : Nat) (w : World) (e : Ending) (w' : World) : Prop := ∃ k1 A1 c1 Q k2 A2 c2 R, e = .returned (.tuple #[.agg #[.bool k1, .slice A1 (List.length Q) c1], .agg #[.bool k2, .slice A2 (List.length R) c2], .int .i64 0]) ∧
 RefR w' w'.heap.size k1 A1 c1 Q ∧ RefR w' w'.heap.size k2 A2 c2 R ∧ zR k1 Q = Int.tdiv x y ∧ zR k2 R = Int.tmod x y ∧ List.length Q ≤ l ∧ List.length R ≤ 3 * l + 9 ∧ Below w.heap.size w w'
theorem rqr_post {x y : Int} {l : Nat} {w W : World} {k1 k2 : Bool} {A1 A2 : Option Addr} {c1 c2 : Nat} {Q R : List Nat} (h : RefR W W.heap.size k1 A1 c1 Q ∧ RefR W W.heap.size k2 A2 c2 R ∧ Below w.heap.size w W)
  (h1 : zR k1 Q = Int.tdiv x y) (h2 : zR k2 R = Int.tmod x y) (h3 : Q.length ≤ l) (h4 : R.length ≤ 3 * l + 9) :
  RqrPost x y l w (.returned (.tuple #[.agg #[.bool k1, .slice A1 Q.length c1], .agg #[.bool k2, .slice A2 R.length c2], .int .i64 0])) W :=
 ⟨k1, A1, c1, Q, k2, A2, c2, R, rfl, h.1, h.2.1, h1, h2, h3, h4, h.2.2⟩
theorem rquoRem_pos (n m : Bool) (A A' : Option Addr) (c c' : Nat) (L M : List Nat) (w : World) (hl : L.length ≤ 100000) (hml : M.length ≤ 100000) (hm0 : 0 < M.length)
  (hL : RefR w w.heap.size n A c L) (hM : RefR w w.heap.size m A' c' M) :
  Calls Tryz.prog 87 #[.agg #[.bool n, .slice A L.length c], .agg #[.bool m, .slice A' M.length c']] w (RqrPost (zR n L) (zR m M) L.length w) := by
 have F := four_boxes w (.bool n) (.slice A L.length c) (.bool m) (.slice A' M.length c') (.bool false) (.slice none 0 0) (.bool false) (.slice none 0 0) 33 33 33 33
 have hdv := fun W h1 h2 => rquo_any A A' c c' L M W hl hml hm0 hL.lim hM.lim hM.top h1 h2
 have HDV := Lib.hid hdv
 have hsg := fun W => rsign_any m A' c' M W hM.sgn
 have HSG := Lib.hid hsg
 have hsn : (sgnI m M == 0) = false := by
  rw [beq_eq_false_iff_ne]
  unfold sgnI
  cases m
  ·rw [if_neg (by simp), if_neg (by omega)]; omega
  ·simp
 clear hdv hsg
 generalize hl' : L.length = l at *
 generalize hm' : M.length = l2 at *
 have HLL := Lib.hid hl'
 have HML := Lib.hid hm'
 clear hl' hm'
 go_enter Tryz.func87, Tryz.ntmps87
 go_upto_region 1 with (fail)
 change Code.wp Tryz.prog _ _ _ ((((w.alloc (.cells #[.bool n, .slice A l c] 33)).alloc (.cells #[.bool m, .slice A' l2 c'] 33)).alloc (.cells #[.bool false, .slice none 0 0] 33)).alloc (.cells #[.bool false, .slice none 0 0] 33))
 generalize (((w.alloc (.cells #[.bool n, .slice A l c] 33)).alloc (.cells #[.bool m, .slice A' l2 c'] 33)).alloc (.cells #[.bool false, .slice none 0 0] 33)).alloc (.cells #[.bool false, .slice none 0 0] 33) = W0 at *
 obtain ⟨b0, b1, b2, b3, hsz, hbw⟩ := F
 have S0 : St w W0 _ _ _ _ _ _ _ _ := ⟨b0, b1, b2, b3, hbw, by omega⟩
 have x2 := b1.c0
 have x3 := b1.c1
 clear b0 b1 b2 b3 hsz hbw
 have HS0 := Lib.hid S0
 clear S0
 go_wp2_with fail
 refine (HSG.out _).mono ?_
 rintro e w0 ⟨rfl, hb0⟩
 have S1 := HS0.out.call hb0
 have x0 := S1.b0.c0
 have x1 := S1.b0.c1
 have x4 := S1.b1.c0
 have x5 := S1.b1.c1
 have rL := hL.row.up S1.bw
 have rM := hM.row.up S1.bw
 have HS1 := Lib.hid S1
 clear x2 x3 hb0 S1
 generalize sgnI m M = sg at *
 go_wp2_with fail
 refine (HDV.out w0 rL rM).mono ?_
 rintro e w1 ⟨A1, c1, Q, A2, c2, R, rfl, rQ, rR, lQ, lR, hv, hlt, hlq, hlr, hb1⟩
 rw [HLL.out] at hlq hlr
 have S2 := HS1.out.call hb1
 clear x0 x1 x4 x5 rL rM hsn
 have hn1 : ¬ w.heap.size + 1 + 1 = w.heap.size := by omega
 have hn2 : ¬ w.heap.size + 1 + 1 + 1 = w.heap.size := by omega
 have hn3 : ¬ w.heap.size + 1 + 1 = w.heap.size + 1 := by omega
 have hn4 : ¬ w.heap.size + 1 + 1 + 1 = w.heap.size + 1 := by omega
 have hn5 : ¬ w.heap.size + 1 + 1 + 1 = w.heap.size + 1 + 1 := by omega
 have hn6 : ¬ w.heap.size + 1 + 1 = w.heap.size + 1 + 1 + 1 := by omega
 have x0 := S2.b0.c0
 have x1 := S2.b0.c1
 have x2 := S2.b1.c0
 have x3 := S2.b1.c1
 have y0 := S2.b2.c0
 have y1 := S2.b2.c1
 have y2 := S2.b3.c0
 have y3 := S2.b3.c1
 have z0 := S2.b2.f0
 have z1 := S2.b2.f1
 have z2 := S2.b3.f0
 have z3 := S2.b3.f1
 have HS2 := Lib.hid S2
 have hz := tdiv_sign n m (val4 L) (val4 M) (val4 Q) (val4 R) hv hlt
 have hq1 := fun (V : World) (hb : Below w1.heap.size w1 V) => rsigned_int (!(n == m)) A1 c1 Q V (by omega) lQ (rQ.up hb)
 have hq2 := fun (V : World) (hb : Below w1.heap.size w1 V) => rsigned_int n A2 c2 R V (by omega) lR (rR.up hb)
 have HQ1 := Lib.hid hq1
 have HQ2 := Lib.hid hq2
 have HZ := Lib.hid hz
 have HC := Lib.hid (below_drew (Below.refl w1.heap.size w1))
 have KT1 : Hid True := trivial
 have KT2 : Hid True := trivial
 clear hb1 hv hlt rQ rR S2 hz hq1 hq2
 generalize hlq' : List.length Q = lq at *
 generalize hlr' : List.length R = lr at *
 have HLQ := Lib.hid hlq
 have HLR := Lib.hid hlr
 clear hlq hlr hlq' hlr'
 go_wp2_with fail
 go_region_held3 (fun w' => w'.cell? ⟨w.heap.size, 0, none⟩ = some (.bool n) ∧ w'.cell? ⟨w.heap.size + 1, 0, none⟩ = some (.bool m)) (go_keep)
  (first
   | (go_at_call 109; (with_reducible refine (HQ1.out _ HC.out).mono ?_); rintro e w4 ⟨T1, rfl, hr1, hzr1, hlt1, hb4⟩; have KT1 := Lib.hid hr1; have KZ1 := Lib.hid hzr1; have KL1 := Lib.hid hlt1; (try (have H9 := Lib.hid (RefR.up KT2.out hb4); clear KT2; have KT2 := H9; clear H9)); have HC9 := Lib.hid (below_then HC.out hb4 HC.out.size); clear HC hr1 hzr1 hlt1; have HC := HC9; clear HC9 hb4 x0 x1 x2 x3 y0 y1 y2 y3 z0 z1 z2 z3; have S9 := HS2.out.call HC.out; have x0 := S9.b0.c0; have x1 := S9.b0.c1; have x2 := S9.b1.c0; have x3 := S9.b1.c1; have y0 := S9.b2.c0; have y1 := S9.b2.c1; have y2 := S9.b3.c0; have y3 := S9.b3.c1; have z0 := S9.b2.f0; have z1 := S9.b2.f1; have z2 := S9.b3.f0; have z3 := S9.b3.f1; clear S9)
   | (go_at_call 109; (with_reducible refine (HQ2.out _ HC.out).mono ?_); rintro e w4 ⟨T2, rfl, hr1, hzr1, hlt1, hb4⟩; have KT2 := Lib.hid hr1; have KZ2 := Lib.hid hzr1; have KL2 := Lib.hid hlt1; (try (have H9 := Lib.hid (RefR.up KT1.out hb4); clear KT1; have KT1 := H9; clear H9)); have HC9 := Lib.hid (below_then HC.out hb4 HC.out.size); clear HC hr1 hzr1 hlt1; have HC := HC9; clear HC9 hb4 x0 x1 x2 x3 y0 y1 y2 y3 z0 z1 z2 z3; have S9 := HS2.out.call HC.out; have x0 := S9.b0.c0; have x1 := S9.b0.c1; have x2 := S9.b1.c0; have x3 := S9.b1.c1; have y0 := S9.b2.c0; have y1 := S9.b2.c1; have y2 := S9.b3.c0; have y3 := S9.b3.c1; have z0 := S9.b2.f0; have z1 := S9.b2.f1; have z2 := S9.b3.f0; have z3 := S9.b3.f1; clear S9))
 all_goals
  go_wp2
  have hS := HS2.out.call HC.out
  refine bodyPost_ret (v := .tuple #[.agg #[.bool (!(n == m) && decide (0 < List.length T1)), .slice A1 (List.length T1) c1], .agg #[.bool (n && decide (0 < List.length T2)), .slice A2 (List.length T2) c2], .int .i64 0]) (by simp [results, Tryz.results87, go_sem, y0, y1, y2, y3]) rfl ?_
  have hf := fun (W : World) u1 v1 u2 v2 hW => rq_final (W := W) (u1 := u1) (v1 := v1) (u2 := u2) (v2 := v2) hS KT1.out KT2.out hW
  exact rqr_post (hf _ _ _ _ _ (by first | exact .inl rfl | exact .inr rfl)) (KZ1.out.trans HZ.out.1.symm) (KZ2.out.trans HZ.out.2.symm) (Nat.le_trans KL1.out HLQ.out) (Nat.le_trans KL2.out HLR.out)
theorem top_drop {L : List Nat} (h : Top L) (k : Nat) : Top (L.drop k) := by
 intro h0
 rw [List.length_drop] at h0
 have := h (by omega)
 rw [nth_drop, List.length_drop, show k + (L.length - k - 1) = L.length - 1 by omega]
 exact this
theorem rsub2T (A A' : Option Addr) (c c' : Nat) (L M : List Nat) (w : World) (hl : L.length ≤ 500000) (hml : M.length ≤ L.length)
  (hL : Lim4 L) (hM : Lim4 M) (hle : val4 M ≤ val4 L) (hR : Row .i64 w w.heap.size A c L) (hR' : Row .i64 w w.heap.size A' c' M) :
  Calls Tryz.prog 117 #[.slice A L.length c, .slice A' M.length c'] w fun e w' => ∃ A2 c2 R, e = .returned (.slice A2 (List.length R) c2) ∧
   Row .i64 w' w'.heap.size A2 c2 R ∧ Lim4 R ∧ val4 R + val4 M = val4 L ∧ List.length R ≤ L.length + M.length + 1 ∧ Below w.heap.size w w' ∧ Top R := by
 refine (rsub_walk A A' c c' L M w (by omega) hml hL hM hR hR').mono ?_
 rintro e w' ⟨A2, c2, rfl, hrow, hb⟩
 have hok := rsSt_ok hL hM L.length
 have hv := rsSt_val hL hM L.length
 rw [valB_take_over _ _ _ (Nat.le_refl _), valB_take_over _ _ _ hml] at hv
 have hlt := valB_lt hok.1
 rw [hok.2.2] at hlt
 have hb0 : (rsSt L M L.length).2 = 0 := by
  rcases Nat.eq_zero_or_pos (rsSt L M L.length).2 with h | h
  ·exact h
  ·have h1 : (rsSt L M L.length).2 = 1 := by have := hok.2.1; omega
   rw [h1] at hv; simp only [val4] at hle; omega
 rw [hb0] at hv
 have htl := trimN_le (rsSt L M L.length).1 L.length
 have el : ((rsSt L M L.length).1.take (trimN (rsSt L M L.length).1 L.length)).length = trimN (rsSt L M L.length).1 L.length := by rw [List.length_take, hok.2.2]; omega
 refine ⟨A2, c2, (rsSt L M L.length).1.take (trimN (rsSt L M L.length).1 L.length), by rw [el], hrow.take _, hok.1.take _, ?_, by rw [el]; omega, hb, ?_⟩
 rotate_left
 ·unfold Top; rw [el]; intro h; rw [nth_take (by omega)]; have := trimN_top (rsSt L M L.length).1 L.length h; exact this
 rw [val4, trimN_val _ _ _ (by rw [hok.2.2]; exact Nat.le_refl _), List.take_of_length_le (by rw [hok.2.2]; exact Nat.le_refl _)]
 simpa using hv
set_option maxRecDepth 20000 in
set_option maxHeartbeats 6400000 in
theorem rquo_longT (A A' : Option Addr) (c c' n : Nat) (L M : List Nat) (w : World) (hl : L.length ≤ 100000) (hm : M.length = n) (hn0 : 0 < n) (hml : n ≤ L.length) (hL : Lim4 L) (hM : Lim4 M) (htM : Top M) (htL : Top L)
  (hR : Row .i64 w w.heap.size A c L) (hR' : Row .i64 w w.heap.size A' c' M) :
  Calls Tryz.prog 128 #[.slice A L.length c, .slice A' n c'] w fun e w' => ∃ A1 c1 Q A2 c2 R, e = .returned (.tuple #[.slice A1 (List.length Q) c1, .slice A2 (List.length R) c2]) ∧
   Row .i64 w' w'.heap.size A1 c1 Q ∧ Row .i64 w' w'.heap.size A2 c2 R ∧ Lim4 Q ∧ Lim4 R ∧ val4 Q * val4 M + val4 R = val4 L ∧ val4 R < val4 M ∧ List.length Q ≤ L.length ∧ List.length R ≤ 3 * L.length + 9 ∧ Below w.heap.size w w' ∧ Top R := by
 obtain ⟨i0, hi, hz0, hz1, hz2⟩ := info_parts info3
 obtain ⟨b, o, rfl, hbB, hcs⟩ := hR.spot (by omega)
 have hst := rq_start hL rfl hm hn0 hml htM
 have htop0 : ∀ k, Top (L.drop k) := fun k => top_drop htL k
 have HTOP0 := Lib.hid htop0
 clear htop0
 have hlc := hR.len
 generalize hl' : L.length = l at *
 have HL := Lib.hid hl'
 have HM := Lib.hid hm
 have HST := Lib.hid hst
 clear hl' hm hst
 obtain ⟨fr, hfr⟩ : ∃ fr, fr = l - n + 1 := ⟨_, rfl⟩
 have f1 : fr + n = l + 1 := by omega
 have f2 : (l : Int) - (n : Int) + 1 = (fr : Int) := by omega
 have f3 : (0 : Int) ≤ (fr : Int) := by omega
 have f4 : (fr : Int) ≤ (l : Int) := by omega
 have f5 : (l : Int) ≤ (c : Int) := by omega
 have HFR := Lib.hid hfr
 clear hfr
 have hrow0 : Row .i64 w w.heap.size (some ⟨b, o + fr, none⟩) (c - fr) (L.drop fr) := by
  refine ⟨by rw [List.length_drop, HL.out]; omega, fun _ => ⟨b, o + fr, rfl, hbB, Cells.drop hcs fr⟩⟩
 have hrow1 : l = fr → Row .i64 w w.heap.size (some ⟨b, o, none⟩) 0 (L.drop fr) := by
  intro h
  rw [List.drop_eq_nil_of_le (by rw [HL.out]; omega)]
  exact Row.nil _ _ _ _ _
 have hdl : (L.drop fr).length = l - fr := by rw [List.length_drop, HL.out]
 have HR0 := Lib.hid hrow0
 have HR1 := Lib.hid hrow1
 have HDL := Lib.hid hdl
 have HCS := Lib.hid hcs
 clear hrow0 hrow1 hdl hcs hR
 have hcase : (¬ c = fr ∧ ¬ c - fr = 0) ∨ (c = fr ∧ l = fr) := by omega
 rcases hcase with ⟨g1, g2⟩ | ⟨g1, g2⟩
 ·go_enter Tryz.func128, Tryz.ntmps128
  go_wp2_with (first
   | (refine wpList_make_zeros _ rfl (.tmp 25) (.tmp 25) 31 rfl 3 .i64 i0 8 Tryz.underlying31 hi hz0 hz1 hz2 .i64 .i64 _ _ fr rfl rfl (by omega) (by omega) (by omega) (by omega) ?_; intro w1 hb1 hB1 hs1)
   | (at_builtin; refine wpList_append_row rfl (.tmp 27) (.tmp 30) 31 rfl .i64 w1.heap.size 3 i0 8 Tryz.underlying31 hi hz0 hz1 hz2 (by omega) (.slice (some ⟨w1.heap.size, 0, none⟩) 0 0) [] rfl (Own.ofBlk (by show _ = _; rw [heap_alloc_new]; rfl) (Nat.le_refl _) (by simp)) (some ⟨b, o + fr, none⟩) (l - fr) (c - fr) (L.drop fr) HDL.out rfl ((HR0.out.below hB1).alloc (by omega) _) (by simp; omega) (by simp) ?_; intro v2 w2 ho2 hb2)
   | fail)
  have hlies := ho2.out.lies
  rw [List.nil_append] at hlies
  obtain ⟨A2, c2, rfl, hr2, -⟩ := hlies
  rw [HDL.out]
  obtain ⟨lf, hlf⟩ : ∃ lf, l - fr = lf := ⟨_, rfl⟩
  rw [hlf]
  have HLF := Lib.hid hlf
  clear hlf
  have hbQ := (hb1.out.alloc (.cells #[] 3)).below hb2 hb1.out.lt
  have hbw2 := (hB1.trans (Below.less ((Below.refl _ _).alloc (Nat.le_refl _) _) (by omega))).trans (Below.less hb2 (by omega))
  have HB2 := Lib.hid hbw2
  have hg2 : w.heap.size < w2.heap.size := hbQ.lt
  have HBQ := Lib.hid hbQ
  have HR2 := Lib.hid hr2
  have hln2 : (L.drop fr).length ≤ 3 * l + 9 := by rw [HDL.out]; omega
  clear ho2 hb2 hb1 hB1 hbQ hr2 hbw2 hs1
  go_loopw [8, 9] (fun rv iv wr => ∃ (j : Nat) (Q : List Nat) (A2 : Option Addr) (c2 : Nat) (R : List Nat), j ≤ fr ∧ iv = .int .i64 ((j : Int) - 1) ∧ rv = .slice A2 (List.length R) c2 ∧ Row .i64 wr wr.heap.size A2 c2 R ∧ Lim4 R ∧ List.length R ≤ 3 * l + 9 ∧ Blk .i64 3 wr w.heap.size Q ∧ Q.length = fr ∧ Hid (RqInv (val4 M) L Q j (val4 R)) ∧ Below w.heap.size w wr ∧ Hid (Top R)) (fun _ iv _ => (intOf iv + 1).toNat)
  case atStart => exact ⟨fr, _, A2, c2, L.drop fr, Nat.le_refl _, rfl, by rw [HDL.out, HLF.out], HR2.out, fun d hd => hL d (List.mem_of_mem_drop hd), hln2, HBQ.out, by simp, by have := HST.out; rw [← HFR.out] at this; exact this, HB2.out, HTOP0.out _⟩
  case round =>
   obtain ⟨j, Q, A2, c2, R, hj, rfl, rfl, hrR, hlR, hnR, hbQ, hQl, hin, hbw, htR⟩ := hrel
   have hlR' : ∃ lr, List.length R = lr := ⟨_, rfl⟩
   rcases Nat.eq_zero_or_pos j with rfl | hpos
   ·have htQ := rtrim_any (some ⟨w.heap.size, 0, none⟩) fr Q wr (w.heap.size + 1) (by omega) (Row.ofBlk hbQ (Nat.lt_succ_self _) (by omega))
    rw [hQl] at htQ
    have HTQ := Lib.hid htQ
    have HQL := Lib.hid hQl
    have HBQ9 := Lib.hid hbQ
    have HRR := Lib.hid hrR
    clear htQ hQl hbQ hrR hlR'
    go_wp2_with fail
    refine HTQ.out.mono ?_
    rintro e w9 ⟨rfl, rfl⟩
    go_wp2_with fail
    go_ret2
    obtain ⟨QT, r1, r2, r3, r4, r5⟩ := rrow_take (Row.ofBlk (B := wr.heap.size) (c := fr) HBQ9.out HBQ9.out.lt (by rw [HQL.out]; exact Nat.le_refl _)) hin.out.lim
    rw [HQL.out] at r1
    have hv := hin.out.val
    rw [List.drop_zero, List.drop_zero] at hv
    have t1 := trimN_le Q fr
    exact ⟨_, _, QT, _, _, R, by rw [r1]; rfl, r2, HRR.out, r3, hlR, by rw [r5]; exact hv, hin.out.lt, by omega, hnR, hbw, htR.out⟩
   ·obtain ⟨i, rfl⟩ : ∃ i, j = i + 1 := ⟨j - 1, by omega⟩
    have hi1 : ((i + 1 : Nat) : Int) - 1 = i := by omega
    have hci := (hbw.cell (p := ⟨b, o + i, none⟩) (by exact hbB)).trans (HCS.out i (by rw [HL.out]; omega))
    have hli : i < l := by omega
    have hgq : w.heap.size < wr.heap.size := hbQ.lt
    have hlr9 : List.length R ≤ 3 * l + 9 := hnR
    have HQL := Lib.hid hQl
    rw [hi1]
    clear hi1 hQl
    go_wp2_with (first
     | (at_builtin; refine wpList_append_row rfl (.tmp 42) (.tmp 43) 31 rfl .i64 wr.heap.size 3 i0 8 Tryz.underlying31 hi hz0 hz1 hz2 (by omega) (.slice (some ⟨wr.heap.size, 0, none⟩) 1 1) [nth L i] rfl (Own.ofBlk (blk_one4 wr (nth L i)) (Nat.le_refl _) (by simp)) A2 (List.length R) c2 R rfl rfl (hrR.alloc (Nat.le_refl _) _) (by simp; omega) (by simp) ?_; intro v3 w3 ho3 hb3)
     | fail)
    obtain ⟨A3, c3, hv3, hr3, hl3⟩ := ho3.out.lies
    have hne3 : A3 ≠ none := by
     rintro rfl
     have := hr3.spot (by simp)
     obtain ⟨b9, o9, e9, -, -⟩ := this
     cases e9
    obtain ⟨g3, o3, rfl⟩ : ∃ g3 o3, A3 = some ⟨g3, o3, none⟩ := by
     obtain ⟨b9, o9, e9, -, -⟩ := hr3.spot (by simp)
     exact ⟨b9, o9, e9⟩
    have hg3 : wr.heap.size ≤ g3 := hl3 _ _ rfl
    have hlim3 : Lim4 ([nth L i] ++ R) := by
     intro d hd
     rcases List.mem_append.1 hd with h | h
     ·rw [List.mem_singleton] at h; subst h; exact nth_all hL (by omega) i
     ·exact hlR d h
    have hval3 := val4_cons (nth L i) R
    have hln3 : ([nth L i] ++ R).length ≤ 3 * l + 10 := by simp; omega
    have hbw3 : Below w.heap.size w w3 := hbw.trans (Below.less ((below_alloc_new _).trans hb3) (by omega))
    have hbQ3 := (hbQ.alloc (.cells #[.int .i64 (nth L i)] 3)).below hb3 hgq
    subst hv3
    obtain ⟨a9, ha9⟩ : ∃ a9, nth L i = a9 := ⟨_, rfl⟩
    have HVAL3 := Lib.hid hval3
    generalize [nth L i] ++ R = R3 at *
    clear ho3 hl3 hne3 hval3 ha9 hbQ hbw hb3 hrR
    have htr := rtrim_any (some ⟨g3, o3, none⟩) c3 R3 w3 w3.heap.size (by omega) hr3
    obtain ⟨T, t1, t2, t3, t4, t5⟩ := rrow_take hr3 hlim3
    rw [← t1] at htr
    have hTl := trimN_le R3 R3.length
    have HTR := Lib.hid htr
    have HT1 := Lib.hid t1
    have hTn : List.length T ≤ 3 * l + 10 := by omega
    clear htr t1 hTl hr3 hlim3
    generalize List.length R3 = n3 at *
    refine HTR.out.mono ?_
    rintro e w4 ⟨rfl, rfl⟩
    have HB3 := Lib.hid hbw3
    have HBQ3 := Lib.hid hbQ3
    have HRT := Lib.hid t2
    have HTV := Lib.hid t5
    have hMr := Lib.hid (hR'.below hbw3)
    have hs3 : w.heap.size ≤ w3.heap.size := hbw3.size
    have hgne : w.heap.size ≠ g3 := by omega
    have hs3' : w.heap.size < w3.heap.size := hbQ3.lt
    have hg3s : g3 < w3.heap.size ∨ List.length T = 0 := by
     rcases Nat.eq_zero_or_pos (List.length T) with h | h
     ·exact .inr h
     ·obtain ⟨b9, o9, e9, h9, -⟩ := t2.spot h
      injection e9 with e9
      injection e9 with e9
      subst e9
      exact .inl h9
    clear hbw3 hbQ3 t2 t5 HTR hci
    generalize hTn' : List.length T = nt at *
    have HTN := Lib.hid hTn'
    clear hTn'
    have hup := hin.out.lt
    have hTup : Hid (val4 T < val4 M * (9999 + 1)) := by
     show _ < _
     rw [HTV.out, HVAL3.out]
     have := nth_all hL (show 0 < 10000 by omega) i
     omega
    go_wp2_with fail
    go_loopw [10, 11] (fun lv hv wq => ∃ lo hi : Nat, lo ≤ hi ∧ hi ≤ 9999 ∧ lv = .int .i64 (lo : Int) ∧ hv = .int .i64 (hi : Int) ∧ Hid (val4 M * lo ≤ val4 T ∧ val4 T < val4 M * (hi + 1)) ∧ Below w3.heap.size w3 wq) (fun lv hv _ => (intOf hv - intOf lv).toNat)
    case atStart => exact ⟨0, 9999, by omega, by omega, rfl, rfl, ⟨by simp, hTup⟩, Below.refl _ _⟩
    case round =>
     obtain ⟨lo, hi', hlh, hh9, rfl, rfl, hbs, hbq⟩ := hrel
     by_cases hlt : lo < hi'
     ·obtain ⟨mid, hmid⟩ : ∃ mid, mid = (lo + hi' + 1) / 2 := ⟨_, rfl⟩
      have hm1 : ((lo : Int) + (hi' : Int) + 1) / 2 = (mid : Int) := by omega
      have hm2 : lo < mid := by omega
      have hm3 : mid ≤ hi' := by omega
      have HMID := Lib.hid hmid
      clear hmid
      have hmr : Row .i64 wr wr.heap.size A' c' M := ((hMr.out.more hs3).below hbq).more hbq.size
      have hTr : Row .i64 wr wr.heap.size (some ⟨g3, o3, none⟩) c3 T := (HRT.out.below hbq).more hbq.size
      have hmul := fun (W : World) (hb : Below wr.heap.size wr W) (hm : Row .i64 W W.heap.size (some ⟨wr.heap.size, 0, none⟩) 1 [mid]) => rmul2 A' (some ⟨wr.heap.size, 0, none⟩) c' 1 M [mid] W (by rw [HM.out]; omega) (by simp) hM (fun d hd => by rw [List.mem_singleton] at hd; omega) (hmr.up hb) hm
      rw [HM.out] at hmul
      have HMUL := Lib.hid hmul
      have HTr := Lib.hid hTr
      clear hmul hmr hTr
      go_wp2_with fail
      have hbm := blk_one4 wr mid
      refine (HMUL.out _ (below_alloc_new _) (Row.ofBlk hbm hbm.lt (by simp))).mono ?_
      rintro e w5 ⟨g5, c5, P5, rfl, k1, k2, k3, k4, k5, k6, k7⟩
      have hb5 : Below wr.heap.size wr w5 := (below_alloc_new _).trans (Below.less k6 (by simp))
      have hTr5 := HTr.out.up hb5
      have hcm := rcompare_any (some ⟨g5, 0, none⟩) (some ⟨g3, o3, none⟩) c5 c3 P5 T w5 (by simp at k5; omega) (by rw [HTN.out]; omega) k1 hTr5
      rw [rcmp_val k1 hTr5 k2 t3 k3 t4, k4, show val4 [mid] = mid by simp [valB], HTN.out] at hcm
      have HCM := Lib.hid hcm
      have HB5 := Lib.hid (below_then hbq hb5 hbq.size)
      clear hcm hb5 hTr5 k1 k2 k3 k4 k5 k6 k7 hbm
      generalize List.length P5 = n5 at *
      by_cases hle : val4 M * mid ≤ val4 T
      ·have hd := cmpZ_le0 hle
       have HLE := Lib.hid hle
       clear hle
       generalize cmpZ (val4 M * mid) (val4 T) = cz at *
       go_wp2_with fail
       refine HCM.out.mono ?_
       rintro e w6 ⟨rfl, nq, rfl⟩
       go_wp2_with fail
       go_roundw
       case rel => exact ⟨mid, hi', by omega, hh9, rfl, rfl, ⟨HLE.out, hbs.out.2⟩, below_drewN HB5.out _⟩
       case measure => simp [intOf]; omega
      ·have hd := cmpZ_gt0 (show val4 T < val4 M * mid by omega)
       have HLE := Lib.hid hle
       clear hle
       generalize cmpZ (val4 M * mid) (val4 T) = cz at *
       go_wp2_with fail
       refine HCM.out.mono ?_
       rintro e w6 ⟨rfl, nq, rfl⟩
       go_wp2_with fail
       go_roundw
       case rel => exact ⟨lo, mid - 1, by omega, by omega, rfl, by go_num, ⟨hbs.out.1, by rw [show mid - 1 + 1 = mid by omega]; exact Nat.lt_of_not_le HLE.out⟩, below_drewN HB5.out _⟩
       case measure => simp [intOf]; omega
     ·obtain rfl : lo = hi' := by omega
      have hbQr := HBQ3.out.below hbq hs3'
      have hcq := hbQr.cell i (by rw [HQL.out]; omega)
      have hfq := hbQr.frozen i
      have hbQs := hbQr.set_ i lo
      have hTs : Row .i64 (wr.setCell ⟨w.heap.size, i, none⟩ (.int .i64 lo)) wr.heap.size (some ⟨g3, o3, none⟩) c3 T := ((HRT.out.below hbq).more hbq.size).apart (by exact hgne) _
      have hbs2 : Below w.heap.size w (wr.setCell ⟨w.heap.size, i, none⟩ (.int .i64 lo)) := (HB3.out.trans (Below.less hbq hs3)).setCell (Nat.le_refl _) _
      have hszs : (wr.setCell ⟨w.heap.size, i, none⟩ (.int .i64 (lo : Int))).heap.size = wr.heap.size := setCell_size _ _ _
      have hMs := hR'.below hbs2
      have HBQS := Lib.hid hbQs
      have HTS := Lib.hid hTs
      have HBS2 := Lib.hid hbs2
      have HMS := Lib.hid hMs
      have hwrs : w.heap.size < wr.heap.size := hbQr.lt
      have HSZ := Lib.hid hszs
      clear hbQr hbQs hTs hbs2 hszs hMs hlt
      go_upto_region 17 with (fail)
      change Code.wp Tryz.prog _ _ _ (wr.setCell ⟨w.heap.size, i, none⟩ (.int .i64 lo))
      generalize wr.setCell ⟨w.heap.size, i, none⟩ (.int .i64 (lo : Int)) = ws at *
      clear hcq hfq
      have hbl := blk_one4 ws lo
      have hlo9 : Lim4 [lo] := fun d hd => by rw [List.mem_singleton] at hd; omega
      have htl := rtrim_any (some ⟨ws.heap.size, 0, none⟩) 1 [lo] (ws.alloc (.cells #[.int .i64 lo] 3)) (ws.heap.size + 1) (by simp) (Row.ofBlk hbl (Nat.lt_succ_self _) (by simp))
      obtain ⟨U, u1, u2, u3, u4, u5⟩ := rrow_take (Row.ofBlk (B := ws.heap.size + 1) (c := 1) hbl (Nat.lt_succ_self _) (by simp)) hlo9
      rw [← u1] at htl
      have hU1 : List.length U ≤ 1 := by rw [u1]; exact trimN_le _ _
      have huv : val4 U = lo := by rw [u5]; simp [valB]
      have hba := below_alloc_new (w := ws) (.cells #[.int .i64 lo] 3)
      have hsa : (ws.alloc (.cells #[.int .i64 (lo : Int)] 3)).heap.size = ws.heap.size + 1 := by simp
      rw [← hsa] at u2
      have hmul := rmul2 A' (some ⟨ws.heap.size, 0, none⟩) c' 1 M U (ws.alloc (.cells #[.int .i64 lo] 3)) (by rw [HM.out]; omega) (by omega) hM u3 (((HMS.out.more (by rw [HSZ.out]; omega)).below hba).more (by rw [hsa]; omega)) u2
      rw [HM.out, huv] at hmul
      have hTa : Row .i64 (ws.alloc (.cells #[.int .i64 lo] 3)) (ws.alloc (.cells #[.int .i64 (lo : Int)] 3)).heap.size (some ⟨g3, o3, none⟩) c3 T := (HTS.out.more (by rw [HSZ.out]; exact Nat.le_refl _)).up hba
      have HTL := Lib.hid htl
      have HMUL := Lib.hid hmul
      have HTA := Lib.hid hTa
      have HBA := Lib.hid hba
      have HSA := Lib.hid hsa
      clear htl hmul hTa hba u1 u2 u5 huv hbl hsa
      generalize List.length U = nu at *
      go_wp2_with fail
      refine HTL.out.mono ?_
      rintro e w6 ⟨rfl, rfl⟩
      go_wp2_with fail
      refine HMUL.out.mono ?_
      rintro e w7 ⟨g7, c7, P7, rfl, k1, k2, k3, k4, k5, k6, k7⟩
      have hT7 := HTA.out.up k6
      have hle7 : val4 P7 ≤ val4 T := by rw [k4]; exact hbs.out.1
      have hPT := len_le4 t3 k3 hle7
      have hsb := rsub2T (some ⟨g3, o3, none⟩) (some ⟨g7, 0, none⟩) c3 c7 T P7 w7 (by rw [HTN.out]; omega) hPT t3 k2 hle7 hT7 k1
      rw [HTN.out] at hsb
      have HSB := Lib.hid hsb
      have HP4 := Lib.hid k4
      have HPT := Lib.hid hPT
      have hb7 : Below w.heap.size w w7 := HBS2.out.trans (Below.less (HBA.out.trans (Below.less k6 (by rw [HSA.out]; omega))) (by rw [HSZ.out]; omega))
      have HB7 := Lib.hid hb7
      have hQ7 := (HBQS.out.below HBA.out (by rw [HSZ.out]; exact hwrs)).below k6 (by rw [HSA.out, HSZ.out]; omega)
      have HQ7 := Lib.hid hQ7
      clear hsb k1 k2 k3 k4 k5 k6 k7 hT7 hle7 hPT hb7 hQ7
      generalize List.length P7 = n7 at *
      go_wp2_with fail
      refine HSB.out.mono ?_
      rintro e w8 ⟨A8, c8, R8, rfl, m1, m2, m3, m4, m5, m6⟩
      have HB8 := Lib.hid (below_then HB7.out m5 HB7.out.size)
      have HQ8 := Lib.hid (HQ7.out.below m5 HQ7.out.lt)
      have M1 := Lib.hid m1
      have M3 := Lib.hid m3
      have M4 := Lib.hid m4
      have M6 := Lib.hid m6
      clear m1 m3 m4 m5 m6
      go_wp2_with fail
      go_roundw
      case rel =>
       have hnT := len_T t4 hM HM.out hTup.out
       have e1 := HTN.out
       have e2 := HPT.out
       have e3 := M4.out
       have e4 := M3.out
       have e5 := hbs.out.2
       rw [HP4.out] at e4
       have e6 : val4 M * (lo + 1) = val4 M * lo + val4 M := by rw [Nat.mul_add, Nat.mul_one]
       rw [e6] at e5
       have e7 : val4 R8 + val4 M * lo = nth L i + 10000 * val4 R := by rw [e4, HTV.out, HVAL3.out]
       exact ⟨i, Q.set i lo, A8, c8, R8, by omega, rfl, rfl, M1.out, m2, by omega, HQ8.out, by rw [List.length_set]; exact HQL.out, rq_step hin.out (by rw [HQL.out]; omega) (by omega) e7 (by omega), HB8.out, M6.out⟩
      case measure => simp [intOf]
 ·obtain rfl : fr = c := g1.symm
  have G2 := Lib.hid g2
  have hl0 : l - fr = 0 := by omega
  have HL0 := Lib.hid hl0
  clear g1 g2 hl0
  go_enter Tryz.func128, Tryz.ntmps128
  go_wp2_with (first
   | (refine wpList_make_zeros _ rfl (.tmp 25) (.tmp 25) 31 rfl 3 .i64 i0 8 Tryz.underlying31 hi hz0 hz1 hz2 .i64 .i64 _ _ fr rfl rfl (by omega) (by omega) (by omega) (by omega) ?_; intro w1 hb1 hB1 hs1)
   | fail)
  change Code.wp Tryz.prog _ _ _ (w1.alloc (.cells #[] 3))
  have hdn : L.drop fr = [] := List.eq_nil_of_length_eq_zero (by rw [HDL.out]; exact HL0.out)
  have hr2 : Row .i64 (w1.alloc (.cells #[] 3)) (w1.alloc (.cells #[] 3)).heap.size (some ⟨w1.heap.size, 0, none⟩) 0 (L.drop fr) := by rw [hdn]; exact Row.nil _ _ _ _ _
  have hbQ := hb1.out.alloc (.cells #[] 3)
  have hbw2 : Below w.heap.size w (w1.alloc (.cells #[] 3)) := hB1.trans ((Below.refl _ _).alloc (by omega) _)
  generalize w1.alloc (.cells #[] 3) = w2 at *
  have HB2 := Lib.hid hbw2
  have hg2 : w.heap.size < w2.heap.size := hbQ.lt
  have HBQ := Lib.hid hbQ
  have HR2 := Lib.hid hr2
  have hln2 : (L.drop fr).length ≤ 3 * l + 9 := by rw [HDL.out]; omega
  clear hb1 hB1 hbQ hr2 hbw2 hs1 hdn
  go_loopw [8, 9] (fun rv iv wr => ∃ (j : Nat) (Q : List Nat) (A2 : Option Addr) (c2 : Nat) (R : List Nat), j ≤ fr ∧ iv = .int .i64 ((j : Int) - 1) ∧ rv = .slice A2 (List.length R) c2 ∧ Row .i64 wr wr.heap.size A2 c2 R ∧ Lim4 R ∧ List.length R ≤ 3 * l + 9 ∧ Blk .i64 3 wr w.heap.size Q ∧ Q.length = fr ∧ Hid (RqInv (val4 M) L Q j (val4 R)) ∧ Below w.heap.size w wr ∧ Hid (Top R)) (fun _ iv _ => (intOf iv + 1).toNat)
  case atStart => exact ⟨fr, _, some ⟨w1.heap.size, 0, none⟩, 0, L.drop fr, Nat.le_refl _, rfl, by rw [HDL.out, HL0.out], HR2.out, fun d hd => hL d (List.mem_of_mem_drop hd), hln2, HBQ.out, by simp, by have := HST.out; rw [← HFR.out] at this; exact this, HB2.out, HTOP0.out _⟩
  case round =>
   obtain ⟨j, Q, A2, c2, R, hj, rfl, rfl, hrR, hlR, hnR, hbQ, hQl, hin, hbw, htR⟩ := hrel
   have hlR' : ∃ lr, List.length R = lr := ⟨_, rfl⟩
   rcases Nat.eq_zero_or_pos j with rfl | hpos
   ·have htQ := rtrim_any (some ⟨w.heap.size, 0, none⟩) fr Q wr (w.heap.size + 1) (by omega) (Row.ofBlk hbQ (Nat.lt_succ_self _) (by omega))
    rw [hQl] at htQ
    have HTQ := Lib.hid htQ
    have HQL := Lib.hid hQl
    have HBQ9 := Lib.hid hbQ
    have HRR := Lib.hid hrR
    clear htQ hQl hbQ hrR hlR'
    go_wp2_with fail
    refine HTQ.out.mono ?_
    rintro e w9 ⟨rfl, rfl⟩
    go_wp2_with fail
    go_ret2
    obtain ⟨QT, r1, r2, r3, r4, r5⟩ := rrow_take (Row.ofBlk (B := wr.heap.size) (c := fr) HBQ9.out HBQ9.out.lt (by rw [HQL.out]; exact Nat.le_refl _)) hin.out.lim
    rw [HQL.out] at r1
    have hv := hin.out.val
    rw [List.drop_zero, List.drop_zero] at hv
    have t1 := trimN_le Q fr
    exact ⟨_, _, QT, _, _, R, by rw [r1]; rfl, r2, HRR.out, r3, hlR, by rw [r5]; exact hv, hin.out.lt, by omega, hnR, hbw, htR.out⟩
   ·obtain ⟨i, rfl⟩ : ∃ i, j = i + 1 := ⟨j - 1, by omega⟩
    have hi1 : ((i + 1 : Nat) : Int) - 1 = i := by omega
    have hci := (hbw.cell (p := ⟨b, o + i, none⟩) (by exact hbB)).trans (HCS.out i (by rw [HL.out]; omega))
    have hli : i < l := by omega
    have hgq : w.heap.size < wr.heap.size := hbQ.lt
    have hlr9 : List.length R ≤ 3 * l + 9 := hnR
    have HQL := Lib.hid hQl
    rw [hi1]
    clear hi1 hQl
    go_wp2_with (first
     | (at_builtin; refine wpList_append_row rfl (.tmp 42) (.tmp 43) 31 rfl .i64 wr.heap.size 3 i0 8 Tryz.underlying31 hi hz0 hz1 hz2 (by omega) (.slice (some ⟨wr.heap.size, 0, none⟩) 1 1) [nth L i] rfl (Own.ofBlk (blk_one4 wr (nth L i)) (Nat.le_refl _) (by simp)) A2 (List.length R) c2 R rfl rfl (hrR.alloc (Nat.le_refl _) _) (by simp; omega) (by simp) ?_; intro v3 w3 ho3 hb3)
     | fail)
    obtain ⟨A3, c3, hv3, hr3, hl3⟩ := ho3.out.lies
    have hne3 : A3 ≠ none := by
     rintro rfl
     have := hr3.spot (by simp)
     obtain ⟨b9, o9, e9, -, -⟩ := this
     cases e9
    obtain ⟨g3, o3, rfl⟩ : ∃ g3 o3, A3 = some ⟨g3, o3, none⟩ := by
     obtain ⟨b9, o9, e9, -, -⟩ := hr3.spot (by simp)
     exact ⟨b9, o9, e9⟩
    have hg3 : wr.heap.size ≤ g3 := hl3 _ _ rfl
    have hlim3 : Lim4 ([nth L i] ++ R) := by
     intro d hd
     rcases List.mem_append.1 hd with h | h
     ·rw [List.mem_singleton] at h; subst h; exact nth_all hL (by omega) i
     ·exact hlR d h
    have hval3 := val4_cons (nth L i) R
    have hln3 : ([nth L i] ++ R).length ≤ 3 * l + 10 := by simp; omega
    have hbw3 : Below w.heap.size w w3 := hbw.trans (Below.less ((below_alloc_new _).trans hb3) (by omega))
    have hbQ3 := (hbQ.alloc (.cells #[.int .i64 (nth L i)] 3)).below hb3 hgq
    subst hv3
    obtain ⟨a9, ha9⟩ : ∃ a9, nth L i = a9 := ⟨_, rfl⟩
    have HVAL3 := Lib.hid hval3
    generalize [nth L i] ++ R = R3 at *
    clear ho3 hl3 hne3 hval3 ha9 hbQ hbw hb3 hrR
    have htr := rtrim_any (some ⟨g3, o3, none⟩) c3 R3 w3 w3.heap.size (by omega) hr3
    obtain ⟨T, t1, t2, t3, t4, t5⟩ := rrow_take hr3 hlim3
    rw [← t1] at htr
    have hTl := trimN_le R3 R3.length
    have HTR := Lib.hid htr
    have HT1 := Lib.hid t1
    have hTn : List.length T ≤ 3 * l + 10 := by omega
    clear htr t1 hTl hr3 hlim3
    generalize List.length R3 = n3 at *
    refine HTR.out.mono ?_
    rintro e w4 ⟨rfl, rfl⟩
    have HB3 := Lib.hid hbw3
    have HBQ3 := Lib.hid hbQ3
    have HRT := Lib.hid t2
    have HTV := Lib.hid t5
    have hMr := Lib.hid (hR'.below hbw3)
    have hs3 : w.heap.size ≤ w3.heap.size := hbw3.size
    have hgne : w.heap.size ≠ g3 := by omega
    have hs3' : w.heap.size < w3.heap.size := hbQ3.lt
    have hg3s : g3 < w3.heap.size ∨ List.length T = 0 := by
     rcases Nat.eq_zero_or_pos (List.length T) with h | h
     ·exact .inr h
     ·obtain ⟨b9, o9, e9, h9, -⟩ := t2.spot h
      injection e9 with e9
      injection e9 with e9
      subst e9
      exact .inl h9
    clear hbw3 hbQ3 t2 t5 HTR hci
    generalize hTn' : List.length T = nt at *
    have HTN := Lib.hid hTn'
    clear hTn'
    have hup := hin.out.lt
    have hTup : Hid (val4 T < val4 M * (9999 + 1)) := by
     show _ < _
     rw [HTV.out, HVAL3.out]
     have := nth_all hL (show 0 < 10000 by omega) i
     omega
    go_wp2_with fail
    go_loopw [10, 11] (fun lv hv wq => ∃ lo hi : Nat, lo ≤ hi ∧ hi ≤ 9999 ∧ lv = .int .i64 (lo : Int) ∧ hv = .int .i64 (hi : Int) ∧ Hid (val4 M * lo ≤ val4 T ∧ val4 T < val4 M * (hi + 1)) ∧ Below w3.heap.size w3 wq) (fun lv hv _ => (intOf hv - intOf lv).toNat)
    case atStart => exact ⟨0, 9999, by omega, by omega, rfl, rfl, ⟨by simp, hTup⟩, Below.refl _ _⟩
    case round =>
     obtain ⟨lo, hi', hlh, hh9, rfl, rfl, hbs, hbq⟩ := hrel
     by_cases hlt : lo < hi'
     ·obtain ⟨mid, hmid⟩ : ∃ mid, mid = (lo + hi' + 1) / 2 := ⟨_, rfl⟩
      have hm1 : ((lo : Int) + (hi' : Int) + 1) / 2 = (mid : Int) := by omega
      have hm2 : lo < mid := by omega
      have hm3 : mid ≤ hi' := by omega
      have HMID := Lib.hid hmid
      clear hmid
      have hmr : Row .i64 wr wr.heap.size A' c' M := ((hMr.out.more hs3).below hbq).more hbq.size
      have hTr : Row .i64 wr wr.heap.size (some ⟨g3, o3, none⟩) c3 T := (HRT.out.below hbq).more hbq.size
      have hmul := fun (W : World) (hb : Below wr.heap.size wr W) (hm : Row .i64 W W.heap.size (some ⟨wr.heap.size, 0, none⟩) 1 [mid]) => rmul2 A' (some ⟨wr.heap.size, 0, none⟩) c' 1 M [mid] W (by rw [HM.out]; omega) (by simp) hM (fun d hd => by rw [List.mem_singleton] at hd; omega) (hmr.up hb) hm
      rw [HM.out] at hmul
      have HMUL := Lib.hid hmul
      have HTr := Lib.hid hTr
      clear hmul hmr hTr
      go_wp2_with fail
      have hbm := blk_one4 wr mid
      refine (HMUL.out _ (below_alloc_new _) (Row.ofBlk hbm hbm.lt (by simp))).mono ?_
      rintro e w5 ⟨g5, c5, P5, rfl, k1, k2, k3, k4, k5, k6, k7⟩
      have hb5 : Below wr.heap.size wr w5 := (below_alloc_new _).trans (Below.less k6 (by simp))
      have hTr5 := HTr.out.up hb5
      have hcm := rcompare_any (some ⟨g5, 0, none⟩) (some ⟨g3, o3, none⟩) c5 c3 P5 T w5 (by simp at k5; omega) (by rw [HTN.out]; omega) k1 hTr5
      rw [rcmp_val k1 hTr5 k2 t3 k3 t4, k4, show val4 [mid] = mid by simp [valB], HTN.out] at hcm
      have HCM := Lib.hid hcm
      have HB5 := Lib.hid (below_then hbq hb5 hbq.size)
      clear hcm hb5 hTr5 k1 k2 k3 k4 k5 k6 k7 hbm
      generalize List.length P5 = n5 at *
      by_cases hle : val4 M * mid ≤ val4 T
      ·have hd := cmpZ_le0 hle
       have HLE := Lib.hid hle
       clear hle
       generalize cmpZ (val4 M * mid) (val4 T) = cz at *
       go_wp2_with fail
       refine HCM.out.mono ?_
       rintro e w6 ⟨rfl, nq, rfl⟩
       go_wp2_with fail
       go_roundw
       case rel => exact ⟨mid, hi', by omega, hh9, rfl, rfl, ⟨HLE.out, hbs.out.2⟩, below_drewN HB5.out _⟩
       case measure => simp [intOf]; omega
      ·have hd := cmpZ_gt0 (show val4 T < val4 M * mid by omega)
       have HLE := Lib.hid hle
       clear hle
       generalize cmpZ (val4 M * mid) (val4 T) = cz at *
       go_wp2_with fail
       refine HCM.out.mono ?_
       rintro e w6 ⟨rfl, nq, rfl⟩
       go_wp2_with fail
       go_roundw
       case rel => exact ⟨lo, mid - 1, by omega, by omega, rfl, by go_num, ⟨hbs.out.1, by rw [show mid - 1 + 1 = mid by omega]; exact Nat.lt_of_not_le HLE.out⟩, below_drewN HB5.out _⟩
       case measure => simp [intOf]; omega
     ·obtain rfl : lo = hi' := by omega
      have hbQr := HBQ3.out.below hbq hs3'
      have hcq := hbQr.cell i (by rw [HQL.out]; omega)
      have hfq := hbQr.frozen i
      have hbQs := hbQr.set_ i lo
      have hTs : Row .i64 (wr.setCell ⟨w.heap.size, i, none⟩ (.int .i64 lo)) wr.heap.size (some ⟨g3, o3, none⟩) c3 T := ((HRT.out.below hbq).more hbq.size).apart (by exact hgne) _
      have hbs2 : Below w.heap.size w (wr.setCell ⟨w.heap.size, i, none⟩ (.int .i64 lo)) := (HB3.out.trans (Below.less hbq hs3)).setCell (Nat.le_refl _) _
      have hszs : (wr.setCell ⟨w.heap.size, i, none⟩ (.int .i64 (lo : Int))).heap.size = wr.heap.size := setCell_size _ _ _
      have hMs := hR'.below hbs2
      have HBQS := Lib.hid hbQs
      have HTS := Lib.hid hTs
      have HBS2 := Lib.hid hbs2
      have HMS := Lib.hid hMs
      have hwrs : w.heap.size < wr.heap.size := hbQr.lt
      have HSZ := Lib.hid hszs
      clear hbQr hbQs hTs hbs2 hszs hMs hlt
      go_upto_region 17 with (fail)
      change Code.wp Tryz.prog _ _ _ (wr.setCell ⟨w.heap.size, i, none⟩ (.int .i64 lo))
      generalize wr.setCell ⟨w.heap.size, i, none⟩ (.int .i64 (lo : Int)) = ws at *
      clear hcq hfq
      have hbl := blk_one4 ws lo
      have hlo9 : Lim4 [lo] := fun d hd => by rw [List.mem_singleton] at hd; omega
      have htl := rtrim_any (some ⟨ws.heap.size, 0, none⟩) 1 [lo] (ws.alloc (.cells #[.int .i64 lo] 3)) (ws.heap.size + 1) (by simp) (Row.ofBlk hbl (Nat.lt_succ_self _) (by simp))
      obtain ⟨U, u1, u2, u3, u4, u5⟩ := rrow_take (Row.ofBlk (B := ws.heap.size + 1) (c := 1) hbl (Nat.lt_succ_self _) (by simp)) hlo9
      rw [← u1] at htl
      have hU1 : List.length U ≤ 1 := by rw [u1]; exact trimN_le _ _
      have huv : val4 U = lo := by rw [u5]; simp [valB]
      have hba := below_alloc_new (w := ws) (.cells #[.int .i64 lo] 3)
      have hsa : (ws.alloc (.cells #[.int .i64 (lo : Int)] 3)).heap.size = ws.heap.size + 1 := by simp
      rw [← hsa] at u2
      have hmul := rmul2 A' (some ⟨ws.heap.size, 0, none⟩) c' 1 M U (ws.alloc (.cells #[.int .i64 lo] 3)) (by rw [HM.out]; omega) (by omega) hM u3 (((HMS.out.more (by rw [HSZ.out]; omega)).below hba).more (by rw [hsa]; omega)) u2
      rw [HM.out, huv] at hmul
      have hTa : Row .i64 (ws.alloc (.cells #[.int .i64 lo] 3)) (ws.alloc (.cells #[.int .i64 (lo : Int)] 3)).heap.size (some ⟨g3, o3, none⟩) c3 T := (HTS.out.more (by rw [HSZ.out]; exact Nat.le_refl _)).up hba
      have HTL := Lib.hid htl
      have HMUL := Lib.hid hmul
      have HTA := Lib.hid hTa
      have HBA := Lib.hid hba
      have HSA := Lib.hid hsa
      clear htl hmul hTa hba u1 u2 u5 huv hbl hsa
      generalize List.length U = nu at *
      go_wp2_with fail
      refine HTL.out.mono ?_
      rintro e w6 ⟨rfl, rfl⟩
      go_wp2_with fail
      refine HMUL.out.mono ?_
      rintro e w7 ⟨g7, c7, P7, rfl, k1, k2, k3, k4, k5, k6, k7⟩
      have hT7 := HTA.out.up k6
      have hle7 : val4 P7 ≤ val4 T := by rw [k4]; exact hbs.out.1
      have hPT := len_le4 t3 k3 hle7
      have hsb := rsub2T (some ⟨g3, o3, none⟩) (some ⟨g7, 0, none⟩) c3 c7 T P7 w7 (by rw [HTN.out]; omega) hPT t3 k2 hle7 hT7 k1
      rw [HTN.out] at hsb
      have HSB := Lib.hid hsb
      have HP4 := Lib.hid k4
      have HPT := Lib.hid hPT
      have hb7 : Below w.heap.size w w7 := HBS2.out.trans (Below.less (HBA.out.trans (Below.less k6 (by rw [HSA.out]; omega))) (by rw [HSZ.out]; omega))
      have HB7 := Lib.hid hb7
      have hQ7 := (HBQS.out.below HBA.out (by rw [HSZ.out]; exact hwrs)).below k6 (by rw [HSA.out, HSZ.out]; omega)
      have HQ7 := Lib.hid hQ7
      clear hsb k1 k2 k3 k4 k5 k6 k7 hT7 hle7 hPT hb7 hQ7
      generalize List.length P7 = n7 at *
      go_wp2_with fail
      refine HSB.out.mono ?_
      rintro e w8 ⟨A8, c8, R8, rfl, m1, m2, m3, m4, m5, m6⟩
      have HB8 := Lib.hid (below_then HB7.out m5 HB7.out.size)
      have HQ8 := Lib.hid (HQ7.out.below m5 HQ7.out.lt)
      have M1 := Lib.hid m1
      have M3 := Lib.hid m3
      have M4 := Lib.hid m4
      have M6 := Lib.hid m6
      clear m1 m3 m4 m5 m6
      go_wp2_with fail
      go_roundw
      case rel =>
       have hnT := len_T t4 hM HM.out hTup.out
       have e1 := HTN.out
       have e2 := HPT.out
       have e3 := M4.out
       have e4 := M3.out
       have e5 := hbs.out.2
       rw [HP4.out] at e4
       have e6 : val4 M * (lo + 1) = val4 M * lo + val4 M := by rw [Nat.mul_add, Nat.mul_one]
       rw [e6] at e5
       have e7 : val4 R8 + val4 M * lo = nth L i + 10000 * val4 R := by rw [e4, HTV.out, HVAL3.out]
       exact ⟨i, Q.set i lo, A8, c8, R8, by omega, rfl, rfl, M1.out, m2, by omega, HQ8.out, by rw [List.length_set]; exact HQL.out, rq_step hin.out (by rw [HQL.out]; omega) (by omega) e7 (by omega), HB8.out, M6.out⟩
      case measure => simp [intOf]
set_option maxHeartbeats 3200000
set_option maxRecDepth 20000
def RqT (L M : List Nat) (w : World) (e : Ending) (w' : World) : Prop := ∃ (A1 : Option Addr) (c1 : Nat) (Q : List Nat) (A2 : Option Addr) (c2 : Nat) (R : List Nat), e = .returned (.tuple #[.slice A1 (List.length Q) c1, .slice A2 (List.length R) c2]) ∧
 Row .i64 w' w'.heap.size A2 c2 R ∧ Lim4 R ∧ Top R ∧ val4 R = val4 L % val4 M ∧ val4 R < val4 M ∧ Below w.heap.size w w'
theorem rquo_anyT (A A' : Option Addr) (c c' : Nat) (L M : List Nat) (w : World) (hl : L.length ≤ 100000) (_hml : M.length ≤ 100000) (hn0 : 0 < M.length) (hL : Lim4 L) (hM : Lim4 M) (htM : Top M) (htL : Top L)
  (hR : Row .i64 w w.heap.size A c L) (hR' : Row .i64 w w.heap.size A' c' M) :
  Calls Tryz.prog 128 #[.slice A L.length c, .slice A' M.length c'] w (RqT L M w) := by
 rcases Nat.lt_or_ge L.length M.length with h | h
 ·have hv := canon_lt4 hL htM h
  have hfin : ∀ W, Below w.heap.size w W → RqT L M w (.returned (.tuple #[.slice none 0 0, .slice A L.length c])) W := fun W hb =>
   ⟨none, 0, [], A, c, L, rfl, (hR.below hb).more hb.size, hL, htL, (Nat.mod_eq_of_lt hv).symm, hv, hb⟩
  have HF := Lib.hid hfin
  clear hfin hv
  generalize L.length = l at *
  generalize M.length = m at *
  go_enter Tryz.func128, Tryz.ntmps128
  go_wp2
  go_ret2
  exact HF.out _ (Below.refl _ _)
 ·refine (rquo_longT A A' c c' M.length L M w hl rfl hn0 h hL hM htM htL hR hR').mono ?_
  rintro e w' ⟨A1, c1, Q, A2, c2, R, rfl, -, k2, -, k4, k5, k6, -, -, k9, k10⟩
  exact ⟨A1, c1, Q, A2, c2, R, rfl, k2, k4, k10, by rw [← k5, Nat.mul_comm, Nat.mul_add_mod, Nat.mod_eq_of_lt k6], k6, k9⟩
structure CR (L M : List Nat) (w wr : World) (A1 : Option Addr) (c1 : Nat) (C : List Nat) (A2 : Option Addr) (c2 : Nat) (D : List Nat) : Prop where
 r1 : Row .i64 wr wr.heap.size A1 c1 C
 r2 : Row .i64 wr wr.heap.size A2 c2 D
 k1 : Lim4 C
 k2 : Lim4 D
 t1 : Top C
 t2 : Top D
 g : Nat.gcd (val4 C) (val4 D) = Nat.gcd (val4 L) (val4 M)
 lc : C.length ≤ L.length + M.length
 ld : D.length ≤ L.length + M.length
 bw : Below w.heap.size w wr
theorem cr_step {L M C D R : List Nat} {w wr w2 : World} {A1 A2 A3 : Option Addr} {c1 c2 c3 : Nat} (h : CR L M w wr A1 c1 C A2 c2 D) (i1 : Row .i64 w2 w2.heap.size A3 c3 R) (i2 : Lim4 R) (i3 : Top R) (i4 : val4 R = val4 C % val4 D) (i5 : val4 R < val4 D)
  (i6 : Below wr.heap.size wr w2) : CR L M w w2 A2 c2 D A3 c3 R := by
 refine ⟨h.r2.up i6, i1, h.k2, i2, h.t2, i3, ?_, h.ld, ?_, below_then h.bw i6 h.bw.size⟩
 ·rw [i4, Nat.gcd_comm, ← Nat.gcd_rec, Nat.gcd_comm, h.g]
 ·have := len_le4 h.k2 i3 (Nat.le_of_lt i5)
  have := h.ld
  omega
theorem zR_natAbs (n : Bool) (L : List Nat) : (zR n L).natAbs = val4 L := by unfold zR; split <;> simp
theorem rgcd_any (n m : Bool) (A A' : Option Addr) (c c' : Nat) (L M : List Nat) (w : World) (hl : L.length ≤ 50000) (hml : M.length ≤ 50000) (hL : RefR w w.heap.size n A c L) (hM : RefR w w.heap.size m A' c' M) :
  Calls Tryz.prog 110 #[.agg #[.bool n, .slice A L.length c], .agg #[.bool m, .slice A' M.length c']] w fun e w' => ∃ k A c R, e = .returned (.agg #[.bool k, .slice A R.length c]) ∧
   RefR w' w'.heap.size k A c R ∧ zR k R = (Int.gcd (zR n L) (zR m M) : Int) ∧ R.length ≤ L.length + M.length ∧ Below w.heap.size w w' := by
 have hgg : Nat.gcd (val4 L) (val4 M) = Int.gcd (zR n L) (zR m M) := by unfold Int.gcd; rw [zR_natAbs, zR_natAbs]
 have HGG := Lib.hid hgg
 clear hgg
 have hba := below_a3 w (.cells #[.bool n, .slice A L.length c] 33) (.cells #[.bool m, .slice A' M.length c'] 33) (.cells #[.bool false, .slice none 0 0] 33)
 have Y := three (Below.refl _ (((w.alloc (.cells #[.bool n, .slice A L.length c] 33)).alloc (.cells #[.bool m, .slice A' M.length c'] 33)).alloc (.cells #[.bool false, .slice none 0 0] 33)))
 have hbr := Box.new ((w.alloc (.cells #[.bool n, .slice A L.length c] 33)).alloc (.cells #[.bool m, .slice A' M.length c'] 33)) (.bool false) (.slice none 0 0) 33
 rw [show ((w.alloc (.cells #[.bool n, .slice A L.length c] 33)).alloc (.cells #[.bool m, .slice A' M.length c'] 33)).heap.size = w.heap.size + 1 + 1 by simp] at hbr
 have hsz : w.heap.size + 3 ≤ (((w.alloc (.cells #[.bool n, .slice A L.length c] 33)).alloc (.cells #[.bool m, .slice A' M.length c'] 33)).alloc (.cells #[.bool false, .slice none 0 0] 33)).heap.size := by simp
 have hlim1 := hL.lim
 have hlim2 := hM.lim
 have htp1 := hL.top
 have htp2 := hM.top
 generalize hl' : L.length = l at *
 generalize hm' : M.length = l2 at *
 have HLL := Lib.hid hl'
 have HML := Lib.hid hm'
 clear hl' hm'
 go_enter Tryz.func110, Tryz.ntmps110
 go_upto_region 1 with (fail)
 change Code.wp Tryz.prog _ _ _ (((w.alloc (.cells #[.bool n, .slice A l c] 33)).alloc (.cells #[.bool m, .slice A' l2 c'] 33)).alloc (.cells #[.bool false, .slice none 0 0] 33))
 generalize ((w.alloc (.cells #[.bool n, .slice A l c] 33)).alloc (.cells #[.bool m, .slice A' l2 c'] 33)).alloc (.cells #[.bool false, .slice none 0 0] 33) = W0 at *
 have x0 := Y.1
 have x1 := Y.2.1
 have x2 := Y.2.2.1
 have x3 := Y.2.2.2.1
 have hst : ∀ k, CR L M W0 (W0.drewN k) A c L A' c' M := fun k => ⟨(hL.row.up hba).drewN k, (hM.row.up hba).drewN k, hlim1, hlim2, by unfold Top; rw [HLL.out]; exact htp1, by unfold Top; rw [HML.out]; exact htp2, rfl, by omega, by omega, below_drewN (Below.refl _ _) k⟩
 have HST := Lib.hid hst
 have HBR := Lib.hid hbr
 have HBA := Lib.hid hba
 clear Y hbr hba hL hM hlim1 hlim2 htp1 htp2 hst
 go_quiet (fail)
 go_wp2_with fail
 go_loopw [5, 6] (fun av bv wr => ∃ A1 c1 C A2 c2 D, av = .slice A1 (List.length C) c1 ∧ bv = .slice A2 (List.length D) c2 ∧ Hid (CR L M W0 wr A1 c1 C A2 c2 D)) (fun _ bv wr => val4 (readRow wr bv))
 case atStart => exact ⟨A, c, L, A', c', M, by rw [HLL.out], by rw [HML.out], HST.out _⟩
 case round =>
  obtain ⟨A1, c1, C, A2, c2, D, rfl, rfl, hcs⟩ := hrel
  have hcl := hcs.out.lc
  have hdl := hcs.out.ld
  rw [HLL.out, HML.out] at hcl hdl
  have hm2 := congrArg val4 (readRow_row hcs.out.r2)
  have hdiv : 0 < D.length → Calls Tryz.prog 128 #[.slice A1 C.length c1, .slice A2 D.length c2] wr (RqT C D wr) := fun h0 =>
   rquo_anyT A1 A2 c1 c2 C D wr (by omega) (by omega) h0 hcs.out.k1 hcs.out.k2 hcs.out.t2 hcs.out.t1 hcs.out.r1 hcs.out.r2
  have hzero : D.length = 0 → val4 C = Nat.gcd (val4 L) (val4 M) := fun h0 => by
   have : D = [] := List.eq_nil_of_length_eq_zero h0
   rw [← hcs.out.g, this]; simp [valB]
  have hsg := rsigned_int false A1 c1 C
  have HM2 := Lib.hid hm2
  have HDIV := Lib.hid hdiv
  have HZERO := Lib.hid hzero
  clear hm2 hdiv hzero hsg
  generalize hlc : C.length = lc at *
  generalize hld : D.length = ld at *
  have HLC := Lib.hid hlc
  have HLD := Lib.hid hld
  clear hlc hld
  rcases Nat.eq_zero_or_pos ld with h0 | h0
  ·have hz := HZERO.out h0
   subst h0
   have HZ := Lib.hid hz
   have hb := HBR.out.below hcs.out.bw (by omega)
   have hbw := below_then HBA.out hcs.out.bw HBA.out.size
   clear hz HDIV HZERO
   have hsg := fun W (h : Below wr.heap.size wr W) => rsigned_int false A1 c1 C W (by rw [HLC.out]; omega) hcs.out.k1 (hcs.out.r1.up h)
   rw [HLC.out] at hsg
   have HSG := Lib.hid hsg
   have HB0 := Lib.hid hb
   have HBW := Lib.hid hbw
   clear hsg hb hbw
   go_wp2_with fail
   refine (HSG.out _ (Below.refl _ _)).mono ?_
   rintro e w2 ⟨T, rfl, i1, i2, i3, i4⟩
   have b2 := HB0.out.below i4 (by have := hcs.out.bw.size; omega)
   have HB2 := Lib.hid b2
   have HI := Lib.hid i1
   have HV := Lib.hid i2
   have HL3 := Lib.hid i3
   have HBW2 := Lib.hid (below_then HBW.out i4 HBW.out.size)
   have y0 := b2.c0
   have y1 := b2.c1
   have z0 := b2.f0
   have z1 := b2.f1
   clear i1 i2 i3 i4 b2
   generalize hlt : List.length T = lt at *
   have HLT := Lib.hid hlt
   clear hlt
   go_wp2_with fail
   have hi := HI.out
   have hv := HV.out
   rw [Bool.false_and] at hi hv
   simp only [Bool.false_eq_true, if_false] at hv
   refine bodyPost_ret (v := .agg #[.bool false, .slice A1 lt c1]) (by simp [results, Tryz.results110, go_sem, y0, y1]) rfl ⟨false, A1, c1, T, by rw [HLT.out], ?_, by rw [hv, ← HGG.out, HZ.out], by have := HL3.out; rw [HLT.out]; omega, (HBW2.out.setCell (by simp; omega) _).setCell (by simp; omega) _⟩
   rw [setCell_size, setCell_size]
   exact RefR.pair HB2.out hi _ _
  ·have h0i : (0 : Int) < (ld : Int) := by omega
   have hdv := HDIV.out h0
   have HDV := Lib.hid hdv
   clear hdv HDIV HZERO
   go_wp2_with fail
   refine HDV.out.mono ?_
   rintro e w2 ⟨A3, c3, Q, A4, c4, R, rfl, i1, i2, i3, i4, i5, i6⟩
   have HN := Lib.hid (cr_step hcs.out i1 i2 i3 i4 i5 i6)
   have HM3 := Lib.hid (congrArg val4 (readRow_row i1))
   have HM4 := Lib.hid i5
   clear i1 i2 i3 i4 i5 i6
   go_wp2_with fail
   go_roundw
   case rel => exact ⟨A2, c2, D, A4, c4, R, by rw [HLD.out], rfl, HN.out⟩
   case measure =>
    show val4 (readRow w2 (.slice A4 (List.length R) c4)) < val4 (readRow wr (.slice A2 ld c2))
    rw [HM3.out, HM2.out]
    exact HM4.out
theorem rgcd_fact {x y : Int} {n m : Nat} {a b : Value} {w : World} (h1 : PRef x n a w) (h2 : PRef y m b w) (hn : n ≤ 50000) (hm : m ≤ 50000) :
  Calls Tryz.prog 110 #[a, b] w fun e w' => ∃ v, e = .returned v ∧ PRef (Int.gcd x y : Int) (n + m) v w' ∧ Below w.heap.size w w' := by
 obtain ⟨k, A, c, L, rfl, i1, rfl, l1⟩ := h1
 obtain ⟨k2, A2, c2, L2, rfl, i2, rfl, l2⟩ := h2
 refine (rgcd_any k k2 A A2 c c2 L L2 w (by omega) (by omega) i1 i2).mono ?_
 rintro e w' ⟨q, B, d, R, rfl, hi, hz, hl, hb⟩
 exact ⟨_, rfl, ⟨q, B, d, R, rfl, hi, hz, by omega⟩, hb⟩
open AS (Keep NoInt)
theorem quo_fact {x y : Int} {n m : Nat} {a b : Value} {w : World} (h1 : PInt x n a w) (h2 : PInt y m b w) (hn : n ≤ 380000) (hm : m ≤ 380000) (hy : y ≠ 0) :
  Calls Tryz.prog 114 #[a, b] w fun e w' => ∃ (k : Bool) (A : Option Addr) (l c : Nat) (k' : Bool) (A' : Option Addr) (l' c' : Nat), e = .returned (.tuple #[.agg #[.bool k, .slice A l c], .agg #[.bool k', .slice A' l' c'], .int .i64 0]) ∧
   PInt (Int.tdiv x y) (n + 1) (.agg #[.bool k, .slice A l c]) w' ∧ PInt (Int.tmod x y) (n + 1) (.agg #[.bool k', .slice A' l' c']) w' ∧ Below w.heap.size w w' := by
 obtain ⟨k, A, c, L, rfl, i1, rfl, l1⟩ := h1
 obtain ⟨k2, A2, c2, L2, rfl, i2, rfl, l2⟩ := h2
 have hpos : 0 < List.length L2 := by
  rcases Nat.eq_zero_or_pos (List.length L2) with h | h
  ·exfalso; apply hy; unfold zI; rw [val9_nil h]; simp
  ·exact h
 refine (quoRem_pos k k2 A A2 c c2 L L2 w (by omega) (by omega) hpos i1 i2).mono ?_
 rintro e w' ⟨k5, A5, c5, Q, k6, A6, c6, R, rfl, hi5, hi6, hz5, hz6, hl5, hl6, hb⟩
 exact ⟨_, _, _, _, _, _, _, _, rfl, ⟨k5, A5, c5, Q, rfl, hi5, hz5, by omega⟩, ⟨k6, A6, c6, R, rfl, hi6, hz6, by omega⟩, hb⟩
set_option maxRecDepth 20000 in
set_option maxHeartbeats 3200000 in
theorem red_fact {p q : Int} {n : Nat} {k : Bool} {A : Option Addr} {l c : Nat} {k' : Bool} {A' : Option Addr} {l' c' : Nat} {w : World} (h1 : PInt p n (.agg #[.bool k, .slice A l c]) w) (h2 : PInt q n (.agg #[.bool k', .slice A' l' c']) w) (hn : n ≤ 100000) (hq : q ≠ 0) :
  Calls Tryz.prog 67 #[.agg #[.bool k, .slice A l c, .bool k', .slice A' l' c']] w fun e w' => ∃ v, e = .returned v ∧ PRat (Rat.divInt p q) (n + 1) v w' ∧ Below w.heap.size w w' := by
 have H1 := Lib.hid h1
 have H2 := Lib.hid h2
 clear h1 h2
 go_enter Tryz.func67, Tryz.ntmps67
 go_upto_region 1 with (fail)
 change Code.wp Tryz.prog _ _ _ ((w.alloc (.cells #[.bool k, .slice A l c, .bool k', .slice A' l' c'] 27)).alloc (.cells #[.bool false, .slice none 0 0, .bool false, .slice none 0 0] 27))
 obtain ⟨nb1, nb2, na⟩ := new2 w 27 [.bool k, .slice A l c, .bool k', .slice A' l' c'] 27 [.bool false, .slice none 0 0, .bool false, .slice none 0 0] lf4 lf4
 have nkeep := Keep.ofBelow na
 have nbel := na
 generalize (w.alloc (.cells #[.bool k, .slice A l c, .bool k', .slice A' l' c'] 27)).alloc (.cells #[.bool false, .slice none 0 0, .bool false, .slice none 0 0] 27) = W1 at *
 clear na
 have b1 := Lib.hid nb1
 have b2 := Lib.hid nb2
 clear nb1 nb2
 replace H1 := Lib.hid (H1.out.kept nkeep)
 replace H2 := Lib.hid (H2.out.kept nkeep)
 clear nkeep
 have HB2 := Lib.hid nbel
 clear nbel
 obtain ⟨x10, x11, x12, x13, s1⟩ := b1.out.d4
 obtain ⟨x20, x21, x22, x23, s2⟩ := b2.out.d4
 have szb := HB2.out.size
 go_wp2_with fail
 refine (gcd_fact H1.out H2.out (by omega) (by omega)).mono ?_
 rintro e W3 ⟨v1, rfl, hv1, hb⟩
 replace b1 := hup b1 hb
 replace b2 := hup b2 hb
 replace H1 := Lib.hid (H1.out.kept (Keep.ofBelow hb))
 replace H2 := Lib.hid (H2.out.kept (Keep.ofBelow hb))
 have nbel := below_then HB2.out hb HB2.out.size
 have HB4 := Lib.hid nbel
 clear nbel HB2 hb x10 x11 x12 x13 x20 x21 x22 x23 szb s1 s2
 obtain ⟨x10, x11, x12, x13, s1⟩ := b1.out.d4
 obtain ⟨x20, x21, x22, x23, s2⟩ := b2.out.d4
 have szb := HB4.out.size
 obtain ⟨k1, A1, l1, c1, rfl⟩ := hv1.open
 have HV1 := Lib.hid hv1
 clear hv1
 go_upto_region 2 with (fail)
 have q5 := b1.out.lt
 have q6 := b2.out.lt
 change Code.wp Tryz.prog _ _ _ (W3.alloc (.cells #[.bool k1, .slice A1 l1 c1] 25))
 obtain ⟨nb3, na⟩ := new1 W3 25 [.bool k1, .slice A1 l1 c1] lf2
 have nb1 := b1.out.up na
 have nb2 := b2.out.up na
 have nkeep := Keep.ofBelow na
 have nbel := below_then HB4.out na HB4.out.size
 generalize W3.alloc (.cells #[.bool k1, .slice A1 l1 c1] 25) = W7 at *
 clear na x10 x11 x12 x13 x20 x21 x22 x23 szb s1 s2 b1 b2
 have b1 := Lib.hid nb1
 have b2 := Lib.hid nb2
 have b3 := Lib.hid nb3
 clear nb1 nb2 nb3
 replace H1 := Lib.hid (H1.out.kept nkeep)
 replace H2 := Lib.hid (H2.out.kept nkeep)
 replace HV1 := Lib.hid (HV1.out.kept nkeep)
 clear nkeep
 have HB8 := Lib.hid nbel
 clear nbel HB4
 obtain ⟨x10, x11, x12, x13, s1⟩ := b1.out.d4
 obtain ⟨x20, x21, x22, x23, s2⟩ := b2.out.d4
 obtain ⟨x30, x31, s3⟩ := b3.out.d2
 have szb := HB8.out.size
 rcases Int.lt_trichotomy q 0 with hlt | hlt | hlt
 ·have hc : cmpI q 0 = -1 := by unfold cmpI; rw [if_pos hlt]
  have hne : -(Int.gcd p q : Int) ≠ 0 := by have := Int.gcd_ne_zero_right (a := p) hq; omega
  go_wp2_with fail
  refine (sign_is H2.out hc).mono ?_
  rintro e W9 ⟨rfl, hb⟩
  replace b1 := hup b1 hb
  replace b2 := hup b2 hb
  replace b3 := hup b3 hb
  replace H1 := Lib.hid (H1.out.kept (Keep.ofBelow hb))
  replace H2 := Lib.hid (H2.out.kept (Keep.ofBelow hb))
  replace HV1 := Lib.hid (HV1.out.kept (Keep.ofBelow hb))
  have nbel := below_then HB8.out hb HB8.out.size
  have HB10 := Lib.hid nbel
  clear nbel HB8 hb x10 x11 x12 x13 x20 x21 x22 x23 x30 x31 szb s1 s2 s3
  obtain ⟨x10, x11, x12, x13, s1⟩ := b1.out.d4
  obtain ⟨x20, x21, x22, x23, s2⟩ := b2.out.d4
  obtain ⟨x30, x31, z30, z31, s3⟩ := b3.out.e2
  have szb := HB10.out.size
  go_wp2_with fail
  refine (neg_fact HV1.out (by omega)).mono ?_
  rintro e W11 ⟨v2, rfl, hv2, hb⟩
  replace b1 := hup b1 hb
  replace b2 := hup b2 hb
  replace b3 := hup b3 hb
  replace H1 := Lib.hid (H1.out.kept (Keep.ofBelow hb))
  replace H2 := Lib.hid (H2.out.kept (Keep.ofBelow hb))
  replace HV1 := Lib.hid (HV1.out.kept (Keep.ofBelow hb))
  have nbel := below_then HB10.out hb HB10.out.size
  have HB12 := Lib.hid nbel
  clear nbel HB10 hb x10 x11 x12 x13 x20 x21 x22 x23 x30 x31 z30 z31 szb s1 s2 s3
  obtain ⟨x10, x11, x12, x13, s1⟩ := b1.out.d4
  obtain ⟨x20, x21, x22, x23, s2⟩ := b2.out.d4
  obtain ⟨x30, x31, z30, z31, s3⟩ := b3.out.e2
  have szb := HB12.out.size
  obtain ⟨k2, A2, l2, c2, rfl⟩ := hv2.open
  have HV2 := Lib.hid hv2
  clear hv2
  go_upto_region 4 with (fail)
  change Code.wp Tryz.prog _ _ _ ((W11.setCell ⟨W3.heap.size, 0, none⟩ (.bool k2)).setCell ⟨W3.heap.size, 1, none⟩ (.slice A2 l2 c2))
  have nb1 : Bx 27 ((W11.setCell ⟨W3.heap.size, 0, none⟩ (.bool k2)).setCell ⟨W3.heap.size, 1, none⟩ (.slice A2 l2 c2)) w.heap.size [.bool k, .slice A l c, .bool k', .slice A' l' c'] := (Bx.far2 (g' := W3.heap.size) b1.out (by omega) (.bool k2) (.slice A2 l2 c2))
  have nb2 : Bx 27 ((W11.setCell ⟨W3.heap.size, 0, none⟩ (.bool k2)).setCell ⟨W3.heap.size, 1, none⟩ (.slice A2 l2 c2)) (w.heap.size + 1) [.bool false, .slice none 0 0, .bool false, .slice none 0 0] := (Bx.far2 (g' := W3.heap.size) b2.out (by omega) (.bool k2) (.slice A2 l2 c2))
  have nb3 : Bx 25 ((W11.setCell ⟨W3.heap.size, 0, none⟩ (.bool k2)).setCell ⟨W3.heap.size, 1, none⟩ (.slice A2 l2 c2)) W3.heap.size [.bool k2, .slice A2 l2 c2] := (Bx.set2 b3.out (Leaf.bool k2) (Leaf.slice A2 l2 c2))
  have nkeep := (Keep.set2 (Keep.refl W11) b3.out (Leaf.bool k2) (Leaf.slice A2 l2 c2))
  have nbel : Below w.heap.size w ((W11.setCell ⟨W3.heap.size, 0, none⟩ (.bool k2)).setCell ⟨W3.heap.size, 1, none⟩ (.slice A2 l2 c2)) := (Below.set2 (g := W3.heap.size) HB12.out (by first | omega | (simp; done) | (simp; omega)) (.bool k2) (.slice A2 l2 c2))
  generalize (W11.setCell ⟨W3.heap.size, 0, none⟩ (.bool k2)).setCell ⟨W3.heap.size, 1, none⟩ (.slice A2 l2 c2) = W13 at *
  clear x10 x11 x12 x13 x20 x21 x22 x23 x30 x31 z30 z31 szb s1 s2 s3 b1 b2 b3
  have b1 := Lib.hid nb1
  have b2 := Lib.hid nb2
  have b3 := Lib.hid nb3
  clear nb1 nb2 nb3
  replace H1 := Lib.hid (H1.out.kept nkeep)
  replace H2 := Lib.hid (H2.out.kept nkeep)
  replace HV1 := Lib.hid (HV1.out.kept nkeep)
  replace HV2 := Lib.hid (HV2.out.kept nkeep)
  clear nkeep
  have HB14 := Lib.hid nbel
  clear nbel HB12
  obtain ⟨x10, x11, x12, x13, s1⟩ := b1.out.d4
  obtain ⟨x20, x21, x22, x23, s2⟩ := b2.out.d4
  obtain ⟨x30, x31, z30, z31, s3⟩ := b3.out.e2
  have szb := HB14.out.size
  go_wp2_with fail
  refine (quo_fact H1.out HV2.out (by omega) (by omega) hne).mono ?_
  rintro e W15 ⟨k3, A3, l3, c3, k4, A4, l4, c4, rfl, hv3, hv4, hb⟩
  replace b1 := hup b1 hb
  replace b2 := hup b2 hb
  replace b3 := hup b3 hb
  replace H1 := Lib.hid (H1.out.kept (Keep.ofBelow hb))
  replace H2 := Lib.hid (H2.out.kept (Keep.ofBelow hb))
  replace HV1 := Lib.hid (HV1.out.kept (Keep.ofBelow hb))
  replace HV2 := Lib.hid (HV2.out.kept (Keep.ofBelow hb))
  have nbel := below_then HB14.out hb HB14.out.size
  have HB16 := Lib.hid nbel
  clear nbel HB14 hb x10 x11 x12 x13 x20 x21 x22 x23 x30 x31 z30 z31 szb s1 s2 s3
  obtain ⟨x10, x11, x12, x13, s1⟩ := b1.out.d4
  obtain ⟨x20, x21, x22, x23, s2⟩ := b2.out.d4
  obtain ⟨x30, x31, z30, z31, s3⟩ := b3.out.e2
  have szb := HB16.out.size
  have HV3 := Lib.hid hv3
  clear hv3 hv4
  go_upto_region 5 with (fail)
  have q17 := b1.out.lt
  have q18 := b2.out.lt
  have q19 := b3.out.lt
  change Code.wp Tryz.prog _ _ _ ((W15.alloc (.cells #[.bool k3, .slice A3 l3 c3] 25)).alloc (.cells #[.bool k4, .slice A4 l4 c4] 25))
  obtain ⟨nb4, nb5, na⟩ := new2 W15 25 [.bool k3, .slice A3 l3 c3] 25 [.bool k4, .slice A4 l4 c4] lf2 lf2
  have nb1 := b1.out.up na
  have nb2 := b2.out.up na
  have nb3 := b3.out.up na
  have nkeep := Keep.ofBelow na
  have nbel := below_then HB16.out na HB16.out.size
  generalize (W15.alloc (.cells #[.bool k3, .slice A3 l3 c3] 25)).alloc (.cells #[.bool k4, .slice A4 l4 c4] 25) = W20 at *
  clear na x10 x11 x12 x13 x20 x21 x22 x23 x30 x31 z30 z31 szb s1 s2 s3 b1 b2 b3
  have b1 := Lib.hid nb1
  have b2 := Lib.hid nb2
  have b3 := Lib.hid nb3
  have b4 := Lib.hid nb4
  have b5 := Lib.hid nb5
  clear nb1 nb2 nb3 nb4 nb5
  replace H1 := Lib.hid (H1.out.kept nkeep)
  replace H2 := Lib.hid (H2.out.kept nkeep)
  replace HV1 := Lib.hid (HV1.out.kept nkeep)
  replace HV2 := Lib.hid (HV2.out.kept nkeep)
  replace HV3 := Lib.hid (HV3.out.kept nkeep)
  clear nkeep
  have HB21 := Lib.hid nbel
  clear nbel HB16
  obtain ⟨x10, x11, x12, x13, s1⟩ := b1.out.d4
  obtain ⟨x20, x21, x22, x23, s2⟩ := b2.out.d4
  obtain ⟨x30, x31, z30, z31, s3⟩ := b3.out.e2
  obtain ⟨x40, x41, s4⟩ := b4.out.d2
  obtain ⟨x50, x51, s5⟩ := b5.out.d2
  have szb := HB21.out.size
  go_wp2_with fail
  refine (quo_fact H2.out HV2.out (by omega) (by omega) hne).mono ?_
  rintro e W22 ⟨k5, A5, l5, c5, k6, A6, l6, c6, rfl, hv5, hv6, hb⟩
  replace b1 := hup b1 hb
  replace b2 := hup b2 hb
  replace b3 := hup b3 hb
  replace b4 := hup b4 hb
  replace b5 := hup b5 hb
  replace H1 := Lib.hid (H1.out.kept (Keep.ofBelow hb))
  replace H2 := Lib.hid (H2.out.kept (Keep.ofBelow hb))
  replace HV1 := Lib.hid (HV1.out.kept (Keep.ofBelow hb))
  replace HV2 := Lib.hid (HV2.out.kept (Keep.ofBelow hb))
  replace HV3 := Lib.hid (HV3.out.kept (Keep.ofBelow hb))
  have nbel := below_then HB21.out hb HB21.out.size
  have HB23 := Lib.hid nbel
  clear nbel HB21 hb x10 x11 x12 x13 x20 x21 x22 x23 x30 x31 z30 z31 x40 x41 x50 x51 szb s1 s2 s3 s4 s5
  obtain ⟨x10, x11, x12, x13, s1⟩ := b1.out.d4
  obtain ⟨x20, x21, x22, x23, s2⟩ := b2.out.d4
  obtain ⟨x30, x31, z30, z31, s3⟩ := b3.out.e2
  obtain ⟨x40, x41, s4⟩ := b4.out.d2
  obtain ⟨x50, x51, s5⟩ := b5.out.d2
  have szb := HB23.out.size
  have HV5 := Lib.hid hv5
  clear hv5 hv6
  go_upto_region 6 with (fail)
  have q24 := b1.out.lt
  have q25 := b2.out.lt
  have q26 := b3.out.lt
  have q27 := b4.out.lt
  have q28 := b5.out.lt
  change Code.wp Tryz.prog _ _ _ ((W22.alloc (.cells #[.bool k5, .slice A5 l5 c5] 25)).alloc (.cells #[.bool k6, .slice A6 l6 c6] 25))
  obtain ⟨nb7, nb8, na⟩ := new2 W22 25 [.bool k5, .slice A5 l5 c5] 25 [.bool k6, .slice A6 l6 c6] lf2 lf2
  have nb1 := b1.out.up na
  have nb2 := b2.out.up na
  have nb3 := b3.out.up na
  have nb4 := b4.out.up na
  have nb5 := b5.out.up na
  have nkeep := Keep.ofBelow na
  have nbel := below_then HB23.out na HB23.out.size
  generalize (W22.alloc (.cells #[.bool k5, .slice A5 l5 c5] 25)).alloc (.cells #[.bool k6, .slice A6 l6 c6] 25) = W29 at *
  clear na x10 x11 x12 x13 x20 x21 x22 x23 x30 x31 z30 z31 x40 x41 x50 x51 szb s1 s2 s3 s4 s5 b1 b2 b3 b4 b5
  have b1 := Lib.hid nb1
  have b2 := Lib.hid nb2
  have b3 := Lib.hid nb3
  have b4 := Lib.hid nb4
  have b5 := Lib.hid nb5
  have b7 := Lib.hid nb7
  have b8 := Lib.hid nb8
  clear nb1 nb2 nb3 nb4 nb5 nb7 nb8
  replace H1 := Lib.hid (H1.out.kept nkeep)
  replace H2 := Lib.hid (H2.out.kept nkeep)
  replace HV1 := Lib.hid (HV1.out.kept nkeep)
  replace HV2 := Lib.hid (HV2.out.kept nkeep)
  replace HV3 := Lib.hid (HV3.out.kept nkeep)
  replace HV5 := Lib.hid (HV5.out.kept nkeep)
  clear nkeep
  have HB30 := Lib.hid nbel
  clear nbel HB23
  obtain ⟨x10, x11, x12, x13, s1⟩ := b1.out.d4
  obtain ⟨x20, x21, x22, x23, z20, z21, z22, z23, s2⟩ := b2.out.e4
  obtain ⟨x30, x31, z30, z31, s3⟩ := b3.out.e2
  obtain ⟨x40, x41, s4⟩ := b4.out.d2
  obtain ⟨x50, x51, s5⟩ := b5.out.d2
  obtain ⟨x70, x71, s7⟩ := b7.out.d2
  obtain ⟨x80, x81, s8⟩ := b8.out.d2
  have szb := HB30.out.size
  go_wp2_with fail
  have hkeep := (Keep.set4 (Keep.refl W29) b2.out (Leaf.bool k3) (Leaf.slice A3 l3 c3) (Leaf.bool k5) (Leaf.slice A5 l5 c5))
  have hbel := (Below.set4 (g := w.heap.size + 1) HB30.out (by first | omega | (simp; done) | (simp; omega)) (.bool k3) (.slice A3 l3 c3) (.bool k5) (.slice A5 l5 c5))
  refine bodyPost_ret (v := .agg #[.bool k3, .slice A3 l3 c3, .bool k5, .slice A5 l5 c5]) (by simp [results, Tryz.results67, go_sem, x20, x21, x22, x23]) rfl ⟨_, rfl, PRat.mk (HV3.out.kept hkeep) (HV5.out.kept hkeep) (by rw [← red_num hq]; unfold divr; rw [if_pos (by omega)]) (by rw [← red_den hq]; unfold divr; rw [if_pos (by omega)]), hbel⟩
 ·exact absurd hlt hq
 ·have hc : cmpI q 0 = 1 := by unfold cmpI; rw [if_neg (by omega), if_neg (by omega)]
  have hne : (Int.gcd p q : Int) ≠ 0 := by have := Int.gcd_ne_zero_right (a := p) hq; omega
  go_wp2_with fail
  refine (sign_is H2.out hc).mono ?_
  rintro e W9 ⟨rfl, hb⟩
  replace b1 := hup b1 hb
  replace b2 := hup b2 hb
  replace b3 := hup b3 hb
  replace H1 := Lib.hid (H1.out.kept (Keep.ofBelow hb))
  replace H2 := Lib.hid (H2.out.kept (Keep.ofBelow hb))
  replace HV1 := Lib.hid (HV1.out.kept (Keep.ofBelow hb))
  have nbel := below_then HB8.out hb HB8.out.size
  have HB10 := Lib.hid nbel
  clear nbel HB8 hb x10 x11 x12 x13 x20 x21 x22 x23 x30 x31 szb s1 s2 s3
  obtain ⟨x10, x11, x12, x13, s1⟩ := b1.out.d4
  obtain ⟨x20, x21, x22, x23, s2⟩ := b2.out.d4
  obtain ⟨x30, x31, z30, z31, s3⟩ := b3.out.e2
  have szb := HB10.out.size
  go_wp2_with fail
  refine (quo_fact H1.out HV1.out (by omega) (by omega) hne).mono ?_
  rintro e W11 ⟨k3, A3, l3, c3, k4, A4, l4, c4, rfl, hv3, hv4, hb⟩
  replace b1 := hup b1 hb
  replace b2 := hup b2 hb
  replace b3 := hup b3 hb
  replace H1 := Lib.hid (H1.out.kept (Keep.ofBelow hb))
  replace H2 := Lib.hid (H2.out.kept (Keep.ofBelow hb))
  replace HV1 := Lib.hid (HV1.out.kept (Keep.ofBelow hb))
  have nbel := below_then HB10.out hb HB10.out.size
  have HB12 := Lib.hid nbel
  clear nbel HB10 hb x10 x11 x12 x13 x20 x21 x22 x23 x30 x31 z30 z31 szb s1 s2 s3
  obtain ⟨x10, x11, x12, x13, s1⟩ := b1.out.d4
  obtain ⟨x20, x21, x22, x23, s2⟩ := b2.out.d4
  obtain ⟨x30, x31, z30, z31, s3⟩ := b3.out.e2
  have szb := HB12.out.size
  have HV3 := Lib.hid hv3
  clear hv3 hv4
  go_upto_region 5 with (fail)
  have q13 := b1.out.lt
  have q14 := b2.out.lt
  have q15 := b3.out.lt
  change Code.wp Tryz.prog _ _ _ ((W11.alloc (.cells #[.bool k3, .slice A3 l3 c3] 25)).alloc (.cells #[.bool k4, .slice A4 l4 c4] 25))
  obtain ⟨nb4, nb5, na⟩ := new2 W11 25 [.bool k3, .slice A3 l3 c3] 25 [.bool k4, .slice A4 l4 c4] lf2 lf2
  have nb1 := b1.out.up na
  have nb2 := b2.out.up na
  have nb3 := b3.out.up na
  have nkeep := Keep.ofBelow na
  have nbel := below_then HB12.out na HB12.out.size
  generalize (W11.alloc (.cells #[.bool k3, .slice A3 l3 c3] 25)).alloc (.cells #[.bool k4, .slice A4 l4 c4] 25) = W16 at *
  clear na x10 x11 x12 x13 x20 x21 x22 x23 x30 x31 z30 z31 szb s1 s2 s3 b1 b2 b3
  have b1 := Lib.hid nb1
  have b2 := Lib.hid nb2
  have b3 := Lib.hid nb3
  have b4 := Lib.hid nb4
  have b5 := Lib.hid nb5
  clear nb1 nb2 nb3 nb4 nb5
  replace H1 := Lib.hid (H1.out.kept nkeep)
  replace H2 := Lib.hid (H2.out.kept nkeep)
  replace HV1 := Lib.hid (HV1.out.kept nkeep)
  replace HV3 := Lib.hid (HV3.out.kept nkeep)
  clear nkeep
  have HB17 := Lib.hid nbel
  clear nbel HB12
  obtain ⟨x10, x11, x12, x13, s1⟩ := b1.out.d4
  obtain ⟨x20, x21, x22, x23, s2⟩ := b2.out.d4
  obtain ⟨x30, x31, z30, z31, s3⟩ := b3.out.e2
  obtain ⟨x40, x41, s4⟩ := b4.out.d2
  obtain ⟨x50, x51, s5⟩ := b5.out.d2
  have szb := HB17.out.size
  go_wp2_with fail
  refine (quo_fact H2.out HV1.out (by omega) (by omega) hne).mono ?_
  rintro e W18 ⟨k5, A5, l5, c5, k6, A6, l6, c6, rfl, hv5, hv6, hb⟩
  replace b1 := hup b1 hb
  replace b2 := hup b2 hb
  replace b3 := hup b3 hb
  replace b4 := hup b4 hb
  replace b5 := hup b5 hb
  replace H1 := Lib.hid (H1.out.kept (Keep.ofBelow hb))
  replace H2 := Lib.hid (H2.out.kept (Keep.ofBelow hb))
  replace HV1 := Lib.hid (HV1.out.kept (Keep.ofBelow hb))
  replace HV3 := Lib.hid (HV3.out.kept (Keep.ofBelow hb))
  have nbel := below_then HB17.out hb HB17.out.size
  have HB19 := Lib.hid nbel
  clear nbel HB17 hb x10 x11 x12 x13 x20 x21 x22 x23 x30 x31 z30 z31 x40 x41 x50 x51 szb s1 s2 s3 s4 s5
  obtain ⟨x10, x11, x12, x13, s1⟩ := b1.out.d4
  obtain ⟨x20, x21, x22, x23, s2⟩ := b2.out.d4
  obtain ⟨x30, x31, z30, z31, s3⟩ := b3.out.e2
  obtain ⟨x40, x41, s4⟩ := b4.out.d2
  obtain ⟨x50, x51, s5⟩ := b5.out.d2
  have szb := HB19.out.size
  have HV5 := Lib.hid hv5
  clear hv5 hv6
  go_upto_region 6 with (fail)
  have q20 := b1.out.lt
  have q21 := b2.out.lt
  have q22 := b3.out.lt
  have q23 := b4.out.lt
  have q24 := b5.out.lt
  change Code.wp Tryz.prog _ _ _ ((W18.alloc (.cells #[.bool k5, .slice A5 l5 c5] 25)).alloc (.cells #[.bool k6, .slice A6 l6 c6] 25))
  obtain ⟨nb7, nb8, na⟩ := new2 W18 25 [.bool k5, .slice A5 l5 c5] 25 [.bool k6, .slice A6 l6 c6] lf2 lf2
  have nb1 := b1.out.up na
  have nb2 := b2.out.up na
  have nb3 := b3.out.up na
  have nb4 := b4.out.up na
  have nb5 := b5.out.up na
  have nkeep := Keep.ofBelow na
  have nbel := below_then HB19.out na HB19.out.size
  generalize (W18.alloc (.cells #[.bool k5, .slice A5 l5 c5] 25)).alloc (.cells #[.bool k6, .slice A6 l6 c6] 25) = W25 at *
  clear na x10 x11 x12 x13 x20 x21 x22 x23 x30 x31 z30 z31 x40 x41 x50 x51 szb s1 s2 s3 s4 s5 b1 b2 b3 b4 b5
  have b1 := Lib.hid nb1
  have b2 := Lib.hid nb2
  have b3 := Lib.hid nb3
  have b4 := Lib.hid nb4
  have b5 := Lib.hid nb5
  have b7 := Lib.hid nb7
  have b8 := Lib.hid nb8
  clear nb1 nb2 nb3 nb4 nb5 nb7 nb8
  replace H1 := Lib.hid (H1.out.kept nkeep)
  replace H2 := Lib.hid (H2.out.kept nkeep)
  replace HV1 := Lib.hid (HV1.out.kept nkeep)
  replace HV3 := Lib.hid (HV3.out.kept nkeep)
  replace HV5 := Lib.hid (HV5.out.kept nkeep)
  clear nkeep
  have HB26 := Lib.hid nbel
  clear nbel HB19
  obtain ⟨x10, x11, x12, x13, s1⟩ := b1.out.d4
  obtain ⟨x20, x21, x22, x23, z20, z21, z22, z23, s2⟩ := b2.out.e4
  obtain ⟨x30, x31, z30, z31, s3⟩ := b3.out.e2
  obtain ⟨x40, x41, s4⟩ := b4.out.d2
  obtain ⟨x50, x51, s5⟩ := b5.out.d2
  obtain ⟨x70, x71, s7⟩ := b7.out.d2
  obtain ⟨x80, x81, s8⟩ := b8.out.d2
  have szb := HB26.out.size
  go_wp2_with fail
  have hkeep := (Keep.set4 (Keep.refl W25) b2.out (Leaf.bool k3) (Leaf.slice A3 l3 c3) (Leaf.bool k5) (Leaf.slice A5 l5 c5))
  have hbel := (Below.set4 (g := w.heap.size + 1) HB26.out (by first | omega | (simp; done) | (simp; omega)) (.bool k3) (.slice A3 l3 c3) (.bool k5) (.slice A5 l5 c5))
  refine bodyPost_ret (v := .agg #[.bool k3, .slice A3 l3 c3, .bool k5, .slice A5 l5 c5]) (by simp [results, Tryz.results67, go_sem, x20, x21, x22, x23]) rfl ⟨_, rfl, PRat.mk (HV3.out.kept hkeep) (HV5.out.kept hkeep) (by rw [← red_num hq]; unfold divr; rw [if_neg (by omega)]) (by rw [← red_den hq]; unfold divr; rw [if_neg (by omega)]), hbel⟩
def remZ (x y : Int) : Int := if y = 0 then 0 else Int.tmod x y
def errZ (y : Int) : Int := if y = 0 then 10 else 0
def QrPost (x y : Int) (l : Nat) (w : World) (e : Ending) (w' : World) : Prop := ∃ k1 A1 c1 Q k2 A2 c2 R, e = .returned (.tuple #[.agg #[.bool k1, .slice A1 (List.length Q) c1], .agg #[.bool k2, .slice A2 (List.length R) c2], .int .i64 (errZ y)]) ∧
 IntR w' w'.heap.size k1 A1 c1 Q ∧ IntR w' w'.heap.size k2 A2 c2 R ∧ zI k1 Q = Int.tdiv x y ∧ zI k2 R = remZ x y ∧ List.length Q ≤ l ∧ List.length R ≤ l + 1 ∧ Below w.heap.size w w'
theorem quoRem_all (n m : Bool) (A A' : Option Addr) (c c' : Nat) (L M : List Nat) (w : World) (hl : L.length ≤ 100000) (hml : M.length ≤ 100000) (hL : IntR w w.heap.size n A c L) (hM : IntR w w.heap.size m A' c' M) :
  Calls Tryz.prog 114 #[.agg #[.bool n, .slice A L.length c], .agg #[.bool m, .slice A' M.length c']] w (QrPost (zI n L) (zI m M) L.length w) := by
 rcases Nat.eq_zero_or_pos M.length with h0 | h0
 ·have : M = [] := List.eq_nil_of_length_eq_zero h0
  subst this
  have hm : m = false := by
   cases m
   ·rfl
   ·exact absurd rfl (hM.sgn rfl)
  subst hm
  have hz : zI false [] = 0 := rfl
  refine (quoRem_zero n false A A' c c' L w).mono fun e w' ⟨he, hb⟩ => ?_
  refine ⟨false, none, 0, [], false, none, 0, [], ?_, IntR.zero _ _ _ _, IntR.zero _ _ _ _, ?_, ?_, Nat.zero_le _, Nat.zero_le _, hb⟩
  ·rw [he, hz]; rfl
  ·rw [hz, Int.tdiv_zero]
  ·rw [hz]; rfl
 ·have hy : zI m M ≠ 0 := by
   have := canon_pos hM.canon h0
   unfold zI
   cases m <;> simp only [Bool.false_eq_true, if_false, if_true] <;> omega
  refine (quoRem_pos n m A A' c c' L M w (by omega) (by omega) h0 hL hM).mono fun e w' ⟨k1, A1, c1, Q, k2, A2, c2, R, he, h1, h2, h3, h4, h5, h6, h7⟩ => ?_
  refine ⟨k1, A1, c1, Q, k2, A2, c2, R, ?_, h1, h2, h3, ?_, h5, h6, h7⟩
  ·rw [he, errZ, if_neg hy]
  ·rw [h4, remZ, if_neg hy]
def decZ (z : Int) : List UInt8 := decI (decide (z < 0)) z.natAbs
theorem decZ_I {w : World} {B : Nat} {n : Bool} {A : Option Addr} {c : Nat} {L : List Nat} (h : IntR w B n A c L) : decI n (val9 L) = decZ (zI n L) := by
 have h1 : n = true → 0 < val9 L := fun h0 => Nat.pos_of_ne_zero (canon_pos h.canon (List.length_pos_iff.2 (h.sgn h0)))
 unfold decZ
 rw [zI_natAbs]
 congr 1
 unfold zI
 cases n
 ·symm; simp
 ·have := h1 rfl
  symm; simp; omega
theorem decZ_R {w : World} {B : Nat} {n : Bool} {A : Option Addr} {c : Nat} {L : List Nat} (h : RefR w B n A c L) : decI n (val4 L) = decZ (zR n L) := by
 have h1 : n = true → 0 < val4 L := fun h0 => Nat.pos_of_ne_zero (ref_pos h (List.length_pos_iff.2 (h.sgn h0)))
 unfold decZ
 have h2 : (zR n L).natAbs = val4 L := by unfold zR; split <;> simp
 rw [h2]
 congr 1
 unfold zR
 cases n
 ·symm; simp
 ·have := h1 rfl
  symm; simp; omega
theorem text_fact {z : Int} {n : Nat} {a : Value} {w : World} (h1 : PInt z n a w) (hn : n ≤ 100000) (ht : Tab w.heap.size w) :
  Calls Tryz.prog 36 #[a] w fun e w' => e = .returned (.string ⟨(decZ z).toArray⟩) ∧ Below w.heap.size w w' := by
 obtain ⟨k, A, c, L, rfl, i1, rfl, l1⟩ := h1
 have h := text_any k A c L w (by omega) i1.canon i1.sgn i1.row ht
 rw [show decI k (valB 1000000000 L) = decZ (zI k L) from decZ_I i1] at h
 exact h
theorem rtext_fact {z : Int} {n : Nat} {a : Value} {w : World} (h1 : PRef z n a w) (hn : n ≤ 1000000) :
  Calls Tryz.prog 44 #[a] w fun e w' => e = .returned (.string ⟨(decZ z).toArray⟩) ∧ Below w.heap.size w w' := by
 obtain ⟨k, A, c, L, rfl, i1, rfl, l1⟩ := h1
 have h := rtext_any k A c L w (by omega) i1
 rw [show decI k (valB 10000 L) = decZ (zR k L) from decZ_R i1] at h
 exact h
theorem of_fact {n : Int} {w : World} (h1 : -9223372036854775808 ≤ n) (h2 : n ≤ 9223372036854775807) :
  Calls Tryz.prog 41 #[.int .i64 n] w fun e w' => ∃ v, e = .returned v ∧ PInt n 3 v w' ∧ Below w.heap.size w w' := by
 refine (of_any n w h1 h2).mono ?_
 rintro e w' ⟨k, A, c, rfl, hi, hz, hb⟩
 exact ⟨_, rfl, ⟨k, A, c, _, rfl, hi, hz, limbsN_len _ (by omega)⟩, hb⟩
theorem rsign_fact {x : Int} {n : Nat} {a : Value} {w : World} (h1 : PRef x n a w) :
  Calls Tryz.prog 61 #[a] w fun e w' => e = .returned (.int .i64 (cmpI x 0)) ∧ Below w.heap.size w w' := by
 obtain ⟨k, A, c, L, rfl, i1, rfl, l1⟩ := h1
 have h : sgnI k L = cmpI (zR k L) 0 := by
  have h2 := fun h0 => ref_pos i1 h0
  unfold sgnI zR cmpI
  cases k
  ·rcases Nat.eq_zero_or_pos L.length with h0 | h0
   ·have : L = [] := List.eq_nil_of_length_eq_zero h0
    subst this; simp [val4, valB]
   ·have h3 : valB 10000 L ≠ 0 := h2 h0
    have h4 : ¬ ((val4 L : Int) < 0) := by omega
    have h5 : ¬ ((val4 L : Int) = 0) := by show ¬ ((valB 10000 L : Int) = 0); omega
    simp only [Bool.false_eq_true, if_false]
    rw [if_neg (by omega), if_neg h4, if_neg h5]
  ·have h3 : valB 10000 L ≠ 0 := h2 (List.length_pos_iff.2 (i1.sgn rfl))
   have h4 : -(val4 L : Int) < 0 := by show -(valB 10000 L : Int) < 0; omega
   simp only [if_true]
   rw [if_pos h4]
 rw [← h]
 exact rsign_any k A c L w i1.sgn
theorem rsign_is {x c : Int} {n : Nat} {a : Value} {w : World} (h1 : PRef x n a w) (hc : cmpI x 0 = c) :
  Calls Tryz.prog 61 #[a] w fun e w' => e = .returned (.int .i64 c) ∧ Below w.heap.size w w' := hc ▸ rsign_fact h1
theorem rneg_fact {x : Int} {n : Nat} {a : Value} {w : World} (h1 : PRef x n a w) (hn : n ≤ 500000) :
  Calls Tryz.prog 72 #[a] w fun e w' => ∃ v, e = .returned v ∧ PRef (-x) n v w' ∧ Below w.heap.size w w' := by
 obtain ⟨k, A, c, L, rfl, i1, rfl, l1⟩ := h1
 refine (rneg_any k A c L w (by omega) i1).mono ?_
 rintro e w' ⟨q, B, d, rfl, hi, hz, hb⟩
 exact ⟨_, rfl, ⟨q, B, d, L, rfl, hi, hz, by omega⟩, hb⟩
theorem rquo_fact {x y : Int} {n m : Nat} {a b : Value} {w : World} (h1 : PRef x n a w) (h2 : PRef y m b w) (hn : n ≤ 100000) (hm : m ≤ 100000) (hy : y ≠ 0) :
  Calls Tryz.prog 87 #[a, b] w fun e w' => ∃ (k : Bool) (A : Option Addr) (l c : Nat) (k' : Bool) (A' : Option Addr) (l' c' : Nat), e = .returned (.tuple #[.agg #[.bool k, .slice A l c], .agg #[.bool k', .slice A' l' c'], .int .i64 0]) ∧
   PRef (Int.tdiv x y) n (.agg #[.bool k, .slice A l c]) w' ∧ Below w.heap.size w w' := by
 obtain ⟨k, A, c, L, rfl, i1, rfl, l1⟩ := h1
 obtain ⟨k2, A2, c2, L2, rfl, i2, rfl, l2⟩ := h2
 have hpos : 0 < List.length L2 := by
  rcases Nat.eq_zero_or_pos (List.length L2) with h | h
  ·exfalso; apply hy; unfold zR; rw [List.eq_nil_of_length_eq_zero h]; simp [val4, valB]
  ·exact h
 refine (rquoRem_pos k k2 A A2 c c2 L L2 w (by omega) (by omega) hpos i1 i2).mono ?_
 rintro e w' ⟨k5, A5, c5, Q, k6, A6, c6, R, rfl, hi5, hi6, hz5, hz6, hl5, hl6, hb⟩
 exact ⟨_, _, _, _, _, _, _, _, rfl, ⟨k5, A5, c5, Q, rfl, hi5, hz5, by omega⟩, hb⟩
theorem decLen : ∀ (n u : Nat), u < 10 ^ (n + 1) → (Lib.decDigits u).length ≤ n + 1 := by
 intro n
 induction n with
 | zero =>
  intro u h
  rw [Lib.decDigits, dif_pos (by simpa using h)]
  simp
 | succ n ih =>
  intro u h
  rw [Lib.decDigits]
  split
  ·simp
  ·have h2 := ih (u / 10) (by rw [Nat.pow_succ] at h; omega)
   rw [List.length_append]
   simp only [List.length_cons, List.length_nil]
   omega
theorem decZ_len {z : Int} {n : Nat} {a : Value} {w : World} (h : PInt z n a w) : (decZ z).length ≤ 9 * n + 2 := by
 obtain ⟨k, A, c, L, rfl, i1, rfl, l1⟩ := h
 rw [← decZ_I i1]
 have h1 := valB_lt (b := 1000000000) i1.canon.lim
 have h2 : (Lib.decDigits (val9 L)).length ≤ 9 * L.length + 1 := by
  refine decLen _ _ (Nat.lt_of_lt_of_le h1 ?_)
  rw [show (1000000000 : Nat) = 10 ^ 9 from rfl, ← Nat.pow_mul]
  exact Nat.pow_le_pow_right (by decide) (by omega)
 unfold decI
 rw [List.length_append]
 split <;> simp <;> omega
theorem decZ_lenR {z : Int} {n : Nat} {a : Value} {w : World} (h : PRef z n a w) : (decZ z).length ≤ 4 * n + 2 := by
 obtain ⟨k, A, c, L, rfl, i1, rfl, l1⟩ := h
 rw [← decZ_R i1]
 have h1 := valB_lt (b := 10000) i1.lim
 have h2 : (Lib.decDigits (val4 L)).length ≤ 4 * L.length + 1 := by
  refine decLen _ _ (Nat.lt_of_lt_of_le h1 ?_)
  rw [show (10000 : Nat) = 10 ^ 4 from rfl, ← Nat.pow_mul]
  exact Nat.pow_le_pow_right (by decide) (by omega)
 unfold decI
 rw [List.length_append]
 split <;> simp <;> omega
theorem PInt.zero (n : Nat) (w : World) : PInt 0 n (.agg #[.bool false, .slice none 0 0]) w := ⟨false, none, 0, [], rfl, IntR.zero _ _ _ _, rfl, Nat.zero_le _⟩
def Pair (p q : Int) (n : Nat) (v : Value) (w : World) : Prop := ∃ (k : Bool) (A : Option Addr) (l c : Nat) (k' : Bool) (A' : Option Addr) (l' c' : Nat), v = .agg #[.bool k, .slice A l c, .bool k', .slice A' l' c'] ∧ PInt p n (.agg #[.bool k, .slice A l c]) w ∧ PInt q n (.agg #[.bool k', .slice A' l' c']) w
def AS.Fact.pair (p q : Int) (n : Nat) : AS.Fact := ⟨Pair p q n, fun _ _ _ hk ⟨k, A, l, c, k', A', l', c', e, h1, h2⟩ => ⟨k, A, l, c, k', A', l', c', e, h1.kept hk, h2.kept hk⟩⟩
theorem red_pair {p q : Int} {n : Nat} {a : Value} {w : World} (h : Pair p q n a w) (hn : n ≤ 100000) (hq : q ≠ 0) :
  Calls Tryz.prog 67 #[a] w fun e w' => ∃ v, e = .returned v ∧ PRat (Rat.divInt p q) (n + 1) v w' ∧ Below w.heap.size w w' := by
 obtain ⟨k, A, l, c, k', A', l', c', rfl, h1, h2⟩ := h
 exact red_fact h1 h2 hn hq
theorem den_ne (x : Rat) : (x.den : Int) ≠ 0 := by have := x.den_pos; omega
theorem mul_ne {a b : Int} (ha : a ≠ 0) (hb : b ≠ 0) : a * b ≠ 0 := fun h => by rcases Int.mul_eq_zero.1 h with h | h <;> contradiction
set_option maxHeartbeats 3200000
set_option maxRecDepth 20000
theorem new_fact {p q : Int} {n : Nat} {k : Bool} {A : Option Addr} {l c : Nat} {k' : Bool} {A' : Option Addr} {l' c' : Nat} {w : World} (h1 : PInt p n (.agg #[.bool k, .slice A l c]) w) (h2 : PInt q n (.agg #[.bool k', .slice A' l' c']) w) (hn : n ≤ 100000) (hq : q ≠ 0) :
  Calls Tryz.prog 38 #[.agg #[.bool k, .slice A l c], .agg #[.bool k', .slice A' l' c']] w fun e w' => ∃ v, e = .returned (.tuple #[v, .int .i64 0]) ∧ PRat (Rat.divInt p q) (n + 1) v w' ∧ Below w.heap.size w w' := by
 have H1 := Lib.hid h1
 have H2 := Lib.hid h2
 clear h1 h2
 go_enter Tryz.func38, Tryz.ntmps38
 go_upto_region 1 with (fail)
 change Code.wp Tryz.prog _ _ _ (((w.alloc (.cells #[.bool k, .slice A l c] 25)).alloc (.cells #[.bool k', .slice A' l' c'] 25)).alloc (.cells #[.bool false, .slice none 0 0, .bool false, .slice none 0 0] 27))
 obtain ⟨nb2, nb3, nb4, na⟩ := new3 w 25 [.bool k, .slice A l c] 25 [.bool k', .slice A' l' c'] 27 [.bool false, .slice none 0 0, .bool false, .slice none 0 0] lf2 lf2 lf4
 have nkeep := Keep.ofBelow na
 have nbel := na
 generalize ((w.alloc (.cells #[.bool k, .slice A l c] 25)).alloc (.cells #[.bool k', .slice A' l' c'] 25)).alloc (.cells #[.bool false, .slice none 0 0, .bool false, .slice none 0 0] 27) = W1 at *
 clear na
 have b2 := Lib.hid nb2
 have b3 := Lib.hid nb3
 have b4 := Lib.hid nb4
 clear nb2 nb3 nb4
 replace H1 := Lib.hid (H1.out.kept nkeep)
 replace H2 := Lib.hid (H2.out.kept nkeep)
 clear nkeep
 have HB2 := Lib.hid nbel
 clear nbel
 obtain ⟨x20, x21, s2⟩ := b2.out.d2
 obtain ⟨x30, x31, s3⟩ := b3.out.d2
 obtain ⟨x40, x41, x42, x43, z40, z41, z42, z43, s4⟩ := b4.out.e4
 have szb := HB2.out.size
 rcases Int.lt_trichotomy q 0 with hlt | hlt | hlt
 ·have hc : cmpI q 0 = -1 := by unfold cmpI; rw [if_pos hlt]
  go_wp2_with fail
  refine (sign_is H2.out hc).mono ?_
  rintro e W3 ⟨rfl, hb⟩
  replace b2 := hup b2 hb
  replace b3 := hup b3 hb
  replace b4 := hup b4 hb
  replace H1 := Lib.hid (H1.out.kept (Keep.ofBelow hb))
  replace H2 := Lib.hid (H2.out.kept (Keep.ofBelow hb))
  have nbel := below_then HB2.out hb HB2.out.size
  have HB4 := Lib.hid nbel
  clear nbel HB2 hb x20 x21 x30 x31 x40 x41 x42 x43 z40 z41 z42 z43 szb s2 s3 s4
  obtain ⟨x20, x21, s2⟩ := b2.out.d2
  obtain ⟨x30, x31, s3⟩ := b3.out.d2
  obtain ⟨x40, x41, x42, x43, z40, z41, z42, z43, s4⟩ := b4.out.e4
  have szb := HB4.out.size
  go_wp2_with fail
  refine (red_fact H1.out H2.out hn hq).mono ?_
  rintro e W5 ⟨v, rfl, hv, hb⟩
  replace b2 := hup b2 hb
  replace b3 := hup b3 hb
  replace b4 := hup b4 hb
  replace H1 := Lib.hid (H1.out.kept (Keep.ofBelow hb))
  replace H2 := Lib.hid (H2.out.kept (Keep.ofBelow hb))
  have nbel := below_then HB4.out hb HB4.out.size
  have HB6 := Lib.hid nbel
  clear nbel HB4 hb x20 x21 x30 x31 x40 x41 x42 x43 z40 z41 z42 z43 szb s2 s3 s4
  obtain ⟨x20, x21, s2⟩ := b2.out.d2
  obtain ⟨x30, x31, s3⟩ := b3.out.d2
  obtain ⟨x40, x41, x42, x43, z40, z41, z42, z43, s4⟩ := b4.out.e4
  have szb := HB6.out.size
  obtain ⟨k1, A1, l1, c1, k2, A2, l2, c2, rfl⟩ := hv.open
  have HV := Lib.hid hv
  clear hv
  go_wp2_with fail
  have hkeep := (Keep.set4 (Keep.refl W5) b4.out (Leaf.bool k1) (Leaf.slice A1 l1 c1) (Leaf.bool k2) (Leaf.slice A2 l2 c2))
  have hbel := (Below.set4 (g := w.heap.size + 1 + 1) HB6.out (by first | omega | (simp; done) | (simp; omega)) (.bool k1) (.slice A1 l1 c1) (.bool k2) (.slice A2 l2 c2))
  refine bodyPost_ret (v := .tuple #[.agg #[.bool k1, .slice A1 l1 c1, .bool k2, .slice A2 l2 c2], .int .i64 0]) (by simp [results, Tryz.results38, go_sem, x40, x41, x42, x43]) rfl ⟨_, rfl, HV.out.kept hkeep, hbel⟩
 ·exact absurd hlt hq
 ·have hc : cmpI q 0 = 1 := by unfold cmpI; rw [if_neg (by omega), if_neg (by omega)]
  go_wp2_with fail
  refine (sign_is H2.out hc).mono ?_
  rintro e W3 ⟨rfl, hb⟩
  replace b2 := hup b2 hb
  replace b3 := hup b3 hb
  replace b4 := hup b4 hb
  replace H1 := Lib.hid (H1.out.kept (Keep.ofBelow hb))
  replace H2 := Lib.hid (H2.out.kept (Keep.ofBelow hb))
  have nbel := below_then HB2.out hb HB2.out.size
  have HB4 := Lib.hid nbel
  clear nbel HB2 hb x20 x21 x30 x31 x40 x41 x42 x43 z40 z41 z42 z43 szb s2 s3 s4
  obtain ⟨x20, x21, s2⟩ := b2.out.d2
  obtain ⟨x30, x31, s3⟩ := b3.out.d2
  obtain ⟨x40, x41, x42, x43, z40, z41, z42, z43, s4⟩ := b4.out.e4
  have szb := HB4.out.size
  go_wp2_with fail
  refine (red_fact H1.out H2.out hn hq).mono ?_
  rintro e W5 ⟨v, rfl, hv, hb⟩
  replace b2 := hup b2 hb
  replace b3 := hup b3 hb
  replace b4 := hup b4 hb
  replace H1 := Lib.hid (H1.out.kept (Keep.ofBelow hb))
  replace H2 := Lib.hid (H2.out.kept (Keep.ofBelow hb))
  have nbel := below_then HB4.out hb HB4.out.size
  have HB6 := Lib.hid nbel
  clear nbel HB4 hb x20 x21 x30 x31 x40 x41 x42 x43 z40 z41 z42 z43 szb s2 s3 s4
  obtain ⟨x20, x21, s2⟩ := b2.out.d2
  obtain ⟨x30, x31, s3⟩ := b3.out.d2
  obtain ⟨x40, x41, x42, x43, z40, z41, z42, z43, s4⟩ := b4.out.e4
  have szb := HB6.out.size
  obtain ⟨k1, A1, l1, c1, k2, A2, l2, c2, rfl⟩ := hv.open
  have HV := Lib.hid hv
  clear hv
  go_wp2_with fail
  have hkeep := (Keep.set4 (Keep.refl W5) b4.out (Leaf.bool k1) (Leaf.slice A1 l1 c1) (Leaf.bool k2) (Leaf.slice A2 l2 c2))
  have hbel := (Below.set4 (g := w.heap.size + 1 + 1) HB6.out (by first | omega | (simp; done) | (simp; omega)) (.bool k1) (.slice A1 l1 c1) (.bool k2) (.slice A2 l2 c2))
  refine bodyPost_ret (v := .tuple #[.agg #[.bool k1, .slice A1 l1 c1, .bool k2, .slice A2 l2 c2], .int .i64 0]) (by simp [results, Tryz.results38, go_sem, x40, x41, x42, x43]) rfl ⟨_, rfl, HV.out.kept hkeep, hbel⟩
set_option maxHeartbeats 3200000
set_option maxRecDepth 20000
theorem ofq_fact {a b : Int} {w : World} (ha : -9223372036854775808 ≤ a) (ha' : a ≤ 9223372036854775807) (hb1 : -9223372036854775808 ≤ b) (hb' : b ≤ 9223372036854775807) (hq : b ≠ 0) :
  Calls Tryz.prog 42 #[.int .i64 a, .int .i64 b] w fun e w' => ∃ v, e = .returned (.tuple #[v, .int .i64 0]) ∧ PRat (Rat.divInt a b) 4 v w' ∧ Below w.heap.size w w' := by
 have HA : Hid (-9223372036854775808 ≤ a ∧ a ≤ 9223372036854775807) := ⟨ha, ha'⟩
 clear ha ha'
 have HB : Hid (-9223372036854775808 ≤ b ∧ b ≤ 9223372036854775807) := ⟨hb1, hb'⟩
 clear hb1 hb'
 go_enter Tryz.func42, Tryz.ntmps42
 go_upto_region 1 with (fail)
 change Code.wp Tryz.prog _ _ _ (w.alloc (.cells #[.bool false, .slice none 0 0, .bool false, .slice none 0 0] 27))
 obtain ⟨nb4, na⟩ := new1 w 27 [.bool false, .slice none 0 0, .bool false, .slice none 0 0] lf4
 have nkeep := Keep.ofBelow na
 have nbel := na
 generalize w.alloc (.cells #[.bool false, .slice none 0 0, .bool false, .slice none 0 0] 27) = W1 at *
 clear na
 have b4 := Lib.hid nb4
 clear nb4 nkeep
 have HB2 := Lib.hid nbel
 clear nbel
 obtain ⟨x40, x41, x42, x43, z40, z41, z42, z43, s4⟩ := b4.out.e4
 have szb := HB2.out.size
 go_wp2_with fail
 refine (of_fact HA.out.1 HA.out.2).mono ?_
 rintro e W3 ⟨v, rfl, hv, hb⟩
 replace b4 := hup b4 hb
 have nbel := below_then HB2.out hb HB2.out.size
 have HB4 := Lib.hid nbel
 clear nbel HB2 hb x40 x41 x42 x43 z40 z41 z42 z43 szb s4
 obtain ⟨x40, x41, x42, x43, z40, z41, z42, z43, s4⟩ := b4.out.e4
 have szb := HB4.out.size
 obtain ⟨k1, A1, l1, c1, rfl⟩ := hv.open
 have HV := Lib.hid hv
 clear hv
 go_wp2_with fail
 refine (of_fact HB.out.1 HB.out.2).mono ?_
 rintro e W5 ⟨v, rfl, hv, hb⟩
 replace b4 := hup b4 hb
 replace HV := Lib.hid (HV.out.kept (Keep.ofBelow hb))
 have nbel := below_then HB4.out hb HB4.out.size
 have HB6 := Lib.hid nbel
 clear nbel HB4 hb x40 x41 x42 x43 z40 z41 z42 z43 szb s4
 obtain ⟨x40, x41, x42, x43, z40, z41, z42, z43, s4⟩ := b4.out.e4
 have szb := HB6.out.size
 obtain ⟨k2, A2, l2, c2, rfl⟩ := hv.open
 have HU := Lib.hid hv
 clear hv
 go_wp2_with fail
 refine (new_fact HV.out HU.out (by omega) hq).mono ?_
 rintro e W7 ⟨v, rfl, hv, hb⟩
 replace b4 := hup b4 hb
 replace HV := Lib.hid (HV.out.kept (Keep.ofBelow hb))
 replace HU := Lib.hid (HU.out.kept (Keep.ofBelow hb))
 have nbel := below_then HB6.out hb HB6.out.size
 have HB8 := Lib.hid nbel
 clear nbel HB6 hb x40 x41 x42 x43 z40 z41 z42 z43 szb s4
 obtain ⟨x40, x41, x42, x43, z40, z41, z42, z43, s4⟩ := b4.out.e4
 have szb := HB8.out.size
 obtain ⟨k3, A3, l3, c3, k4, A4, l4, c4, rfl⟩ := hv.open
 have HR := Lib.hid hv
 clear hv
 go_wp2_with fail
 have hkeep := (Keep.set4 (Keep.refl W7) b4.out (Leaf.bool k3) (Leaf.slice A3 l3 c3) (Leaf.bool k4) (Leaf.slice A4 l4 c4))
 have hbel := (Below.set4 (g := w.heap.size) HB8.out (by first | omega | (simp; done) | (simp; omega)) (.bool k3) (.slice A3 l3 c3) (.bool k4) (.slice A4 l4 c4))
 refine bodyPost_ret (v := .tuple #[.agg #[.bool k3, .slice A3 l3 c3, .bool k4, .slice A4 l4 c4], .int .i64 0]) (by simp [results, Tryz.results42, go_sem, x40, x41, x42, x43]) rfl ⟨_, rfl, HR.out.kept hkeep, hbel⟩
set_option maxRecDepth 20000 in
set_option maxHeartbeats 3200000 in
theorem terms_fact {x : Rat} {n : Nat} {v : Value} {w : World} (h : PRat x n v w) (hn : 3 ≤ n) :
  Calls Tryz.prog 65 #[v] w fun e w' => ∃ (k : Bool) (A : Option Addr) (l c : Nat) (k' : Bool) (A' : Option Addr) (l' c' : Nat), e = .returned (.tuple #[.agg #[.bool k, .slice A l c], .agg #[.bool k', .slice A' l' c']]) ∧ PInt x.num n (.agg #[.bool k, .slice A l c]) w' ∧ PInt x.den n (.agg #[.bool k', .slice A' l' c']) w' ∧ Below w.heap.size w w' := by
 obtain ⟨k, A, l, c, k', A', l', c', rfl⟩ := h.open
 obtain ⟨p, q, h1, h2, h3⟩ := h.parts
 have H1 := Lib.hid h1
 have H2 := Lib.hid h2
 clear h h1 h2
 go_enter Tryz.func65, Tryz.ntmps65
 go_upto_region 1 with (fail)
 change Code.wp Tryz.prog _ _ _ (((w.alloc (.cells #[.bool k, .slice A l c, .bool k', .slice A' l' c'] 27)).alloc (.cells #[.bool false, .slice none 0 0] 25)).alloc (.cells #[.bool false, .slice none 0 0] 25))
 obtain ⟨nb1, nb2, nb3, na⟩ := new3 w 27 [.bool k, .slice A l c, .bool k', .slice A' l' c'] 25 [.bool false, .slice none 0 0] 25 [.bool false, .slice none 0 0] lf4 lf2 lf2
 have nkeep := Keep.ofBelow na
 have nbel := na
 generalize ((w.alloc (.cells #[.bool k, .slice A l c, .bool k', .slice A' l' c'] 27)).alloc (.cells #[.bool false, .slice none 0 0] 25)).alloc (.cells #[.bool false, .slice none 0 0] 25) = W1 at *
 clear na
 have b1 := Lib.hid nb1
 have b2 := Lib.hid nb2
 have b3 := Lib.hid nb3
 clear nb1 nb2 nb3
 replace H1 := Lib.hid (H1.out.kept nkeep)
 replace H2 := Lib.hid (H2.out.kept nkeep)
 clear nkeep
 have HB2 := Lib.hid nbel
 clear nbel
 obtain ⟨x10, x11, x12, x13, s1⟩ := b1.out.d4
 obtain ⟨x20, x21, z20, z21, s2⟩ := b2.out.e2
 obtain ⟨x30, x31, z30, z31, s3⟩ := b3.out.e2
 have szb := HB2.out.size
 rcases h3 with ⟨rfl, rfl⟩ | ⟨rfl, rfl, rfl⟩
 ·have hc : cmpI (x.den : Int) 0 = 1 := by unfold cmpI; have := x.den_pos; rw [if_neg (by omega), if_neg (by omega)]
  go_wp2_with fail
  refine (sign_is H2.out hc).mono ?_
  rintro e W3 ⟨rfl, hb⟩
  replace b1 := hup b1 hb
  replace b2 := hup b2 hb
  replace b3 := hup b3 hb
  replace H1 := Lib.hid (H1.out.kept (Keep.ofBelow hb))
  replace H2 := Lib.hid (H2.out.kept (Keep.ofBelow hb))
  have nbel := below_then HB2.out hb HB2.out.size
  have HB4 := Lib.hid nbel
  clear nbel HB2 hb x10 x11 x12 x13 x20 x21 z20 z21 x30 x31 z30 z31 szb s1 s2 s3
  obtain ⟨x10, x11, x12, x13, s1⟩ := b1.out.d4
  obtain ⟨x20, x21, z20, z21, s2⟩ := b2.out.e2
  obtain ⟨x30, x31, z30, z31, s3⟩ := b3.out.e2
  have szb := HB4.out.size
  go_wp2
  go_region
  go_wp2
  have hkeep := (Keep.drew (Keep.set (Keep.set (Keep.set2 (Keep.refl W3) b2.out (Leaf.bool k) (Leaf.slice A l c)) (Bx.far2 (g' := w.heap.size + 1) b3.out (by omega) (.bool k) (.slice A l c)) 0 (Leaf.bool k')) (Bx.set (Bx.far2 (g' := w.heap.size + 1) b3.out (by omega) (.bool k) (.slice A l c)) 0 (Leaf.bool k')) 1 (Leaf.slice A' l' c')))
  have hbel := (below_drew (Below.setCell (p := ⟨w.heap.size + 1 + 1, 1, none⟩) (Below.setCell (p := ⟨w.heap.size + 1 + 1, 0, none⟩) (Below.set2 (g := w.heap.size + 1) HB4.out (by first | omega | (simp; done) | (simp; omega)) (.bool k) (.slice A l c)) (by first | omega | (simp; done) | (simp; omega)) (.bool k')) (by first | omega | (simp; done) | (simp; omega)) (.slice A' l' c')))
  refine bodyPost_ret (v := .tuple #[.agg #[.bool k, .slice A l c], .agg #[.bool k', .slice A' l' c']]) (by simp [results, Tryz.results65, go_sem, x20, x21, x30, x31]) rfl ⟨_, _, _, _, _, _, _, _, rfl, H1.out.kept hkeep, H2.out.kept hkeep, hbel⟩
 ·go_wp2_with fail
  refine (sign_is H2.out (c := 0) (by decide)).mono ?_
  rintro e W3 ⟨rfl, hb⟩
  replace b1 := hup b1 hb
  replace b2 := hup b2 hb
  replace b3 := hup b3 hb
  replace H1 := Lib.hid (H1.out.kept (Keep.ofBelow hb))
  replace H2 := Lib.hid (H2.out.kept (Keep.ofBelow hb))
  have nbel := below_then HB2.out hb HB2.out.size
  have HB4 := Lib.hid nbel
  clear nbel HB2 hb x10 x11 x12 x13 x20 x21 z20 z21 x30 x31 z30 z31 szb s1 s2 s3
  obtain ⟨x10, x11, x12, x13, s1⟩ := b1.out.d4
  obtain ⟨x20, x21, z20, z21, s2⟩ := b2.out.e2
  obtain ⟨x30, x31, z30, z31, s3⟩ := b3.out.e2
  have szb := HB4.out.size
  go_wp2_with fail
  refine (of_fact (n := 1) (by decide) (by decide)).mono ?_
  rintro e W5 ⟨v, rfl, hv, hb⟩
  replace b1 := hup b1 hb
  replace b2 := hup b2 hb
  replace b3 := hup b3 hb
  replace H1 := Lib.hid (H1.out.kept (Keep.ofBelow hb))
  replace H2 := Lib.hid (H2.out.kept (Keep.ofBelow hb))
  have nbel := below_then HB4.out hb HB4.out.size
  have HB6 := Lib.hid nbel
  clear nbel HB4 hb x10 x11 x12 x13 x20 x21 z20 z21 x30 x31 z30 z31 szb s1 s2 s3
  obtain ⟨x10, x11, x12, x13, s1⟩ := b1.out.d4
  obtain ⟨x20, x21, z20, z21, s2⟩ := b2.out.e2
  obtain ⟨x30, x31, z30, z31, s3⟩ := b3.out.e2
  have szb := HB6.out.size
  obtain ⟨k1, A1, l1, c1, rfl⟩ := hv.open
  have HV := Lib.hid hv
  clear hv
  go_wp2_with fail
  have hkeep := (Keep.set (Keep.set (Keep.set2 (Keep.refl W5) b2.out (Leaf.bool false) (Leaf.slice none 0 0)) (Bx.far2 (g' := w.heap.size + 1) b3.out (by omega) (.bool false) (.slice none 0 0)) 0 (Leaf.bool k1)) (Bx.set (Bx.far2 (g' := w.heap.size + 1) b3.out (by omega) (.bool false) (.slice none 0 0)) 0 (Leaf.bool k1)) 1 (Leaf.slice A1 l1 c1))
  have hbel := (Below.setCell (p := ⟨w.heap.size + 1 + 1, 1, none⟩) (Below.setCell (p := ⟨w.heap.size + 1 + 1, 0, none⟩) (Below.set2 (g := w.heap.size + 1) HB6.out (by first | omega | (simp; done) | (simp; omega)) (.bool false) (.slice none 0 0)) (by first | omega | (simp; done) | (simp; omega)) (.bool k1)) (by first | omega | (simp; done) | (simp; omega)) (.slice A1 l1 c1))
  refine bodyPost_ret (v := .tuple #[.agg #[.bool false, .slice none 0 0], .agg #[.bool k1, .slice A1 l1 c1]]) (by simp [results, Tryz.results65, go_sem, x20, x21, x30, x31]) rfl ⟨_, _, _, _, _, _, _, _, rfl, PInt.zero _ _, (HV.out.kept hkeep).more hn, hbel⟩
end Go.Proofs.YtgihmikeapbpkaaGreatDoor
