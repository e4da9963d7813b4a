/- Contracts of the functions that the statement reaches, part 4: what was proved of each, callees first. -/
import Derived.Deep.CutRange
import Derived.Test.YtbfbijokhlkekaaDoorRows
import Derived.ProofKit
import Derived.LaidMore
import Derived.OpenShut
import Derived.Stop.Joined
import Derived.ChangeSame
import Derived.Lib.LaidTab
import Derived.Test.YtbfbijokhlkekaaDoorU3
/- The reference's 'quo'. -/
namespace Go.Proofs.YtbfbijokhlkekaaDoor
open Go.RowKit

def Top (L : List Nat) : Prop := 0 < L.length → nth L (L.length - 1) ≠ 0
/-- The quotient's limbs from the j-th on; r is what is left. -/
structure RqInv (b : Nat) (L Q : List Nat) (j r : Nat) : Prop where
  val : val4 (Q.drop j) * b + r = val4 (L.drop j)
  lt : r < b
  lim : Lim4 Q
theorem valB_drop4 (L : List Nat) (k : Nat) : val4 (L.drop k) = nth L k + 10000 * val4 (L.drop (k + 1)) := by
  rcases Nat.lt_or_ge k L.length with h | h
  · exact valB_drop _ _ _ h
  · rw [List.drop_eq_nil_of_le h, List.drop_eq_nil_of_le (by omega), nth_ge h]; rfl
theorem rq_step {b : Nat} {L Q : List Nat} {j r d r2 : Nat} (h : RqInv b L Q (j + 1) r) (hj : j < Q.length) (hd : d < 10000) (hr : r2 + b * d = nth L j + 10000 * r) (hlt : r2 < b) : RqInv b L (Q.set j d) j r2 := by
  refine ⟨?_, hlt, fun x hx => ?_⟩
  · rw [valB_drop4 (Q.set j d) j, nth_set_eq hj, drop_set_low (by omega), valB_drop4 L j, ← h.val]
    generalize val4 (Q.drop (j + 1)) = v at *
    generalize nth L j = l at *
    clear h hj hd hlt
    grind
  · rcases List.mem_or_eq_of_mem_set hx with h1 | h1
    · exact h.lim x h1
    · omega
theorem val4_lt_of_top {M : List Nat} {n : Nat} (hn : M.length = n) (h0 : 0 < n) (ht : Top M) : 10000 ^ (n - 1) ≤ val4 M := by
  have h1 := valB_take_succ 10000 M (n - 1) (by omega)
  rw [show n - 1 + 1 = n by omega, List.take_of_length_le (by omega)] at h1
  have h2 := ht (by omega)
  rw [hn] at h2
  have h3 : 10000 ^ (n - 1) * 1 ≤ 10000 ^ (n - 1) * nth M (n - 1) := Nat.mul_le_mul_left _ (by omega)
  unfold val4
  omega
theorem rq_start {L M : List Nat} {l n : Nat} (hL : Lim4 L) (hl : L.length = l) (hn : M.length = n) (h0 : 0 < n) (hnl : n ≤ l) (ht : Top M) :
    RqInv (val4 M) L (List.replicate (l - n + 1) 0) (l - n + 1) (val4 (L.drop (l - n + 1))) := by
  refine ⟨by rw [List.drop_eq_nil_of_le (by simp)]; simp [val4, valB], ?_, fun d hd => by have := (List.mem_replicate.1 hd).2; omega⟩
  have h1 : Lim4 (L.drop (l - n + 1)) := fun d hd => hL d (List.mem_of_mem_drop hd)
  have h2 := valB_lt h1
  rw [List.length_drop, hl, show l - (l - n + 1) = n - 1 by omega] at h2
  have h3 := val4_lt_of_top hn h0 ht
  unfold val4 at *
  omega

theorem rrow_take {w : World} {B c : Nat} {A : Option Addr} {R : List Nat} (h : Row .i64 w B A c R) (hl : Lim4 R) :
    ∃ T, T.length = trimN R R.length ∧ Row .i64 w B A c T ∧ Lim4 T ∧ Top T ∧ val4 T = val4 R := by
  have htl := trimN_le R R.length
  have el : (R.take (trimN R R.length)).length = trimN R R.length := by rw [List.length_take]; omega
  refine ⟨R.take (trimN R R.length), el, h.take _, fun d hd => hl d (List.mem_of_mem_take hd), ?_, ?_⟩
  · unfold Top; rw [el]; intro h; rw [nth_take (by omega)]; exact trimN_top _ _ h
  · rw [val4, trimN_val _ _ _ (Nat.le_refl _), List.take_of_length_le (Nat.le_refl _)]
theorem rcmp_val {w : World} {B : Nat} {A A' : Option Addr} {c c' : Nat} {L M : List Nat} (h1 : Row .i64 w B A c L) (h2 : Row .i64 w B A' c' M) (l1 : Lim4 L) (l2 : Lim4 M) (t1 : Top L) (t2 : Top M) : cmpL L M = cmpZ (val4 L) (val4 M) :=
  cmpL_val4 (n := false) (m := false) ⟨h1, l1, t1, fun h => absurd h Bool.false_ne_true⟩ ⟨h2, l2, t2, fun h => absurd h Bool.false_ne_true⟩
theorem len_le4 {L M : List Nat} (hL : Lim4 L) (hM : Top M) (h : val4 M ≤ val4 L) : M.length ≤ L.length := by
  rcases Nat.lt_or_ge L.length M.length with h1 | h1
  · have := canon_lt4 hL hM h1; omega
  · exact h1
theorem cmpZ_le0 {x y : Nat} (h : x ≤ y) : decide (cmpZ x y ≤ 0) = true := by unfold cmpZ; split <;> simp; omega
theorem cmpZ_gt0 {x y : Nat} (h : y < x) : decide (cmpZ x y ≤ 0) = false := by unfold cmpZ; rw [if_neg (by omega), if_neg (by omega)]; rfl
theorem blk_one4 (w : World) (f : Nat) : Blk .i64 3 (w.alloc (.cells #[.int .i64 f] 3)) w.heap.size [f] := by
  show _ = _
  rw [heap_alloc_new]; rfl
theorem len_T {T M : List Nat} {n : Nat} (hT : Top T) (hM : Lim4 M) (hn : M.length = n) (hv : val4 T < val4 M * (9999 + 1)) : T.length ≤ n + 1 := by
  rcases Nat.lt_or_ge (n + 1) T.length with h | h
  · exfalso
    have h1 := val4_lt_of_top rfl (show 0 < T.length by omega) hT
    have h2 := valB_lt hM
    rw [hn] at h2
    have h3 : (10000 : Nat) ^ (n + 1) ≤ 10000 ^ (T.length - 1) := Nat.pow_le_pow_right (by omega) (by omega)
    rw [Nat.pow_succ] at h3
    unfold val4 at *
    omega
  · exact h
theorem val4_cons (d : Nat) (R : List Nat) : val4 ([d] ++ R) = d + 10000 * val4 R := by simp [valB]

set_option maxRecDepth 20000 in
set_option maxHeartbeats 6400000 in
theorem rquo_long (A A' : Option Addr) (c c' n : Nat) (L M : List Nat) (w : World) (hl : L.length ≤ 100000) (hm : M.length = n) (hn0 : 0 < n) (hml : n ≤ L.length) (hL : Lim4 L) (hM : Lim4 M) (htM : Top M)
    (hR : Row .i64 w w.heap.size A c L) (hR' : Row .i64 w w.heap.size A' c' M) :
    Calls Tryd.prog 60 #[.slice A L.length c, .slice A' n c'] w fun e w' => ∃ A1 c1 Q A2 c2 R, e = .returned (.tuple #[.slice A1 (List.length Q) c1, .slice A2 (List.length R) c2]) ∧
      Row .i64 w' w'.heap.size A1 c1 Q ∧ Row .i64 w' w'.heap.size A2 c2 R ∧ Lim4 Q ∧ Lim4 R ∧ val4 Q * val4 M + val4 R = val4 L ∧ val4 R < val4 M ∧ List.length Q ≤ L.length ∧ List.length R ≤ 3 * L.length + 9 ∧ Below w.heap.size w w' := by
  obtain ⟨i0, hi, hz0, hz1, hz2⟩ := info_parts info3
  obtain ⟨b, o, rfl, hbB, hcs⟩ := hR.spot (by omega)
  have hst := rq_start hL rfl hm hn0 hml htM
  have hlc := hR.len
  generalize hl' : L.length = l at *
  have HL := Lib.hid hl'
  have HM := Lib.hid hm
  have HST := Lib.hid hst
  clear hl' hm hst
  obtain ⟨fr, hfr⟩ : ∃ fr, fr = l - n + 1 := ⟨_, rfl⟩
  have f1 : fr + n = l + 1 := by omega
  have f2 : (l : Int) - (n : Int) + 1 = (fr : Int) := by omega
  have f3 : (0 : Int) ≤ (fr : Int) := by omega
  have f4 : (fr : Int) ≤ (l : Int) := by omega
  have f5 : (l : Int) ≤ (c : Int) := by omega
  have HFR := Lib.hid hfr
  clear hfr
  have hrow0 : Row .i64 w w.heap.size (some ⟨b, o + fr, none⟩) (c - fr) (L.drop fr) := by
    refine ⟨by rw [List.length_drop, HL.out]; omega, fun _ => ⟨b, o + fr, rfl, hbB, Cells.drop hcs fr⟩⟩
  have hrow1 : l = fr → Row .i64 w w.heap.size (some ⟨b, o, none⟩) 0 (L.drop fr) := by
    intro h
    rw [List.drop_eq_nil_of_le (by rw [HL.out]; omega)]
    exact Row.nil _ _ _ _ _
  have hdl : (L.drop fr).length = l - fr := by rw [List.length_drop, HL.out]
  have HR0 := Lib.hid hrow0
  have HR1 := Lib.hid hrow1
  have HDL := Lib.hid hdl
  have HCS := Lib.hid hcs
  clear hrow0 hrow1 hdl hcs hR
  have hcase : (¬ c = fr ∧ ¬ c - fr = 0) ∨ (c = fr ∧ l = fr) := by omega
  rcases hcase with ⟨g1, g2⟩ | ⟨g1, g2⟩
  · go_enter Tryd.func60, Tryd.ntmps60
    go_wp2_with (first
      | (refine wpList_make_zeros _ rfl (.tmp 25) (.tmp 25) 29 rfl 3 .i64 i0 8 Tryd.underlying29 hi hz0 hz1 hz2 .i64 .i64 _ _ fr rfl rfl (by omega) (by omega) (by omega) (by omega) ?_; intro w1 hb1 hB1 hs1)
      | (at_builtin; refine wpList_append_row rfl (.tmp 27) (.tmp 30) 29 rfl .i64 w1.heap.size 3 i0 8 Tryd.underlying29 hi hz0 hz1 hz2 (by omega) (.slice (some ⟨w1.heap.size, 0, none⟩) 0 0) [] rfl (Own.ofBlk (by show _ = _; rw [heap_alloc_new]; rfl) (Nat.le_refl _) (by simp)) (some ⟨b, o + fr, none⟩) (l - fr) (c - fr) (L.drop fr) HDL.out rfl ((HR0.out.below hB1).alloc (by omega) _) (by simp; omega) (by simp) ?_; intro v2 w2 ho2 hb2)
      | fail)
    have hlies := ho2.out.lies
    rw [List.nil_append] at hlies
    obtain ⟨A2, c2, rfl, hr2, -⟩ := hlies
    rw [HDL.out]
    obtain ⟨lf, hlf⟩ : ∃ lf, l - fr = lf := ⟨_, rfl⟩
    rw [hlf]
    have HLF := Lib.hid hlf
    clear hlf
    have hbQ := (hb1.out.alloc (.cells #[] 3)).below hb2 hb1.out.lt
    have hbw2 := (hB1.trans (Below.less ((Below.refl _ _).alloc (Nat.le_refl _) _) (by omega))).trans (Below.less hb2 (by omega))
    have HB2 := Lib.hid hbw2
    have hg2 : w.heap.size < w2.heap.size := hbQ.lt
    have HBQ := Lib.hid hbQ
    have HR2 := Lib.hid hr2
    have hln2 : (L.drop fr).length ≤ 3 * l + 9 := by rw [HDL.out]; omega
    clear ho2 hb2 hb1 hB1 hbQ hr2 hbw2 hs1
    go_loopw [8, 9] (fun rv iv wr => ∃ (j : Nat) (Q : List Nat) (A2 : Option Addr) (c2 : Nat) (R : List Nat), j ≤ fr ∧ iv = .int .i64 ((j : Int) - 1) ∧ rv = .slice A2 (List.length R) c2 ∧ Row .i64 wr wr.heap.size A2 c2 R ∧ Lim4 R ∧ List.length R ≤ 3 * l + 9 ∧ Blk .i64 3 wr w.heap.size Q ∧ Q.length = fr ∧ Hid (RqInv (val4 M) L Q j (val4 R)) ∧ Below w.heap.size w wr) (fun _ iv _ => (intOf iv + 1).toNat)
    case atStart => exact ⟨fr, _, A2, c2, L.drop fr, Nat.le_refl _, rfl, by rw [HDL.out, HLF.out], HR2.out, fun d hd => hL d (List.mem_of_mem_drop hd), hln2, HBQ.out, by simp, by have := HST.out; rw [← HFR.out] at this; exact this, HB2.out⟩
    case round =>
      obtain ⟨j, Q, A2, c2, R, hj, rfl, rfl, hrR, hlR, hnR, hbQ, hQl, hin, hbw⟩ := hrel
      have hlR' : ∃ lr, List.length R = lr := ⟨_, rfl⟩
      rcases Nat.eq_zero_or_pos j with rfl | hpos
      · have htQ := rtrim_any (some ⟨w.heap.size, 0, none⟩) fr Q wr (w.heap.size + 1) (by omega) (Row.ofBlk hbQ (Nat.lt_succ_self _) (by omega))
        rw [hQl] at htQ
        have HTQ := Lib.hid htQ
        have HQL := Lib.hid hQl
        have HBQ9 := Lib.hid hbQ
        have HRR := Lib.hid hrR
        clear htQ hQl hbQ hrR hlR'
        go_wp2_with fail
        refine HTQ.out.mono ?_
        rintro e w9 ⟨rfl, rfl⟩
        go_wp2_with fail
        go_ret2
        obtain ⟨QT, r1, r2, r3, r4, r5⟩ := rrow_take (Row.ofBlk (B := wr.heap.size) (c := fr) HBQ9.out HBQ9.out.lt (by rw [HQL.out]; exact Nat.le_refl _)) hin.out.lim
        rw [HQL.out] at r1
        have hv := hin.out.val
        rw [List.drop_zero, List.drop_zero] at hv
        have t1 := trimN_le Q fr
        exact ⟨_, _, QT, _, _, R, by rw [r1]; rfl, r2, HRR.out, r3, hlR, by rw [r5]; exact hv, hin.out.lt, by omega, hnR, hbw⟩
      · obtain ⟨i, rfl⟩ : ∃ i, j = i + 1 := ⟨j - 1, by omega⟩
        have hi1 : ((i + 1 : Nat) : Int) - 1 = i := by omega
        have hci := (hbw.cell (p := ⟨b, o + i, none⟩) (by exact hbB)).trans (HCS.out i (by rw [HL.out]; omega))
        have hli : i < l := by omega
        have hgq : w.heap.size < wr.heap.size := hbQ.lt
        have hlr9 : List.length R ≤ 3 * l + 9 := hnR
        have HQL := Lib.hid hQl
        rw [hi1]
        clear hi1 hQl
        go_wp2_with (first
          | (at_builtin; refine wpList_append_row rfl (.tmp 42) (.tmp 43) 29 rfl .i64 wr.heap.size 3 i0 8 Tryd.underlying29 hi hz0 hz1 hz2 (by omega) (.slice (some ⟨wr.heap.size, 0, none⟩) 1 1) [nth L i] rfl (Own.ofBlk (blk_one4 wr (nth L i)) (Nat.le_refl _) (by simp)) A2 (List.length R) c2 R rfl rfl (hrR.alloc (Nat.le_refl _) _) (by simp; omega) (by simp) ?_; intro v3 w3 ho3 hb3)
          | fail)
        obtain ⟨A3, c3, hv3, hr3, hl3⟩ := ho3.out.lies
        have hne3 : A3 ≠ none := by
          rintro rfl
          have := hr3.spot (by simp)
          obtain ⟨b9, o9, e9, -, -⟩ := this
          cases e9
        obtain ⟨g3, o3, rfl⟩ : ∃ g3 o3, A3 = some ⟨g3, o3, none⟩ := by
          obtain ⟨b9, o9, e9, -, -⟩ := hr3.spot (by simp)
          exact ⟨b9, o9, e9⟩
        have hg3 : wr.heap.size ≤ g3 := hl3 _ _ rfl
        have hlim3 : Lim4 ([nth L i] ++ R) := by
          intro d hd
          rcases List.mem_append.1 hd with h | h
          · rw [List.mem_singleton] at h; subst h; exact nth_all hL (by omega) i
          · exact hlR d h
        have hval3 := val4_cons (nth L i) R
        have hln3 : ([nth L i] ++ R).length ≤ 3 * l + 10 := by simp; omega
        have hbw3 : Below w.heap.size w w3 := hbw.trans (Below.less ((below_alloc_new _).trans hb3) (by omega))
        have hbQ3 := (hbQ.alloc (.cells #[.int .i64 (nth L i)] 3)).below hb3 hgq
        subst hv3
        obtain ⟨a9, ha9⟩ : ∃ a9, nth L i = a9 := ⟨_, rfl⟩
        have HVAL3 := Lib.hid hval3
        generalize [nth L i] ++ R = R3 at *
        clear ho3 hl3 hne3 hval3 ha9 hbQ hbw hb3 hrR
        have htr := rtrim_any (some ⟨g3, o3, none⟩) c3 R3 w3 w3.heap.size (by omega) hr3
        obtain ⟨T, t1, t2, t3, t4, t5⟩ := rrow_take hr3 hlim3
        rw [← t1] at htr
        have hTl := trimN_le R3 R3.length
        have HTR := Lib.hid htr
        have HT1 := Lib.hid t1
        have hTn : List.length T ≤ 3 * l + 10 := by omega
        clear htr t1 hTl hr3 hlim3
        generalize List.length R3 = n3 at *
        refine HTR.out.mono ?_
        rintro e w4 ⟨rfl, rfl⟩
        have HB3 := Lib.hid hbw3
        have HBQ3 := Lib.hid hbQ3
        have HRT := Lib.hid t2
        have HTV := Lib.hid t5
        have hMr := Lib.hid (hR'.below hbw3)
        have hs3 : w.heap.size ≤ w3.heap.size := hbw3.size
        have hgne : w.heap.size ≠ g3 := by omega
        have hs3' : w.heap.size < w3.heap.size := hbQ3.lt
        have hg3s : g3 < w3.heap.size ∨ List.length T = 0 := by
          rcases Nat.eq_zero_or_pos (List.length T) with h | h
          · exact .inr h
          · obtain ⟨b9, o9, e9, h9, -⟩ := t2.spot h
            injection e9 with e9
            injection e9 with e9
            subst e9
            exact .inl h9
        clear hbw3 hbQ3 t2 t5 HTR hci
        generalize hTn' : List.length T = nt at *
        have HTN := Lib.hid hTn'
        clear hTn'
        have hup := hin.out.lt
        have hTup : Hid (val4 T < val4 M * (9999 + 1)) := by
          show _ < _
          rw [HTV.out, HVAL3.out]
          have := nth_all hL (show 0 < 10000 by omega) i
          omega
        go_wp2_with fail
        go_loopw [10, 11] (fun lv hv wq => ∃ lo hi : Nat, lo ≤ hi ∧ hi ≤ 9999 ∧ lv = .int .i64 (lo : Int) ∧ hv = .int .i64 (hi : Int) ∧ Hid (val4 M * lo ≤ val4 T ∧ val4 T < val4 M * (hi + 1)) ∧ Below w3.heap.size w3 wq) (fun lv hv _ => (intOf hv - intOf lv).toNat)
        case atStart => exact ⟨0, 9999, by omega, by omega, rfl, rfl, ⟨by simp, hTup⟩, Below.refl _ _⟩
        case round =>
          obtain ⟨lo, hi', hlh, hh9, rfl, rfl, hbs, hbq⟩ := hrel
          by_cases hlt : lo < hi'
          · obtain ⟨mid, hmid⟩ : ∃ mid, mid = (lo + hi' + 1) / 2 := ⟨_, rfl⟩
            have hm1 : ((lo : Int) + (hi' : Int) + 1) / 2 = (mid : Int) := by omega
            have hm2 : lo < mid := by omega
            have hm3 : mid ≤ hi' := by omega
            have HMID := Lib.hid hmid
            clear hmid
            have hmr : Row .i64 wr wr.heap.size A' c' M := ((hMr.out.more hs3).below hbq).more hbq.size
            have hTr : Row .i64 wr wr.heap.size (some ⟨g3, o3, none⟩) c3 T := (HRT.out.below hbq).more hbq.size
            have hmul := fun (W : World) (hb : Below wr.heap.size wr W) (hm : Row .i64 W W.heap.size (some ⟨wr.heap.size, 0, none⟩) 1 [mid]) => rmul2 A' (some ⟨wr.heap.size, 0, none⟩) c' 1 M [mid] W (by rw [HM.out]; omega) (by simp) hM (fun d hd => by rw [List.mem_singleton] at hd; omega) (hmr.up hb) hm
            rw [HM.out] at hmul
            have HMUL := Lib.hid hmul
            have HTr := Lib.hid hTr
            clear hmul hmr hTr
            go_wp2_with fail
            have hbm := blk_one4 wr mid
            refine (HMUL.out _ (below_alloc_new _) (Row.ofBlk hbm hbm.lt (by simp))).mono ?_
            rintro e w5 ⟨g5, c5, P5, rfl, k1, k2, k3, k4, k5, k6, k7⟩
            have hb5 : Below wr.heap.size wr w5 := (below_alloc_new _).trans (Below.less k6 (by simp))
            have hTr5 := HTr.out.up hb5
            have hcm := rcompare_any (some ⟨g5, 0, none⟩) (some ⟨g3, o3, none⟩) c5 c3 P5 T w5 (by simp at k5; omega) (by rw [HTN.out]; omega) k1 hTr5
            rw [rcmp_val k1 hTr5 k2 t3 k3 t4, k4, show val4 [mid] = mid by simp [valB], HTN.out] at hcm
            have HCM := Lib.hid hcm
            have HB5 := Lib.hid (below_then hbq hb5 hbq.size)
            clear hcm hb5 hTr5 k1 k2 k3 k4 k5 k6 k7 hbm
            generalize List.length P5 = n5 at *
            by_cases hle : val4 M * mid ≤ val4 T
            · have hd := cmpZ_le0 hle
              have HLE := Lib.hid hle
              clear hle
              generalize cmpZ (val4 M * mid) (val4 T) = cz at *
              go_wp2_with fail
              refine HCM.out.mono ?_
              rintro e w6 ⟨rfl, nq, rfl⟩
              go_wp2_with fail
              go_roundw
              case rel => exact ⟨mid, hi', by omega, hh9, rfl, rfl, ⟨HLE.out, hbs.out.2⟩, below_drewN HB5.out _⟩
              case measure => simp [intOf]; omega
            · have hd := cmpZ_gt0 (show val4 T < val4 M * mid by omega)
              have HLE := Lib.hid hle
              clear hle
              generalize cmpZ (val4 M * mid) (val4 T) = cz at *
              go_wp2_with fail
              refine HCM.out.mono ?_
              rintro e w6 ⟨rfl, nq, rfl⟩
              go_wp2_with fail
              go_roundw
              case rel => exact ⟨lo, mid - 1, by omega, by omega, rfl, by go_num, ⟨hbs.out.1, by rw [show mid - 1 + 1 = mid by omega]; exact Nat.lt_of_not_le HLE.out⟩, below_drewN HB5.out _⟩
              case measure => simp [intOf]; omega
          · obtain rfl : lo = hi' := by omega
            have hbQr := HBQ3.out.below hbq hs3'
            have hcq := hbQr.cell i (by rw [HQL.out]; omega)
            have hfq := hbQr.frozen i
            have hbQs := hbQr.set_ i lo
            have hTs : Row .i64 (wr.setCell ⟨w.heap.size, i, none⟩ (.int .i64 lo)) wr.heap.size (some ⟨g3, o3, none⟩) c3 T := ((HRT.out.below hbq).more hbq.size).apart (by exact hgne) _
            have hbs2 : Below w.heap.size w (wr.setCell ⟨w.heap.size, i, none⟩ (.int .i64 lo)) := (HB3.out.trans (Below.less hbq hs3)).setCell (Nat.le_refl _) _
            have hszs : (wr.setCell ⟨w.heap.size, i, none⟩ (.int .i64 (lo : Int))).heap.size = wr.heap.size := setCell_size _ _ _
            have hMs := hR'.below hbs2
            have HBQS := Lib.hid hbQs
            have HTS := Lib.hid hTs
            have HBS2 := Lib.hid hbs2
            have HMS := Lib.hid hMs
            have hwrs : w.heap.size < wr.heap.size := hbQr.lt
            have HSZ := Lib.hid hszs
            clear hbQr hbQs hTs hbs2 hszs hMs hlt
            go_upto_region 17 with (fail)
            change Code.wp Tryd.prog _ _ _ (wr.setCell ⟨w.heap.size, i, none⟩ (.int .i64 lo))
            generalize wr.setCell ⟨w.heap.size, i, none⟩ (.int .i64 (lo : Int)) = ws at *
            clear hcq hfq
            have hbl := blk_one4 ws lo
            have hlo9 : Lim4 [lo] := fun d hd => by rw [List.mem_singleton] at hd; omega
            have htl := rtrim_any (some ⟨ws.heap.size, 0, none⟩) 1 [lo] (ws.alloc (.cells #[.int .i64 lo] 3)) (ws.heap.size + 1) (by simp) (Row.ofBlk hbl (Nat.lt_succ_self _) (by simp))
            obtain ⟨U, u1, u2, u3, u4, u5⟩ := rrow_take (Row.ofBlk (B := ws.heap.size + 1) (c := 1) hbl (Nat.lt_succ_self _) (by simp)) hlo9
            rw [← u1] at htl
            have hU1 : List.length U ≤ 1 := by rw [u1]; exact trimN_le _ _
            have huv : val4 U = lo := by rw [u5]; simp [valB]
            have hba := below_alloc_new (w := ws) (.cells #[.int .i64 lo] 3)
            have hsa : (ws.alloc (.cells #[.int .i64 (lo : Int)] 3)).heap.size = ws.heap.size + 1 := by simp
            rw [← hsa] at u2
            have hmul := rmul2 A' (some ⟨ws.heap.size, 0, none⟩) c' 1 M U (ws.alloc (.cells #[.int .i64 lo] 3)) (by rw [HM.out]; omega) (by omega) hM u3 (((HMS.out.more (by rw [HSZ.out]; omega)).below hba).more (by rw [hsa]; omega)) u2
            rw [HM.out, huv] at hmul
            have hTa : Row .i64 (ws.alloc (.cells #[.int .i64 lo] 3)) (ws.alloc (.cells #[.int .i64 (lo : Int)] 3)).heap.size (some ⟨g3, o3, none⟩) c3 T := (HTS.out.more (by rw [HSZ.out]; exact Nat.le_refl _)).up hba
            have HTL := Lib.hid htl
            have HMUL := Lib.hid hmul
            have HTA := Lib.hid hTa
            have HBA := Lib.hid hba
            have HSA := Lib.hid hsa
            clear htl hmul hTa hba u1 u2 u5 huv hbl hsa
            generalize List.length U = nu at *
            go_wp2_with fail
            refine HTL.out.mono ?_
            rintro e w6 ⟨rfl, rfl⟩
            go_wp2_with fail
            refine HMUL.out.mono ?_
            rintro e w7 ⟨g7, c7, P7, rfl, k1, k2, k3, k4, k5, k6, k7⟩
            have hT7 := HTA.out.up k6
            have hle7 : val4 P7 ≤ val4 T := by rw [k4]; exact hbs.out.1
            have hPT := len_le4 t3 k3 hle7
            have hsb := rsub2 (some ⟨g3, o3, none⟩) (some ⟨g7, 0, none⟩) c3 c7 T P7 w7 (by rw [HTN.out]; omega) hPT t3 k2 hle7 hT7 k1
            rw [HTN.out] at hsb
            have HSB := Lib.hid hsb
            have HP4 := Lib.hid k4
            have HPT := Lib.hid hPT
            have hb7 : Below w.heap.size w w7 := HBS2.out.trans (Below.less (HBA.out.trans (Below.less k6 (by rw [HSA.out]; omega))) (by rw [HSZ.out]; omega))
            have HB7 := Lib.hid hb7
            have hQ7 := (HBQS.out.below HBA.out (by rw [HSZ.out]; exact hwrs)).below k6 (by rw [HSA.out, HSZ.out]; omega)
            have HQ7 := Lib.hid hQ7
            clear hsb k1 k2 k3 k4 k5 k6 k7 hT7 hle7 hPT hb7 hQ7
            generalize List.length P7 = n7 at *
            go_wp2_with fail
            refine HSB.out.mono ?_
            rintro e w8 ⟨A8, c8, R8, rfl, m1, m2, m3, m4, m5⟩
            have HB8 := Lib.hid (below_then HB7.out m5 HB7.out.size)
            have HQ8 := Lib.hid (HQ7.out.below m5 HQ7.out.lt)
            have M1 := Lib.hid m1
            have M3 := Lib.hid m3
            have M4 := Lib.hid m4
            clear m1 m3 m4 m5
            go_wp2_with fail
            go_roundw
            case rel =>
              have hnT := len_T t4 hM HM.out hTup.out
              have e1 := HTN.out
              have e2 := HPT.out
              have e3 := M4.out
              have e4 := M3.out
              have e5 := hbs.out.2
              rw [HP4.out] at e4
              have e6 : val4 M * (lo + 1) = val4 M * lo + val4 M := by rw [Nat.mul_add, Nat.mul_one]
              rw [e6] at e5
              have e7 : val4 R8 + val4 M * lo = nth L i + 10000 * val4 R := by rw [e4, HTV.out, HVAL3.out]
              exact ⟨i, Q.set i lo, A8, c8, R8, by omega, rfl, rfl, M1.out, m2, by omega, HQ8.out, by rw [List.length_set]; exact HQL.out, rq_step hin.out (by rw [HQL.out]; omega) (by omega) e7 (by omega), HB8.out⟩
            case measure => simp [intOf]
  · obtain rfl : fr = c := g1.symm
    have G2 := Lib.hid g2
    have hl0 : l - fr = 0 := by omega
    have HL0 := Lib.hid hl0
    clear g1 g2 hl0
    go_enter Tryd.func60, Tryd.ntmps60
    go_wp2_with (first
      | (refine wpList_make_zeros _ rfl (.tmp 25) (.tmp 25) 29 rfl 3 .i64 i0 8 Tryd.underlying29 hi hz0 hz1 hz2 .i64 .i64 _ _ fr rfl rfl (by omega) (by omega) (by omega) (by omega) ?_; intro w1 hb1 hB1 hs1)
      | fail)
    change Code.wp Tryd.prog _ _ _ (w1.alloc (.cells #[] 3))
    have hdn : L.drop fr = [] := List.eq_nil_of_length_eq_zero (by rw [HDL.out]; exact HL0.out)
    have hr2 : Row .i64 (w1.alloc (.cells #[] 3)) (w1.alloc (.cells #[] 3)).heap.size (some ⟨w1.heap.size, 0, none⟩) 0 (L.drop fr) := by rw [hdn]; exact Row.nil _ _ _ _ _
    have hbQ := hb1.out.alloc (.cells #[] 3)
    have hbw2 : Below w.heap.size w (w1.alloc (.cells #[] 3)) := hB1.trans ((Below.refl _ _).alloc (by omega) _)
    generalize w1.alloc (.cells #[] 3) = w2 at *
    have HB2 := Lib.hid hbw2
    have hg2 : w.heap.size < w2.heap.size := hbQ.lt
    have HBQ := Lib.hid hbQ
    have HR2 := Lib.hid hr2
    have hln2 : (L.drop fr).length ≤ 3 * l + 9 := by rw [HDL.out]; omega
    clear hb1 hB1 hbQ hr2 hbw2 hs1 hdn
    go_loopw [8, 9] (fun rv iv wr => ∃ (j : Nat) (Q : List Nat) (A2 : Option Addr) (c2 : Nat) (R : List Nat), j ≤ fr ∧ iv = .int .i64 ((j : Int) - 1) ∧ rv = .slice A2 (List.length R) c2 ∧ Row .i64 wr wr.heap.size A2 c2 R ∧ Lim4 R ∧ List.length R ≤ 3 * l + 9 ∧ Blk .i64 3 wr w.heap.size Q ∧ Q.length = fr ∧ Hid (RqInv (val4 M) L Q j (val4 R)) ∧ Below w.heap.size w wr) (fun _ iv _ => (intOf iv + 1).toNat)
    case atStart => exact ⟨fr, _, some ⟨w1.heap.size, 0, none⟩, 0, L.drop fr, Nat.le_refl _, rfl, by rw [HDL.out, HL0.out], HR2.out, fun d hd => hL d (List.mem_of_mem_drop hd), hln2, HBQ.out, by simp, by have := HST.out; rw [← HFR.out] at this; exact this, HB2.out⟩
    case round =>
      obtain ⟨j, Q, A2, c2, R, hj, rfl, rfl, hrR, hlR, hnR, hbQ, hQl, hin, hbw⟩ := hrel
      have hlR' : ∃ lr, List.length R = lr := ⟨_, rfl⟩
      rcases Nat.eq_zero_or_pos j with rfl | hpos
      · have htQ := rtrim_any (some ⟨w.heap.size, 0, none⟩) fr Q wr (w.heap.size + 1) (by omega) (Row.ofBlk hbQ (Nat.lt_succ_self _) (by omega))
        rw [hQl] at htQ
        have HTQ := Lib.hid htQ
        have HQL := Lib.hid hQl
        have HBQ9 := Lib.hid hbQ
        have HRR := Lib.hid hrR
        clear htQ hQl hbQ hrR hlR'
        go_wp2_with fail
        refine HTQ.out.mono ?_
        rintro e w9 ⟨rfl, rfl⟩
        go_wp2_with fail
        go_ret2
        obtain ⟨QT, r1, r2, r3, r4, r5⟩ := rrow_take (Row.ofBlk (B := wr.heap.size) (c := fr) HBQ9.out HBQ9.out.lt (by rw [HQL.out]; exact Nat.le_refl _)) hin.out.lim
        rw [HQL.out] at r1
        have hv := hin.out.val
        rw [List.drop_zero, List.drop_zero] at hv
        have t1 := trimN_le Q fr
        exact ⟨_, _, QT, _, _, R, by rw [r1]; rfl, r2, HRR.out, r3, hlR, by rw [r5]; exact hv, hin.out.lt, by omega, hnR, hbw⟩
      · obtain ⟨i, rfl⟩ : ∃ i, j = i + 1 := ⟨j - 1, by omega⟩
        have hi1 : ((i + 1 : Nat) : Int) - 1 = i := by omega
        have hci := (hbw.cell (p := ⟨b, o + i, none⟩) (by exact hbB)).trans (HCS.out i (by rw [HL.out]; omega))
        have hli : i < l := by omega
        have hgq : w.heap.size < wr.heap.size := hbQ.lt
        have hlr9 : List.length R ≤ 3 * l + 9 := hnR
        have HQL := Lib.hid hQl
        rw [hi1]
        clear hi1 hQl
        go_wp2_with (first
          | (at_builtin; refine wpList_append_row rfl (.tmp 42) (.tmp 43) 29 rfl .i64 wr.heap.size 3 i0 8 Tryd.underlying29 hi hz0 hz1 hz2 (by omega) (.slice (some ⟨wr.heap.size, 0, none⟩) 1 1) [nth L i] rfl (Own.ofBlk (blk_one4 wr (nth L i)) (Nat.le_refl _) (by simp)) A2 (List.length R) c2 R rfl rfl (hrR.alloc (Nat.le_refl _) _) (by simp; omega) (by simp) ?_; intro v3 w3 ho3 hb3)
          | fail)
        obtain ⟨A3, c3, hv3, hr3, hl3⟩ := ho3.out.lies
        have hne3 : A3 ≠ none := by
          rintro rfl
          have := hr3.spot (by simp)
          obtain ⟨b9, o9, e9, -, -⟩ := this
          cases e9
        obtain ⟨g3, o3, rfl⟩ : ∃ g3 o3, A3 = some ⟨g3, o3, none⟩ := by
          obtain ⟨b9, o9, e9, -, -⟩ := hr3.spot (by simp)
          exact ⟨b9, o9, e9⟩
        have hg3 : wr.heap.size ≤ g3 := hl3 _ _ rfl
        have hlim3 : Lim4 ([nth L i] ++ R) := by
          intro d hd
          rcases List.mem_append.1 hd with h | h
          · rw [List.mem_singleton] at h; subst h; exact nth_all hL (by omega) i
          · exact hlR d h
        have hval3 := val4_cons (nth L i) R
        have hln3 : ([nth L i] ++ R).length ≤ 3 * l + 10 := by simp; omega
        have hbw3 : Below w.heap.size w w3 := hbw.trans (Below.less ((below_alloc_new _).trans hb3) (by omega))
        have hbQ3 := (hbQ.alloc (.cells #[.int .i64 (nth L i)] 3)).below hb3 hgq
        subst hv3
        obtain ⟨a9, ha9⟩ : ∃ a9, nth L i = a9 := ⟨_, rfl⟩
        have HVAL3 := Lib.hid hval3
        generalize [nth L i] ++ R = R3 at *
        clear ho3 hl3 hne3 hval3 ha9 hbQ hbw hb3 hrR
        have htr := rtrim_any (some ⟨g3, o3, none⟩) c3 R3 w3 w3.heap.size (by omega) hr3
        obtain ⟨T, t1, t2, t3, t4, t5⟩ := rrow_take hr3 hlim3
        rw [← t1] at htr
        have hTl := trimN_le R3 R3.length
        have HTR := Lib.hid htr
        have HT1 := Lib.hid t1
        have hTn : List.length T ≤ 3 * l + 10 := by omega
        clear htr t1 hTl hr3 hlim3
        generalize List.length R3 = n3 at *
        refine HTR.out.mono ?_
        rintro e w4 ⟨rfl, rfl⟩
        have HB3 := Lib.hid hbw3
        have HBQ3 := Lib.hid hbQ3
        have HRT := Lib.hid t2
        have HTV := Lib.hid t5
        have hMr := Lib.hid (hR'.below hbw3)
        have hs3 : w.heap.size ≤ w3.heap.size := hbw3.size
        have hgne : w.heap.size ≠ g3 := by omega
        have hs3' : w.heap.size < w3.heap.size := hbQ3.lt
        have hg3s : g3 < w3.heap.size ∨ List.length T = 0 := by
          rcases Nat.eq_zero_or_pos (List.length T) with h | h
          · exact .inr h
          · obtain ⟨b9, o9, e9, h9, -⟩ := t2.spot h
            injection e9 with e9
            injection e9 with e9
            subst e9
            exact .inl h9
        clear hbw3 hbQ3 t2 t5 HTR hci
        generalize hTn' : List.length T = nt at *
        have HTN := Lib.hid hTn'
        clear hTn'
        have hup := hin.out.lt
        have hTup : Hid (val4 T < val4 M * (9999 + 1)) := by
          show _ < _
          rw [HTV.out, HVAL3.out]
          have := nth_all hL (show 0 < 10000 by omega) i
          omega
        go_wp2_with fail
        go_loopw [10, 11] (fun lv hv wq => ∃ lo hi : Nat, lo ≤ hi ∧ hi ≤ 9999 ∧ lv = .int .i64 (lo : Int) ∧ hv = .int .i64 (hi : Int) ∧ Hid (val4 M * lo ≤ val4 T ∧ val4 T < val4 M * (hi + 1)) ∧ Below w3.heap.size w3 wq) (fun lv hv _ => (intOf hv - intOf lv).toNat)
        case atStart => exact ⟨0, 9999, by omega, by omega, rfl, rfl, ⟨by simp, hTup⟩, Below.refl _ _⟩
        case round =>
          obtain ⟨lo, hi', hlh, hh9, rfl, rfl, hbs, hbq⟩ := hrel
          by_cases hlt : lo < hi'
          · obtain ⟨mid, hmid⟩ : ∃ mid, mid = (lo + hi' + 1) / 2 := ⟨_, rfl⟩
            have hm1 : ((lo : Int) + (hi' : Int) + 1) / 2 = (mid : Int) := by omega
            have hm2 : lo < mid := by omega
            have hm3 : mid ≤ hi' := by omega
            have HMID := Lib.hid hmid
            clear hmid
            have hmr : Row .i64 wr wr.heap.size A' c' M := ((hMr.out.more hs3).below hbq).more hbq.size
            have hTr : Row .i64 wr wr.heap.size (some ⟨g3, o3, none⟩) c3 T := (HRT.out.below hbq).more hbq.size
            have hmul := fun (W : World) (hb : Below wr.heap.size wr W) (hm : Row .i64 W W.heap.size (some ⟨wr.heap.size, 0, none⟩) 1 [mid]) => rmul2 A' (some ⟨wr.heap.size, 0, none⟩) c' 1 M [mid] W (by rw [HM.out]; omega) (by simp) hM (fun d hd => by rw [List.mem_singleton] at hd; omega) (hmr.up hb) hm
            rw [HM.out] at hmul
            have HMUL := Lib.hid hmul
            have HTr := Lib.hid hTr
            clear hmul hmr hTr
            go_wp2_with fail
            have hbm := blk_one4 wr mid
            refine (HMUL.out _ (below_alloc_new _) (Row.ofBlk hbm hbm.lt (by simp))).mono ?_
            rintro e w5 ⟨g5, c5, P5, rfl, k1, k2, k3, k4, k5, k6, k7⟩
            have hb5 : Below wr.heap.size wr w5 := (below_alloc_new _).trans (Below.less k6 (by simp))
            have hTr5 := HTr.out.up hb5
            have hcm := rcompare_any (some ⟨g5, 0, none⟩) (some ⟨g3, o3, none⟩) c5 c3 P5 T w5 (by simp at k5; omega) (by rw [HTN.out]; omega) k1 hTr5
            rw [rcmp_val k1 hTr5 k2 t3 k3 t4, k4, show val4 [mid] = mid by simp [valB], HTN.out] at hcm
            have HCM := Lib.hid hcm
            have HB5 := Lib.hid (below_then hbq hb5 hbq.size)
            clear hcm hb5 hTr5 k1 k2 k3 k4 k5 k6 k7 hbm
            generalize List.length P5 = n5 at *
            by_cases hle : val4 M * mid ≤ val4 T
            · have hd := cmpZ_le0 hle
              have HLE := Lib.hid hle
              clear hle
              generalize cmpZ (val4 M * mid) (val4 T) = cz at *
              go_wp2_with fail
              refine HCM.out.mono ?_
              rintro e w6 ⟨rfl, nq, rfl⟩
              go_wp2_with fail
              go_roundw
              case rel => exact ⟨mid, hi', by omega, hh9, rfl, rfl, ⟨HLE.out, hbs.out.2⟩, below_drewN HB5.out _⟩
              case measure => simp [intOf]; omega
            · have hd := cmpZ_gt0 (show val4 T < val4 M * mid by omega)
              have HLE := Lib.hid hle
              clear hle
              generalize cmpZ (val4 M * mid) (val4 T) = cz at *
              go_wp2_with fail
              refine HCM.out.mono ?_
              rintro e w6 ⟨rfl, nq, rfl⟩
              go_wp2_with fail
              go_roundw
              case rel => exact ⟨lo, mid - 1, by omega, by omega, rfl, by go_num, ⟨hbs.out.1, by rw [show mid - 1 + 1 = mid by omega]; exact Nat.lt_of_not_le HLE.out⟩, below_drewN HB5.out _⟩
              case measure => simp [intOf]; omega
          · obtain rfl : lo = hi' := by omega
            have hbQr := HBQ3.out.below hbq hs3'
            have hcq := hbQr.cell i (by rw [HQL.out]; omega)
            have hfq := hbQr.frozen i
            have hbQs := hbQr.set_ i lo
            have hTs : Row .i64 (wr.setCell ⟨w.heap.size, i, none⟩ (.int .i64 lo)) wr.heap.size (some ⟨g3, o3, none⟩) c3 T := ((HRT.out.below hbq).more hbq.size).apart (by exact hgne) _
            have hbs2 : Below w.heap.size w (wr.setCell ⟨w.heap.size, i, none⟩ (.int .i64 lo)) := (HB3.out.trans (Below.less hbq hs3)).setCell (Nat.le_refl _) _
            have hszs : (wr.setCell ⟨w.heap.size, i, none⟩ (.int .i64 (lo : Int))).heap.size = wr.heap.size := setCell_size _ _ _
            have hMs := hR'.below hbs2
            have HBQS := Lib.hid hbQs
            have HTS := Lib.hid hTs
            have HBS2 := Lib.hid hbs2
            have HMS := Lib.hid hMs
            have hwrs : w.heap.size < wr.heap.size := hbQr.lt
            have HSZ := Lib.hid hszs
            clear hbQr hbQs hTs hbs2 hszs hMs hlt
            go_upto_region 17 with (fail)
            change Code.wp Tryd.prog _ _ _ (wr.setCell ⟨w.heap.size, i, none⟩ (.int .i64 lo))
            generalize wr.setCell ⟨w.heap.size, i, none⟩ (.int .i64 (lo : Int)) = ws at *
            clear hcq hfq
            have hbl := blk_one4 ws lo
            have hlo9 : Lim4 [lo] := fun d hd => by rw [List.mem_singleton] at hd; omega
            have htl := rtrim_any (some ⟨ws.heap.size, 0, none⟩) 1 [lo] (ws.alloc (.cells #[.int .i64 lo] 3)) (ws.heap.size + 1) (by simp) (Row.ofBlk hbl (Nat.lt_succ_self _) (by simp))
            obtain ⟨U, u1, u2, u3, u4, u5⟩ := rrow_take (Row.ofBlk (B := ws.heap.size + 1) (c := 1) hbl (Nat.lt_succ_self _) (by simp)) hlo9
            rw [← u1] at htl
            have hU1 : List.length U ≤ 1 := by rw [u1]; exact trimN_le _ _
            have huv : val4 U = lo := by rw [u5]; simp [valB]
            have hba := below_alloc_new (w := ws) (.cells #[.int .i64 lo] 3)
            have hsa : (ws.alloc (.cells #[.int .i64 (lo : Int)] 3)).heap.size = ws.heap.size + 1 := by simp
            rw [← hsa] at u2
            have hmul := rmul2 A' (some ⟨ws.heap.size, 0, none⟩) c' 1 M U (ws.alloc (.cells #[.int .i64 lo] 3)) (by rw [HM.out]; omega) (by omega) hM u3 (((HMS.out.more (by rw [HSZ.out]; omega)).below hba).more (by rw [hsa]; omega)) u2
            rw [HM.out, huv] at hmul
            have hTa : Row .i64 (ws.alloc (.cells #[.int .i64 lo] 3)) (ws.alloc (.cells #[.int .i64 (lo : Int)] 3)).heap.size (some ⟨g3, o3, none⟩) c3 T := (HTS.out.more (by rw [HSZ.out]; exact Nat.le_refl _)).up hba
            have HTL := Lib.hid htl
            have HMUL := Lib.hid hmul
            have HTA := Lib.hid hTa
            have HBA := Lib.hid hba
            have HSA := Lib.hid hsa
            clear htl hmul hTa hba u1 u2 u5 huv hbl hsa
            generalize List.length U = nu at *
            go_wp2_with fail
            refine HTL.out.mono ?_
            rintro e w6 ⟨rfl, rfl⟩
            go_wp2_with fail
            refine HMUL.out.mono ?_
            rintro e w7 ⟨g7, c7, P7, rfl, k1, k2, k3, k4, k5, k6, k7⟩
            have hT7 := HTA.out.up k6
            have hle7 : val4 P7 ≤ val4 T := by rw [k4]; exact hbs.out.1
            have hPT := len_le4 t3 k3 hle7
            have hsb := rsub2 (some ⟨g3, o3, none⟩) (some ⟨g7, 0, none⟩) c3 c7 T P7 w7 (by rw [HTN.out]; omega) hPT t3 k2 hle7 hT7 k1
            rw [HTN.out] at hsb
            have HSB := Lib.hid hsb
            have HP4 := Lib.hid k4
            have HPT := Lib.hid hPT
            have hb7 : Below w.heap.size w w7 := HBS2.out.trans (Below.less (HBA.out.trans (Below.less k6 (by rw [HSA.out]; omega))) (by rw [HSZ.out]; omega))
            have HB7 := Lib.hid hb7
            have hQ7 := (HBQS.out.below HBA.out (by rw [HSZ.out]; exact hwrs)).below k6 (by rw [HSA.out, HSZ.out]; omega)
            have HQ7 := Lib.hid hQ7
            clear hsb k1 k2 k3 k4 k5 k6 k7 hT7 hle7 hPT hb7 hQ7
            generalize List.length P7 = n7 at *
            go_wp2_with fail
            refine HSB.out.mono ?_
            rintro e w8 ⟨A8, c8, R8, rfl, m1, m2, m3, m4, m5⟩
            have HB8 := Lib.hid (below_then HB7.out m5 HB7.out.size)
            have HQ8 := Lib.hid (HQ7.out.below m5 HQ7.out.lt)
            have M1 := Lib.hid m1
            have M3 := Lib.hid m3
            have M4 := Lib.hid m4
            clear m1 m3 m4 m5
            go_wp2_with fail
            go_roundw
            case rel =>
              have hnT := len_T t4 hM HM.out hTup.out
              have e1 := HTN.out
              have e2 := HPT.out
              have e3 := M4.out
              have e4 := M3.out
              have e5 := hbs.out.2
              rw [HP4.out] at e4
              have e6 : val4 M * (lo + 1) = val4 M * lo + val4 M := by rw [Nat.mul_add, Nat.mul_one]
              rw [e6] at e5
              have e7 : val4 R8 + val4 M * lo = nth L i + 10000 * val4 R := by rw [e4, HTV.out, HVAL3.out]
              exact ⟨i, Q.set i lo, A8, c8, R8, by omega, rfl, rfl, M1.out, m2, by omega, HQ8.out, by rw [List.length_set]; exact HQL.out, rq_step hin.out (by rw [HQL.out]; omega) (by omega) e7 (by omega), HB8.out⟩
            case measure => simp [intOf]
end Go.Proofs.YtbfbijokhlkekaaDoor

/- The reference's 'QuoRem'. -/
namespace Go.Proofs.YtbfbijokhlkekaaDoor
open Go.RowKit

def RqPost (L M : List Nat) (w : World) (e : Ending) (w' : World) : Prop := ∃ A1 c1 Q A2 c2 R, e = .returned (.tuple #[.slice A1 (List.length Q) c1, .slice A2 (List.length R) c2]) ∧
  Row .i64 w' w'.heap.size A1 c1 Q ∧ Row .i64 w' w'.heap.size A2 c2 R ∧ Lim4 Q ∧ Lim4 R ∧ val4 Q * val4 M + val4 R = val4 L ∧ val4 R < val4 M ∧ List.length Q ≤ L.length ∧ List.length R ≤ 3 * L.length + 9 ∧ Below w.heap.size w w'
set_option maxRecDepth 20000 in
set_option maxHeartbeats 3200000 in
theorem rquo_any (A A' : Option Addr) (c c' : Nat) (L M : List Nat) (w : World) (hl : L.length ≤ 100000) (hml : M.length ≤ 100000) (hn0 : 0 < M.length) (hL : Lim4 L) (hM : Lim4 M) (htM : Top M)
    (hR : Row .i64 w w.heap.size A c L) (hR' : Row .i64 w w.heap.size A' c' M) :
    Calls Tryd.prog 60 #[.slice A L.length c, .slice A' M.length c'] w (RqPost L M w) := by
  rcases Nat.lt_or_ge L.length M.length with h | h
  · have hv := canon_lt4 hL htM h
    have hfin : ∀ W, Below w.heap.size w W → RqPost L M w (.returned (.tuple #[.slice none 0 0, .slice A L.length c])) W := fun W hb =>
      ⟨none, 0, [], A, c, L, rfl, Row.nil _ _ _ _ _, (hR.below hb).more hb.size, fun _ h => absurd h (List.not_mem_nil), hL, by simp [valB], hv, by simp, by omega, hb⟩
    have HF := Lib.hid hfin
    clear hfin hv
    generalize L.length = l at *
    generalize M.length = m at *
    go_enter Tryd.func60, Tryd.ntmps60
    go_wp2
    go_ret2
    exact HF.out _ (Below.refl _ _)
  · exact rquo_long A A' c c' M.length L M w hl rfl hn0 h hL hM htM hR hR'

theorem rsigned_int (neg : Bool) (A : Option Addr) (c : Nat) (R : List Nat) (w : World) (hn : R.length ≤ 4000000) (hlim : Lim4 R) (hR : Row .i64 w w.heap.size A c R) :
    Calls Tryd.prog 44 #[.bool neg, .slice A R.length c] w fun e w' => ∃ T, e = .returned (.agg #[.bool (neg && decide (0 < List.length T)), .slice A (List.length T) c]) ∧ RefR w' w'.heap.size (neg && decide (0 < List.length T)) A c T ∧
      zR (neg && decide (0 < List.length T)) T = (if neg then -(val4 R : Int) else val4 R) ∧ List.length T ≤ R.length ∧ Below w.heap.size w w' := by
  refine (rsigned_pack neg A c R w (Nat.le_refl _) hn hlim hR).mono ?_
  rintro e w' ⟨T, rfl, hr, hl4, htop, hv, hl, hb⟩
  refine ⟨T, rfl, ⟨hr, hl4, htop, fun h0 h1 => by rw [h1] at h0; simp at h0⟩, ?_, hl, hb⟩
  unfold zR
  rw [← hv]
  cases neg
  · simp
  · rcases Nat.eq_zero_or_pos (List.length T) with h | h
    · have : T = [] := List.eq_nil_of_length_eq_zero h
      subst this
      simp [valB]
    · simp [h]

set_option maxRecDepth 20000 in
set_option maxHeartbeats 3200000 in
theorem rquoRem_zero (n : Bool) (A A' : Option Addr) (c c' : Nat) (L : List Nat) (w : World) :
    Calls Tryd.prog 35 #[.agg #[.bool n, .slice A L.length c], .agg #[.bool false, .slice A' 0 c']] w fun e w' => e = .returned (.tuple #[.agg #[.bool false, .slice none 0 0], .agg #[.bool false, .slice none 0 0], .int .i64 10]) ∧ Below w.heap.size w w' := by
  have hsg := fun W => rsign_any false A' c' [] W (fun h => absurd h Bool.false_ne_true)
  have HSG := Lib.hid hsg
  clear hsg
  have F := four_boxes w (.bool n) (.slice A L.length c) (.bool false) (.slice A' 0 c') (.bool false) (.slice none 0 0) (.bool false) (.slice none 0 0) 31 31 31 31
  generalize L.length = l at *
  go_enter Tryd.func35, Tryd.ntmps35
  go_upto_region 1 with (fail)
  change Code.wp Tryd.prog _ _ _ ((((w.alloc (.cells #[.bool n, .slice A l c] 31)).alloc (.cells #[.bool false, .slice A' 0 c'] 31)).alloc (.cells #[.bool false, .slice none 0 0] 31)).alloc (.cells #[.bool false, .slice none 0 0] 31))
  generalize (((w.alloc (.cells #[.bool n, .slice A l c] 31)).alloc (.cells #[.bool false, .slice A' 0 c'] 31)).alloc (.cells #[.bool false, .slice none 0 0] 31)).alloc (.cells #[.bool false, .slice none 0 0] 31) = W0 at *
  obtain ⟨b0, b1, b2, b3, hsz, hbw⟩ := F
  have S0 : St w W0 _ _ _ _ _ _ _ _ := ⟨b0, b1, b2, b3, hbw, by omega⟩
  have x2 := b1.c0
  have x3 := b1.c1
  clear b0 b1 b2 b3 hsz hbw
  have HS0 := Lib.hid S0
  clear S0
  go_wp2_with fail
  refine (HSG.out _).mono ?_
  rintro e w1 ⟨rfl, hb1⟩
  have S1 := HS0.out.call hb1
  have y0 := S1.b2.c0
  have y1 := S1.b2.c1
  have y2 := S1.b3.c0
  have y3 := S1.b3.c1
  have z0 := S1.b2.f0
  have z1 := S1.b2.f1
  have z2 := S1.b3.f0
  have z3 := S1.b3.f1
  have HB := Lib.hid S1.bw
  have hn5 : ¬ w.heap.size + 1 + 1 + 1 = w.heap.size + 1 + 1 := by omega
  have hn6 : ¬ w.heap.size + 1 + 1 = w.heap.size + 1 + 1 + 1 := by omega
  have hsg : (sgnI false [] == 0) = true := rfl
  clear S1 hb1 x2 x3
  go_wp2_with fail
  refine bodyPost_ret (v := .tuple #[.agg #[.bool false, .slice none 0 0], .agg #[.bool false, .slice none 0 0], .int .i64 10]) (by simp [results, Tryd.results35, go_sem, y0, y1, y2, y3]) rfl ⟨rfl, ?_⟩
  exact (((HB.out.setCell (by simp; omega) _).setCell (by simp; omega) _).setCell (by simp; omega) _).setCell (by simp; omega) _

theorem rq_final {w w4 W : World} {p0 p1 p2 p3 : Value} {k1 k2 : Bool} {A1 A2 : Option Addr} {c1 c2 : Nat} {Q R : List Nat} (hS : St w w4 p0 p1 p2 p3 (.bool false) (.slice none 0 0) (.bool false) (.slice none 0 0))
    (h1 : RefR w4 w4.heap.size k1 A1 c1 Q) (h2 : RefR w4 w4.heap.size k2 A2 c2 R) {u1 v1 u2 v2 : Value}
    (hW : W = setPair (setPair w4 (w.heap.size + 1 + 1) u1 v1) (w.heap.size + 1 + 1 + 1) u2 v2 ∨ W = setPair (setPair w4 (w.heap.size + 1 + 1 + 1) u2 v2) (w.heap.size + 1 + 1) u1 v1) :
    RefR W W.heap.size k1 A1 c1 Q ∧ RefR W W.heap.size k2 A2 c2 R ∧ Below w.heap.size w W := by
  rcases hW with rfl | rfl
  · have hS2 := hS.s2 u1 v1
    rw [setPair_size, setPair_size]
    exact ⟨RefR.pair hS2.b3 (RefR.pair hS.b2 h1 u1 v1) u2 v2, RefR.pair hS2.b3 (RefR.pair hS.b2 h2 u1 v1) u2 v2, (hS2.s3 u2 v2).bw⟩
  · have hS2 := hS.s3 u2 v2
    rw [setPair_size, setPair_size]
    exact ⟨RefR.pair hS2.b2 (RefR.pair hS.b3 h1 u2 v2) u1 v1, RefR.pair hS2.b2 (RefR.pair hS.b3 h2 u2 v2) u1 v1, (hS2.s2 u1 v1).bw⟩
/-- What the reference's 'QuoRem' returns of x and y. -/
def RqrPost (x y : Int) (l : Nat) (w : World) (e : Ending) (w' : World) : Prop := ∃ k1 A1 c1 Q k2 A2 c2 R, e = .returned (.tuple #[.agg #[.bool k1, .slice A1 (List.length Q) c1], .agg #[.bool k2, .slice A2 (List.length R) c2], .int .i64 0]) ∧
  RefR w' w'.heap.size k1 A1 c1 Q ∧ RefR w' w'.heap.size k2 A2 c2 R ∧ zR k1 Q = Int.tdiv x y ∧ zR k2 R = Int.tmod x y ∧ List.length Q ≤ l ∧ List.length R ≤ 3 * l + 9 ∧ Below w.heap.size w w'

theorem rqr_post {x y : Int} {l : Nat} {w W : World} {k1 k2 : Bool} {A1 A2 : Option Addr} {c1 c2 : Nat} {Q R : List Nat} (h : RefR W W.heap.size k1 A1 c1 Q ∧ RefR W W.heap.size k2 A2 c2 R ∧ Below w.heap.size w W)
    (h1 : zR k1 Q = Int.tdiv x y) (h2 : zR k2 R = Int.tmod x y) (h3 : Q.length ≤ l) (h4 : R.length ≤ 3 * l + 9) :
    RqrPost x y l w (.returned (.tuple #[.agg #[.bool k1, .slice A1 Q.length c1], .agg #[.bool k2, .slice A2 R.length c2], .int .i64 0])) W :=
  ⟨k1, A1, c1, Q, k2, A2, c2, R, rfl, h.1, h.2.1, h1, h2, h3, h4, h.2.2⟩

set_option maxRecDepth 20000 in
set_option maxHeartbeats 6400000 in
theorem rquoRem_pos (n m : Bool) (A A' : Option Addr) (c c' : Nat) (L M : List Nat) (w : World) (hl : L.length ≤ 100000) (hml : M.length ≤ 100000) (hm0 : 0 < M.length)
    (hL : RefR w w.heap.size n A c L) (hM : RefR w w.heap.size m A' c' M) :
    Calls Tryd.prog 35 #[.agg #[.bool n, .slice A L.length c], .agg #[.bool m, .slice A' M.length c']] w (RqrPost (zR n L) (zR m M) L.length w) := by
  have F := four_boxes w (.bool n) (.slice A L.length c) (.bool m) (.slice A' M.length c') (.bool false) (.slice none 0 0) (.bool false) (.slice none 0 0) 31 31 31 31
  have hdv := fun W h1 h2 => rquo_any A A' c c' L M W hl hml hm0 hL.lim hM.lim hM.top h1 h2
  have HDV := Lib.hid hdv
  have hsg := fun W => rsign_any m A' c' M W hM.sgn
  have HSG := Lib.hid hsg
  have hsn : (sgnI m M == 0) = false := by
    rw [beq_eq_false_iff_ne]
    unfold sgnI
    cases m
    · rw [if_neg (by simp), if_neg (by omega)]; omega
    · simp
  clear hdv hsg
  generalize hl' : L.length = l at *
  generalize hm' : M.length = l2 at *
  have HLL := Lib.hid hl'
  have HML := Lib.hid hm'
  clear hl' hm'
  go_enter Tryd.func35, Tryd.ntmps35
  go_upto_region 1 with (fail)
  change Code.wp Tryd.prog _ _ _ ((((w.alloc (.cells #[.bool n, .slice A l c] 31)).alloc (.cells #[.bool m, .slice A' l2 c'] 31)).alloc (.cells #[.bool false, .slice none 0 0] 31)).alloc (.cells #[.bool false, .slice none 0 0] 31))
  generalize (((w.alloc (.cells #[.bool n, .slice A l c] 31)).alloc (.cells #[.bool m, .slice A' l2 c'] 31)).alloc (.cells #[.bool false, .slice none 0 0] 31)).alloc (.cells #[.bool false, .slice none 0 0] 31) = W0 at *
  obtain ⟨b0, b1, b2, b3, hsz, hbw⟩ := F
  have S0 : St w W0 _ _ _ _ _ _ _ _ := ⟨b0, b1, b2, b3, hbw, by omega⟩
  have x2 := b1.c0
  have x3 := b1.c1
  clear b0 b1 b2 b3 hsz hbw
  have HS0 := Lib.hid S0
  clear S0
  go_wp2_with fail
  refine (HSG.out _).mono ?_
  rintro e w0 ⟨rfl, hb0⟩
  have S1 := HS0.out.call hb0
  have x0 := S1.b0.c0
  have x1 := S1.b0.c1
  have x4 := S1.b1.c0
  have x5 := S1.b1.c1
  have rL := hL.row.up S1.bw
  have rM := hM.row.up S1.bw
  have HS1 := Lib.hid S1
  clear x2 x3 hb0 S1
  generalize sgnI m M = sg at *
  go_wp2_with fail
  refine (HDV.out w0 rL rM).mono ?_
  rintro e w1 ⟨A1, c1, Q, A2, c2, R, rfl, rQ, rR, lQ, lR, hv, hlt, hlq, hlr, hb1⟩
  rw [HLL.out] at hlq hlr
  have S2 := HS1.out.call hb1
  clear x0 x1 x4 x5 rL rM hsn
  have hn1 : ¬ w.heap.size + 1 + 1 = w.heap.size := by omega
  have hn2 : ¬ w.heap.size + 1 + 1 + 1 = w.heap.size := by omega
  have hn3 : ¬ w.heap.size + 1 + 1 = w.heap.size + 1 := by omega
  have hn4 : ¬ w.heap.size + 1 + 1 + 1 = w.heap.size + 1 := by omega
  have hn5 : ¬ w.heap.size + 1 + 1 + 1 = w.heap.size + 1 + 1 := by omega
  have hn6 : ¬ w.heap.size + 1 + 1 = w.heap.size + 1 + 1 + 1 := by omega
  have x0 := S2.b0.c0
  have x1 := S2.b0.c1
  have x2 := S2.b1.c0
  have x3 := S2.b1.c1
  have y0 := S2.b2.c0
  have y1 := S2.b2.c1
  have y2 := S2.b3.c0
  have y3 := S2.b3.c1
  have z0 := S2.b2.f0
  have z1 := S2.b2.f1
  have z2 := S2.b3.f0
  have z3 := S2.b3.f1
  have HS2 := Lib.hid S2
  have hz := tdiv_sign n m (val4 L) (val4 M) (val4 Q) (val4 R) hv hlt
  have hq1 := fun (V : World) (hb : Below w1.heap.size w1 V) => rsigned_int (!(n == m)) A1 c1 Q V (by omega) lQ (rQ.up hb)
  have hq2 := fun (V : World) (hb : Below w1.heap.size w1 V) => rsigned_int n A2 c2 R V (by omega) lR (rR.up hb)
  have HQ1 := Lib.hid hq1
  have HQ2 := Lib.hid hq2
  have HZ := Lib.hid hz
  have HC := Lib.hid (below_drew (Below.refl w1.heap.size w1))
  have KT1 : Hid True := trivial
  have KT2 : Hid True := trivial
  clear hb1 hv hlt rQ rR S2 hz hq1 hq2
  generalize hlq' : List.length Q = lq at *
  generalize hlr' : List.length R = lr at *
  have HLQ := Lib.hid hlq
  have HLR := Lib.hid hlr
  clear hlq hlr hlq' hlr'
  go_wp2_with fail
  go_region_held3 (fun w' => w'.cell? ⟨w.heap.size, 0, none⟩ = some (.bool n) ∧ w'.cell? ⟨w.heap.size + 1, 0, none⟩ = some (.bool m)) (go_keep)
    (first
      | (go_at_call 44; (with_reducible refine (HQ1.out _ HC.out).mono ?_); rintro e w4 ⟨T1, rfl, hr1, hzr1, hlt1, hb4⟩; have KT1 := Lib.hid hr1; have KZ1 := Lib.hid hzr1; have KL1 := Lib.hid hlt1; (try (have H9 := Lib.hid (RefR.up KT2.out hb4); clear KT2; have KT2 := H9; clear H9)); have HC9 := Lib.hid (below_then HC.out hb4 HC.out.size); clear HC hr1 hzr1 hlt1; have HC := HC9; clear HC9 hb4 x0 x1 x2 x3 y0 y1 y2 y3 z0 z1 z2 z3; have S9 := HS2.out.call HC.out; have x0 := S9.b0.c0; have x1 := S9.b0.c1; have x2 := S9.b1.c0; have x3 := S9.b1.c1; have y0 := S9.b2.c0; have y1 := S9.b2.c1; have y2 := S9.b3.c0; have y3 := S9.b3.c1; have z0 := S9.b2.f0; have z1 := S9.b2.f1; have z2 := S9.b3.f0; have z3 := S9.b3.f1; clear S9)
      | (go_at_call 44; (with_reducible refine (HQ2.out _ HC.out).mono ?_); rintro e w4 ⟨T2, rfl, hr1, hzr1, hlt1, hb4⟩; have KT2 := Lib.hid hr1; have KZ2 := Lib.hid hzr1; have KL2 := Lib.hid hlt1; (try (have H9 := Lib.hid (RefR.up KT1.out hb4); clear KT1; have KT1 := H9; clear H9)); have HC9 := Lib.hid (below_then HC.out hb4 HC.out.size); clear HC hr1 hzr1 hlt1; have HC := HC9; clear HC9 hb4 x0 x1 x2 x3 y0 y1 y2 y3 z0 z1 z2 z3; have S9 := HS2.out.call HC.out; have x0 := S9.b0.c0; have x1 := S9.b0.c1; have x2 := S9.b1.c0; have x3 := S9.b1.c1; have y0 := S9.b2.c0; have y1 := S9.b2.c1; have y2 := S9.b3.c0; have y3 := S9.b3.c1; have z0 := S9.b2.f0; have z1 := S9.b2.f1; have z2 := S9.b3.f0; have z3 := S9.b3.f1; clear S9))
  all_goals
    go_wp2
    have hS := HS2.out.call HC.out
    refine bodyPost_ret (v := .tuple #[.agg #[.bool (!(n == m) && decide (0 < List.length T1)), .slice A1 (List.length T1) c1], .agg #[.bool (n && decide (0 < List.length T2)), .slice A2 (List.length T2) c2], .int .i64 0]) (by simp [results, Tryd.results35, go_sem, y0, y1, y2, y3]) rfl ?_
    have hf := fun (W : World) u1 v1 u2 v2 hW => rq_final (W := W) (u1 := u1) (v1 := v1) (u2 := u2) (v2 := v2) hS KT1.out KT2.out hW
    exact rqr_post (hf _ _ _ _ _ (by first | exact .inl rfl | exact .inr rfl)) (KZ1.out.trans HZ.out.1.symm) (KZ2.out.trans HZ.out.2.symm) (Nat.le_trans KL1.out HLQ.out) (Nat.le_trans KL2.out HLR.out)
end Go.Proofs.YtbfbijokhlkekaaDoor

/- What the rows' condition on listed variables gives; a step of every row's proof. -/
namespace Go.Proofs.YtbfbijokhlkekaaDoor
open Go.ChangeShapes Go.WideShapes Go.ChangeAt Go.WideMaps Go.WideElems Go.RowKit

theorem own : ownKnob Tryd.prog.godebug = none := by kernel_rfl
/-- The list of the listed variables. -/
abbrev laidL : List (String × DataW Unit) := [("math/bits.deBruijn32tab", Rows.laid_math_bits_deBruijn32tab), ("math/bits.deBruijn64tab", Rows.laid_math_bits_deBruijn64tab), ("internal/strconv.uint64pow10", Rows.laid_internal_strconv_uint64pow10)]
theorem door_met (os : Os) (args : Array Value) : laidMetH Tryd.prog laidL ((World.doorLaid Tryd.prog 400 os).forCall (fun _ _ => 0) ⟨#[], args, []⟩).memory :=
  laidMetH_of_parts3 (fuel := 8) (laidMet_of_run' 8 (by kernel_rfl) (by kernel_rfl)) (by kernel_rfl) (by kernel_rfl)

theorem pow_is : Rows.laid_internal_strconv_uint64pow10 (H := Unit) = Lib.tabData .u64 Lib.pow10Tab := by kernel_rfl
theorem tab_of_laid {W : World} (h : laidMetH Tryd.prog laidL W) : Tab W.heap.size W := by
  rw [MakeChecks.laidMetH_plain _ _ _ (by kernel_rfl)] at h
  obtain ⟨ps, ⟨g0, t0, cs0, f0, p0, q0, hg0, ht0, hv0, hd0, ⟨g1, t1, cs1, f1, p1, q1, hg1, ht1, hv1, hd1, ⟨g2, t2, cs2, f2, p2, q2, hg2, ht2, hv2, hd2, _, _⟩, _⟩, _⟩, _, _⟩ := h
  have hg : Tryd.prog.globalNamed "internal/strconv.uint64pow10" = some g2 := hg2
  have hgg : Tryd.prog.globalNamed "internal/strconv.uint64pow10" = some 0 := by kernel_rfl
  have hty : (Tryd.prog.globals[0]?).map (·.type) = some 104 := by kernel_rfl
  obtain rfl := Option.some.inj (hgg.symm.trans hg2)
  obtain rfl := Option.some.inj (hty.symm.trans ht2)
  refine Lib.tabBelow_of_tabIs ?_
  unfold Lib.TabIs
  rw [hv2]
  rw [pow_is] at hd2
  rw [← Lib.cells_of_tab Tryd.underlying104 Tryd.underlying67 (by kernel_rfl) (by kernel_rfl) hd2]

/-- The last step of a row whose call makes memory and leaves the old memory as it was. -/
theorem post_below {H : Type} {enc : TypeId × Value → H} {P : Program} {f : Func} {s : ChangeSpec} {ap fr ho ag : Bool} {W W' : World} {args : Array Value} {v : Value} {ds gs : List (DataW H)} {before pa pv : List MemPlace}
    (hW : DataW.Whole enc P f.params.toList s.vars ap W args.toList ds gs before)
    (hres : ∀ (b : Nat) (sp : Nat → Bool) (hd : Bool), DataW.TrodAll enc P W' b sp hd f.resultTypes.toList (v.resultList f.resultTypes.size) (s.fn H (ds ++ gs)).results [])
    (hargs : ∀ sp : Nat → Bool, (∀ p ∈ before, sp p.block = true) → DataW.TrodAll enc P W' 0 sp true f.params.toList args.toList (s.fn H (ds ++ gs)).args pa)
    (hvars : ∀ sp : Nat → Bool, (∀ p ∈ before, sp p.block = true) → DataW.TrodVars enc P W' sp s.vars (s.fn H (ds ++ gs)).vars pv)
    (hps : before = pa ++ pv) (hb : Below W.heap.size W W')
    (hok : ∀ (j : Nat) (t : TypeId) (r : Value), f.resultTypes[j]? = some t → (v.resultList f.resultTypes.size)[j]? = some r → Value.okWide P W' .any 0 t r) : s.post enc P f ap fr ho ag W args v W' := by
  have hlt : ∀ p ∈ before, p.block < W.heap.size := fun p hp => hW.lt p hp
  have hin : ∀ p ∈ before, (fun b => decide (b < W.heap.size)) p.block = true := fun p hp => by simpa using hlt p hp
  refine ⟨ds, gs, before, [], pa, pv, hW, hres _ _ _, hargs _ hin, hvars _ hin, World.keptBut_mono (fun p hp => ⟨hp, .inr (List.mem_append.1 (hps ▸ hp))⟩) (hb.frame (· ∈ before)), fun _ => ?_⟩
  obtain ⟨_, _, _, _, _, hz, hn⟩ := hW
  refine ⟨hok, _, _, ([] ++ pa) ++ pv, ⟨[] ++ pa, pv, trodAll_append (hargs _ (fun _ _ => rfl)) (hres _ _ _), hvars _ (fun _ _ => rfl), rfl, fun b off hp => ?_, fun ha => ?_⟩, ?_⟩
  · have hbe : MemPlace.cell b off ∈ before := by rw [hps]; simpa using hp
    rw [hb.frozen (hlt _ hbe)]
    exact hz b off hbe
  · have h9 := hn ha
    rw [hps] at h9
    simpa using h9
  · intro p hp _
    rw [hps, ← List.nil_append pa]
    exact hp
end Go.Proofs.YtbfbijokhlkekaaDoor
