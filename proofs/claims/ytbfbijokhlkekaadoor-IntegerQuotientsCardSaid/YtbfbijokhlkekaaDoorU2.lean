/- Contracts of the functions that the statement reaches, part 2: what was proved of each, callees first. -/
import Derived.Deep.CutRange
import Derived.Lib.IndexBytes
import Derived.Test.YtbfbijokhlkekaaDoorU1
/- 'divideByLimb': quotient and remainder by one limb. -/
namespace Go.Proofs.YtbfbijokhlkekaaDoor
open Go.RowKit

/-- The quotient's limbs from the j-th on, and the rest. -/
structure DlInv (b : Nat) (L M : List Nat) (j r : Nat) : Prop where
  len : M.length = L.length
  low : ∀ k, k < j → nth M k = nth L k
  val : val9 (M.drop j) * b + r = val9 (L.drop j)
  lt : r < b
  lim : Lim M
theorem dl_step {b : Nat} {L M : List Nat} {j r : Nat} (hb : b < 1000000000) (hj : j < L.length) (hL : Lim L) (h : DlInv b L M (j + 1) r) :
    (r * 1000000000 + nth L j) / b < 1000000000 ∧ DlInv b L (M.set j ((r * 1000000000 + nth L j) / b)) j ((r * 1000000000 + nth L j) % b) := by
  have hb0 : 0 < b := by have := h.lt; omega
  have h1 : (r * 1000000000 + nth L j) / b < 1000000000 := by
    rw [Nat.div_lt_iff_lt_mul hb0]
    have h2 := h.lt
    have h3 := hL.nth j
    have h4 : (r + 1) * 1000000000 ≤ b * 1000000000 := Nat.mul_le_mul_right _ h2
    omega
  refine ⟨h1, by simp [h.len], fun k hk => ?_, ?_, Nat.mod_lt _ hb0, h.lim.set _ h1⟩
  · rw [nth_set_ne (by omega)]; exact h.low k (by omega)
  · rw [valB_drop9 (M.set j _) j, nth_set_eq (by rw [h.len]; exact hj), drop_set_low (by omega), valB_drop9 L j, ← h.val]
    have h5 := Nat.div_add_mod (r * 1000000000 + nth L j) b
    generalize (r * 1000000000 + nth L j) / b = x at *
    generalize (r * 1000000000 + nth L j) % b = y at *
    generalize val9 (M.drop (j + 1)) = v at *
    generalize nth L j = l at *
    clear h1 h hb hj hL hb0
    grind
theorem dl_start {b : Nat} {L : List Nat} (hL : Lim L) (hb : 0 < b) : DlInv b L L L.length 0 :=
  ⟨rfl, fun _ _ => rfl, by rw [List.drop_eq_nil_of_le (Nat.le_refl _)]; simp [valB], hb, hL⟩
theorem dl_end {b : Nat} {L M : List Nat} {r : Nat} (h : DlInv b L M 0 r) : val9 M * b + r = val9 L := by simpa using h.val

set_option maxRecDepth 20000 in
set_option maxHeartbeats 1600000 in
theorem divLimb_any (A : Option Addr) (c b : Nat) (L : List Nat) (w : World) (hl : L.length ≤ 1000000) (hL : Lim L) (hb0 : 0 < b) (hb : b < 1000000000) (hR : Row .u32 w w.heap.size A c L) :
    Calls Tryd.prog 69 #[.slice A L.length c, .int .u32 b] w fun e w' => ∃ A1 c1 Q A2 c2 R, e = .returned (.tuple #[.slice A1 (List.length Q) c1, .slice A2 (List.length R) c2]) ∧
      Row .u32 w' w'.heap.size A1 c1 Q ∧ Row .u32 w' w'.heap.size A2 c2 R ∧ Canon Q ∧ Canon R ∧ val9 Q * b + val9 R = val9 L ∧ val9 R < b ∧ List.length Q ≤ L.length ∧ List.length R ≤ 1 ∧ Below w.heap.size w w' := by
  have hCp := fun W h => copied_any A c L W (by omega) h
  have hst := dl_start (b := b) hL hb0
  generalize hl' : L.length = l at *
  have HL := Lib.hid hl'
  have HCp := Lib.hid hCp
  have HST := Lib.hid hst
  clear hl' hCp hst
  go_enter Tryd.func69, Tryd.ntmps69
  go_wp2_with fail
  refine (HCp.out _ hR).mono ?_
  rintro e w1 ⟨rfl, hb1, hB1⟩
  have hg := hb1.lt
  go_wp2_with fail
  go_loopw [6, 7] (fun rv iv wr => ∃ j M r, j ≤ l ∧ iv = .int .i64 ((j : Int) - 1) ∧ rv = .int .u64 (r : Nat) ∧ Blk .u32 68 wr w.heap.size M ∧ Hid (DlInv b L M j r) ∧ w1.grownBy wr (some w.heap.size)) (fun _ iv _ => (intOf iv + 1).toNat)
  case atStart => exact ⟨l, L, 0, Nat.le_refl _, rfl, rfl, hb1, HST.out, grown_refl _ _⟩
  case round =>
    obtain ⟨j, M, r, hj, rfl, rfl, hbk, hin, hgr⟩ := hrel
    rcases Nat.eq_zero_or_pos j with rfl | hpos
    · have hv := dl_end hin.out
      have hlen := hin.out.len
      have hlim := hin.out.lim
      have hrb : r < b := hin.out.lt
      clear hin
      rw [HL.out] at hlen
      have hT := trim_any (some ⟨w.heap.size, 0, none⟩) l w.heap.size 0 M wr (by omega) (by omega) (fun _ => rfl) hbk.cells
      rw [hlen] at hT
      have HT := Lib.hid hT
      have HV := Lib.hid hv
      have HLEN := Lib.hid hlen
      clear hT hv hlen
      go_wp2_with fail
      refine HT.out.mono ?_
      rintro e w4 ⟨rfl, rfl⟩
      go_wp2_with fail
      have hb2 : Blk .u32 68 (wr.alloc (.cells #[.int .u32 r] 68)) wr.heap.size [r] := by
        show _ = _
        rw [heap_alloc_new]; rfl
      have hT2 := trim_any (some ⟨wr.heap.size, 0, none⟩) 1 wr.heap.size 0 [r] _ (by simp) (by simp) (fun _ => rfl) hb2.cells
      have HT2 := Lib.hid hT2
      have hbm := hbk.alloc (.cells #[.int .u32 r] 68)
      have HB2 := Lib.hid hb2
      have HBM := Lib.hid hbm
      clear hT2 hb2 hbm hbk
      refine HT2.out.mono ?_
      rintro e w5 ⟨rfl, rfl⟩
      go_wp2_with fail
      go_ret2
      have hw5 : (wr.alloc (.cells #[.int .u32 r] 68)).heap.size = wr.heap.size + 1 := by simp
      obtain ⟨Q, q1, q2, q3, q4⟩ := trim_pack (B := wr.heap.size + 1) (c := l) HBM.out hlim (by have := HBM.out.lt; rw [hw5] at this; exact this) (by rw [HLEN.out]; exact Nat.le_refl _)
      obtain ⟨R, r1, r2, r3, r4⟩ := trim_pack (B := wr.heap.size + 1) (c := 1) HB2.out (fun d hd => by rw [List.mem_singleton] at hd; omega) (Nat.lt_succ_self _) (by simp)
      rw [HLEN.out] at q1
      rw [hw5]
      have hv1 : val9 [r] = r := by simp [valB]
      have t1 := trimN_le M l
      have t2 := trimN_le [r] 1
      refine ⟨_, _, Q, _, _, R, by rw [q1, r1]; rfl, q2, r2, q3, r3, by rw [q4, r4, hv1]; exact HV.out, by rw [r4, hv1]; exact hrb, by omega, by rw [r1]; exact t2, ?_⟩
      exact (grown_below hB1 hgr (Nat.le_refl _) hB1.size).alloc (by have := hgr.size; have := hB1.size; omega) _
    · obtain ⟨m, rfl⟩ : ∃ m, j = m + 1 := ⟨j - 1, by omega⟩
      have hm1 : ((m + 1 : Nat) : Int) - 1 = m := by omega
      have hs := dl_step hb (by rw [HL.out]; omega) hL hin.out
      have hlo := hin.out.low m (by omega)
      have hc := hbk.cell m (by rw [hin.out.len, HL.out]; omega)
      rw [hlo] at hc
      have hfr := hbk.frozen m
      have hr : r < b := hin.out.lt
      have hx := hL.nth m
      generalize nth L m = x at *
      have hq1 : (((r : Int) * 1000000000 + x) / b) ≤ 999999999 := by
        have := hs.1
        have e : (((r * 1000000000 + x) / b : Nat) : Int) = ((r : Int) * 1000000000 + x) / b := by simp
        omega
      have hq0 : 0 ≤ (((r : Int) * 1000000000 + x) / b) := Int.ediv_nonneg (by omega) (by omega)
      have HS := Lib.hid hs
      clear hs hlo hm1
      go_wp2
      go_roundw
      case rel =>
        have e1 := hbk.setI m (v := ((r : Int) * 1000000000 + x) / b) (x := (r * 1000000000 + x) / b) (by simp)
        exact ⟨m, _, _, by omega, rfl, by simp, e1, HS.out.2, grown_set hgr _ _⟩
      case measure => simp [intOf]
end Go.Proofs.YtbfbijokhlkekaaDoor

/- 'estimate': the quotient of the three highest limbs and the two highest ones. -/
namespace Go.Proofs.YtbfbijokhlkekaaDoor
open Go.RowKit

/-- A guess d with what is left, r, of the two highest limbs H: not too small. -/
structure EsInv (H p f s d r : Nat) : Prop where
  eq : d * f + r = H
  up : H * 1000000000 + p < (d + 1) * (f * 1000000000 + s)
  r5 : r < 5000000000
theorem es_start {H p f s : Nat} (hf : 0 < f) (hf2 : f < 1000000000) (hp : p < 1000000000) : EsInv H p f s (H / f) (H % f) := by
  have h1 := Nat.div_add_mod H f
  have h2 := Nat.mod_lt H hf
  refine ⟨by rw [Nat.mul_comm]; exact h1, ?_, by omega⟩
  have h3 : H + 1 ≤ (H / f + 1) * f := by rw [Nat.add_mul, Nat.mul_comm]; omega
  have h4 : (H + 1) * 1000000000 ≤ (H / f + 1) * f * 1000000000 := Nat.mul_le_mul_right _ h3
  rw [Nat.mul_add, ← Nat.mul_assoc]
  omega
theorem es_d {H p f s d r : Nat} (h : EsInv H p f s d r) (hH : H < 1000000000000000000) (hf : 1000000000 ≤ 4 * f) : d ≤ 4000000000 := by
  have h1 := h.eq
  rcases Nat.lt_or_ge 4000000000 d with h2 | h2
  · exfalso
    have h3 : 4000000001 * f ≤ d * f := Nat.mul_le_mul_right _ h2
    omega
  · exact h2
theorem es_lin {x r H p y : Nat} (h : x + r = H) (hc : r * 1000000000 + p < y) : H * 1000000000 + p < x * 1000000000 + y := by
  subst h
  rw [Nat.add_mul, Nat.add_assoc]
  exact Nat.add_lt_add_left hc _
theorem es_step {H p f s d r : Nat} (h : EsInv H p f s d r) (hc : r * 1000000000 + p < d * s) (hd : d ≤ 4000000000) (hs : s < 1000000000) (hf : f < 1000000000) : 0 < d ∧ EsInv H p f s (d - 1) (r + f) := by
  have h0 : 0 < d := by
    rcases Nat.eq_zero_or_pos d with h0 | h0
    · subst h0; omega
    · exact h0
  obtain ⟨e, rfl⟩ : ∃ e, d = e + 1 := ⟨d - 1, by omega⟩
  refine ⟨h0, ?_, ?_, ?_⟩
  · have := h.eq
    rw [Nat.add_mul] at this
    simp; omega
  · have := h.eq
    rw [Nat.add_sub_cancel]
    have e1 : (e + 1) * (f * 1000000000 + s) = ((e + 1) * f) * 1000000000 + (e + 1) * s := by rw [Nat.mul_add, Nat.mul_assoc]
    obtain ⟨x, hx⟩ : ∃ x, (e + 1) * f = x := ⟨_, rfl⟩
    obtain ⟨y, hy⟩ : ∃ y, (e + 1) * s = y := ⟨_, rfl⟩
    rw [e1, hx, hy]
    rw [hx] at this
    rw [hy] at hc
    exact es_lin this hc
  · have h1 := Nat.mul_le_mul_right s hd
    obtain ⟨y, hy⟩ : ∃ y, (e + 1) * s = y := ⟨_, rfl⟩
    rw [hy] at h1 hc
    clear hy
    omega
theorem es_end {H p f s d r : Nat} (h : EsInv H p f s d r) (hc : d * s ≤ r * 1000000000 + p) : (H * 1000000000 + p) / (f * 1000000000 + s) = d := by
  refine Nat.div_eq_of_lt_le ?_ h.up
  have h1 := h.eq
  have e1 : d * (f * 1000000000 + s) = (d * f) * 1000000000 + d * s := by rw [Nat.mul_add, Nat.mul_assoc]
  obtain ⟨x, hx⟩ : ∃ x, d * f = x := ⟨_, rfl⟩
  rw [e1, hx]
  rw [hx] at h1
  clear e1 hx
  omega

set_option maxRecDepth 20000 in
set_option maxHeartbeats 3200000 in
theorem estimate_any (g i m c : Nat) (A' : Option Addr) (c' : Nat) (M D : List Nat) (w : World) (hm : i + m + 3 ≤ M.length) (hml : M.length ≤ 2000000) (hD : D.length = m + 2) (hc3 : m + 3 ≤ c)
    (hM : Lim M) (hDl : Lim D) (h4 : 1000000000 ≤ 4 * nth D (m + 1)) (hblk : Blk .u32 68 w g M) (hR : Row .u32 w w.heap.size A' c' D) :
    Calls Tryd.prog 80 #[.slice (some ⟨g, i, none⟩) (m + 3 : Nat) c, .slice A' (m + 2 : Nat) c'] w fun e w' => e = .returned (.int .u64 ((top3 M (i + m) / top2 D (m + 2) : Nat) : Int)) ∧ ∃ nq, w' = w.drewN nq := by
  obtain ⟨b, o, rfl, hbB, hcs⟩ := hR.spot (by omega)
  have k1 := hblk.cell (i + (m + 2)) (by omega)
  have k2 := hblk.cell (i + (m + 1)) (by omega)
  have k3 := hblk.cell (i + m) (by omega)
  have k4 := hcs (m + 1) (by omega)
  have k5 := hcs m (by omega)
  have x1 := hM.nth (i + (m + 2))
  have x2 := hM.nth (i + (m + 1))
  have x3 := hM.nth (i + m)
  have x4 := hDl.nth (m + 1)
  have x5 := hDl.nth m
  have hgoal : Hid (top3 M (i + m) / top2 D (m + 2) = ((nth M (i + (m + 2)) * 1000000000 + nth M (i + (m + 1))) * 1000000000 + nth M (i + m)) / (nth D (m + 1) * 1000000000 + nth D m)) := rfl
  have hc' := hR.len
  rw [hD] at hc'
  generalize top3 M (i + m) / top2 D (m + 2) = G at *
  generalize nth M (i + (m + 2)) = p2 at *
  generalize nth M (i + (m + 1)) = p1 at *
  generalize nth M (i + m) = p0 at *
  generalize nth D (m + 1) = f at *
  generalize nth D m = s at *
  have b1 : (0 : Int) ≤ (m : Int) + 2 := by omega
  have b2 : (m : Int) + 2 < (m : Int) + 3 := by omega
  have b3 : (m : Int) + 2 - 1 = (m : Int) + 1 := by omega
  have b4 : (m : Int) + 2 - 2 = (m : Int) := by omega
  clear hcs hR
  go_enter Tryd.func80, Tryd.ntmps80
  go_wp2
  go_quiet (fail)
  go_wp2
  have hH : ((p2 : Int) * 1000000000 + p1) = ((p2 * 1000000000 + p1 : Nat) : Int) := by simp
  rw [hH]
  clear hH
  have hH2 : p2 * 1000000000 + p1 < 1000000000000000000 := by omega
  obtain ⟨H, hHe⟩ : ∃ H : Nat, p2 * 1000000000 + p1 = H := ⟨_, rfl⟩
  have HG := Lib.hid hgoal.out
  clear hgoal
  rw [hHe]
  rw [hHe] at hH2
  have HHE := Lib.hid hHe
  clear hHe
  have hst := es_start (H := H) (p := p0) (f := f) (s := s) (by omega) x4 x3
  have hf0 : (f : Int) ≠ 0 := by omega
  have hb1 : (0 : Int) ≤ (H : Int) / (f : Int) := Int.ediv_nonneg (by omega) (by omega)
  have hb2 : (H : Int) / (f : Int) ≤ 4000000000 := by
    have := es_d hst hH2 h4
    have e : ((H / f : Nat) : Int) = (H : Int) / (f : Int) := by simp
    omega
  have HST := Lib.hid hst
  clear hst
  go_quiet (fail)
  go_wp2
  go_quiet (fail)
  go_wp2
  go_loop [9, 10] (fun dv rv => ∃ d r : Nat, dv = .int .u64 (d : Int) ∧ rv = .int .u64 (r : Int) ∧ Hid (EsInv H p0 f s d r)) (fun dv _ => (intOf dv).toNat)
  case atStart => exact ⟨H / f, H % f, by simp, by simp, HST.out⟩
  case round =>
    obtain ⟨d, r, rfl, rfl, hin⟩ := hrel
    have hd4 := es_d hin.out hH2 h4
    have hr5 := hin.out.r5
    have hds : (d : Int) * (s : Int) ≤ 4000000000000000000 := by
      have h1 := Nat.mul_le_mul hd4 (Nat.le_of_lt x5)
      have e : ((d * s : Nat) : Int) = (d : Int) * (s : Int) := by simp
      omega
    have hds0 := mul_nonnegI d s
    by_cases hc : (r : Int) * 1000000000 + p0 < (d : Int) * s
    · have hs := es_step hin.out (by have e : ((d * s : Nat) : Int) = (d : Int) * (s : Int) := by simp
                                     omega) hd4 x5 x4
      have hd0 := hs.1
      have HS := Lib.hid hs.2
      clear hs hin
      go_wp2
      go_round
      case rel => exact ⟨d - 1, by omega, r + f, by simp, HS.out⟩
      case measure => simp [intOf]; omega
    · have he := es_end hin.out (by have e : ((d * s : Nat) : Int) = (d : Int) * (s : Int) := by simp
                                    omega)
      have HE := Lib.hid he
      clear he hin
      go_wp2
      go_ret
      exact ⟨ret_int (by rw [HG, HHE.out, HE.out]), ⟨_, rfl⟩⟩
end Go.Proofs.YtbfbijokhlkekaaDoor

/- 'subtractMultiple' takes a multiple of a row away from a part of another one, in place. -/
namespace Go.Proofs.YtbfbijokhlkekaaDoor
open Go.RowKit

set_option maxRecDepth 20000 in
set_option maxHeartbeats 3200000 in
theorem subMul_any (g o n c d : Nat) (A' : Option Addr) (c' : Nat) (M D : List Nat) (w : World) (hn : o + n ≤ M.length) (hm : M.length ≤ 3000000) (hl : D.length ≤ 1000000) (hd : d ≤ 4000000000)
    (hM : Lim M) (hD : Lim D) (hblk : Blk .u32 68 w g M) (hR : Row .u32 w g A' c' D) :
    Calls Tryd.prog 81 #[.slice (some ⟨g, o, none⟩) n c, .slice A' D.length c', .int .u64 (d : Int)] w fun e w' => e = .returned (.bool (decide ((smSt o d D M n).2 = 0))) ∧ Blk .u32 68 w' g (smSt o d D M n).1 ∧ w.grownBy w' (some g) := by
  generalize hl' : D.length = l at *
  have HL := Lib.hid hl'
  clear hl'
  go_enter Tryd.func81, Tryd.ntmps81
  go_wp2
  go_loopw [7, 12] (fun cv iv wr => ∃ k : Nat, k ≤ n ∧ iv = .int .i64 k ∧ cv = .int .u64 ((smSt o d D M k).2 : Int) ∧ Blk .u32 68 wr g (smSt o d D M k).1 ∧ w.grownBy wr (some g)) (fun _ iv _ => n - (intOf iv).toNat)
  case atStart => exact ⟨0, Nat.zero_le _, rfl, rfl, hblk, grown_refl _ _⟩
  case round =>
    obtain ⟨k, hk, rfl, rfl, hb, hgr⟩ := hrel
    obtain ⟨h1, h2, h3⟩ := smSt_ok (o := o) (d := d) hD hM k
    have HS := Lib.hid (smSt_succ o d D M k)
    generalize hs : smSt o d D M k = s at *
    have HK := Lib.hid hs
    clear hs
    obtain ⟨S, x⟩ := s
    dsimp only at *
    by_cases hlt : k < n
    · have hc := hb.cell (o + k) (by omega)
      have hfr := hb.frozen (o + k)
      have b1 := h1.nth (o + k)
      have b2 := hD.nth k
      by_cases hkl : k < l
      · obtain ⟨b', o', rfl, hbg, hcell'⟩ := hR.spot (by rw [HL.out]; omega)
        have hc' := (hcell'.grown hgr (by have := hblk.lt; omega) (by intro e; injection e; omega)) k (by rw [HL.out]; exact hkl)
        have b3 := mul_nonnegI d (nth D k)
        have b4 : (d : Int) * (nth D k : Int) ≤ 4000000000000000000 := by
          have h1 := Nat.mul_le_mul hd (Nat.le_of_lt b2)
          have e : ((d * nth D k : Nat) : Int) = (d : Int) * (nth D k : Int) := by simp
          omega
        have hcast : (((x + d * nth D k : Nat) : Int)) = (x : Int) + (d : Int) * (nth D k : Int) := by simp
        have HCAST := Lib.hid hcast
        clear hcell' hcast
        by_cases hbo : (nth S (o + k) : Int) < ((x : Int) + (d : Int) * (nth D k : Int)) % 1000000000
        · go_wp2
          go_roundw
          case rel =>
            have E := HS.out
            have hbn : nth S (o + k) < (x + d * nth D k) % 1000000000 := by rw [← HCAST.out] at hbo; omega
            rw [if_pos hbn] at E
            have e1 := (hb.setI (o + k) (v := (nth S (o + k) : Int) + 1000000000) (x := nth S (o + k) + 1000000000) (by omega)).setI (o + k) (v := (nth S (o + k) : Int) + 1000000000 - ((x : Int) + (d : Int) * (nth D k : Int)) % 1000000000) (x := nth S (o + k) + 1000000000 - (x + d * nth D k) % 1000000000) (by rw [← HCAST.out]; omega)
            rw [List.set_set] at e1
            exact ⟨k + 1, by omega, by go_num, by rw [E]; simp, by rw [E]; exact e1, grown_set (grown_set hgr _ _) _ _⟩
          case measure => simp [intOf]; omega
        · go_wp2
          go_roundw
          case rel =>
            have E := HS.out
            have hbn : ¬ nth S (o + k) < (x + d * nth D k) % 1000000000 := by rw [← HCAST.out] at hbo; omega
            rw [if_neg hbn] at E
            have e1 := hb.setI (o + k) (v := (nth S (o + k) : Int) - ((x : Int) + (d : Int) * (nth D k : Int)) % 1000000000) (x := nth S (o + k) - (x + d * nth D k) % 1000000000) (by rw [← HCAST.out]; omega)
            exact ⟨k + 1, by omega, by go_num, by rw [E]; simp, by rw [E]; exact e1, grown_set hgr _ _⟩
          case measure => simp [intOf]; omega
      · have hz : nth D k = 0 := nth_ge (by rw [HL.out]; omega)
        have HZ := Lib.hid hz
        clear hz
        by_cases hbo : (nth S (o + k) : Int) < (x : Int) % 1000000000
        · go_wp2
          go_roundw
          case rel =>
            have E := HS.out
            simp only [HZ.out, Nat.mul_zero, Nat.add_zero] at E
            rw [if_pos (by omega)] at E
            have e1 := (hb.setI (o + k) (v := (nth S (o + k) : Int) + 1000000000) (x := nth S (o + k) + 1000000000) (by omega)).setI (o + k) (v := (nth S (o + k) : Int) + 1000000000 - (x : Int) % 1000000000) (x := nth S (o + k) + 1000000000 - x % 1000000000) (by omega)
            rw [List.set_set] at e1
            exact ⟨k + 1, by omega, by go_num, by rw [E]; simp, by rw [E]; exact e1, grown_set (grown_set hgr _ _) _ _⟩
          case measure => simp [intOf]; omega
        · go_wp2
          go_roundw
          case rel =>
            have E := HS.out
            simp only [HZ.out, Nat.mul_zero, Nat.add_zero] at E
            rw [if_neg (by omega)] at E
            have e1 := hb.setI (o + k) (v := (nth S (o + k) : Int) - (x : Int) % 1000000000) (x := nth S (o + k) - x % 1000000000) (by omega)
            exact ⟨k + 1, by omega, by go_num, by rw [E]; simp, by rw [E]; exact e1, grown_set hgr _ _⟩
          case measure => simp [intOf]; omega
    · obtain rfl : k = n := by omega
      go_wp2
      go_ret
      exact ⟨by rw [HK.out]; by_cases hx : x = 0 <;> simp [hx], by rw [HK.out]; exact hb, hgr⟩
end Go.Proofs.YtbfbijokhlkekaaDoor

/- 'add' where the second row is the longer one. -/
namespace Go.Proofs.YtbfbijokhlkekaaDoor
open Go.RowKit

set_option maxHeartbeats 800000 in
theorem add_short (A A' : Option Addr) (c c' : Nat) (L M : List Nat) (w : World) (hl : L.length ≤ 1000000) (hml : M.length < L.length)
    (hL : Lim L) (hM : Lim M) (hR : Row .u32 w w.heap.size A c L) (hR' : Row .u32 w w.heap.size A' c' M) :
    Calls Tryd.prog 50 #[.slice A' M.length c', .slice A L.length c] w fun e w' =>
      let R := (addSt 0 M (L ++ [0]) (L.length + 1)).1
      e = .returned (.slice (some ⟨w.heap.size, 0, none⟩) (trimN R (L.length + 1)) (L.length + 1)) ∧ Blk .u32 68 w' w.heap.size R ∧ Below w.heap.size w w' := by
  obtain ⟨i0, hi, hz0, hz1, hz2⟩ := info_parts info68
  generalize hl' : L.length = l at *
  generalize hm' : M.length = m at *
  have HL := Lib.hid hl'
  have HM := Lib.hid hm'
  clear hl' hm'
  have hyes : m < l := by omega
  go_enter Tryd.func50, Tryd.ntmps50
  go_wp2_with (first
    | (refine wpList_make_zeros _ rfl (.tmp 15) (.tmp 15) 23 rfl 68 .u32 i0 4 Tryd.underlying23 hi hz0 hz1 hz2 .i64 .i64 _ _ (l + 1) rfl rfl (by omega) (by omega) (by omega) (by omega) ?_; intro w1 hb1 hB1 hs1)
    | (refine wpList_copy_row rfl (.tmp 17) (.tmp 18) 23 23 rfl 68 Tryd.underlying23 size68 .u32 68 w.heap.size (l + 1) (l + 1) c A (List.replicate (l + 1) 0) L rfl (by rw [HL.out]; rfl) hb1.out (hR.below hB1) (by rw [HL.out]; omega) (by simp) ?_; intro w2 hb2 hB2)
    | fail)
  have hb3 := hb2.out
  have e1 : splice (List.replicate (l + 1) 0) 0 L = L ++ [0] := by
    simp [splice, HL.out]
  rw [e1] at hb3
  have hlen : (L ++ [0]).length = l + 1 := by simp [HL.out]
  have hA := addTo_any w.heap.size 0 (l + 1) (l + 1) A' c' (L ++ [0]) M w2 (by omega) (by omega) (by rw [HM.out]; omega)
    (by intro d hd; rcases List.mem_append.1 hd with h | h; exact hL d h; simp at h; omega) hM hb3 ((hR'.below hB1).below hB2)
  rw [HM.out] at hA
  clear hlen e1 hb2 hb1 hb3
  refine hA.mono ?_
  rintro e w3 ⟨rfl, hb4, hg4⟩
  have hB4 : Below w.heap.size w w3 := grown_below (hB1.trans hB2) hg4 (Nat.le_refl _) (hB1.trans hB2).size
  have H4 := Lib.hid hb4
  have ok := addSt_ok (o := 0) hM (M := L ++ [0]) (by intro d hd; rcases List.mem_append.1 hd with h | h; exact hL d h; simp at h; omega) (l + 1)
  have hlen : (addSt 0 M (L ++ [0]) (l + 1)).1.length = l + 1 := by rw [ok.2.2]; simp [HL.out]
  have hT := trim_any (some ⟨w.heap.size, 0, none⟩) (l + 1) w.heap.size 0 (addSt 0 M (L ++ [0]) (l + 1)).1 w3 (by omega) (by omega) (fun _ => rfl) hb4.cells
  rw [hlen] at hT
  clear ok hlen hb4
  go_wp2_with fail
  refine hT.mono ?_
  rintro e w4 ⟨rfl, rfl⟩
  go_wp2_with fail
  go_ret
  exact ⟨rfl, H4.out, hB4⟩
end Go.Proofs.YtbfbijokhlkekaaDoor

/- 'Neg', 'Cmp', 'Add' and 'Sub' of integers. -/
namespace Go.Proofs.YtbfbijokhlkekaaDoor
open Go.RowKit

theorem Row.apart {k : IntKind} {w : World} {B g o c : Nat} {L : List Nat} (h : Row k w B (some ⟨g, o, none⟩) c L) {p : Addr} (hp : p.block ≠ g) (u : Value) : Row k (w.setCell p u) B (some ⟨g, o, none⟩) c L :=
  ⟨h.len, fun h0 => by
    obtain ⟨b, o', e, hb, hc⟩ := h.spot h0
    have e2 := Option.some.inj e
    injection e2 with e3 e4 e5
    subst e3
    exact ⟨_, o', e, hb, hc.keep fun j => World.cell?_setCell_other _ _ _ _ (fun e => hp (congrArg Addr.block e))⟩⟩
theorem compare_row (A A' : Option Addr) (c c' : Nat) (L M : List Nat) (w : World) (hl : L.length ≤ 1000000) (hm : M.length ≤ 1000000) (hR : Row .u32 w w.heap.size A c L) (hR' : Row .u32 w w.heap.size A' c' M) (hL : Canon L) (hM : Canon M) :
    Calls Tryd.prog 51 #[.slice A L.length c, .slice A' M.length c'] w fun e w' => e = .returned (.int .i64 (cmpZ (val9 L) (val9 M))) ∧ ∃ n, w' = w.drewN n := by
  have H : ∃ b o, (0 < L.length → A = some ⟨b, o, none⟩) ∧ Cells .u32 w b o L := by
    rcases Nat.eq_zero_or_pos L.length with h | h
    · exact ⟨0, 0, fun h1 => by omega, fun j hj => by omega⟩
    · obtain ⟨b, o, e, _, hc⟩ := hR.spot h; exact ⟨b, o, fun _ => e, hc⟩
  have H' : ∃ b o, (0 < M.length → A' = some ⟨b, o, none⟩) ∧ Cells .u32 w b o M := by
    rcases Nat.eq_zero_or_pos M.length with h | h
    · exact ⟨0, 0, fun h1 => by omega, fun j hj => by omega⟩
    · obtain ⟨b, o, e, _, hc⟩ := hR'.spot h; exact ⟨b, o, fun _ => e, hc⟩
  obtain ⟨b, o, h1, h2⟩ := H
  obtain ⟨b', o', h3, h4⟩ := H'
  rw [← cmpL_val hL hM]
  exact compare_any A A' c b o c' b' o' L M w hl hm h1 h2 h3 h4
theorem zI_neg (n : Bool) {L R : List Nat} (h : val9 R = val9 L) (h0 : R.length = 0 → val9 R = 0) : zI ((!n) && decide (0 < R.length)) R = - zI n L := by
  unfold zI
  rcases Nat.eq_zero_or_pos R.length with h1 | h1
  · have h2 := h0 h1
    have e : (decide (0 < R.length)) = false := by rw [decide_eq_false_iff_not]; omega
    rw [e, Bool.and_false]
    rw [h] at h2 ⊢
    rw [h2]
    cases n <;> simp
  · have e : (decide (0 < R.length)) = true := by rw [decide_eq_true_iff]; omega
    rw [e, Bool.and_true, h]
    cases n <;> simp

set_option maxRecDepth 20000 in
set_option maxHeartbeats 3200000 in
theorem neg_any (n : Bool) (A : Option Addr) (c : Nat) (L : List Nat) (w : World) (hl : L.length ≤ 500000) (hL : IntR w w.heap.size n A c L) :
    Calls Tryd.prog 28 #[.agg #[.bool n, .slice A L.length c]] w fun e w' => ∃ k A c, e = .returned (.agg #[.bool k, .slice A L.length c]) ∧
      IntR w' w'.heap.size k A c L ∧ zI k L = - zI n L ∧ Below w.heap.size w w' := by
  have hM2 := fun W h1 => copied_any A c L W (by omega) h1
  have HM2 := Lib.hid hM2
  clear hM2
  have hz := zI_neg n (L := L) (R := L) rfl val9_nil
  have HZ := Lib.hid hz
  clear hz
  generalize hl' : L.length = l at *
  have HLL := Lib.hid hl'
  clear hl'
  go_enter Tryd.func28, Tryd.ntmps28
  go_wp2
  have hne1 : ¬ w.heap.size = w.heap.size + 1 := by omega
  have hne2 : ¬ w.heap.size + 1 = w.heap.size := by omega
  go_region_held3 (fun w' => w'.cell? ⟨w.heap.size, 0, none⟩ = some (.bool n) ∧ w'.cell? ⟨w.heap.size, 1, none⟩ = some (.slice A l c)) (go_keep)
    (first
      | (go_at_call 56; (with_reducible refine (HM2.out _ (hL.row.up (below_drew (below_a2 _ _ _)))).mono ?_); rintro e w1 ⟨rfl, hk1, hb1⟩; have X := two (below_undrew hb1); have hq1 := X.1; have hq2 := X.2.1; have hq3 := X.2.2.1; have hq4 := X.2.2.2.1; have hq5 := X.2.2.2.2.1; have hq6 := X.2.2.2.2.2.1; have hs1 := X.2.2.2.2.2.2.1; have HB1 := Lib.hid X.2.2.2.2.2.2.2; clear X hb1)
      | (go_at_call 42; refine (signed_any _ _ _ _ _).mono ?_; rintro e w2 ⟨rfl, hb2⟩; have HB2 := Lib.hid (below_then HB1.out hb2 hs1); have hk2 := hk1.below hb2 hk1.lt; have hs2 := hb2.size; clear hq1 hq2 hq3 hq4 hq5 hq6 hb2; have X := two' HB2.out; have hq1 := X.1; have hq2 := X.2.1; have hq3 := X.2.2.1; have hq4 := X.2.2.2.1; have hq5 := X.2.2.2.2.1; have hq6 := X.2.2.2.2.2.1; clear X))
  all_goals
    go_wp2
    have hbw : Below w.heap.size w w2 := (below_a2 w _ _).trans (Below.less HB2.out (by omega))
    refine bodyPost_ret (v := .agg #[.bool ((!n) && decide (0 < l)), .slice (some ⟨w.heap.size + 1 + 1, 0, none⟩) l l]) (by simp [results, Tryd.results28, go_sem, hq3, hq4]) rfl
      ⟨_, _, _, rfl, ?_, by rw [← HZ.out], (hbw.setCell (by simp) _).setCell (by simp) _⟩
    rw [setCell_size, setCell_size]
    have hk3 : Blk .u32 68 w2 (w.heap.size + 1 + 1) L := by simpa using hk2
    have hr : Row .u32 w2 w2.heap.size (some ⟨w.heap.size + 1 + 1, 0, none⟩) l L := Row.ofBlk hk3 hk3.lt (by rw [HLL.out]; exact Nat.le_refl _)
    refine ⟨(hr.apart (by simp) _).apart (by simp) _, hL.canon, fun hk hR => ?_⟩
    have h9 : l = 0 := by rw [← HLL.out, hR]; rfl
    rw [h9] at hk
    simp at hk

/-- The order of two integers as -1, 0, 1. -/
def cmpI (x y : Int) : Int := if x < y then -1 else if x = y then 0 else 1
theorem cmpZ_I (x y : Nat) : cmpZ x y = cmpI x y := by
  unfold cmpZ cmpI
  by_cases h1 : x < y
  · rw [if_pos h1, if_pos (by omega)]
  · rw [if_neg h1, if_neg (by omega : ¬ (x : Int) < (y : Int))]
    by_cases h2 : x = y
    · rw [if_pos h2, if_pos (by omega)]
    · rw [if_neg h2, if_neg (by omega : ¬ (x : Int) = (y : Int))]
theorem cmpZ_neg (x y : Nat) : cmpZ x y = cmpI (-(y : Int)) (-(x : Int)) := by
  unfold cmpZ cmpI
  by_cases h1 : x < y
  · rw [if_pos h1, if_pos (by omega)]
  · rw [if_neg h1, if_neg (by omega : ¬ -(y : Int) < -(x : Int))]
    by_cases h2 : x = y
    · rw [if_pos h2, if_pos (by omega)]
    · rw [if_neg h2, if_neg (by omega : ¬ -(y : Int) = -(x : Int))]

set_option maxRecDepth 20000 in
set_option maxHeartbeats 3200000 in
theorem cmp_any (n m : Bool) (A A' : Option Addr) (c c' : Nat) (L M : List Nat) (w : World) (hl : L.length ≤ 1000000) (hml : M.length ≤ 1000000)
    (hL : IntR w w.heap.size n A c L) (hM : IntR w w.heap.size m A' c' M) :
    Calls Tryd.prog 30 #[.agg #[.bool n, .slice A L.length c], .agg #[.bool m, .slice A' M.length c']] w fun e w' => e = .returned (.int .i64 (cmpI (zI n L) (zI m M))) ∧ Below w.heap.size w w' := by
  have hc0 := fun W (h1 : Row .u32 W W.heap.size A c L) (h2 : Row .u32 W W.heap.size A' c' M) => compare_row A A' c c' L M W hl hml h1 h2 hL.canon hM.canon
  have hc1 := fun W (h1 : Row .u32 W W.heap.size A c L) (h2 : Row .u32 W W.heap.size A' c' M) => compare_row A' A c' c M L W hml hl h2 h1 hM.canon hL.canon
  have HC0 := Lib.hid hc0
  have HC1 := Lib.hid hc1
  have hp1 : n = true → 0 < val9 L := fun h => Nat.pos_of_ne_zero (canon_pos hL.canon (List.length_pos_iff.2 (hL.sgn h)))
  have hp2 : m = true → 0 < val9 M := fun h => Nat.pos_of_ne_zero (canon_pos hM.canon (List.length_pos_iff.2 (hM.sgn h)))
  have HP1 := Lib.hid hp1
  have HP2 := Lib.hid hp2
  clear hc0 hc1 hp1 hp2
  generalize hl' : L.length = l at *
  generalize hm' : M.length = l2 at *
  have HLL := Lib.hid hl'
  have HML := Lib.hid hm'
  clear hl' hm'
  cases n
  · cases m
    · go_enter Tryd.func30, Tryd.ntmps30
      go_wp2_with fail
      refine (HC0.out _ (hL.row.up (below_a2 _ _ _)) (hM.row.up (below_a2 _ _ _))).mono ?_
      rintro e w1 ⟨rfl, nq, rfl⟩
      go_wp2_with fail
      go_ret
      exact ⟨ret_int (by rw [cmpZ_I]; rfl), below_drewN (below_a2 _ _ _) _⟩
    · go_enter Tryd.func30, Tryd.ntmps30
      go_wp2_with fail
      go_ret
      have := HP2.out (by first | trivial | rfl)
      exact ⟨ret_int (by unfold cmpI zI; simp; omega), below_a2 _ _ _⟩
  · cases m
    · go_enter Tryd.func30, Tryd.ntmps30
      go_wp2_with fail
      go_ret
      have := HP1.out (by first | trivial | rfl)
      exact ⟨ret_int (by unfold cmpI zI; simp; omega), below_a2 _ _ _⟩
    · go_enter Tryd.func30, Tryd.ntmps30
      go_wp2_with fail
      refine (HC1.out _ (hL.row.up (below_a2 _ _ _)) (hM.row.up (below_a2 _ _ _))).mono ?_
      rintro e w1 ⟨rfl, nq, rfl⟩
      go_wp2_with fail
      go_ret
      exact ⟨ret_int (by rw [cmpZ_neg]; rfl), below_drewN (below_a2 _ _ _) _⟩

theorem addZI (n : Bool) {L M R : List Nat} (h : val9 R = val9 L + val9 M) (h0 : R.length = 0 → val9 R = 0) : zI (n && decide (0 < R.length)) R = zI n L + zI n M := by
  unfold zI
  rcases Nat.eq_zero_or_pos R.length with h1 | h1
  · have h2 := h0 h1
    have e : (decide (0 < R.length)) = false := by rw [decide_eq_false_iff_not]; omega
    rw [e, Bool.and_false]
    cases n <;> simp <;> omega
  · have e : (decide (0 < R.length)) = true := by rw [decide_eq_true_iff]; omega
    rw [e, Bool.and_true]
    cases n <;> simp <;> omega
theorem subZI (n : Bool) {L M R : List Nat} (h : val9 R + val9 M = val9 L) (h0 : R.length = 0 → val9 R = 0) : zI (n && decide (0 < R.length)) R = zI n L + zI (!n) M := by
  unfold zI
  rcases Nat.eq_zero_or_pos R.length with h1 | h1
  · have h2 := h0 h1
    have e : (decide (0 < R.length)) = false := by rw [decide_eq_false_iff_not]; omega
    rw [e, Bool.and_false]
    cases n <;> simp <;> omega
  · have e : (decide (0 < R.length)) = true := by rw [decide_eq_true_iff]; omega
    rw [e, Bool.and_true]
    cases n <;> simp <;> omega

theorem adds2 (A A' : Option Addr) (c c' : Nat) (L M : List Nat) (w : World) (hl : L.length ≤ 500000) (hml : M.length < L.length)
    (hL : Lim L) (hM : Lim M) (hR : Row .u32 w w.heap.size A c L) (hR' : Row .u32 w w.heap.size A' c' M) :
    Calls Tryd.prog 50 #[.slice A' M.length c', .slice A L.length c] w fun e w' => ∃ g c R, e = .returned (.slice (some ⟨g, 0, none⟩) R.length c) ∧
      Row .u32 w' w'.heap.size (some ⟨g, 0, none⟩) c R ∧ Canon R ∧ val9 R = val9 L + val9 M ∧ R.length ≤ L.length + 1 ∧ Below w.heap.size w w' ∧ w.heap.size ≤ g := by
  refine (add_short A A' c c' L M w (by omega) hml hL hM hR hR').mono ?_
  rintro e w' ⟨rfl, hb, hbw⟩
  have hL0 : Lim (L ++ [0]) := by intro d hd; rcases List.mem_append.1 hd with h | h; exact hL d h; simp at h; omega
  have hok := addSt_ok (o := 0) hM hL0 (L.length + 1)
  have hv := addSt_val (o := 0) hM hL0 (L.length + 1) (by simp)
  rw [valB_take_over _ _ _ (by omega), valB_append] at hv
  have hlen : (addSt 0 M (L ++ [0]) (L.length + 1)).1.length = L.length + 1 := by rw [hok.2.2]; simp
  have h1 := valB_lt hL
  have h2 := valB_lt hM
  have h3 : (1000000000 : Nat) ^ M.length ≤ 1000000000 ^ L.length := Nat.pow_le_pow_right (by omega) (by omega)
  have hc0 : (addSt 0 M (L ++ [0]) (L.length + 1)).2 = 0 := by
    rcases Nat.eq_zero_or_pos (addSt 0 M (L ++ [0]) (L.length + 1)).2 with h | h
    · exact h
    · have h4 : (addSt 0 M (L ++ [0]) (L.length + 1)).2 = 1 := by have := hok.2.1; omega
      rw [h4] at hv
      have h5 : (1000000000 : Nat) ^ (0 + (L.length + 1)) = 1000000000 * 1000000000 ^ L.length := by rw [Nat.zero_add, Nat.pow_succ, Nat.mul_comm]
      rw [h5] at hv
      simp [valB] at hv
      omega
  rw [hc0] at hv
  obtain ⟨R, h1, h2, h3, h4⟩ := trim_pack (c := L.length + 1) hb hok.1 hb.lt (by omega)
  rw [hlen] at h1
  have htl := trimN_le (addSt 0 M (L ++ [0]) (L.length + 1)).1 (L.length + 1)
  refine ⟨_, _, R, by rw [h1], h2, h3, ?_, by omega, hbw, Nat.le_refl _⟩
  rw [h4]
  simp [valB] at hv
  exact hv

/-- 'add' of two rows in either order. -/
theorem adda2 (A A' : Option Addr) (c c' : Nat) (L M : List Nat) (w : World) (hl : L.length ≤ 500000) (hml : M.length ≤ 500000)
    (hL : Lim L) (hM : Lim M) (hR : Row .u32 w w.heap.size A c L) (hR' : Row .u32 w w.heap.size A' c' M) :
    Calls Tryd.prog 50 #[.slice A L.length c, .slice A' M.length c'] w fun e w' => ∃ g c R, e = .returned (.slice (some ⟨g, 0, none⟩) R.length c) ∧
      Row .u32 w' w'.heap.size (some ⟨g, 0, none⟩) c R ∧ Canon R ∧ val9 R = val9 L + val9 M ∧ R.length ≤ L.length + M.length + 1 ∧ Below w.heap.size w w' ∧ w.heap.size ≤ g := by
  rcases Nat.lt_or_ge L.length M.length with h | h
  · refine (adds2 A' A c' c M L w hml h hM hL hR' hR).mono ?_
    rintro e w' ⟨g, c, R, h1, h2, h3, h4, h5, h6⟩
    exact ⟨g, c, R, h1, h2, h3, by rw [h4, Nat.add_comm], by omega, h6⟩
  · refine (addl2 A A' c c' L M w hl h hL hM hR hR').mono ?_
    rintro e w' ⟨g, c, R, h1, h2, h3, h4, h5, h6⟩
    exact ⟨g, c, R, h1, h2, h3, h4, by omega, h6⟩

set_option maxRecDepth 20000 in
set_option maxHeartbeats 3200000 in
theorem add_same (n : Bool) (A A' : Option Addr) (c c' : Nat) (L M : List Nat) (w : World) (hl : L.length ≤ 500000) (hml : M.length ≤ 500000)
    (hL : IntR w w.heap.size n A c L) (hM : IntR w w.heap.size n A' c' M) :
    Calls Tryd.prog 24 #[.agg #[.bool n, .slice A L.length c], .agg #[.bool n, .slice A' M.length c']] w fun e w' => ∃ k A c R, e = .returned (.agg #[.bool k, .slice A R.length c]) ∧
      IntR w' w'.heap.size k A c R ∧ zI k R = zI n L + zI n M ∧ R.length ≤ L.length + M.length + 1 ∧ Below w.heap.size w w' := by
  have hM2 := fun W h1 h2 => adda2 A A' c c' L M W hl hml hL.canon.lim hM.canon.lim h1 h2
  have HM2 := Lib.hid hM2
  clear hM2
  generalize hl' : L.length = l at *
  generalize hm' : M.length = l2 at *
  have HLL := Lib.hid hl'
  have HML := Lib.hid hm'
  clear hl' hm'
  have hbb : (n == n) = true := by simp
  go_enter Tryd.func24, Tryd.ntmps24
  go_wp2
  have hne1 : ¬ w.heap.size = w.heap.size + 1 + 1 := by omega
  have hne2 : ¬ w.heap.size + 1 + 1 = w.heap.size := by omega
  go_region_held3 (fun w' => w'.cell? ⟨w.heap.size, 0, none⟩ = some (.bool n) ∧ w'.cell? ⟨w.heap.size, 1, none⟩ = some (.slice A l c) ∧
      w'.cell? ⟨w.heap.size + 1, 0, none⟩ = some (.bool n) ∧ w'.cell? ⟨w.heap.size + 1, 1, none⟩ = some (.slice A' l2 c')) (go_keep)
    (first
      | (go_at_call 50; (with_reducible refine (HM2.out _ (hL.row.up (below_drew (below_a3 _ _ _ _))) (hM.row.up (below_drew (below_a3 _ _ _ _)))).mono ?_); rintro e w1 ⟨g, c1, R, rfl, hr1, hcan1, hv1, hl1, hb1, hgg⟩; have HB1 := Lib.hid (three (below_undrew hb1)).2.2.2.2.2.2.2.2.2; have X := three (below_undrew hb1); have hq1 := X.1; have hq2 := X.2.1; have hq3 := X.2.2.1; have hq4 := X.2.2.2.1; have hq5 := X.2.2.2.2.1; have hq6 := X.2.2.2.2.2.1; have hq7 := X.2.2.2.2.2.2.1; have hq8 := X.2.2.2.2.2.2.2.1; have hq9 := X.2.2.2.2.2.2.2.2.1; clear X hb1)
      | (go_at_call 42; refine (signed_any _ _ _ _ _).mono ?_; rintro e w2 ⟨rfl, hb2⟩; have HB2 := Lib.hid (below_then HB1.out hb2 hq9); have HR2 := Lib.hid (hr1.below hb2); have hs2 := hb2.size; clear hq1 hq2 hq3 hq4 hq5 hq6 hq7 hq8 hr1 hb2; have X := three' HB2.out; have hq1 := X.1; have hq2 := X.2.1; have hq3 := X.2.2.1; have hq4 := X.2.2.2.1; have hq5 := X.2.2.2.2.1; have hq6 := X.2.2.2.2.2.1; have hq7 := X.2.2.2.2.2.2.1; have hq8 := X.2.2.2.2.2.2.2.1; clear X))
  all_goals
    go_wp2
    have hbw : Below w.heap.size w w2 := (below_a3 w _ _ _).trans (Below.less HB2.out (by omega))
    refine bodyPost_ret (v := .agg #[.bool (n && decide (0 < R.length)), .slice (some ⟨g, 0, none⟩) R.length c1]) (by simp [results, Tryd.results24, go_sem, hq5, hq6]) rfl
      ⟨_, _, _, R, rfl, ?_, addZI n hv1 val9_nil, hl1, (hbw.setCell (by simp; omega) _).setCell (by simp; omega) _⟩
    rw [setCell_size, setCell_size]
    refine ⟨(HR2.out.more hs2).box3 HB2.out (fun _ => by simp) (fun _ => by simp) _ _, hcan1, fun hk hR => ?_⟩
    rw [hR] at hk
    simp at hk
end Go.Proofs.YtbfbijokhlkekaaDoor

/- 'divideLong': division by at least two limbs. -/
namespace Go.Proofs.YtbfbijokhlkekaaDoor
open Go.RowKit

/-- 'copy' of a whole row, wherever it lies, into a block that is known whole. -/
theorem wpList_copy_row2 {P : Program} {w : World} {ops : Array Oper} {rest : List Oper} {o : Oper} {a : Act} {Q : Exit → Act → World → Prop} (hgd : o.guard = none) (d s : Operand) (dT sT : TypeId)
    (ho : o.op = .call { callee := .builtin .copy, args := #[d, s], argTypes := #[dT, sT] }) (elem : TypeId) (hu : P.underlying dT = some (.slice elem)) (hsz : (P.info? elem).map (·.size) = some 1)
    (k : IntKind) (t : TypeId) (g dLen dCap sCap : Nat) (A : Option Addr) (M L : List Nat) (hd : a.eval d = .slice (some ⟨g, 0, none⟩) dLen dCap) (hs : a.eval s = .slice A L.length sCap)
    (hg : Blk k t w g M) {B : Nat} (hR : Row k w B A sCap L) (hfit : L.length ≤ dLen) (hM : dLen ≤ M.length)
    (h : ∀ w', Hid (Blk k t w' g (splice M 0 L)) → Below g w w' → wpList P ops Q rest (a.put o.dst (goInt L.length)) w') :
    wpList P ops Q (o :: rest) a w := by
  refine wpList_copy_splice hgd d s dT sT ho elem hu hsz (some ⟨g, 0, none⟩) A dLen dCap L.length sCap hd hs g 0 (M.map fun (d : Nat) => Value.int k (d : Int)) t hg (L.map fun (d : Nat) => Value.int k (d : Int)) ?_ ?_ ?_ ?_ g w (Below.refl _ _) (Nat.le_refl _) ?_
  · simp only [List.length_map]; exact (Nat.min_eq_left hfit).symm
  · intro hp
    refine ⟨rfl, ?_⟩
    obtain ⟨b, o, e, _, hc⟩ := hR.spot (by simpa using hp)
    refine ⟨_, e, fun j v hj => ?_⟩
    have hjl : j < L.length := by
      rcases Nat.lt_or_ge j L.length with h1 | h1
      · exact h1
      · rw [List.getElem?_eq_none (by simpa using h1)] at hj; cases hj
    have h2 := hc j hjl
    have h3 : v = .int k (nth L j) := by
      rw [List.getElem?_map, List.getElem?_eq_getElem hjl] at hj
      simp at hj
      rw [← hj, nth_lt hjl]
    rw [h3, ← h2]
    unfold Addr.add
    split
    · rename_i h0; subst h0; simp
    · rfl
  · simpa using Nat.le_trans hfit hM
  · intro v hv
    obtain ⟨d, _, rfl⟩ := List.mem_map.1 hv
    rfl
  · intro w' h1 h2
    have h3 := h1.out
    rw [splice_map] at h3
    have h4 := h w' h3 h2
    simpa using h4

theorem blk_one (w : World) (f : Nat) : Blk .u32 68 (w.alloc (.cells #[.int .u32 f] 68)) w.heap.size [f] := by
  show _ = _
  rw [heap_alloc_new]; rfl

set_option maxRecDepth 20000 in
set_option maxHeartbeats 6400000 in
theorem divLong_any (A A' : Option Addr) (c c' m : Nat) (L M : List Nat) (w : World) (hl : L.length ≤ 400000) (hm : M.length = m + 2) (hml : m + 2 ≤ L.length) (hL : Lim L) (hM : Canon M)
    (hR : Row .u32 w w.heap.size A c L) (hR' : Row .u32 w w.heap.size A' c' M) :
    Calls Tryd.prog 70 #[.slice A L.length c, .slice A' M.length c'] w fun e w' => ∃ A1 c1 Q A2 c2 R, e = .returned (.tuple #[.slice A1 (List.length Q) c1, .slice A2 (List.length R) c2]) ∧
      Row .u32 w' w'.heap.size A1 c1 Q ∧ Row .u32 w' w'.heap.size A2 c2 R ∧ Canon Q ∧ Canon R ∧ val9 Q * val9 M + val9 R = val9 L ∧ val9 R < val9 M ∧ List.length Q ≤ L.length ∧ List.length R ≤ L.length + 1 ∧ Below w.heap.size w w' := by
  obtain ⟨i0, hi, hz0, hz1, hz2⟩ := info_parts info68
  obtain ⟨b, o, rfl, hbB, hcs⟩ := hR'.spot (by omega)
  have htop : 0 < nth M (m + 2 - 1) := Nat.pos_of_ne_zero (by have := hM.top (by omega); rw [hm] at this; exact this)
  have hv9 := hM.lim.nth (m + 2 - 1)
  have hcv := hcs (m + 1) (by omega)
  obtain ⟨f, hf⟩ : ∃ f, f = 1000000000 / (nth M (m + 2 - 1) + 1) := ⟨_, rfl⟩
  obtain ⟨f1, f2, f3, f4⟩ := factor_ok htop hv9
  rw [← hf] at f1 f2 f3 f4
  have hfe : (1000000000 : Int) / ((nth M (m + 1) : Int) + 1) = (f : Int) := by rw [hf]; simp
  have hmu1 := fun (W : World) (B : Option Addr) (d : Nat) h1 h2 => mult2 (some ⟨b, o, none⟩) B c' d M [f] W (by omega) (by simp) hM.lim (fun d hd => by rw [List.mem_singleton] at hd; omega) h1 h2
  have hmu2 := fun (W : World) (B : Option Addr) (d : Nat) h1 h2 => mult2 A B c d L [f] W (by omega) (by simp) hL (fun d hd => by rw [List.mem_singleton] at hd; omega) h1 h2
  have hx9 : nth M (m + 1) < 1000000000 := hv9
  have HMU1 := Lib.hid hmu1
  have HMU2 := Lib.hid hmu2
  have HTOP := Lib.hid htop
  have HF := Lib.hid hf
  have HF3 := Lib.hid f3
  have HF4 := Lib.hid f4
  clear hmu1 hmu2 htop hf f3 f4 hcs hv9
  generalize hl' : L.length = l at *
  have HL := Lib.hid hl'
  have HM := Lib.hid hm
  clear hl'
  rw [hm]
  clear hm
  have hlc := hR'.len
  rw [HM.out] at hlc
  go_enter Tryd.func70, Tryd.ntmps70
  go_wp2_with fail
  have hbF := blk_one w f
  have hbw0 := below_alloc_new (w := w) (.cells #[.int .u32 f] 68)
  have hsF : (w.alloc (.cells #[.int .u32 f] 68)).heap.size = w.heap.size + 1 := by simp
  have HRA := Lib.hid (hR.up hbw0)
  have HRB := Lib.hid (hR'.up hbw0)
  generalize w.alloc (.cells #[.int .u32 f] 68) = w0 at *
  clear hfe hcv hR hR'
  have HF0 := Lib.hid (Row.ofBlk (B := w0.heap.size) (c := 1) hbF hbF.lt (by simp))
  have h1 := HMU1.out _ _ _ HRB.out HF0.out
  rw [HM.out] at h1
  refine h1.mono ?_
  rintro e w1 ⟨gD, cD, D, rfl, hrD, hcD, hvD, hlD, hb1, hgD⟩
  have hv1 : val9 [f] = f := by simp [valB]
  rw [hv1] at hvD
  obtain ⟨hDl, hDt⟩ := divisor_ok hM.lim HM.out (by omega) HTOP.out HF.out hcD hvD
  have HVD := Lib.hid hvD
  have HDL := Lib.hid hDl
  have HDT := Lib.hid hDt
  have hb1F := hbF.below hb1 hbF.lt
  have HB1 := Lib.hid (hbw0.trans (Below.less hb1 hbw0.size))
  have HRA1 := Lib.hid (HRA.out.up hb1)
  have HRF1 := Lib.hid (HF0.out.up hb1)
  rw [hDl]
  have hs1 := hb1.size
  clear h1 hvD hDl hDt hbF hb1 hlD HRA HF0 HRB
  go_wp2_with (first
    | (refine wpList_make_zeros _ rfl (.tmp 26) (.tmp 26) 23 rfl 68 .u32 i0 4 Tryd.underlying23 hi hz0 hz1 hz2 .i64 .i64 _ _ (l + 1) rfl rfl (by omega) (by omega) (by omega) (by omega) ?_; intro w2 hb2 hB2 hs2)
    | fail)
  have hsw2 := hB2.size
  have h2 := HMU2.out _ _ _ (HRA1.out.up hB2) (HRF1.out.up hB2)
  refine h2.mono ?_
  rintro e w3 ⟨gA, cA, Ra, rfl, hrA, hcA, hvA, hlA, hb3, hgA⟩
  have hv1 : val9 [f] = f := by simp [valB]
  rw [hv1] at hvA
  have HB3 := Lib.hid (HB1.out.trans (Below.less (hB2.trans (Below.less hb3 hsw2)) HB1.out.size))
  have HRD := Lib.hid ((hrD.below hB2).below (Below.less hb3 hsw2))
  have HVA := Lib.hid hvA
  have hF3 := Lib.hid ((hb1F.below hB2 hb1F.lt).below hb3 (by have := hb1F.lt; omega))
  have hb2g := hb2.out.lt
  have hbR := hb2.out.below hb3 hb2g
  have HBR := Lib.hid hbR
  have hs3 := hb3.size
  have HRAn := Lib.hid hrA
  have hg1 : w.heap.size < w1.heap.size := hb1F.lt
  generalize hgR : w1.heap.size = gR at *
  have HGR := Lib.hid hgR
  clear hgR h2 hvA hb1F hb2 hbR hb3 hrD hrA hB2 HRA1 HRF1
  have hlA' : List.length Ra ≤ l + 1 := by simpa using hlA
  go_wp2_with (first
    | (refine wpList_copy_row2 rfl (.tmp 28) (.tmp 31) 23 23 rfl 68 Tryd.underlying23 size68 .u32 68 gR (l + 1) (l + 1) cA (some ⟨gA, 0, none⟩) (List.replicate (l + 1) 0) Ra rfl rfl HBR.out HRAn.out hlA' (by simp) ?_; intro w4 hb4 hB4)
    | (refine wpList_make_zeros _ rfl (.tmp 38) (.tmp 38) 23 rfl 68 .u32 i0 4 Tryd.underlying23 hi hz0 hz1 hz2 .i64 .i64 _ _ (l - (m + 2) + 1) rfl rfl (by omega) (by omega) (by omega) (by omega) ?_; intro w5 hb5 hB5 hs5)
    | fail)
  have hst := div_start (L := L) (Ra := Ra) (D0 := M) (f := f) (la := l) (n := m + 2) hL HL.out HM.out (by omega) hml HTOP.out f1 hlA' hcA.lim HVA.out HVD.out
  have hRl := hst.rl
  have kR := hb4.out.below hB5 hb4.out.lt
  have kQ := hb5.out
  have hgRQ := hb4.out.lt
  have kD := (HRD.out.below hB4).below (Below.less hB5 (Nat.le_of_lt hgRQ))
  have kF := (hF3.out.below hB4 hg1).below (Below.less hB5 (Nat.le_of_lt hgRQ)) hg1
  have hB45 := hB4.trans (Below.less hB5 (Nat.le_of_lt hgRQ))
  have HB5 := Lib.hid (HB3.out.trans (Below.less hB45 (Nat.le_of_lt hg1)))
  have HB35 := Lib.hid hB45
  have HST := Lib.hid hst
  have KD := Lib.hid kD
  have KF := Lib.hid kF
  have hs5' := hB5.size
  generalize w4.heap.size = gQ at *
  generalize hq0 : l - (m + 2) = q0 at *
  have hq0' : q0 + (m + 2) = l := by omega
  have HQ0 := Lib.hid hq0
  clear hq0 hst hB45 kD kF hb4 hb5 hB4 hB5 hs5 HBR HRAn HRD hF3 HB3 HB1 hlA hlA' hRl
  have hX0 : 0 < val9 D := by
    have h1 := val_top HDL.out (by omega)
    have h2 := HDT.out
    have h3 : 0 < nth D (m + 2 - 1) := by omega
    have h4 : 1000000000 ^ (m + 2 - 1) * 1 ≤ 1000000000 ^ (m + 2 - 1) * nth D (m + 2 - 1) := Nat.mul_le_mul_left _ h3
    have h5 : 0 < (1000000000 : Nat) ^ (m + 2 - 1) := Nat.pow_pos (by omega)
    omega
  go_loopw [9] (fun iv wr => ∃ j R Q, j ≤ q0 + 1 ∧ iv = .int .i64 ((j : Int) - 1) ∧ Blk .u32 68 wr gR R ∧ Blk .u32 68 wr gQ Q ∧ Hid (DivInv (val9 D) (val9 L * f) l (m + 2) j R Q) ∧ Below gR w5 wr) (fun iv _ => (intOf iv + 1).toNat)
  case atStart => exact ⟨q0 + 1, _, _, Nat.le_refl _, by simp, kR, kQ, HST.out, Below.refl _ _⟩
  case round =>
    obtain ⟨j, R, Q, hj, rfl, hbR, hbQ, hin, hbw⟩ := hrel
    rcases Nat.eq_zero_or_pos j with rfl | hpos
    · go_upto_region 15 with (fail)
      have hcF : wr.cell? ⟨w.heap.size, 0, none⟩ = some (.int .u32 f) := by
        have := (KF.out.below hbw hg1).cell 0 (by simp)
        simpa [nth] using this
      have hfin := hin.out
      have htR := fun (V : World) (hV : Blk .u32 68 V gR R) => trim_any (some ⟨gR, 0, none⟩) (l + 1) gR 0 R V (by rw [hfin.rl]; omega) (by rw [hfin.rl]; exact Nat.le_refl _) (fun _ => rfl) hV.cells
      rw [hfin.rl] at htR
      obtain ⟨RT, q1, q2, q3, q4⟩ := trim_pack (B := wr.heap.size) (c := l + 1) hbR hfin.lr hbR.lt (by rw [hfin.rl]; exact Nat.le_refl _)
      rw [hfin.rl] at q1
      rw [← q1] at htR
      have htl := trimN_le R (l + 1)
      have hdv := fun (V : World) hV => divLimb_any (some ⟨gR, 0, none⟩) (l + 1) f RT V (by omega) q3.lim f1 f2 hV
      have HTR := Lib.hid htR
      have HDV := Lib.hid hdv
      have HQ2 := Lib.hid q2
      have HQ4 := Lib.hid q4
      have HBR2 := Lib.hid hbR
      have HQ1L := Lib.hid q1
      have HFIN := Lib.hid hfin
      have HQ3 := Lib.hid q3
      clear q1 q2 q4 hbR hfin htR hdv q3 hin
      have HC := Lib.hid (below_drew (Below.refl wr.heap.size wr))
      have hltF : w.heap.size < wr.heap.size := by have := hbw.size; omega
      go_region_held3 (fun w' => w'.cell? ⟨w.heap.size, 0, none⟩ = some (.int .u32 f)) (go_keep)
        (first
          | (go_at_call 63; (with_reducible refine (HTR.out _ (HBR2.out.drew)).mono ?_); rintro e w9 ⟨rfl, rfl⟩)
          | (go_at_call 69; (with_reducible refine (HDV.out _ (HQ2.out.drew)).mono ?_); rintro e w9 ⟨A1, c1, Q1, A2, c2, R1, rfl, k1, k2, k3, k4, k5, k6, k7, k8, k9⟩; have hcF9 := (k9.cell (p := ⟨w.heap.size, 0, none⟩) (by exact hltF)).trans hcF))
      all_goals
        have kk : Below wr.heap.size wr w9 := below_undrew k9
        have hbQ9 := hbQ.below kk hbQ.lt
        have hql := HFIN.out.ql
        rw [HQ0.out] at hql
        have htQ := trim_any (some ⟨gQ, 0, none⟩) (q0 + 1) gQ 0 Q w9 (by omega) (by omega) (fun _ => rfl) hbQ9.cells
        rw [hql] at htQ
        have HTQ := Lib.hid htQ
        have HBQ9 := Lib.hid hbQ9
        have HQL := Lib.hid hql
        clear htQ hbQ9 hql
        go_wp2_with fail
        refine HTQ.out.mono ?_
        rintro e w10 ⟨rfl, rfl⟩
        go_wp2_with fail
        go_ret2
        obtain ⟨QT, r1, r2, r3, r4⟩ := trim_pack (B := w9.heap.size) (c := q0 + 1) HBQ9.out HFIN.out.lq HBQ9.out.lt (by rw [HQL.out]; exact Nat.le_refl _)
        rw [HQL.out] at r1
        have hend := div_end (a := val9 L) (b := val9 M) (f := f) (R := val9 R) (X := val9 D) (Q := val9 Q) (q2 := val9 Q1) (r2 := val9 R1) f1 HVD.out HFIN.out.val (by have := HFIN.out.lt; simpa using this) (by rw [k5, HQ4.out]) k6
        have t1 := trimN_le Q (q0 + 1)
        have t2 := HQ1L.out
        exact ⟨_, _, QT, _, _, Q1, by rw [r1]; rfl, r2, k1, r3, k3, by rw [r4]; exact hend.1, hend.2, by omega, by omega, HB5.out.trans (Below.less (hbw.trans (Below.less kk (by have := hbw.size; show gR ≤ wr.heap.size; omega))) (by omega))⟩
    · obtain ⟨i, rfl⟩ : ∃ i, j = i + 1 := ⟨j - 1, by omega⟩
      have hi1 : ((i + 1 : Nat) : Int) - 1 = i := by omega
      have n1 : (0 : Int) ≤ (i : Int) := by omega
      have n2 : (i : Int) ≤ (i : Int) + ((m : Int) + 2) + 1 := by omega
      have n3 : (i : Int) + ((m : Int) + 2) + 1 ≤ (l : Int) + 1 := by omega
      have n4 : ¬ l + 1 = i := by omega
      have n5 : ¬ l + 1 - i = 0 := by omega
      rw [hi1]
      clear hi1
      go_wp2_with fail
      rw [show i + (m + 2) + 1 - i = m + 3 by omega]
      have hcap : m + 3 ≤ l + 1 - i := by omega
      generalize l + 1 - i = cap at *
      have hlr := hin.out.lr
      have hrl := hin.out.rl
      have hlt := hin.out.lt
      have rD : Row .u32 wr gR (some ⟨gD, 0, none⟩) cD D := KD.out.below hbw
      have hes := estimate_any gR i m cap (some ⟨gD, 0, none⟩) cD R D wr (by omega) (by omega) HDL.out hcap hlr hcD.lim (by have := HDT.out; exact this) hbR (rD.more (by have := hbw.size; omega))
      refine hes.mono ?_
      rintro e w6 ⟨rfl, nq, rfl⟩
      have hdig := fun d hd => dig_ok (i := i) (n := m + 2) (d := d) hcD.lim HDL.out (by omega) hlr (by omega) (by have := HDT.out; omega) hlt hd
      rw [show i + (m + 2) - 2 = i + m by omega] at hdig
      have hdg := hdig _ rfl
      generalize top3 R (i + m) / top2 D (m + 2) = d at *
      have HDG := Lib.hid hdg
      clear hdig hdg hes hlt
      have hbRn := hbR.drewN nq
      have hbQn := hbQ.drewN nq
      have hbwn := below_drewN hbw nq
      have rDn := rD.drewN nq
      generalize wr.drewN nq = wn at *
      clear hbR hbQ hbw rD
      by_cases hcar : (smSt i d D R (m + 2 + 1)).2 = 0
      · obtain ⟨hdq, hnv⟩ := HDG.out.yes hcar
        obtain ⟨hq9, hnx⟩ := div_round hin.out (by omega) rfl hX0 (smSt_ok (o := i) (d := d) hcD.lim hlr (m + 2 + 1)).1 (smSt_ok (o := i) (d := d) hcD.lim hlr (m + 2 + 1)).2.2 hnv
        rw [← hdq] at hq9 hnx
        have hsm := subMul_any gR i (m + 2 + 1) cap d (some ⟨gD, 0, none⟩) cD R D wn (by omega) (by omega) (by rw [HDL.out]; omega) (by omega) hlr hcD.lim hbRn rDn
        rw [HDL.out, show (decide ((smSt i d D R (m + 2 + 1)).2 = 0)) = true by simpa using hcar] at hsm
        have HSM := Lib.hid hsm
        have HNX := Lib.hid hnx
        clear hsm hnx hdq hnv hcar
        go_wp2_with fail
        refine HSM.out.mono ?_
        rintro e w7 ⟨rfl, hb7, hg7⟩
        have hQ7 := hbQn.grown hg7 (by intro e; injection e; omega)
        have hbw7 := grown_below hbwn hg7 (Nat.le_refl _) (by have := hbwn.size; omega)
        have hfr := hQ7.frozen i
        have hci := hQ7.cell i (by rw [hin.out.ql]; omega)
        clear hbRn hbQn hbwn hg7
        go_wp2_with fail
        go_roundw
        case rel => exact ⟨i, _, _, by omega, rfl, hb7.far (by show gR ≠ gQ; omega) _, hQ7.set_ i d, HNX.out, hbw7.setCell (by show gR ≤ gQ; omega) _⟩
        case measure => simp [intOf]
      · obtain ⟨hdq, hnv⟩ := HDG.out.no hcar
        have hok1 := smSt_ok (o := i) (d := d) hcD.lim hlr (m + 2 + 1)
        have hok2 := addSt_ok (o := i) hcD.lim hok1.1 (m + 2 + 1)
        obtain ⟨hq9, hnx⟩ := div_round hin.out (by omega) rfl hX0 hok2.1 (hok2.2.2.trans hok1.2.2) hnv
        have hd1 : 1 ≤ d := by omega
        have hsm := subMul_any gR i (m + 2 + 1) cap d (some ⟨gD, 0, none⟩) cD R D wn (by omega) (by omega) (by rw [HDL.out]; omega) (by omega) hlr hcD.lim hbRn rDn
        rw [HDL.out, show (decide ((smSt i d D R (m + 2 + 1)).2 = 0)) = false by simpa using hcar] at hsm
        have HSM := Lib.hid hsm
        have HNX := Lib.hid hnx
        have hd9 : d ≤ 1000000000 := by omega
        have HDQ := Lib.hid hdq
        clear hsm hnx hdq hnv hcar
        go_wp2_with fail
        refine HSM.out.mono ?_
        rintro e w7 ⟨rfl, hb7, hg7⟩
        have hQ7 := hbQn.grown hg7 (by intro e; injection e; omega)
        have hbw7 := grown_below hbwn hg7 (Nat.le_refl _) (by have := hbwn.size; omega)
        have rD7 : Row .u32 w7 gR (some ⟨gD, 0, none⟩) cD D := KD.out.below hbw7
        clear hbRn hbQn hbwn hg7
        go_wp2_with fail
        have had := addTo_any gR i (m + 2 + 1) cap (some ⟨gD, 0, none⟩) cD (smSt i d D R (m + 2 + 1)).1 D w7 (by rw [hok1.2.2]; omega) (by rw [hok1.2.2]; omega) (by rw [HDL.out]; omega) hok1.1 hcD.lim hb7 rD7
        rw [HDL.out] at had
        refine had.mono ?_
        rintro e w8 ⟨rfl, hb8, hg8⟩
        have hQ8 := hQ7.grown hg8 (by intro e; injection e; omega)
        have hbw8 := grown_below hbw7 hg8 (Nat.le_refl _) (by have := hbw7.size; omega)
        have hfr := hQ8.frozen i
        have hci := hQ8.cell i (by rw [hin.out.ql]; omega)
        clear hb7 hQ7 hbw7 hg8 had hok1 hok2
        go_wp2_with fail
        go_roundw
        case rel =>
          have e1 := hQ8.setI i (v := (d : Int) - 1) (x := digQ i D R) (by have := HDQ.out; omega)
          exact ⟨i, _, _, by omega, rfl, hb8.far (by show gR ≠ gQ; omega) _, e1, HNX.out, hbw8.setCell (by show gR ≤ gQ; omega) _⟩
        case measure => simp [intOf]
end Go.Proofs.YtbfbijokhlkekaaDoor

/- 'divide' of limbs. -/
namespace Go.Proofs.YtbfbijokhlkekaaDoor
open Go.RowKit

/-- What a division of limbs returns. -/
def DivPost (L M : List Nat) (w : World) (e : Ending) (w' : World) : Prop := ∃ A1 c1 Q A2 c2 R, e = .returned (.tuple #[.slice A1 (List.length Q) c1, .slice A2 (List.length R) c2]) ∧
  Row .u32 w' w'.heap.size A1 c1 Q ∧ Row .u32 w' w'.heap.size A2 c2 R ∧ Canon Q ∧ Canon R ∧ val9 Q * val9 M + val9 R = val9 L ∧ val9 R < val9 M ∧ List.length Q ≤ L.length ∧ List.length R ≤ L.length + 1 ∧ Below w.heap.size w w'
theorem cmpZ_lt {x y : Nat} (h : x < y) : decide (cmpZ x y < 0) = true := by unfold cmpZ; simp [h]
theorem cmpZ_ge {x y : Nat} (h : y ≤ x) : decide (cmpZ x y < 0) = false := by unfold cmpZ; rw [if_neg (by omega)]; split <;> simp
theorem canon_nil : Canon ([] : List Nat) := ⟨fun _ h => absurd h (List.not_mem_nil), fun h => absurd h (Nat.lt_irrefl 0)⟩

set_option maxRecDepth 20000 in
set_option maxHeartbeats 3200000 in
theorem divide_any (A A' : Option Addr) (c c' : Nat) (L M : List Nat) (w : World) (hl : L.length ≤ 400000) (hm : M.length ≤ 400000) (hm0 : 0 < M.length) (hL : Canon L) (hM : Canon M)
    (hR : Row .u32 w w.heap.size A c L) (hR' : Row .u32 w w.heap.size A' c' M) :
    Calls Tryd.prog 59 #[.slice A L.length c, .slice A' M.length c'] w (DivPost L M w) := by
  have hcmp := compare_row A A' c c' L M w (by omega) (by omega) hR hR' hL hM
  rcases Nat.lt_or_ge (val9 L) (val9 M) with hlt | hge
  · have hd := cmpZ_lt hlt
    have hfin : ∀ W g, Blk .u32 68 W g L → Below w.heap.size w W → DivPost L M w (.returned (.tuple #[.slice none 0 0, .slice (some ⟨g, 0, none⟩) L.length L.length])) W := fun W g hb hbw =>
      ⟨none, 0, [], _, _, L, rfl, Row.nil _ _ _ _ _, Row.ofBlk hb hb.lt (Nat.le_refl _), canon_nil, hL, by simp [valB], hlt, by simp, by omega, hbw⟩
    have hCp := fun W h => copied_any A c L W (by omega) h
    have HFIN := Lib.hid hfin
    have HCMP := Lib.hid hcmp
    have HCP := Lib.hid hCp
    clear hfin hcmp hCp hlt
    generalize cmpZ (val9 L) (val9 M) = cc at *
    generalize L.length = l at *
    generalize M.length = m at *
    go_enter Tryd.func59, Tryd.ntmps59
    go_wp2_with fail
    refine HCMP.out.mono ?_
    rintro e w1 ⟨rfl, nq, rfl⟩
    go_wp2_with fail
    refine (HCP.out _ (hR.drewN nq)).mono ?_
    rintro e w2 ⟨rfl, hb2, hB2⟩
    go_wp2_with fail
    go_ret2
    exact HFIN.out _ _ hb2 (below_undrewN hB2)
  · have hd := cmpZ_ge hge
    have hln := canon_len hL hM hge
    have HCMP := Lib.hid hcmp
    clear hcmp
    generalize cmpZ (val9 L) (val9 M) = cc at *
    rcases Nat.lt_or_ge M.length 2 with h1 | h2
    · have hm1 : M.length = 1 := by omega
      obtain ⟨b, o, rfl, hbB, hcs⟩ := hR'.spot (by omega)
      have hc0 := hcs 0 (by omega)
      have hv : val9 M = nth M 0 := by
        have := val_top hm1 (by omega)
        simpa [valB] using this
      have hpos : 0 < nth M 0 := Nat.pos_of_ne_zero (by have := hM.top (by omega); rw [hm1] at this; exact this)
      have hd1 := fun W h => divLimb_any A c (nth M 0) L W (by omega) hL.lim hpos (hM.lim.nth 0) h
      have hfin : ∀ e W, (∃ A1 c1 Q A2 c2 R, e = .returned (.tuple #[.slice A1 (List.length Q) c1, .slice A2 (List.length R) c2]) ∧
          Row .u32 W W.heap.size A1 c1 Q ∧ Row .u32 W W.heap.size A2 c2 R ∧ Canon Q ∧ Canon R ∧ val9 Q * nth M 0 + val9 R = val9 L ∧ val9 R < nth M 0 ∧ List.length Q ≤ L.length ∧ List.length R ≤ 1 ∧ Below w.heap.size w W) → DivPost L M w e W := by
        rintro e W ⟨A1, c1, Q, A2, c2, R, h1, h2, h3, h4, h5, h6, h7, h8, h9, h10⟩
        exact ⟨A1, c1, Q, A2, c2, R, h1, h2, h3, h4, h5, by rw [hv]; exact h6, by rw [hv]; exact h7, h8, by omega, h10⟩
      have HFIN := Lib.hid hfin
      have HD1 := Lib.hid hd1
      have hlc := hR'.len
      clear hfin hd1 hcs hv hge
      have hcm2 := HCMP.out
      clear HCMP
      rw [hm1] at hlc hcm2 ⊢
      have HCMP := Lib.hid hcm2
      clear hcm2
      generalize nth M 0 = v at *
      generalize L.length = l at *
      clear hm1 hln h1
      go_enter Tryd.func59, Tryd.ntmps59
      go_wp2_with fail
      refine HCMP.out.mono ?_
      rintro e w1 ⟨rfl, nq, rfl⟩
      have hc0' : (w.drewN nq).cell? ⟨b, o, none⟩ = some (.int .u32 v) := by simpa using hc0
      go_wp2_with fail
      refine (HD1.out _ (hR.drewN nq)).mono ?_
      rintro e w2 ⟨A1, c1, Q, A2, c2, R, rfl, k1, k2, k3, k4, k5, k6, k7, k8, k9⟩
      have H2 := Lib.hid (HFIN.out _ w2 ⟨A1, c1, Q, A2, c2, R, rfl, k1, k2, k3, k4, k5, k6, k7, k8, below_undrewN k9⟩)
      clear k1 k2 k3 k4 k5 k6 k7 k8 k9
      go_wp2_with fail
      go_ret2
      exact H2.out
    · obtain ⟨m, hm2⟩ : ∃ m, M.length = m + 2 := ⟨M.length - 2, by omega⟩
      have hdl := fun W h1 h2' => divLong_any A A' c c' m L M W hl hm2 (by omega) hL.lim hM h1 h2'
      have HDL := Lib.hid hdl
      have hne : ((M.length : Int) == 1) = false := by rw [beq_eq_false_iff_ne]; omega
      have hfin : ∀ e W, (∃ A1 c1 Q A2 c2 R, e = .returned (.tuple #[.slice A1 (List.length Q) c1, .slice A2 (List.length R) c2]) ∧
          Row .u32 W W.heap.size A1 c1 Q ∧ Row .u32 W W.heap.size A2 c2 R ∧ Canon Q ∧ Canon R ∧ val9 Q * val9 M + val9 R = val9 L ∧ val9 R < val9 M ∧ List.length Q ≤ L.length ∧ List.length R ≤ L.length + 1 ∧ Below w.heap.size w W) → DivPost L M w e W := fun e W h => h
      have HFIN := Lib.hid hfin
      clear hdl hfin hge hln hm2
      generalize M.length = lm at *
      generalize L.length = l at *
      go_enter Tryd.func59, Tryd.ntmps59
      go_wp2_with fail
      refine HCMP.out.mono ?_
      rintro e w1 ⟨rfl, nq, rfl⟩
      go_wp2_with fail
      refine (HDL.out _ (hR.drewN nq) (hR'.drewN nq)).mono ?_
      rintro e w2 ⟨A1, c1, Q, A2, c2, R, rfl, k1, k2, k3, k4, k5, k6, k7, k8, k9⟩
      have H2 := Lib.hid (HFIN.out _ w2 ⟨A1, c1, Q, A2, c2, R, rfl, k1, k2, k3, k4, k5, k6, k7, k8, below_undrewN k9⟩)
      clear k1 k2 k3 k4 k5 k6 k7 k8 k9
      go_wp2_with fail
      go_ret2
      exact H2.out
end Go.Proofs.YtbfbijokhlkekaaDoor

/- The reference's 'trim' and 'signed'; both signs. -/
namespace Go.Proofs.YtbfbijokhlkekaaDoor
open Go.RowKit

def lenOf : Value → Nat
  | .slice _ k _ => k
  | _ => 0

set_option maxHeartbeats 800000 in
theorem rtrim_any (A : Option Addr) (c : Nat) (L : List Nat) (w : World) (B : Nat) (hl : L.length ≤ 4000000) (hR : Row .i64 w B A c L) :
    Calls Tryd.prog 64 #[.slice A L.length c] w fun e w' => e = .returned (.slice A (trimN L L.length) c) ∧ w = w' := by
  have hlc := hR.len
  generalize hn : L.length = n at *
  have HN := Lib.hid hn
  clear hn
  go_enter Tryd.func64, Tryd.ntmps64
  go_wp2
  go_loop [0] (fun v => ∃ k : Nat, k ≤ n ∧ v = .slice A k c ∧ Hid (trimN L k = trimN L n)) lenOf
  case atStart => exact ⟨n, Nat.le_refl _, rfl, rfl⟩
  case round =>
    obtain ⟨k, hk, rfl, ht⟩ := hrel
    rcases Nat.eq_zero_or_pos k with rfl | hpos
    · have hd : decide ((0 : Int) < ((0 : Nat) : Int)) = false := by simp
      go_wp2
      go_ret
      exact ⟨by rw [← ht.out]; rfl, rfl⟩
    · obtain ⟨b, o, rfl, hb, hcell⟩ := hR.spot (by rw [HN.out]; omega)
      obtain ⟨m, rfl⟩ : ∃ m, k = m + 1 := ⟨k - 1, by omega⟩
      have h1 : ((0 : Int) < ((m + 1 : Nat) : Int)) := by omega
      have hc := hcell m (by rw [HN.out]; omega)
      clear hcell
      by_cases hz : nth L m = 0
      · go_wp2
        go_round
        case rel => exact ⟨m, by omega, rfl, by have := ht.out; rw [trimN, if_pos hz] at this; exact this⟩
        case measure => simp [lenOf]
      · go_wp2
        go_ret
        exact ⟨by have := ht.out; rw [trimN, if_neg hz] at this; rw [← this]; rfl, rfl⟩

set_option maxHeartbeats 800000 in
theorem rsigned_any (neg : Bool) (A : Option Addr) (c : Nat) (L : List Nat) (w : World) (hl : L.length ≤ 4000000) (hR : Row .i64 w w.heap.size A c L) :
    Calls Tryd.prog 44 #[.bool neg, .slice A L.length c] w fun e w' => e = .returned (.agg #[.bool (neg && decide (0 < trimN L L.length)), .slice A (trimN L L.length) c]) ∧ Below w.heap.size w w' := by
  have hT := fun W h => rtrim_any A c L W w.heap.size hl h
  have htl := trimN_le L L.length
  have HT := Lib.hid hT
  clear hT
  generalize hm : trimN L L.length = m at *
  have HM := Lib.hid hm
  clear hm
  rcases Nat.eq_zero_or_pos m with rfl | hn
  · have hd : decide ((0 : Int) < ((0 : Nat) : Int)) = false := by simp
    cases neg
    all_goals
      go_enter Tryd.func44, Tryd.ntmps44
      go_wp2_with fail
      refine (HT.out _ (hR.alloc (Nat.le_refl _) _)).mono ?_
      rintro e w1 ⟨rfl, rfl⟩
      go_wp2_with fail
      exact bodyPost_ret (v := .agg #[.bool false, .slice A 0 c]) (by simp [results, Tryd.results44, go_sem]) rfl ⟨rfl, ((Below.refl _ _).alloc (Nat.le_refl _) _)⟩
  · have hd : decide ((0 : Int) < (m : Int)) = true := by simp; omega
    have hd2 : decide (0 < m) = true := by simp; omega
    rw [hd2]
    clear hd2
    cases neg
    · go_enter Tryd.func44, Tryd.ntmps44
      go_wp2_with fail
      refine (HT.out _ (hR.alloc (Nat.le_refl _) _)).mono ?_
      rintro e w1 ⟨rfl, rfl⟩
      go_wp2_with fail
      exact bodyPost_ret (v := .agg #[.bool false, .slice A m c]) (by simp [results, Tryd.results44, go_sem]) rfl ⟨rfl, ((Below.refl _ _).alloc (Nat.le_refl _) _)⟩
    · go_enter Tryd.func44, Tryd.ntmps44
      go_wp2_with fail
      refine (HT.out _ (hR.alloc (Nat.le_refl _) _)).mono ?_
      rintro e w1 ⟨rfl, rfl⟩
      go_wp2_with fail
      exact bodyPost_ret (v := .agg #[.bool true, .slice A m c]) (by simp [results, Tryd.results44, go_sem]) rfl ⟨rfl, ((Below.refl _ _).alloc (Nat.le_refl _) _)⟩

/-- A value that is an integer of the reference: its sign and limbs. -/
structure RefR (w : World) (B : Nat) (neg : Bool) (A : Option Addr) (c : Nat) (L : List Nat) : Prop where
  row : Row .i64 w B A c L
  lim : ∀ d ∈ L, d < 10000
  top : 0 < L.length → nth L (L.length - 1) ≠ 0
  sgn : neg = true → L ≠ []
theorem RefR.below {w w' : World} {B : Nat} {neg : Bool} {A : Option Addr} {c : Nat} {L : List Nat} (h : RefR w B neg A c L) (hb : Below B w w') : RefR w' B neg A c L := ⟨h.row.below hb, h.lim, h.top, h.sgn⟩
theorem RefR.more {w : World} {B B' : Nat} {neg : Bool} {A : Option Addr} {c : Nat} {L : List Nat} (h : RefR w B neg A c L) (hb : B ≤ B') : RefR w B' neg A c L := ⟨h.row.more hb, h.lim, h.top, h.sgn⟩
theorem RefR.zero (w : World) (B : Nat) (A : Option Addr) (c : Nat) : RefR w B false A c [] := ⟨Row.nil _ _ _ _ _, fun _ h => absurd h (List.not_mem_nil), fun h => absurd h (Nat.lt_irrefl 0), fun h => absurd h Bool.false_ne_true⟩

/-- The sign of an integer as -1, 0, 1. -/
def sgnI (neg : Bool) (L : List Nat) : Int := if neg then -1 else if L.length = 0 then 0 else 1
set_option maxHeartbeats 800000 in
theorem rsign_any (neg : Bool) (A : Option Addr) (c : Nat) (L : List Nat) (w : World) (hs : neg = true → L ≠ []) :
    Calls Tryd.prog 18 #[.agg #[.bool neg, .slice A L.length c]] w fun e w' => e = .returned (.int .i64 (sgnI neg L)) ∧ Below w.heap.size w w' := by
  generalize hn : L.length = n at *
  have hk : sgnI neg L = if neg then -1 else if n = 0 then 0 else 1 := by rw [sgnI, hn]
  rw [hk]
  have hs2 : neg = true → 0 < n := fun h => by rw [← hn]; exact List.length_pos_iff.2 (hs h)
  clear hk hs hn
  rcases Nat.eq_zero_or_pos n with rfl | hpos
  · cases neg
    · go_enter Tryd.func18, Tryd.ntmps18
      go_wp2
      go_ret
      exact ⟨rfl, below_alloc_new _⟩
    · exact absurd (hs2 rfl) (by omega)
  · have h0 : ((n : Int) == 0) = false := by simp; omega
    have hn0 : ¬ n = 0 := by omega
    cases neg
    · go_enter Tryd.func18, Tryd.ntmps18
      go_wp2
      go_ret
      exact ⟨rfl, below_alloc_new _⟩
    · go_enter Tryd.func18, Tryd.ntmps18
      go_wp2
      go_ret
      exact ⟨rfl, below_alloc_new _⟩
set_option maxHeartbeats 800000 in
theorem sign_any (neg : Bool) (A : Option Addr) (c : Nat) (L : List Nat) (w : World) :
    Calls Tryd.prog 15 #[.agg #[.bool neg, .slice A L.length c]] w fun e w' => e = .returned (.int .i64 (sgnI neg L)) ∧ Below w.heap.size w w' := by
  generalize hn : L.length = n at *
  have hk : sgnI neg L = if neg then -1 else if n = 0 then 0 else 1 := by rw [sgnI, hn]
  rw [hk]
  clear hk hn
  rcases Nat.eq_zero_or_pos n with rfl | hpos
  · have hd : decide ((0 : Int) < ((0 : Nat) : Int)) = false := by simp
    cases neg
    · go_enter Tryd.func15, Tryd.ntmps15
      go_wp2
      go_ret
      exact ⟨rfl, below_alloc_new _⟩
    · go_enter Tryd.func15, Tryd.ntmps15
      go_wp2
      go_ret
      exact ⟨rfl, below_alloc_new _⟩
  · have h0 : decide ((0 : Int) < (n : Int)) = true := by simp; omega
    have hn0 : ¬ n = 0 := by omega
    cases neg
    · go_enter Tryd.func15, Tryd.ntmps15
      go_wp2
      go_ret
      exact ⟨rfl, below_alloc_new _⟩
    · go_enter Tryd.func15, Tryd.ntmps15
      go_wp2
      go_ret
      exact ⟨rfl, below_alloc_new _⟩
end Go.Proofs.YtbfbijokhlkekaaDoor

/- The reference's 'Text'. -/
namespace Go.Proofs.YtbfbijokhlkekaaDoor
open Go.RowKit
open Go.Lib (decDigits)

theorem padk_front (k d : Nat) : padk (k + 1) d = UInt8.ofNat (48 + d / 10 ^ k % 10) :: padk k d := by
  induction k generalizing d with
  | zero => simp [padk]
  | succ k ih =>
    rw [padk, ih (d / 10)]
    have e : d / 10 / 10 ^ k = d / 10 ^ (k + 1) := by rw [Nat.div_div_eq_div_mul, Nat.pow_succ, Nat.mul_comm]
    rw [e, List.cons_append]
    rfl
theorem padk_mod (k d : Nat) : padk k (d % 10 ^ k) = padk k d := by
  induction k generalizing d with
  | zero => rfl
  | succ k ih =>
    rw [padk, padk]
    have e1 : d % 10 ^ (k + 1) / 10 = (d / 10) % 10 ^ k := by
      rw [Nat.pow_succ, Nat.mul_comm, Nat.mod_mul_right_div_self]
    have e2 : d % 10 ^ (k + 1) % 10 = d % 10 := by
      rw [Nat.pow_succ, Nat.mul_comm, Nat.mod_mul_right_mod]
    rw [e1, e2, ih]
/-- The digits of the highest limb, as far as k rounds have made them. -/
def topTxt (d k : Nat) : List UInt8 := if d < 10 ^ k then decDigits d else padk k d
theorem topTxt_step {d k : Nat} (h : 10 ^ k ≤ d) : topTxt d (k + 1) = UInt8.ofNat (48 + d / 10 ^ k % 10) :: topTxt d k := by
  unfold topTxt
  rw [if_neg (by omega : ¬ d < 10 ^ k)]
  split
  · rename_i h2
    have hp : 0 < 10 ^ k := Nat.pow_pos (by omega)
    have hq : d / 10 ^ k < 10 := by rw [Nat.div_lt_iff_lt_mul hp]; rw [Nat.pow_succ] at h2; omega
    have hq0 : 0 < d / 10 ^ k := Nat.div_pos h hp
    have := dec_pad k (d / 10 ^ k) (d % 10 ^ k) hq0 (Nat.mod_lt _ hp)
    rw [Nat.div_add_mod', padk_mod, dec_small hq] at this
    rw [this, Nat.mod_eq_of_lt hq]
    rfl
  · exact padk_front k d
theorem topTxt_same {d k : Nat} (h : d < 10 ^ k) : topTxt d (k + 1) = topTxt d k := by
  unfold topTxt
  rw [if_pos h, if_pos (by rw [Nat.pow_succ]; omega)]
theorem topTxt_zero {d : Nat} (h : 0 < d) : topTxt d 0 = [] := by unfold topTxt; rw [if_neg (by simp; omega)]; rfl

/-- 'string(b)' of a new row of one byte. -/
theorem wpList_byte_str {P : Program} {w : World} {ops : Array Oper} {rest : List Oper} {o : Oper} {a : Act} {Q : Exit → Act → World → Prop} (hg : o.guard = none) (src dst : TypeId) (x : Operand) (hop : o.op = Op.convert src dst x)
    (e : TypeId) (hs : P.underlying src = some (.slice e)) (he : P.underlying e = some (.int .u8)) (hd : P.underlying dst = some .string)
    (X : Int) (b : UInt8) (hX : X = (b.toNat : Int)) (c : Nat) (hx : a.eval x = .slice (some ⟨w.heap.size, 0, none⟩) 1 c)
    (h : wpList P ops Q rest (a.put o.dst (.string ⟨#[b]⟩)) (w.alloc (.cells #[.int .u8 X] e))) : wpList P ops Q (o :: rest) a (w.alloc (.cells #[.int .u8 X] e)) := by
  refine wpList_plain hg fun K hK => ?_
  have hrun : (convert src dst (.slice (some ⟨w.heap.size, 0, none⟩) 1 c)).run P (w.alloc (.cells #[.int .u8 X] e)) = .ok (.string ⟨#[b]⟩) (w.alloc (.cells #[.int .u8 X] e)) := by
    rw [run_convert_bytes_string _ src dst e _ _ _ hs he hd]
    have hl := run_loadCells_list (P := P) (w := w.alloc (.cells #[.int .u8 X] e)) ⟨w.heap.size, 0, none⟩ [.int .u8 X] (fun j v hj => by
      match j, hj with
      | 0, hj =>
        simp at hj
        subst hj
        unfold World.cell? Addr.add
        rw [if_pos rfl]
        dsimp only
        rw [heap_alloc_new]
        simp)
    rw [run_bytesToString (P := P) (w.alloc (.cells #[.int .u8 X] e)) ⟨w.heap.size, 0, none⟩ 1 c [X] (by simpa using hl)]
    subst hX
    simp [ByteArray.empty, ByteArray.emptyWithCapacity, ByteArray.push]
    rfl
  unfold Oper.wp
  simp [execOp, hop, hx, hrun, Result.andThen]
  exact hK _ _ h

theorem str_cons (b : UInt8) (l : List UInt8) : (⟨#[b]⟩ : ByteArray) ++ ⟨l.toArray⟩ = ⟨(b :: l).toArray⟩ := by
  apply WideShapes.bytes_inj
  simp

/-- The text after i limbs. -/
def rtx (L : List Nat) (i : Nat) : List UInt8 := if i < L.length then lowPads 4 (L.take i) else decDigits (valB 10000 L)
theorem rtx_low {L : List Nat} {i : Nat} (h : i + 1 < L.length) : rtx L (i + 1) = padk 4 (nth L i) ++ rtx L i := by
  unfold rtx
  rw [if_pos h, if_pos (by omega), List.take_succ_eq_append_getElem (by omega), ← nth_lt (by omega)]
  generalize L.take i = M
  have key : ∀ M : List Nat, lowPads 4 (M ++ [nth L i]) = padk 4 (nth L i) ++ lowPads 4 M := by
    intro M
    induction M with
    | nil => simp [lowPads]
    | cons x r ih => simp only [List.cons_append, lowPads, ih, List.append_assoc]
  exact key M
theorem rtx_top {L : List Nat} {i : Nat} (h : i + 1 = L.length) (hl : ∀ d ∈ L, d < 10000) (ht : nth L i ≠ 0) : rtx L (i + 1) = topTxt (nth L i) 4 ++ rtx L i := by
  unfold rtx
  rw [if_neg (by omega), if_pos (by omega)]
  have hd : nth L i < 10000 := nth_all hl (by omega) i
  have := dec_limbs 4 (L.take i) (nth L i) (by omega) (fun d hd => hl d (List.mem_of_mem_take hd))
  have e2 : L.take i ++ [nth L i] = L := by
    rw [nth_lt (by omega), List.take_append_getElem]
    exact List.take_of_length_le (by omega)
  rw [e2] at this
  rw [show (10000 : Nat) = 10 ^ 4 from rfl, this]
  unfold topTxt
  rw [if_pos (by omega)]

theorem rtx_len {L : List Nat} {i : Nat} (hi : i ≤ L.length) (h0 : L.length ≠ 0) (hl : ∀ d ∈ L, d < 10000) (ht : nth L (L.length - 1) ≠ 0) : (rtx L i).length ≤ 4 * i + 10 := by
  unfold rtx
  split
  · rw [lowPads_length, List.length_take]; omega
  · have hii : i = L.length := by omega
    have h1 := dec_limbs 4 (L.take (L.length - 1)) (nth L (L.length - 1)) (by omega) (fun d hd => hl d (List.mem_of_mem_take hd))
    have e2 : L.take (L.length - 1) ++ [nth L (L.length - 1)] = L := by
      rw [nth_lt (by omega), List.take_append_getElem]
      exact List.take_of_length_le (by omega)
    rw [e2] at h1
    rw [show (10000 : Nat) = 10 ^ 4 from rfl, h1, List.length_append, lowPads_length, List.length_take]
    have h2 : nth L (L.length - 1) < 10000 := nth_all hl (by omega) _
    have := dec_len (nth L (L.length - 1)) (by omega)
    omega
theorem sizeList (s : ByteArray) : s.data.toList.length = s.size := by simp
theorem digit_byte (q : Nat) : ∃ b : UInt8, b.toNat = 48 + q % 10 ∧ b = UInt8.ofNat (48 + q % 10) := ⟨_, digit_code q, rfl⟩
theorem div_step (d k : Nat) : d / 10 ^ (k + 1) = d / 10 ^ k / 10 := by rw [Nat.div_div_eq_div_mul, Nat.pow_succ]

set_option maxRecDepth 20000 in
set_option maxHeartbeats 3200000 in
theorem rtext_any (neg : Bool) (A : Option Addr) (c : Nat) (L : List Nat) (w : World) (hl : L.length ≤ 1000000) (hR : RefR w w.heap.size neg A c L) :
    Calls Tryd.prog 47 #[.agg #[.bool neg, .slice A L.length c]] w fun e w' => e = .returned (.string ⟨(decI neg (valB 10000 L)).toArray⟩) ∧ Below w.heap.size w w' := by
  obtain ⟨hrow, hlim, htop, hsgn⟩ := hR
  generalize hn : L.length = n at *
  have HN := Lib.hid hn
  clear hn
  have HS := Lib.hid hsgn
  have HT := Lib.hid htop
  clear hsgn htop
  go_enter Tryd.func47, Tryd.ntmps47
  go_wp2
  go_loopw [3, 4] (fun ov iv wr => ∃ (i : Nat) (O : ByteArray), i ≤ n ∧ iv = .int .i64 i ∧ ov = .string O ∧ Hid (O = ⟨(if n = 0 then [] else rtx L i).toArray⟩) ∧
    Below (w.heap.size + 1) (w.alloc (.cells #[.bool neg, .slice A n c] 31)) wr) (fun _ iv _ => n - (intOf iv).toNat)
  case atStart =>
    refine ⟨0, ⟨#[]⟩, Nat.zero_le _, rfl, rfl, ?_, by have := Below.refl (w.heap.size + 1) (w.alloc (.cells #[.bool neg, .slice A n c] 31)); exact this⟩
    show _ = _
    split
    · rfl
    · rw [rtx, if_pos (by rw [HN.out]; omega)]; rfl
  case round =>
    obtain ⟨i, O, hi, rfl, rfl, hO, hbr⟩ := hrel
    have hx1 := (boxed2 hbr).2
    by_cases hlt : i < n
    · obtain ⟨b, o, rfl, hb, hcell⟩ := hrow.spot (by rw [HN.out]; omega)
      have hm := (hcell.below (Below.trans (below_alloc_new _) (Below.less hbr (Nat.le_succ _))) hb) i (by rw [HN.out]; omega)
      have hd := nth_all hlim (by omega) i
      clear hcell
      generalize hdd : nth L i = d at *
      have HDD := Lib.hid hdd
      clear hdd
      go_wp2
      have ⟨T, hT⟩ : ∃ T, Hid (O = ⟨T.toArray⟩ ∧ T = rtx L i) := ⟨_, by rw [hO.out, if_neg (by omega)], rfl⟩
      have hTl : T.length ≤ 4000010 := by
        rw [hT.out.2]
        have := rtx_len (L := L) (i := i) (by rw [HN.out]; omega) (by rw [HN.out]; omega) hlim (by rw [HN.out]; exact HT.out (by omega))
        omega
      by_cases hlow : i < n - 1
      · go_loopw [3, 5, 6] (fun ov nv kv wq => ∃ (k : Nat) (O' : ByteArray) (q : Nat), k ≤ 4 ∧ kv = .int .i64 k ∧ ov = .string O' ∧ nv = .int .i64 q ∧ q ≤ 9999 ∧ Hid (O' = ⟨(padk k d ++ T).toArray⟩) ∧ Hid (q = d / 10 ^ k) ∧
          Below (w.heap.size + 1) (w.alloc (.cells #[.bool neg, .slice (some ⟨b, o, none⟩) n c] 31)) wq) (fun _ _ kv _ => 4 - (intOf kv).toNat)
        case atStart => exact ⟨0, O, d, by omega, rfl, rfl, rfl, by omega, by rw [hT.out.1]; rfl, by show _ = _; simp, hbr⟩
        case round =>
          clear hx1 hm
          obtain ⟨k, O', q, hk, rfl, rfl, rfl, hq, hO', hqd, hbq⟩ := hrel
          have hx1 := (boxed2 hbq).2
          by_cases hk4 : k < 4
          · have hlow' : (i : Int) < (n : Int) - 1 := by omega
            have hsz : O'.size ≤ 5000000 := by
              rw [hO'.out, ← sizeList]
              simp only [List.length_append, padk_length]
              omega
            obtain ⟨bt, hbt, hbt2⟩ := digit_byte q
            have HBT := Lib.hid hbt
            have HBT2 := Lib.hid hbt2
            clear hbt hbt2
            go_wp2_with (refine wpList_byte_str rfl 65 9 (.tmp 37) rfl 5 Tryd.underlying65 Tryd.underlying5 Tryd.underlying9 _ bt ?_ 1 rfl ?_; (rw [HBT.out]; simp))
            go_roundw
            case rel =>
              refine ⟨k + 1, (⟨#[bt]⟩ : ByteArray) ++ O', q / 10, by omega, by go_num, rfl, by simp, by omega, ?_, ?_, ?_⟩
              · show _ = _
                rw [hO'.out, str_cons, padk_front, HBT2.out, hqd.out]
                rfl
              · show _ = _
                rw [hqd.out, div_step]
              · have hs2 : w.heap.size + 1 ≤ wr.heap.size := by have := hbq.size; simpa using this
                exact hbq.alloc hs2 _
            case measure => simp [intOf]; omega
          · obtain rfl : k = 4 := by omega
            have hd4 : decide (((4 : Nat) : Int) < 4) = false := by decide
            go_wp2
            go_roundw
            case rel =>
              refine ⟨i + 1, O', by omega, by go_num, rfl, ?_, hbq⟩
              show _ = _
              rw [if_neg (by omega), hO'.out, hT.out.2, rtx_low (by rw [HN.out]; omega), HDD.out]
            case measure => simp [intOf]; omega
      · have hd0 : 0 < d := by
          have h9 := HT.out (by omega)
          have : n - 1 = i := by omega
          rw [this, HDD.out] at h9; omega
        have hlow' : ¬ (i : Int) < (n : Int) - 1 := by omega
        go_loopw [3, 5, 6] (fun ov nv kv wq => ∃ (k : Nat) (O' : ByteArray) (q : Nat), k ≤ 4 ∧ kv = .int .i64 k ∧ ov = .string O' ∧ nv = .int .i64 q ∧ q ≤ 9999 ∧ Hid (O' = ⟨(topTxt d k ++ T).toArray⟩) ∧ Hid (q = d / 10 ^ k) ∧
          Below (w.heap.size + 1) (w.alloc (.cells #[.bool neg, .slice (some ⟨b, o, none⟩) n c] 31)) wq) (fun _ _ kv _ => 4 - (intOf kv).toNat)
        case atStart => exact ⟨0, O, d, by omega, rfl, rfl, rfl, by omega, by rw [hT.out.1, topTxt_zero hd0]; rfl, by show _ = _; simp, hbr⟩
        case round =>
          clear hx1 hm
          obtain ⟨k, O', q, hk, rfl, rfl, rfl, hq, hO', hqd, hbq⟩ := hrel
          have hx1 := (boxed2 hbq).2
          by_cases hk4 : k < 4
          · have hp10 : 0 < 10 ^ k := Nat.pow_pos (by omega)
            by_cases hbig : 10 ^ k ≤ d
            · have hq0 : (0 : Int) < (q : Int) := by
                have := Nat.div_pos hbig hp10
                rw [← hqd.out] at this; omega
              have htl : (topTxt d k).length ≤ 20 := by
                unfold topTxt; rw [if_neg (by omega), padk_length]; omega
              have HBIG := Lib.hid hbig
              clear hbig hp10
              have hsz : O'.size ≤ 5000000 := by
                rw [hO'.out, ← sizeList]
                simp only [List.length_append]
                omega
              obtain ⟨bt, hbt, hbt2⟩ := digit_byte q
              have HBT := Lib.hid hbt
              have HBT2 := Lib.hid hbt2
              clear hbt hbt2
              go_wp2_with (refine wpList_byte_str rfl 65 9 (.tmp 37) rfl 5 Tryd.underlying65 Tryd.underlying5 Tryd.underlying9 _ bt ?_ 1 rfl ?_; (rw [HBT.out]; simp))
              go_roundw
              case rel =>
                refine ⟨k + 1, (⟨#[bt]⟩ : ByteArray) ++ O', q / 10, by omega, by go_num, rfl, by simp, by omega, ?_, ?_, ?_⟩
                · show _ = _
                  rw [hO'.out, str_cons, topTxt_step HBIG.out, HBT2.out, hqd.out]
                  rfl
                · show _ = _
                  rw [hqd.out, div_step]
                · have hs2 : w.heap.size + 1 ≤ wr.heap.size := by have := hbq.size; simpa using this
                  exact hbq.alloc hs2 _
              case measure => simp [intOf]; omega
            · have hq0 : ¬ (0 : Int) < (q : Int) := by
                have := hqd.out
                rw [Nat.div_eq_of_lt (by omega)] at this; omega
              have HBIG := Lib.hid hbig
              clear hbig hp10
              go_wp2
              go_roundw
              case rel =>
                refine ⟨k + 1, O', q / 10, by omega, by go_num, rfl, by simp, by omega, ?_, ?_, hbq⟩
                · show _ = _
                  rw [hO'.out, topTxt_same (by have := HBIG.out; omega)]
                · show _ = _
                  rw [hqd.out, div_step]
              case measure => simp [intOf]; omega
          · obtain rfl : k = 4 := by omega
            have hd4 : decide (((4 : Nat) : Int) < 4) = false := by decide
            go_wp2
            go_roundw
            case rel =>
              refine ⟨i + 1, O', by omega, by go_num, rfl, ?_, hbq⟩
              show _ = _
              rw [if_neg (by omega), hO'.out, hT.out.2, rtx_top (by rw [HN.out]; omega) hlim (by rw [HDD.out]; omega), HDD.out]
            case measure => simp [intOf]; omega
    · obtain rfl : i = n := by omega
      have hx0 := (boxed2 hbr).1
      have hbw : Below w.heap.size w wr := (below_alloc_new _).trans (Below.less hbr (Nat.le_succ _))
      have HX := Lib.hid hbw
      rcases Nat.eq_zero_or_pos i with rfl | hpos
      · obtain rfl : L = [] := List.eq_nil_of_length_eq_zero HN.out
        have hne : O.toList.isEmpty = true := by rw [hO.out, if_pos rfl, ByteArray.toList_eq]; rfl
        obtain rfl : neg = false := by cases neg; rfl; exact absurd rfl (HS.out rfl)
        clear hbw hbr
        go_wp2
        go_ret
        exact ⟨by rw [show decI false (valB 10000 []) = [48] from by show [] ++ decDigits 0 = _; rw [dec_small (by omega)]; rfl]; rfl, HX.out⟩
      · have hOo := hO.out
        have hrl := rtx_len (L := L) (i := i) (by rw [HN.out]; omega) (by rw [HN.out]; omega) hlim (by rw [HN.out]; exact HT.out (by omega))
        rw [if_neg (by omega)] at hOo
        have hrx : rtx L i = decDigits (valB 10000 L) := by rw [rtx, if_neg (by rw [HN.out]; omega)]
        rw [hrx] at hOo hrl
        have hne : O.toList.isEmpty = false := by
          rw [ByteArray.toList_eq, hOo, List.isEmpty_eq_false_iff]; exact dec_ne _
        have hsz : O.size ≤ 5000000 := by rw [hOo, ← sizeList]; simp only []; omega
        have HOO := Lib.hid hOo
        clear hOo hrx hrl hbw hbr
        cases neg
        · go_wp2
          go_ret
          exact ⟨by rw [HOO.out]; rfl, HX.out⟩
        · go_wp2
          go_ret
          exact ⟨by rw [HOO.out]; show Ending.returned (.string ((⟨#[45]⟩ : ByteArray) ++ _)) = _; rw [str_cons]; rfl, HX.out⟩
end Go.Proofs.YtbfbijokhlkekaaDoor

/- 'awake' holds; 'same' compares the texts of both. -/
namespace Go.Proofs.YtbfbijokhlkekaaDoor
open Go.RowKit

theorem tab_up {w W : World} (h : Tab w.heap.size w) (hb : Below w.heap.size w W) : Tab W.heap.size W := Tab.more (h.on hb) hb.size
theorem IntR.up {w W : World} {n : Bool} {A : Option Addr} {c : Nat} {L : List Nat} (h : IntR w w.heap.size n A c L) (hb : Below w.heap.size w W) : IntR W W.heap.size n A c L := ⟨h.row.up hb, h.canon, h.sgn⟩
theorem RefR.up {w W : World} {n : Bool} {A : Option Addr} {c : Nat} {L : List Nat} (h : RefR w w.heap.size n A c L) (hb : Below w.heap.size w W) : RefR W W.heap.size n A c L := ⟨h.row.up hb, h.lim, h.top, h.sgn⟩

set_option maxRecDepth 20000 in
set_option maxHeartbeats 3200000 in
theorem same_any (n m : Bool) (A A' : Option Addr) (c c' : Nat) (L M : List Nat) (w : World) (hl : L.length ≤ 100000) (hml : M.length ≤ 1000000)
    (hL : IntR w w.heap.size n A c L) (hM : RefR w w.heap.size m A' c' M) (ht : Tab w.heap.size w) :
    Calls Tryd.prog 17 #[.agg #[.bool n, .slice A L.length c], .agg #[.bool m, .slice A' M.length c']] w fun e w' => e = .returned (.bool (decI n (val9 L) == decI m (valB 10000 M))) ∧ Below w.heap.size w w' := by
  have hX := fun W h1 h2 => text_any n A c L W hl hL.canon hL.sgn h1 h2
  have hY := fun W h1 => rtext_any m A' c' M W hml h1
  have HX := Lib.hid hX
  have HY := Lib.hid hY
  clear hX hY
  generalize hl' : L.length = l at *
  generalize hm' : M.length = l2 at *
  have HLL := Lib.hid hl'
  have HML := Lib.hid hm'
  clear hl' hm'
  have HT := Lib.hid ht
  clear ht
  go_enter Tryd.func17, Tryd.ntmps17
  go_wp2
  go_region_held3 (fun w' => w'.cell? ⟨w.heap.size, 0, none⟩ = some (.bool n) ∧ w'.cell? ⟨w.heap.size, 1, none⟩ = some (.slice A l c) ∧
      w'.cell? ⟨w.heap.size + 1, 0, none⟩ = some (.bool m) ∧ w'.cell? ⟨w.heap.size + 1, 1, none⟩ = some (.slice A' l2 c')) (go_keep)
    (first
      | (go_at_call 16; (with_reducible refine (HX.out _ (hL.row.up (below_drew (below_a2 _ _ _))) (tab_up HT.out (below_drew (below_a2 _ _ _)))).mono ?_); rintro e w1 ⟨rfl, hb1⟩; have X := two (below_undrew hb1); have hq1 := X.1; have hq2 := X.2.1; have hq3 := X.2.2.1; have hq4 := X.2.2.2.1; have hs1 := X.2.2.2.2.2.2.1; have HC1 := Lib.hid X.2.2.2.2.2.2.2; have HB1 := Lib.hid ((below_a2 w _ _).trans (Below.less HC1.out (by omega))); clear X hb1)
      | (go_at_call 47; (with_reducible refine (HY.out _ (hM.up (below_drew (below_a2 _ _ _)))).mono ?_); rintro e w1 ⟨rfl, hb1⟩; have X := two (below_undrew hb1); have hq1 := X.1; have hq2 := X.2.1; have hq3 := X.2.2.1; have hq4 := X.2.2.2.1; have hs1 := X.2.2.2.2.2.2.1; have HC1 := Lib.hid X.2.2.2.2.2.2.2; have HB1 := Lib.hid ((below_a2 w _ _).trans (Below.less HC1.out (by omega))); clear X hb1)
      | (go_at_call 16; (with_reducible refine (HX.out _ (hL.row.up HB1.out) (tab_up HT.out HB1.out)).mono ?_); rintro e w2 ⟨rfl, hb2⟩; have X := two' (below_then HC1.out hb2 hs1); clear hq1 hq2 hq3 hq4; have hq1 := X.1; have hq2 := X.2.1; have hq3 := X.2.2.1; have hq4 := X.2.2.2.1; have HC2 := Lib.hid X.2.2.2.2.2.2.2; clear X hb2)
      | (go_at_call 47; (with_reducible refine (HY.out _ (hM.up HB1.out)).mono ?_); rintro e w2 ⟨rfl, hb2⟩; have X := two' (below_then HC1.out hb2 hs1); clear hq1 hq2 hq3 hq4; have hq1 := X.1; have hq2 := X.2.1; have hq3 := X.2.2.1; have hq4 := X.2.2.2.1; have HC2 := Lib.hid X.2.2.2.2.2.2.2; clear X hb2))
  all_goals
    go_wp2
    go_ret
    exact ⟨rfl, (below_a2 w _ _).trans (Below.less HC2.out (by omega))⟩

/-- Any text: what 'Parse' returns. -/
theorem parse_any (s : ByteArray) (w : World) (hs : s.size ≤ 1000000) :
    Calls Tryd.prog 13 #[.string s] w fun e w' => ∃ k A c L, e = .returned (.tuple #[.agg #[.bool k, .slice A L.length c], .int .i64 (errOf s.data.toList)]) ∧ IntR w' w'.heap.size k A c L ∧ L.length ≤ 223 ∧
      Hid (errOf s.data.toList = 0 → k = negOf s.data.toList ∧ val9 L = numOf (restOf s.data.toList)) ∧ Hid (errOf s.data.toList ≠ 0 → k = false ∧ L = []) ∧ Below w.heap.size w w' := by
  unfold errOf
  by_cases hb : badNum s.data.toList = true
  · rw [if_pos hb]
    refine (parse_bad s w hs hb).mono ?_
    rintro e w' ⟨rfl, hbw⟩
    exact ⟨false, none, 0, [], rfl, IntR.zero _ _ _ _, by simp, fun h => absurd h (by decide), fun _ => ⟨rfl, rfl⟩, hbw⟩
  · rw [if_neg hb]
    rw [Bool.not_eq_true] at hb
    by_cases hl : 2000 < (restOf s.data.toList).length
    · rw [if_pos hl]
      refine (parse_long s w hs hb hl).mono ?_
      rintro e w' ⟨rfl, hbw⟩
      exact ⟨false, none, 0, [], rfl, IntR.zero _ _ _ _, by simp, fun h => absurd h (by decide), fun _ => ⟨rfl, rfl⟩, hbw⟩
    · rw [if_neg hl]
      refine (parse_ok s w hs hb (by omega)).mono ?_
      rintro e w' ⟨A, c, L, rfl, hi, hv, hn, hbw⟩
      exact ⟨_, A, c, L, rfl, hi, hn, fun _ => ⟨rfl, hv⟩, fun h => absurd rfl h, hbw⟩

theorem ten_bad : badNum [49, 48, 48, 48, 48, 48, 48, 48, 48, 48, 48] = false := by decide
theorem ten_neg : negOf [49, 48, 48, 48, 48, 48, 48, 48, 48, 48, 48] = false := by decide
theorem ten_rest : restOf [49, 48, 48, 48, 48, 48, 48, 48, 48, 48, 48] = [49, 48, 48, 48, 48, 48, 48, 48, 48, 48, 48] := by decide
theorem ten_num : numOf [49, 48, 48, 48, 48, 48, 48, 48, 48, 48, 48] = 10000000000 := by decide
theorem hundred_txt : Lib.decDigits 100000000000000000000 = [49, 48, 48, 48, 48, 48, 48, 48, 48, 48, 48, 48, 48, 48, 48, 48, 48, 48, 48, 48, 48] := by
  have h1 : numOf [49, 48, 48, 48, 48, 48, 48, 48, 48, 48, 48, 48, 48, 48, 48, 48, 48, 48, 48, 48, 48] = 100000000000000000000 := by decide
  rw [← h1]
  exact dec_numOf _ (by decide) (by decide) (.inr (by decide))

set_option maxRecDepth 20000 in
set_option maxHeartbeats 3200000 in
theorem awake_any (w : World) (ht : Tab w.heap.size w) :
    Calls Tryd.prog 12 #[] w fun e w' => e = .returned (.bool true) ∧ Below w.heap.size w w' := by
  have hP := fun W => parse_ok ⟨#[49, 48, 48, 48, 48, 48, 48, 48, 48, 48, 48]⟩ W (by decide) ten_bad (by rw [show (⟨#[49, 48, 48, 48, 48, 48, 48, 48, 48, 48, 48]⟩ : ByteArray).data.toList = [49, 48, 48, 48, 48, 48, 48, 48, 48, 48, 48] from rfl, ten_rest]; decide)
  rw [show (⟨#[49, 48, 48, 48, 48, 48, 48, 48, 48, 48, 48]⟩ : ByteArray).data.toList = [49, 48, 48, 48, 48, 48, 48, 48, 48, 48, 48] from rfl, ten_neg, ten_rest, ten_num] at hP
  have HP := Lib.hid hP
  have HT := Lib.hid ht
  clear hP ht
  go_enter Tryd.func12, Tryd.ntmps12
  go_wp2_with fail
  refine (HP.out _).mono ?_
  rintro e w1 ⟨A, c, L, rfl, hi, hv, hl, hb1⟩
  go_wp2_with fail
  refine (mul_any false false A A c c L L _ (by omega) (by omega) (hi.up (below_alloc_new _)) (hi.up (below_alloc_new _))).mono ?_
  rintro e w2 ⟨k, A2, c2, R, rfl, hi2, hz, hl2, hb2⟩
  have hz2 : zI k R = 100000000000000000000 := by rw [hz]; unfold zI; rw [show val9 L = 10000000000 from hv]; rfl
  have hk : k = false := by
    cases k
    · rfl
    · unfold zI at hz2; simp at hz2; omega
  subst hk
  have hvr : val9 R = 100000000000000000000 := by unfold zI at hz2; simp at hz2; omega
  have hbx : Below w.heap.size w w2 := hb1.trans (Below.less ((below_alloc_new _).trans (Below.less hb2 (by simp))) hb1.size)
  have htx := text_any false A2 c2 R w2 (by omega) hi2.canon hi2.sgn hi2.row (tab_up HT.out hbx)
  have hdec : decI false (valB 1000000000 R) = [49, 48, 48, 48, 48, 48, 48, 48, 48, 48, 48, 48, 48, 48, 48, 48, 48, 48, 48, 48, 48] := by
    show [] ++ Lib.decDigits (val9 R) = _
    rw [hvr, hundred_txt]; rfl
  rw [hdec] at htx
  have HTX := Lib.hid htx
  have HBX := Lib.hid hbx
  clear htx hdec hvr hz2 hz hbx hv hi hi2 hb2 hb1
  go_wp2_with fail
  refine HTX.out.mono ?_
  rintro e w3 ⟨rfl, hb3⟩
  go_wp2_with fail
  go_ret
  exact ⟨by rfl, HBX.out.trans (Below.less hb3 HBX.out.size)⟩
end Go.Proofs.YtbfbijokhlkekaaDoor

/- The limbs of four digits that the reference reads from a text. -/
namespace Go.Proofs.YtbfbijokhlkekaaDoor

theorem snoc_rec {P : List UInt8 → Prop} (h0 : P []) (h1 : ∀ i c, P i → P (i ++ [c])) (l : List UInt8) : P l := by
  suffices H : ∀ n (l : List UInt8), l.length = n → P l from H _ l rfl
  intro n
  induction n with
  | zero => intro l hl; rw [List.eq_nil_of_length_eq_zero hl]; exact h0
  | succ n ih =>
    intro l hl
    have hne : l ≠ [] := by rintro rfl; simp at hl
    rw [← List.dropLast_concat_getLast hne]
    exact h1 _ _ (ih _ (by simp [hl]))
theorem numOf_append (a b : List UInt8) : numOf (a ++ b) = numOf a * 10 ^ b.length + numOf b := by
  refine snoc_rec (P := fun b => numOf (a ++ b) = numOf a * 10 ^ b.length + numOf b) (by simp [numOf]) (fun i c ih => ?_) b
  · rw [← List.append_assoc, numOf_snoc, numOf_snoc, ih, List.length_append, List.length_singleton, Nat.pow_succ, Nat.mul_add, ← Nat.mul_assoc (numOf a), Nat.mul_comm 10 (numOf a * _)]
    omega
theorem numOf_lt {l : List UInt8} (hd : ∀ c ∈ l, isDig c = true) : numOf l < 10 ^ l.length := by
  revert hd
  refine snoc_rec (P := fun l => (∀ c ∈ l, isDig c = true) → numOf l < 10 ^ l.length) (fun _ => by simp [numOf]) (fun i c ih hd => ?_) l
  · have h1 := ih fun x hx => hd x (by simp [hx])
    have h2 := isDig_iff.1 (hd c (by simp))
    rw [numOf_snoc, List.length_append, List.length_singleton, Nat.pow_succ]
    omega
/-- The digits from place a to place b, which is not among them. -/
def seg (D : List UInt8) (a b : Nat) : List UInt8 := (D.take b).drop a
theorem seg_succ {D : List UInt8} {a k : Nat} (ha : a ≤ k) (hk : k < D.length) : numOf (seg D a (k + 1)) = 10 * numOf (seg D a k) + digAt D k := by
  unfold seg
  rw [List.take_succ_eq_append_getElem hk, List.drop_append_of_le_length (by rw [List.length_take]; omega), numOf_snoc]
  simp [digAt, hk]
theorem seg_self (D : List UInt8) (a : Nat) : numOf (seg D a a) = 0 := by
  unfold seg
  rw [List.drop_of_length_le (by rw [List.length_take]; omega)]; rfl
theorem seg_dig {D : List UInt8} (hd : ∀ c ∈ D, isDig c = true) (a b : Nat) : ∀ c ∈ seg D a b, isDig c = true := fun c hc => hd c (List.mem_of_mem_take (List.mem_of_mem_drop hc))
theorem seg_lt {D : List UInt8} (hd : ∀ c ∈ D, isDig c = true) {a b : Nat} (h : b ≤ a + 4) : numOf (seg D a b) < 10000 := by
  have h1 := numOf_lt (seg_dig hd a b)
  have h2 : (seg D a b).length ≤ 4 := by unfold seg; rw [List.length_drop, List.length_take]; omega
  have h3 : (10 : Nat) ^ (seg D a b).length ≤ 10 ^ 4 := Nat.pow_le_pow_right (by omega) h2
  omega
/-- The lowest j limbs. -/
def chunks (D : List UInt8) : Nat → List Nat
  | 0 => []
  | j + 1 => chunks D j ++ [numOf (seg D (D.length - 4 * j - 4) (D.length - 4 * j))]
theorem chunks_len (D : List UInt8) (j : Nat) : (chunks D j).length = j := by
  induction j with
  | zero => rfl
  | succ j ih => simp [chunks, ih]
theorem chunks_lim {D : List UInt8} (hd : ∀ c ∈ D, isDig c = true) (j : Nat) : ∀ d ∈ chunks D j, d < 10000 := by
  induction j with
  | zero => intro d h; cases h
  | succ j ih =>
    intro d h
    rcases List.mem_append.1 h with h | h
    · exact ih d h
    · rw [List.mem_singleton] at h; subst h; exact seg_lt hd (by omega)
theorem chunks_val (D : List UInt8) (j : Nat) : numOf D = valB 10000 (chunks D j) + 10000 ^ j * numOf (D.take (D.length - 4 * j)) := by
  induction j with
  | zero => simp [chunks, valB]
  | succ j ih =>
    rw [ih, chunks, valB_append, chunks_len, Nat.pow_succ]
    have h4 : D.length - 4 * (j + 1) = D.length - 4 * j - 4 := by omega
    rw [h4]
    have hnl : D.length - 4 * j ≤ D.length := by omega
    generalize D.length - 4 * j = n at *
    have hs : numOf (D.take n) = numOf (D.take (n - 4)) * 10000 + numOf (seg D (n - 4) n) := by
      have e : D.take n = D.take (n - 4) ++ seg D (n - 4) n := by
        unfold seg
        have := (List.take_append_drop (n - 4) (D.take n)).symm
        rw [List.take_take, Nat.min_eq_left (by omega)] at this
        exact this
      rw [e, numOf_append]
      by_cases hn : 4 ≤ n
      · have : (seg D (n - 4) n).length = 4 := by unfold seg; rw [List.length_drop, List.length_take]; omega
        rw [this]
      · have h0 : n - 4 = 0 := by omega
        rw [h0]; simp [numOf]
    rw [hs]
    simp only [valB, Nat.mul_zero, Nat.add_zero, Nat.mul_add]
    rw [Nat.mul_comm (numOf (List.take (n - 4) D)) 10000, ← Nat.mul_assoc]
    omega
end Go.Proofs.YtbfbijokhlkekaaDoor

/- The reference's 'Parse'. -/
namespace Go.Proofs.YtbfbijokhlkekaaDoor
open Go.RowKit

theorem size_list (s : ByteArray) : s.data.toList.length = s.size := by simp
theorem neg_cases (s : ByteArray) : (negOf s.data.toList = false ∧ restOf s.data.toList = s.data.toList ∧ (∀ h : 0 < s.size, (s[0]'h).toNat ≠ 45)) ∨
    (negOf s.data.toList = true ∧ restOf s.data.toList = (s.extract 1 s.size).data.toList ∧ ∃ h : 0 < s.size, (s[0]'h).toNat = 45) := by
  have hl := size_list s
  have hg := toList_get s 0
  have he : (s.extract 1 s.size).data.toList = s.data.toList.drop 1 := Lib.extract_to_end s 1
  unfold negOf restOf Lib.trimPrefix
  rcases hs : s.data.toList with _ | ⟨c, r⟩
  · left
    refine ⟨rfl, rfl, fun h => ?_⟩
    rw [hs] at hl; simp at hl; omega
  · have h0 : 0 < s.size := by rw [hs] at hl; simp at hl; omega
    have hc : c = s[0] := by rw [← hg h0]; simp [hs]
    by_cases h45 : c = 45
    · right
      subst h45
      refine ⟨by simp [Lib.hasPrefix], ?_, h0, by rw [← hc]; rfl⟩
      rw [he, hs]
      simp [Lib.hasPrefix]
    · left
      have hp : Lib.hasPrefix (c :: r) [45] = false := by
        simp only [Lib.hasPrefix, List.isPrefixOf, Bool.and_true]; rw [beq_eq_false_iff_ne]; exact fun h => h45 h.symm
      rw [hp]
      refine ⟨rfl, rfl, fun _ => ?_⟩
      rw [← hc]
      intro e
      exact h45 (by apply UInt8.toNat_inj.1; rw [e]; rfl)

/-- What a good text is like. -/
theorem good_facts {l : List UInt8} (h : badNum l = false) : (∀ c ∈ restOf l, isDig c = true) ∧ restOf l ≠ [] ∧ ((restOf l).head? = some 48 → negOf l = false ∧ restOf l = [48]) ∧ (negOf l = true → 0 < numOf (restOf l)) := by
  have hok : okNum (restOf l) = true := by unfold badNum at h; revert h; cases okNum (restOf l) <;> simp
  obtain ⟨h1, h2, h3⟩ := okNum_parts hok
  have h4 : negOf l = true → restOf l ≠ [48] := by
    intro hn e
    unfold badNum at h
    rw [hok, hn, e] at h
    simp at h
  have h5 : negOf l = true → (restOf l).head? ≠ some 48 := by
    intro hn
    rcases h3 with h3 | h3
    · exact absurd h3 (h4 hn)
    · exact h3
  refine ⟨h1, h2, fun hh => ?_, fun hn => numOf_pos h1 h2 (h5 hn)⟩
  rcases h3 with h3 | h3
  · refine ⟨?_, h3⟩
    cases hn : negOf l
    · rfl
    · exact absurd h3 (h4 hn)
  · exact absurd hh h3
theorem head_byte {s : ByteArray} (h : 0 < s.size) : s.data.toList.head? = some (s[0]'h) := by
  have hg := toList_get s 0 h
  rcases hs : s.data.toList with _ | ⟨c, r⟩
  · have := size_list s; rw [hs] at this; simp at this; omega
  · rw [← hg]; simp [hs]
theorem byte_dig (D : ByteArray) (hd : ∀ c ∈ D.data.toList, isDig c = true) (i : Nat) (h : i < D.size) : 48 ≤ (D[i]'h).toNat ∧ (D[i]'h).toNat ≤ 57 ∧ (D[i]'h).toNat - 48 = digAt D.data.toList i := by
  have e := toList_get D i h
  have h1 := isDig_iff.1 (hd _ (List.getElem_mem (by simpa using h : i < D.data.toList.length)))
  rw [e] at h1
  refine ⟨h1.1, h1.2, ?_⟩
  simp only [digAt, List.getD_eq_getElem?_getD, List.getElem?_eq_getElem (by simpa using h : i < D.data.toList.length), Option.getD_some]
  rw [e]

theorem bad_of_digits {l : List UInt8} (h : badNum l = true) (hd : ∀ c ∈ restOf l, isDig c = true) (h0 : restOf l ≠ []) (h48 : (restOf l).head? ≠ some 48) : False := by
  have h1 : (restOf l).all isDig = true := List.all_eq_true.2 hd
  have h2 : (restOf l == [48]) = false := by
    rw [beq_eq_false_iff_ne]; intro e; rw [e] at h48; exact h48 rfl
  have h3 : (restOf l).length ≠ 0 := fun e => h0 (List.eq_nil_of_length_eq_zero e)
  have h4 : ((restOf l).head? != some 48) = true := by rw [bne_iff_ne]; exact h48
  unfold badNum okNum at h
  rw [h1, h2, h4] at h
  have h5 : ((restOf l).length != 0) = true := by rw [bne_iff_ne]; exact h3
  rw [h5] at h
  cases hn : negOf l <;> rw [hn] at h <;> exact absurd h (by decide)
theorem all_dig' (D : ByteArray) (h : ∀ j (h2 : j < D.size), isDig (D[j]'h2) = true) : ∀ c ∈ D.data.toList, isDig c = true := List.all_eq_true.1 (all_dig D fun j _ h2 => h j h2)
end Go.Proofs.YtbfbijokhlkekaaDoor

/- The reference's 'Parse' of a text that is none of an integer. -/
namespace Go.Proofs.YtbfbijokhlkekaaDoor
open Go.RowKit

set_option maxRecDepth 20000 in
set_option maxHeartbeats 1600000 in
theorem rparse_bad (s : ByteArray) (w : World) (hs : s.size ≤ 1000000) (hbad : badNum s.data.toList = true) :
    Calls Tryd.prog 14 #[.string s] w fun e w' => e = .returned (.tuple #[.agg #[.bool false, .slice none 0 0], .int .i64 3]) ∧ Below w.heap.size w w' := by
  rcases neg_cases s with ⟨hn, hr, h0⟩ | ⟨hn, hr, h0, h1⟩
  · rcases Nat.eq_zero_or_pos s.size with hz | hp
    · have hd : decide ((0 : Int) < (s.size : Int)) = false := by rw [decide_eq_false_iff_not]; omega
      have he : ((s.size : Int) == 0) = true := by rw [beq_iff_eq]; omega
      clear hz hr hn h0 hbad
      go_enter Tryd.func14, Tryd.ntmps14
      go_wp2
      exact bodyPost_ret (v := .tuple #[.agg #[.bool false, .slice none 0 0], .int .i64 3]) (by simp [results, Tryd.results14, go_sem]) rfl ⟨rfl, below_alloc_new _⟩
    · have h45 := h0 hp
      have hq : (((s[0]'hp).toNat : Int) == 45) = false := by rw [beq_eq_false_iff_ne]; omega
      have hd : decide ((0 : Int) < (s.size : Int)) = true := by rw [decide_eq_true_iff]; omega
      have he : ((s.size : Int) == 0) = false := by rw [beq_eq_false_iff_ne]; omega
      by_cases h48 : (s[0]'hp).toNat = 48
      · have hb1 : (s.toList == [48]) = false := by
          rw [ByteArray.toList_eq, beq_eq_false_iff_ne]; intro e; rw [e] at hbad; revert hbad; decide
        have hb2 : (((s[0]'hp).toNat : Int) == 48) = true := by rw [beq_iff_eq]; omega
        clear h48 h45 hr hn h0 hbad
        go_enter Tryd.func14, Tryd.ntmps14
        go_wp2
        exact bodyPost_ret (v := .tuple #[.agg #[.bool false, .slice none 0 0], .int .i64 3]) (by simp [results, Tryd.results14, go_sem]) rfl ⟨rfl, below_alloc_new _⟩
      · have hb2 : (((s[0]'hp).toNat : Int) == 48) = false := by rw [beq_eq_false_iff_ne]; omega
        have HBAD : Hid ((∀ c ∈ s.data.toList, isDig c = true) → False) := fun hdg =>
          bad_of_digits hbad (by rw [hr]; exact hdg) (by rw [hr]; intro e; have := size_list s; rw [e] at this; simp at this; omega)
            (by rw [hr, head_byte hp]; intro e; apply h48; have := congrArg (fun (o : Option UInt8) => (o.getD 0).toNat) e; exact this)
        have HSZ : Hid (s.size = s.size) := rfl
        clear h48 h45 hr hn h0 hbad
        go_enter Tryd.func14, Tryd.ntmps14
        go_wp2
        go_loop [5] (fun v => ∃ k : Nat, k ≤ s.size ∧ v = .int .i64 k ∧ Hid (∀ j, j < k → ∀ (h2 : j < s.size), isDig (s[j]'h2) = true)) (fun v => s.size - (intOf v).toNat)
        case atStart => exact ⟨0, Nat.zero_le _, rfl, fun j h => absurd h (by omega)⟩
        case round =>
          obtain ⟨k, hk, rfl, hall⟩ := hrel
          by_cases hlz : k < s.size
          · have hlt : k < s.size := hlz
            by_cases hdg : isDig (s[k]'hlt) = true
            · obtain ⟨b1, b2⟩ := isDig_iff.1 hdg
              have hdq : decide ((((s[k]'hlt).toNat : Nat) : Int) < 48) = false := by rw [decide_eq_false_iff_not]; omega
              have HDG := Lib.hid hdg
              clear hdg
              go_wp2
              go_round
              case rel => exact ⟨k + 1, by omega, by go_num, fun j hj h2 => by
                rcases Nat.lt_succ_iff_lt_or_eq.1 hj with h3 | rfl
                · exact hall.out j h3 h2
                · exact HDG.out⟩
              case measure => simp [intOf]; omega
            · by_cases hl48 : (s[k]'hlt).toNat < 48
              · have hdq : decide ((((s[k]'hlt).toNat : Nat) : Int) < 48) = true := by rw [decide_eq_true_iff]; omega
                clear hdg
                go_wp2
                exact bodyPost_ret (v := .tuple #[.agg #[.bool false, .slice none 0 0], .int .i64 3]) (by simp [results, Tryd.results14, go_sem]) rfl ⟨rfl, below_alloc_new _⟩
              · have hdq : decide ((((s[k]'hlt).toNat : Nat) : Int) < 48) = false := by rw [decide_eq_false_iff_not]; omega
                have h57 : ¬ (s[k]'hlt).toNat ≤ 57 := fun h => hdg (isDig_iff.2 ⟨by omega, h⟩)
                clear hdg
                go_wp2
                exact bodyPost_ret (v := .tuple #[.agg #[.bool false, .slice none 0 0], .int .i64 3]) (by simp [results, Tryd.results14, go_sem]) rfl ⟨rfl, below_alloc_new _⟩
          · exact absurd (HBAD.out (all_dig' s fun j h2 => hall.out j (by have := HSZ.out; omega) h2)) id
  · have hes : (s.extract 1 s.size).size = s.size - 1 := by
      rw [← size_list, Lib.extract_to_end, List.length_drop, size_list]
    have hq : (((s[0]'h0).toNat : Int) == 45) = true := by rw [beq_iff_eq]; omega
    have hd : decide ((0 : Int) < (s.size : Int)) = true := by rw [decide_eq_true_iff]; omega
    rcases Nat.eq_zero_or_pos (s.size - 1) with hz | hp1
    · have he : (((s.size - 1 : Nat) : Int) == 0) = true := by rw [beq_iff_eq]; omega
      clear hz hr hn h1 hbad hes
      go_enter Tryd.func14, Tryd.ntmps14
      go_wp2
      exact bodyPost_ret (v := .tuple #[.agg #[.bool false, .slice none 0 0], .int .i64 3]) (by simp [results, Tryd.results14, go_sem]) rfl ⟨rfl, below_alloc_new _⟩
    · have he : (((s.size - 1 : Nat) : Int) == 0) = false := by rw [beq_eq_false_iff_ne]; omega
      have hps : 0 < (s.extract 1 s.size).size := by omega
      by_cases h48 : ((s.extract 1 s.size)[0]'hps).toNat = 48
      · have hb1 : (s.toList == [48]) = false := by
          rw [ByteArray.toList_eq, beq_eq_false_iff_ne]; intro e
          have := size_list s; rw [e] at this; simp at this; omega
        have hb2 : ((((s.extract 1 s.size)[0]'hps).toNat : Int) == 48) = true := by rw [beq_iff_eq]; omega
        clear h48 h1 hr hn hbad hes
        go_enter Tryd.func14, Tryd.ntmps14
        go_wp2
        exact bodyPost_ret (v := .tuple #[.agg #[.bool false, .slice none 0 0], .int .i64 3]) (by simp [results, Tryd.results14, go_sem]) rfl ⟨rfl, below_alloc_new _⟩
      · have hb2 : ((((s.extract 1 s.size)[0]'hps).toNat : Int) == 48) = false := by rw [beq_eq_false_iff_ne]; omega
        have HBAD : Hid ((∀ c ∈ (s.extract 1 s.size).data.toList, isDig c = true) → False) := fun hdg =>
          bad_of_digits hbad (by rw [hr]; exact hdg) (by rw [hr]; intro e; have := size_list (s.extract 1 s.size); rw [e] at this; simp at this; omega)
            (by rw [hr, head_byte hps]; intro e; apply h48; have := congrArg (fun (o : Option UInt8) => (o.getD 0).toNat) e; exact this)
        have HSZ : Hid ((s.extract 1 s.size).size = s.size - 1) := hes
        clear h48 h1 hr hn hbad hes
        go_enter Tryd.func14, Tryd.ntmps14
        go_wp2
        go_loop [5] (fun v => ∃ k : Nat, k ≤ s.size - 1 ∧ v = .int .i64 k ∧ Hid (∀ j, j < k → ∀ (h2 : j < (s.extract 1 s.size).size), isDig ((s.extract 1 s.size)[j]'h2) = true)) (fun v => (s.size - 1) - (intOf v).toNat)
        case atStart => exact ⟨0, Nat.zero_le _, rfl, fun j h => absurd h (by omega)⟩
        case round =>
          obtain ⟨k, hk, rfl, hall⟩ := hrel
          by_cases hlz : k < s.size - 1
          · have hlt : k < (s.extract 1 s.size).size := (by rw [HSZ.out]; exact hlz)
            by_cases hdg : isDig ((s.extract 1 s.size)[k]'hlt) = true
            · obtain ⟨b1, b2⟩ := isDig_iff.1 hdg
              have hdq : decide (((((s.extract 1 s.size)[k]'hlt).toNat : Nat) : Int) < 48) = false := by rw [decide_eq_false_iff_not]; omega
              have HDG := Lib.hid hdg
              clear hdg
              go_wp2
              go_round
              case rel => exact ⟨k + 1, by omega, by go_num, fun j hj h2 => by
                rcases Nat.lt_succ_iff_lt_or_eq.1 hj with h3 | rfl
                · exact hall.out j h3 h2
                · exact HDG.out⟩
              case measure => simp [intOf]; omega
            · by_cases hl48 : ((s.extract 1 s.size)[k]'hlt).toNat < 48
              · have hdq : decide (((((s.extract 1 s.size)[k]'hlt).toNat : Nat) : Int) < 48) = true := by rw [decide_eq_true_iff]; omega
                clear hdg
                go_wp2
                exact bodyPost_ret (v := .tuple #[.agg #[.bool false, .slice none 0 0], .int .i64 3]) (by simp [results, Tryd.results14, go_sem]) rfl ⟨rfl, below_alloc_new _⟩
              · have hdq : decide (((((s.extract 1 s.size)[k]'hlt).toNat : Nat) : Int) < 48) = false := by rw [decide_eq_false_iff_not]; omega
                have h57 : ¬ ((s.extract 1 s.size)[k]'hlt).toNat ≤ 57 := fun h => hdg (isDig_iff.2 ⟨by omega, h⟩)
                clear hdg
                go_wp2
                exact bodyPost_ret (v := .tuple #[.agg #[.bool false, .slice none 0 0], .int .i64 3]) (by simp [results, Tryd.results14, go_sem]) rfl ⟨rfl, below_alloc_new _⟩
          · exact absurd (HBAD.out (all_dig' (s.extract 1 s.size) fun j h2 => hall.out j (by have := HSZ.out; omega) h2)) id
end Go.Proofs.YtbfbijokhlkekaaDoor

/- The reference's 'Parse' of a text that is too long. -/
namespace Go.Proofs.YtbfbijokhlkekaaDoor
open Go.RowKit

set_option maxRecDepth 20000 in
set_option maxHeartbeats 1600000 in
theorem rparse_long (s : ByteArray) (w : World) (hs : s.size ≤ 1000000) (hbad : badNum s.data.toList = false) (hlong : 2000 < (restOf s.data.toList).length) :
    Calls Tryd.prog 14 #[.string s] w fun e w' => e = .returned (.tuple #[.agg #[.bool false, .slice none 0 0], .int .i64 6]) ∧ Below w.heap.size w w' := by
  obtain ⟨hdig, hne, hhead, _⟩ := good_facts hbad
  have HV := hlong
  clear hlong hbad
  rcases neg_cases s with ⟨hn, hr, h0⟩ | ⟨hn, hr, h0, h1⟩
  · have hp : 0 < s.size := by
      have := List.length_pos_iff.2 hne; rw [hr] at this; simpa using this
    have h45 := h0 hp
    have hq : (((s[0]'hp).toNat : Int) == 45) = false := by rw [beq_eq_false_iff_ne]; omega
    have hd : decide ((0 : Int) < (s.size : Int)) = true := by rw [decide_eq_true_iff]; omega
    have he : ((s.size : Int) == 0) = false := by rw [beq_eq_false_iff_ne]; omega
    have hsl := size_list s
    rw [hr] at hdig hhead HV
    rw [hn] at *
    have hby := byte_dig s hdig
    have HB := Lib.hid hby
    have HDIG := Lib.hid hdig
    have hDs : s.size ≤ s.size := Nat.le_refl _
    have hlt0 : decide ((s.size : Int) < (s.size : Int)) = false := by simp
    rw [size_list] at HV
    clear h45 h0 hby
    by_cases h48 : (s[0]'hp).toNat = 48
    · have hs48 : s.data.toList = [48] := by
        have := (hhead (by rw [head_byte hp]; congr 1; apply UInt8.toNat_inj.1; rw [h48]; rfl)).2
        exact this
      have hb1 : (s.toList == [48]) = true := by rw [ByteArray.toList_eq, hs48]; rfl
      have hb2 : (((s[0]'hp).toNat : Int) == 48) = true := by rw [beq_iff_eq]; omega
      clear hs48 h48 hr hn hdig hhead hne hsl
      go_enter Tryd.func14, Tryd.ntmps14
      go_wp2
      go_loop [5] (fun v => ∃ k : Nat, k ≤ s.size ∧ v = .int .i64 k) (fun v => s.size - (intOf v).toNat)
      case atStart => exact ⟨0, Nat.zero_le _, rfl⟩
      case round =>
        obtain ⟨k, hk, rfl⟩ := hrel
        by_cases hlz : k < s.size
        · have hlt : k < s.size := hlz
          obtain ⟨b1, b2, _⟩ := HB.out k hlt
          have hdq : decide ((((s[k]'hlt).toNat : Nat) : Int) < 48) = false := by rw [decide_eq_false_iff_not]; omega
          go_wp2
          go_round
          case rel => exact ⟨k + 1, by omega, by go_num⟩
          case measure => simp [intOf]; omega
        · obtain rfl : k = s.size := by omega
          go_wp2
          refine bodyPost_ret (v := .tuple #[.agg #[.bool false, .slice none 0 0], .int .i64 6]) (by simp [results, Tryd.results14, go_sem]) rfl ⟨rfl, ?_⟩
          exact below_alloc_new _
    · have hb2 : (((s[0]'hp).toNat : Int) == 48) = false := by rw [beq_eq_false_iff_ne]; omega
      clear h48 hr hn hdig hhead hne hsl
      go_enter Tryd.func14, Tryd.ntmps14
      go_wp2
      go_loop [5] (fun v => ∃ k : Nat, k ≤ s.size ∧ v = .int .i64 k) (fun v => s.size - (intOf v).toNat)
      case atStart => exact ⟨0, Nat.zero_le _, rfl⟩
      case round =>
        obtain ⟨k, hk, rfl⟩ := hrel
        by_cases hlz : k < s.size
        · have hlt : k < s.size := hlz
          obtain ⟨b1, b2, _⟩ := HB.out k hlt
          have hdq : decide ((((s[k]'hlt).toNat : Nat) : Int) < 48) = false := by rw [decide_eq_false_iff_not]; omega
          go_wp2
          go_round
          case rel => exact ⟨k + 1, by omega, by go_num⟩
          case measure => simp [intOf]; omega
        · obtain rfl : k = s.size := by omega
          go_wp2
          refine bodyPost_ret (v := .tuple #[.agg #[.bool false, .slice none 0 0], .int .i64 6]) (by simp [results, Tryd.results14, go_sem]) rfl ⟨rfl, ?_⟩
          exact below_alloc_new _
  · have hes : (s.extract 1 s.size).size = s.size - 1 := by
      rw [← size_list, Lib.extract_to_end, List.length_drop, size_list]
    have hps : 0 < (s.extract 1 s.size).size := by
      have := List.length_pos_iff.2 hne; rw [hr] at this; simpa using this
    have hq : (((s[0]'h0).toNat : Int) == 45) = true := by rw [beq_iff_eq]; omega
    have hd : decide ((0 : Int) < (s.size : Int)) = true := by rw [decide_eq_true_iff]; omega
    have hp1 : 0 < s.size - 1 := by omega
    have he : (((s.size - 1 : Nat) : Int) == 0) = false := by rw [beq_eq_false_iff_ne]; omega
    have hb2 : ((((s.extract 1 s.size)[0]'hps).toNat : Int) == 48) = false := by
      rw [beq_eq_false_iff_ne]
      intro e
      have := (hhead (by rw [hr, head_byte hps]; congr 1; apply UInt8.toNat_inj.1; have : ((s.extract 1 s.size)[0]'hps).toNat = 48 := by omega
                         rw [this]; rfl)).1
      rw [this] at hn; cases hn
    rw [hr] at hdig HV
    rw [hn] at *
    have hby := byte_dig (s.extract 1 s.size) hdig
    have HB := Lib.hid hby
    have HDIG := Lib.hid hdig
    have HES := Lib.hid hes
    rw [size_list, hes] at HV
    have hlt0 : decide (((s.size - 1 : Nat) : Int) < (s.size : Int)) = true := by rw [decide_eq_true_iff]; omega
    clear h1 hby hr hn hdig hhead hne hes
    go_enter Tryd.func14, Tryd.ntmps14
    go_wp2
    go_loop [5] (fun v => ∃ k : Nat, k ≤ (s.size - 1) ∧ v = .int .i64 k) (fun v => (s.size - 1) - (intOf v).toNat)
    case atStart => exact ⟨0, Nat.zero_le _, rfl⟩
    case round =>
      obtain ⟨k, hk, rfl⟩ := hrel
      by_cases hlz : k < (s.size - 1)
      · have hlt : k < (s.extract 1 s.size).size := (by rw [HES.out]; exact hlz)
        obtain ⟨b1, b2, _⟩ := HB.out k hlt
        have hdq : decide (((((s.extract 1 s.size)[k]'hlt).toNat : Nat) : Int) < 48) = false := by rw [decide_eq_false_iff_not]; omega
        go_wp2
        go_round
        case rel => exact ⟨k + 1, by omega, by go_num⟩
        case measure => simp [intOf]; omega
      · obtain rfl : k = (s.size - 1) := by omega
        go_wp2
        refine bodyPost_ret (v := .tuple #[.agg #[.bool false, .slice none 0 0], .int .i64 6]) (by simp [results, Tryd.results14, go_sem]) rfl ⟨rfl, ?_⟩
        exact below_alloc_new _

end Go.Proofs.YtbfbijokhlkekaaDoor

/- The reference's 'Parse' of a good text. -/
namespace Go.Proofs.YtbfbijokhlkekaaDoor
open Go.RowKit

theorem info3 : (Tryd.prog.info? 3).map (fun i => (i.zero, i.size, i.bytes)) = some (some (.int .i64 0), 1, 8) := by kernel_rfl

set_option maxRecDepth 20000 in
set_option maxHeartbeats 3200000 in
theorem rparse_ok_plain (s : ByteArray) (w : World) (hn : negOf s.data.toList = false) (hr : restOf s.data.toList = s.data.toList) (h0 : ∀ h : 0 < s.size, (s[0]'h).toNat ≠ 45) (hbad : badNum s.data.toList = false) (hlong : (restOf s.data.toList).length ≤ 2000) :
    Calls Tryd.prog 14 #[.string s] w fun e w' => ∃ A c L, e = .returned (.tuple #[.agg #[.bool (negOf s.data.toList), .slice A L.length c], .int .i64 0]) ∧ RefR w' w'.heap.size (negOf s.data.toList) A c L ∧
      valB 10000 L = numOf (restOf s.data.toList) ∧ L.length ≤ 500 ∧ Below w.heap.size w w' := by
  obtain ⟨i0, hi, hz0, hz1, hz2⟩ := info_parts info3
  obtain ⟨hdig, hne, hhead, hnum⟩ := good_facts hbad
  have HV := hlong
  clear hlong hbad
  have hp : 0 < s.size := by
    have := List.length_pos_iff.2 hne; rw [hr] at this; simpa using this
  have h45 := h0 hp
  have hq : (((s[0]'hp).toNat : Int) == 45) = false := by rw [beq_eq_false_iff_ne]; omega
  have hd : decide ((0 : Int) < (s.size : Int)) = true := by rw [decide_eq_true_iff]; omega
  have he : ((s.size : Int) == 0) = false := by rw [beq_eq_false_iff_ne]; omega
  have hsl := size_list s
  rw [hr] at hdig hhead HV
  rw [hn] at *
  have hby := byte_dig s hdig
  have HB := Lib.hid hby
  have HDIG := Lib.hid hdig
  have hDs : s.size ≤ s.size := Nat.le_refl _
  have hlt0 : decide ((s.size : Int) < (s.size : Int)) = false := by simp
  rw [size_list] at HV
  rw [hr]
  clear h45 h0 hby
  by_cases h48 : (s[0]'hp).toNat = 48
  · have hs48 : s.data.toList = [48] := by
      have := (hhead (by rw [head_byte hp]; congr 1; apply UInt8.toNat_inj.1; rw [h48]; rfl)).2
      exact this
    have hb1 : (s.toList == [48]) = true := by rw [ByteArray.toList_eq, hs48]; rfl
    have hb2 : (((s[0]'hp).toNat : Int) == 48) = true := by rw [beq_iff_eq]; omega
    clear hs48 h48 hr hn hdig hhead hne hsl
    go_enter Tryd.func14, Tryd.ntmps14
    go_wp2
    go_loop [5] (fun v => ∃ k : Nat, k ≤ s.size ∧ v = .int .i64 k) (fun v => s.size - (intOf v).toNat)
    case atStart => exact ⟨0, Nat.zero_le _, rfl⟩
    case round =>
      obtain ⟨k, hk, rfl⟩ := hrel
      by_cases hlz : k < s.size
      · have hlt : k < s.size := hlz
        obtain ⟨b1, b2, _⟩ := HB.out k hlt
        have hdq : decide ((((s[k]'hlt).toNat : Nat) : Int) < 48) = false := by rw [decide_eq_false_iff_not]; omega
        go_wp2
        go_round
        case rel => exact ⟨k + 1, by omega, by go_num⟩
        case measure => simp [intOf]; omega
      · obtain rfl : k = s.size := by omega
        go_wp2
        go_loopw [6, 7] (fun lv ev wr => ∃ (j : Nat) (x : Int), j ≤ (s.size + 3) / 4 ∧ ev = .int .i64 x ∧ Hid (x = (s.size : Int) - 4 * (j : Int)) ∧ Own .i64 3 wr (w.heap.size + 1) lv (chunks s.data.toList j) ∧
          Below (w.heap.size + 1) (w.alloc (.cells #[.bool false, .slice none 0 0] 31)) wr) (fun _ ev _ => (intOf ev + 3).toNat)
        case atStart => exact ⟨0, _, Nat.zero_le _, rfl, by show _ = _; omega, Own.nil _ _ _ _, by have := Below.refl (w.heap.size + 1) (w.alloc (.cells #[.bool false, .slice none 0 0] 31)); exact this⟩
        case round =>
          obtain ⟨j, x, hj, rfl, hx, ho, hbr⟩ := hrel
          have hsr : w.heap.size + 1 ≤ wr.heap.size := by have := hbr.size; simpa using this
          have HO := Lib.hid ho
          clear ho
          by_cases hpos : 0 < x
          · obtain ⟨e, rfl⟩ : ∃ e : Nat, x = (e : Int) := ⟨x.toNat, by omega⟩
            have hme : e ≤ s.size := by have := hx.out; omega
            go_wp2
            have hsl2 := seg_lt HDIG.out (a := e - 4) (b := e) (by omega)
            go_loop [8, 9] (fun nv iv => ∃ k : Nat, e - 4 ≤ k ∧ k ≤ e ∧ iv = .int .i64 k ∧ nv = .int .i64 (numOf (seg s.data.toList (e - 4) k))) (fun _ iv => e - (intOf iv).toNat)
            case atStart => exact ⟨e - 4, Nat.le_refl _, by omega, by congr 1; omega, by rw [seg_self]; rfl⟩
            case round =>
              obtain ⟨k, hk1, hk2, rfl, rfl⟩ := hrel
              have hsk := seg_lt HDIG.out (a := e - 4) (b := k) (by omega)
              by_cases hke : k < e
              · have hlz : k < s.size := by omega
                have hlt : k < s.size := hlz
                obtain ⟨b1, b2, b3⟩ := HB.out k hlt
                have hsg := @seg_succ s.data.toList _ _ hk1 (by rw [size_list]; exact hlt)
                rw [← b3] at hsg
                have HSG := Lib.hid hsg
                clear b3 hsg
                generalize hgg : numOf (seg s.data.toList (e - 4) k) = q at *
                have HGG := Lib.hid hgg
                clear hgg
                go_wp2
                go_round
                case rel => exact ⟨k + 1, by omega, by omega, by go_num, by rw [HSG.out]; congr 1; omega⟩
                case measure => simp [intOf]; omega
              · obtain rfl : k = e := by omega
                clear hsk
                have hlen : (chunks s.data.toList j).length ≤ 100000000 := by rw [chunks_len]; omega
                have HLEN := Lib.hid hlen
                generalize hgg : numOf (seg s.data.toList (k - 4) k) = q at *
                have HGG := Lib.hid hgg
                clear hgg hlen
                go_wp2_with (first
                  | (at_builtin; refine wpList_append_num wr rfl (.tmp 77) (.tmp 79) 29 rfl .i64 (w.heap.size + 1) 3 i0 8 Tryd.underlying29 hi hz0 hz1 hz2 (by omega) u6 _ (by rfl) HO.out _ q ?_ 1 rfl HLEN.out ?_ ?_; (rfl); (exact hsr); intro v2 w2 ho2 hb2)
                  | fail)
                go_roundw
                case rel =>
                  have hxx := hx.out
                  have hc : chunks s.data.toList (j + 1) = chunks s.data.toList j ++ [q] := by
                    rw [chunks, size_list]
                    have e1 : s.size - 4 * j = k := (by omega)
                    rw [e1, HGG.out]
                  exact ⟨j + 1, _, by omega, rfl, by show _ = _; omega, by rw [hc]; exact ho2.out, hbr.trans hb2⟩
                case measure => simp [intOf]; omega
          · have hjj : s.size ≤ 4 * j := by have := hx.out; omega
            obtain ⟨A, c, hv, hrow⟩ := HO.out.row
            subst hv
            have hcl := chunks_len s.data.toList j
            have hcv := chunks_val s.data.toList j
            have hclim := chunks_lim HDIG.out j
            rw [size_list] at hcv
            have hz0' : s.size - 4 * j = 0 := (by omega)
            rw [hz0'] at hcv
            have hcv2 : numOf s.data.toList = valB 10000 (chunks s.data.toList j) := by rw [hcv]; simp [numOf]
            clear hcv hz0'
            have hsgn := fun W h => rsigned_any false A c (chunks s.data.toList j) W (by rw [hcl]; omega) h
            have HSGN := Lib.hid hsgn
            have HCL := Lib.hid hcl
            have HCV := Lib.hid hcv2
            clear hsgn hcl hcv2
            go_wp2_with fail
            refine (HSGN.out wr hrow).mono ?_
            rintro e w4 ⟨rfl, hb4⟩
            have hby : Below (w.heap.size + 1) (w.alloc (Obj.cells #[Value.bool false, Value.slice none 0 0] 31)) w4 := hbr.trans (Below.less hb4 hsr)
            have htv := trimN_val 10000 (chunks s.data.toList j) _ (Nat.le_refl _)
            have htt := trimN_top (chunks s.data.toList j) (chunks s.data.toList j).length
            have htl := trimN_le (chunks s.data.toList j) (chunks s.data.toList j).length
            rw [List.take_of_length_le (Nat.le_refl _), ← HCV.out] at htv
            generalize htm : trimN (chunks s.data.toList j) (chunks s.data.toList j).length = m at *
            have hcl' := HCL.out
            have hrow4 : RefR w4 wr.heap.size false A c ((chunks s.data.toList j).take m) := RefR.below ⟨hrow.take m, fun d hd => hclim d (List.mem_of_mem_take hd), fun h => by
              have el : ((chunks s.data.toList j).take m).length = m := by rw [List.length_take]; omega
              rw [el] at h ⊢; rw [nth_take (by omega)]; exact htt h, fun h => absurd h Bool.false_ne_true⟩ hb4
            have el : ((chunks s.data.toList j).take m).length = m := by rw [List.length_take]; omega
            have hy0 := (boxed2 hby).1
            have hy1 := (boxed2 hby).2
            have gy0 := boxedF hby 0
            have gy1 := boxedF hby 1
            have hbw4 : Below w.heap.size w w4 := (below_alloc_new _).trans (Below.less hby (Nat.le_succ _))
            have hw34 := hb4.size
            have HBY := Lib.hid hby
            have HTV := Lib.hid htv
            have HEL := Lib.hid el
            clear hby hb4 htv el htm htt
            go_wp2_with fail
            refine bodyPost_ret (v := .tuple #[.agg #[.bool false, .slice A m c], .int .i64 0]) (by simp [results, Tryd.results14, go_sem, hy0, hy1]) rfl ⟨A, c, (chunks s.data.toList j).take m, by rw [HEL.out], ?_, HTV.out, by rw [HEL.out]; omega, (hbw4.setCell (by simp) _).setCell (by simp) _⟩
            rw [setCell_size, setCell_size]
            exact ⟨(hrow4.row.more hw34).box HBY.out (fun _ => by simp) (fun _ => by simp) _ _, hrow4.lim, hrow4.top, hrow4.sgn⟩
  · have hb2 : (((s[0]'hp).toNat : Int) == 48) = false := by rw [beq_eq_false_iff_ne]; omega
    clear h48 hr hn hdig hhead hne hsl
    go_enter Tryd.func14, Tryd.ntmps14
    go_wp2
    go_loop [5] (fun v => ∃ k : Nat, k ≤ s.size ∧ v = .int .i64 k) (fun v => s.size - (intOf v).toNat)
    case atStart => exact ⟨0, Nat.zero_le _, rfl⟩
    case round =>
      obtain ⟨k, hk, rfl⟩ := hrel
      by_cases hlz : k < s.size
      · have hlt : k < s.size := hlz
        obtain ⟨b1, b2, _⟩ := HB.out k hlt
        have hdq : decide ((((s[k]'hlt).toNat : Nat) : Int) < 48) = false := by rw [decide_eq_false_iff_not]; omega
        go_wp2
        go_round
        case rel => exact ⟨k + 1, by omega, by go_num⟩
        case measure => simp [intOf]; omega
      · obtain rfl : k = s.size := by omega
        go_wp2
        go_loopw [6, 7] (fun lv ev wr => ∃ (j : Nat) (x : Int), j ≤ (s.size + 3) / 4 ∧ ev = .int .i64 x ∧ Hid (x = (s.size : Int) - 4 * (j : Int)) ∧ Own .i64 3 wr (w.heap.size + 1) lv (chunks s.data.toList j) ∧
          Below (w.heap.size + 1) (w.alloc (.cells #[.bool false, .slice none 0 0] 31)) wr) (fun _ ev _ => (intOf ev + 3).toNat)
        case atStart => exact ⟨0, _, Nat.zero_le _, rfl, by show _ = _; omega, Own.nil _ _ _ _, by have := Below.refl (w.heap.size + 1) (w.alloc (.cells #[.bool false, .slice none 0 0] 31)); exact this⟩
        case round =>
          obtain ⟨j, x, hj, rfl, hx, ho, hbr⟩ := hrel
          have hsr : w.heap.size + 1 ≤ wr.heap.size := by have := hbr.size; simpa using this
          have HO := Lib.hid ho
          clear ho
          by_cases hpos : 0 < x
          · obtain ⟨e, rfl⟩ : ∃ e : Nat, x = (e : Int) := ⟨x.toNat, by omega⟩
            have hme : e ≤ s.size := by have := hx.out; omega
            go_wp2
            have hsl2 := seg_lt HDIG.out (a := e - 4) (b := e) (by omega)
            go_loop [8, 9] (fun nv iv => ∃ k : Nat, e - 4 ≤ k ∧ k ≤ e ∧ iv = .int .i64 k ∧ nv = .int .i64 (numOf (seg s.data.toList (e - 4) k))) (fun _ iv => e - (intOf iv).toNat)
            case atStart => exact ⟨e - 4, Nat.le_refl _, by omega, by congr 1; omega, by rw [seg_self]; rfl⟩
            case round =>
              obtain ⟨k, hk1, hk2, rfl, rfl⟩ := hrel
              have hsk := seg_lt HDIG.out (a := e - 4) (b := k) (by omega)
              by_cases hke : k < e
              · have hlz : k < s.size := by omega
                have hlt : k < s.size := hlz
                obtain ⟨b1, b2, b3⟩ := HB.out k hlt
                have hsg := @seg_succ s.data.toList _ _ hk1 (by rw [size_list]; exact hlt)
                rw [← b3] at hsg
                have HSG := Lib.hid hsg
                clear b3 hsg
                generalize hgg : numOf (seg s.data.toList (e - 4) k) = q at *
                have HGG := Lib.hid hgg
                clear hgg
                go_wp2
                go_round
                case rel => exact ⟨k + 1, by omega, by omega, by go_num, by rw [HSG.out]; congr 1; omega⟩
                case measure => simp [intOf]; omega
              · obtain rfl : k = e := by omega
                clear hsk
                have hlen : (chunks s.data.toList j).length ≤ 100000000 := by rw [chunks_len]; omega
                have HLEN := Lib.hid hlen
                generalize hgg : numOf (seg s.data.toList (k - 4) k) = q at *
                have HGG := Lib.hid hgg
                clear hgg hlen
                go_wp2_with (first
                  | (at_builtin; refine wpList_append_num wr rfl (.tmp 77) (.tmp 79) 29 rfl .i64 (w.heap.size + 1) 3 i0 8 Tryd.underlying29 hi hz0 hz1 hz2 (by omega) u6 _ (by rfl) HO.out _ q ?_ 1 rfl HLEN.out ?_ ?_; (rfl); (exact hsr); intro v2 w2 ho2 hb2)
                  | fail)
                go_roundw
                case rel =>
                  have hxx := hx.out
                  have hc : chunks s.data.toList (j + 1) = chunks s.data.toList j ++ [q] := by
                    rw [chunks, size_list]
                    have e1 : s.size - 4 * j = k := (by omega)
                    rw [e1, HGG.out]
                  exact ⟨j + 1, _, by omega, rfl, by show _ = _; omega, by rw [hc]; exact ho2.out, hbr.trans hb2⟩
                case measure => simp [intOf]; omega
          · have hjj : s.size ≤ 4 * j := by have := hx.out; omega
            obtain ⟨A, c, hv, hrow⟩ := HO.out.row
            subst hv
            have hcl := chunks_len s.data.toList j
            have hcv := chunks_val s.data.toList j
            have hclim := chunks_lim HDIG.out j
            rw [size_list] at hcv
            have hz0' : s.size - 4 * j = 0 := (by omega)
            rw [hz0'] at hcv
            have hcv2 : numOf s.data.toList = valB 10000 (chunks s.data.toList j) := by rw [hcv]; simp [numOf]
            clear hcv hz0'
            have hsgn := fun W h => rsigned_any false A c (chunks s.data.toList j) W (by rw [hcl]; omega) h
            have HSGN := Lib.hid hsgn
            have HCL := Lib.hid hcl
            have HCV := Lib.hid hcv2
            clear hsgn hcl hcv2
            go_wp2_with fail
            refine (HSGN.out wr hrow).mono ?_
            rintro e w4 ⟨rfl, hb4⟩
            have hby : Below (w.heap.size + 1) (w.alloc (Obj.cells #[Value.bool false, Value.slice none 0 0] 31)) w4 := hbr.trans (Below.less hb4 hsr)
            have htv := trimN_val 10000 (chunks s.data.toList j) _ (Nat.le_refl _)
            have htt := trimN_top (chunks s.data.toList j) (chunks s.data.toList j).length
            have htl := trimN_le (chunks s.data.toList j) (chunks s.data.toList j).length
            rw [List.take_of_length_le (Nat.le_refl _), ← HCV.out] at htv
            generalize htm : trimN (chunks s.data.toList j) (chunks s.data.toList j).length = m at *
            have hcl' := HCL.out
            have hrow4 : RefR w4 wr.heap.size false A c ((chunks s.data.toList j).take m) := RefR.below ⟨hrow.take m, fun d hd => hclim d (List.mem_of_mem_take hd), fun h => by
              have el : ((chunks s.data.toList j).take m).length = m := by rw [List.length_take]; omega
              rw [el] at h ⊢; rw [nth_take (by omega)]; exact htt h, fun h => absurd h Bool.false_ne_true⟩ hb4
            have el : ((chunks s.data.toList j).take m).length = m := by rw [List.length_take]; omega
            have hy0 := (boxed2 hby).1
            have hy1 := (boxed2 hby).2
            have gy0 := boxedF hby 0
            have gy1 := boxedF hby 1
            have hbw4 : Below w.heap.size w w4 := (below_alloc_new _).trans (Below.less hby (Nat.le_succ _))
            have hw34 := hb4.size
            have HBY := Lib.hid hby
            have HTV := Lib.hid htv
            have HEL := Lib.hid el
            clear hby hb4 htv el htm htt
            go_wp2_with fail
            refine bodyPost_ret (v := .tuple #[.agg #[.bool false, .slice A m c], .int .i64 0]) (by simp [results, Tryd.results14, go_sem, hy0, hy1]) rfl ⟨A, c, (chunks s.data.toList j).take m, by rw [HEL.out], ?_, HTV.out, by rw [HEL.out]; omega, (hbw4.setCell (by simp) _).setCell (by simp) _⟩
            rw [setCell_size, setCell_size]
            exact ⟨(hrow4.row.more hw34).box HBY.out (fun _ => by simp) (fun _ => by simp) _ _, hrow4.lim, hrow4.top, hrow4.sgn⟩
end Go.Proofs.YtbfbijokhlkekaaDoor

/- The reference's 'Parse' of a good text. -/
namespace Go.Proofs.YtbfbijokhlkekaaDoor
open Go.RowKit


set_option maxRecDepth 20000 in
set_option maxHeartbeats 3200000 in
theorem rparse_ok_neg (s : ByteArray) (w : World) (hn : negOf s.data.toList = true) (hr : restOf s.data.toList = (s.extract 1 s.size).data.toList) (h0 : 0 < s.size) (h1 : (s[0]'h0).toNat = 45) (hbad : badNum s.data.toList = false) (hlong : (restOf s.data.toList).length ≤ 2000) :
    Calls Tryd.prog 14 #[.string s] w fun e w' => ∃ A c L, e = .returned (.tuple #[.agg #[.bool (negOf s.data.toList), .slice A L.length c], .int .i64 0]) ∧ RefR w' w'.heap.size (negOf s.data.toList) A c L ∧
      valB 10000 L = numOf (restOf s.data.toList) ∧ L.length ≤ 500 ∧ Below w.heap.size w w' := by
  obtain ⟨i0, hi, hz0, hz1, hz2⟩ := info_parts info3
  obtain ⟨hdig, hne, hhead, hnum⟩ := good_facts hbad
  have HV := hlong
  clear hlong hbad
  obtain ⟨D, hD⟩ : ∃ D, D = s.extract 1 s.size := ⟨_, rfl⟩
  obtain ⟨D, hD⟩ : ∃ D, D = s.extract 1 s.size := ⟨_, rfl⟩
  obtain ⟨D, hD⟩ : ∃ D, D = s.extract 1 s.size := ⟨_, rfl⟩
  obtain ⟨D, hD⟩ : ∃ D, D = s.extract 1 s.size := ⟨_, rfl⟩
  have hes : D.size = s.size - 1 := by
    rw [hD, ← size_list, Lib.extract_to_end, List.length_drop, size_list]
  have hr' : restOf s.data.toList = D.data.toList := by rw [hr, hD]
  have hps : 0 < D.size := by
    have := List.length_pos_iff.2 hne; rw [hr'] at this; simpa using this
  have hq : (((s[0]'h0).toNat : Int) == 45) = true := by rw [beq_iff_eq]; omega
  have hd : decide ((0 : Int) < (s.size : Int)) = true := by rw [decide_eq_true_iff]; omega
  have he : ((D.size : Int) == 0) = false := by rw [beq_eq_false_iff_ne]; omega
  have hb2 : (((D[0]'hps).toNat : Int) == 48) = false := by
    rw [beq_eq_false_iff_ne]
    intro e
    have := (hhead (by rw [hr', head_byte hps]; congr 1; apply UInt8.toNat_inj.1; have : (D[0]'hps).toNat = 48 := by omega
                       rw [this]; rfl)).1
    rw [this] at hn; cases hn
  rw [hr'] at hdig HV hnum
  rw [hn] at *
  have hby := byte_dig D hdig
  have HB := Lib.hid hby
  have HDIG := Lib.hid hdig
  have HES := Lib.hid hes
  rw [size_list] at HV
  have HNUM := Lib.hid (hnum (by first | exact hn | rfl))
  clear hnum
  rw [hr']
  have hlt0 : decide ((D.size : Int) < (s.size : Int)) = true := by rw [decide_eq_true_iff]; omega
  have hlt1 : D.size < s.size := by omega
  have hs1 : 1 ≤ s.size := h0
  have hs2 : s.size ≤ 2001 := by omega
  have HD := Lib.hid hD
  clear h1 hby hr hr' hn hdig hhead hne hes hD
  go_enter Tryd.func14, Tryd.ntmps14
  go_upto_region 3 with fail
  go_cut [4] from 19 to 20 (fun v wx => v = .string D ∧ w.alloc (.cells #[.bool false, .slice none 0 0] 31) = wx)
  case first =>
    go_wp2
    go_meet
    exact ⟨by rw [HD.out], rfl⟩
  case rest =>
  obtain ⟨rfl, rfl⟩ := hcut
  go_wp2
  go_loop [5] (fun v => ∃ k : Nat, k ≤ D.size ∧ v = .int .i64 k) (fun v => D.size - (intOf v).toNat)
  case atStart => exact ⟨0, Nat.zero_le _, rfl⟩
  case round =>
    obtain ⟨k, hk, rfl⟩ := hrel
    by_cases hlz : k < D.size
    · have hlt : k < D.size := hlz
      obtain ⟨b1, b2, _⟩ := HB.out k hlt
      have hdq : decide ((((D[k]'hlt).toNat : Nat) : Int) < 48) = false := by rw [decide_eq_false_iff_not]; omega
      go_wp2
      go_round
      case rel => exact ⟨k + 1, by omega, by go_num⟩
      case measure => simp [intOf]; omega
    · obtain rfl : k = D.size := by omega
      go_wp2
      go_loopw [6, 7] (fun lv ev wr => ∃ (j : Nat) (x : Int), j ≤ (D.size + 3) / 4 ∧ ev = .int .i64 x ∧ Hid (x = (D.size : Int) - 4 * (j : Int)) ∧ Own .i64 3 wr (w.heap.size + 1) lv (chunks D.data.toList j) ∧
        Below (w.heap.size + 1) (w.alloc (.cells #[.bool false, .slice none 0 0] 31)) wr) (fun _ ev _ => (intOf ev + 3).toNat)
      case atStart => exact ⟨0, _, Nat.zero_le _, rfl, by show _ = _; omega, Own.nil _ _ _ _, by have := Below.refl (w.heap.size + 1) (w.alloc (.cells #[.bool false, .slice none 0 0] 31)); exact this⟩
      case round =>
        obtain ⟨j, x, hj, rfl, hx, ho, hbr⟩ := hrel
        have hsr : w.heap.size + 1 ≤ wr.heap.size := by have := hbr.size; simpa using this
        have HO := Lib.hid ho
        clear ho
        by_cases hpos : 0 < x
        · obtain ⟨e, rfl⟩ : ∃ e : Nat, x = (e : Int) := ⟨x.toNat, by omega⟩
          have hme : e ≤ D.size := by have := hx.out; omega
          go_wp2
          have hsl2 := seg_lt HDIG.out (a := e - 4) (b := e) (by omega)
          go_loop [8, 9] (fun nv iv => ∃ k : Nat, e - 4 ≤ k ∧ k ≤ e ∧ iv = .int .i64 k ∧ nv = .int .i64 (numOf (seg D.data.toList (e - 4) k))) (fun _ iv => e - (intOf iv).toNat)
          case atStart => exact ⟨e - 4, Nat.le_refl _, by omega, by congr 1; omega, by rw [seg_self]; rfl⟩
          case round =>
            obtain ⟨k, hk1, hk2, rfl, rfl⟩ := hrel
            have hsk := seg_lt HDIG.out (a := e - 4) (b := k) (by omega)
            by_cases hke : k < e
            · have hlz : k < D.size := by omega
              have hlt : k < D.size := hlz
              obtain ⟨b1, b2, b3⟩ := HB.out k hlt
              have hsg := @seg_succ D.data.toList _ _ hk1 (by rw [size_list]; exact hlt)
              rw [← b3] at hsg
              have HSG := Lib.hid hsg
              clear b3 hsg
              generalize hgg : numOf (seg D.data.toList (e - 4) k) = q at *
              have HGG := Lib.hid hgg
              clear hgg
              go_wp2
              go_round
              case rel => exact ⟨k + 1, by omega, by omega, by go_num, by rw [HSG.out]; congr 1; omega⟩
              case measure => simp [intOf]; omega
            · obtain rfl : k = e := by omega
              clear hsk
              have hlen : (chunks D.data.toList j).length ≤ 100000000 := by rw [chunks_len]; omega
              have HLEN := Lib.hid hlen
              generalize hgg : numOf (seg D.data.toList (k - 4) k) = q at *
              have HGG := Lib.hid hgg
              clear hgg hlen
              go_wp2_with (first
                | (at_builtin; refine wpList_append_num wr rfl (.tmp 77) (.tmp 79) 29 rfl .i64 (w.heap.size + 1) 3 i0 8 Tryd.underlying29 hi hz0 hz1 hz2 (by omega) u6 _ (by rfl) HO.out _ q ?_ 1 rfl HLEN.out ?_ ?_; (rfl); (exact hsr); intro v2 w2 ho2 hb2)
                | fail)
              go_roundw
              case rel =>
                have hxx := hx.out
                have hc : chunks D.data.toList (j + 1) = chunks D.data.toList j ++ [q] := by
                  rw [chunks, size_list]
                  have e1 : D.size - 4 * j = k := (by omega)
                  rw [e1, HGG.out]
                exact ⟨j + 1, _, by omega, rfl, by show _ = _; omega, by rw [hc]; exact ho2.out, hbr.trans hb2⟩
              case measure => simp [intOf]; omega
        · have hjj : D.size ≤ 4 * j := by have := hx.out; omega
          obtain ⟨A, c, hv, hrow⟩ := HO.out.row
          subst hv
          have hcl := chunks_len D.data.toList j
          have hcv := chunks_val D.data.toList j
          have hclim := chunks_lim HDIG.out j
          rw [size_list] at hcv
          have hz0' : D.size - 4 * j = 0 := (by omega)
          rw [hz0'] at hcv
          have hcv2 : numOf D.data.toList = valB 10000 (chunks D.data.toList j) := by rw [hcv]; simp [numOf]
          clear hcv hz0'
          have hsgn := fun W h => rsigned_any true A c (chunks D.data.toList j) W (by rw [hcl]; omega) h
          have HSGN := Lib.hid hsgn
          have HCL := Lib.hid hcl
          have HCV := Lib.hid hcv2
          clear hsgn hcl hcv2
          go_wp2_with fail
          refine (HSGN.out wr hrow).mono ?_
          rintro e w4 ⟨rfl, hb4⟩
          have hby : Below (w.heap.size + 1) (w.alloc (Obj.cells #[Value.bool false, Value.slice none 0 0] 31)) w4 := hbr.trans (Below.less hb4 hsr)
          have htv := trimN_val 10000 (chunks D.data.toList j) _ (Nat.le_refl _)
          have htt := trimN_top (chunks D.data.toList j) (chunks D.data.toList j).length
          have htl := trimN_le (chunks D.data.toList j) (chunks D.data.toList j).length
          rw [List.take_of_length_le (Nat.le_refl _), ← HCV.out] at htv
          generalize htm : trimN (chunks D.data.toList j) (chunks D.data.toList j).length = m at *
          have hcl' := HCL.out
          have hmp : 0 < m := by
            rcases Nat.eq_zero_or_pos m with h | h
            · rw [h] at htv; simp [valB] at htv; have := HNUM.out; omega
            · exact h
          have hrow4 : RefR w4 wr.heap.size true A c ((chunks D.data.toList j).take m) := RefR.below ⟨hrow.take m, fun d hd => hclim d (List.mem_of_mem_take hd), fun h => by
            have el : ((chunks D.data.toList j).take m).length = m := by rw [List.length_take]; omega
            rw [el] at h ⊢; rw [nth_take (by omega)]; exact htt h, fun _ h => by have h9 := congrArg List.length h; rw [List.length_take, Nat.min_eq_left (by omega)] at h9; have h8 : m = 0 := h9; omega⟩ hb4
          have el : ((chunks D.data.toList j).take m).length = m := by rw [List.length_take]; omega
          have hd0 : (true && decide (0 < m)) = true := by simpa using hmp
          rw [hd0]
          clear hd0
          have hy0 := (boxed2 hby).1
          have hy1 := (boxed2 hby).2
          have gy0 := boxedF hby 0
          have gy1 := boxedF hby 1
          have hbw4 : Below w.heap.size w w4 := (below_alloc_new _).trans (Below.less hby (Nat.le_succ _))
          have hw34 := hb4.size
          have HBY := Lib.hid hby
          have HTV := Lib.hid htv
          have HEL := Lib.hid el
          clear hby hb4 htv el htm htt
          go_wp2_with fail
          refine bodyPost_ret (v := .tuple #[.agg #[.bool true, .slice A m c], .int .i64 0]) (by simp [results, Tryd.results14, go_sem, hy0, hy1]) rfl ⟨A, c, (chunks D.data.toList j).take m, by rw [HEL.out], ?_, HTV.out, by rw [HEL.out]; omega, (hbw4.setCell (by simp) _).setCell (by simp) _⟩
          rw [setCell_size, setCell_size]
          exact ⟨(hrow4.row.more hw34).box HBY.out (fun _ => by simp) (fun _ => by simp) _ _, hrow4.lim, hrow4.top, hrow4.sgn⟩
end Go.Proofs.YtbfbijokhlkekaaDoor

/- The statement about 'Parse' holds at every text. -/
namespace Go.Proofs.YtbfbijokhlkekaaDoor
open Go.RowKit

/-- Any text: what the reference's 'Parse' returns. -/
theorem rparse_any (s : ByteArray) (w : World) (hs : s.size ≤ 1000000) :
    Calls Tryd.prog 14 #[.string s] w fun e w' => ∃ k A c L, e = .returned (.tuple #[.agg #[.bool k, .slice A L.length c], .int .i64 (errOf s.data.toList)]) ∧ RefR w' w'.heap.size k A c L ∧ L.length ≤ 500 ∧
      Hid (errOf s.data.toList = 0 → k = negOf s.data.toList ∧ valB 10000 L = numOf (restOf s.data.toList)) ∧ Hid (errOf s.data.toList ≠ 0 → k = false ∧ L = []) ∧ Below w.heap.size w w' := by
  unfold errOf
  by_cases hb : badNum s.data.toList = true
  · rw [if_pos hb]
    refine (rparse_bad s w hs hb).mono ?_
    rintro e w' ⟨rfl, hbw⟩
    exact ⟨false, none, 0, [], rfl, RefR.zero _ _ _ _, by simp, fun h => absurd h (by decide), fun _ => ⟨rfl, rfl⟩, hbw⟩
  · rw [if_neg hb]
    rw [Bool.not_eq_true] at hb
    by_cases hl : 2000 < (restOf s.data.toList).length
    · rw [if_pos hl]
      refine (rparse_long s w hs hb hl).mono ?_
      rintro e w' ⟨rfl, hbw⟩
      exact ⟨false, none, 0, [], rfl, RefR.zero _ _ _ _, by simp, fun h => absurd h (by decide), fun _ => ⟨rfl, rfl⟩, hbw⟩
    · rw [if_neg hl]
      have hc : Calls Tryd.prog 14 #[.string s] w fun e w' => ∃ A c L, e = .returned (.tuple #[.agg #[.bool (negOf s.data.toList), .slice A L.length c], .int .i64 0]) ∧ RefR w' w'.heap.size (negOf s.data.toList) A c L ∧
          valB 10000 L = numOf (restOf s.data.toList) ∧ L.length ≤ 500 ∧ Below w.heap.size w w' := by
        rcases neg_cases s with ⟨h1, h2, h3⟩ | ⟨h1, h2, h3, h4⟩
        · exact rparse_ok_plain s w h1 h2 h3 hb (by omega)
        · exact rparse_ok_neg s w h1 h2 h3 h4 hb (by omega)
      refine hc.mono ?_
      rintro e w' ⟨A, c, L, rfl, hi, hv, hn, hbw⟩
      exact ⟨_, A, c, L, rfl, hi, hn, fun _ => ⟨rfl, hv⟩, fun h => absurd rfl h, hbw⟩

theorem errOf_good {l : List UInt8} (h : errOf l = 0) : badNum l = false := by
  unfold errOf at h
  split at h
  · cases h
  · rename_i h1; simpa using h1
theorem text_back {l : List UInt8} (h : errOf l = 0) : decI (negOf l) (numOf (restOf l)) = l := by
  obtain ⟨h1, h2, h3, _⟩ := good_facts (errOf_good h)
  unfold decI
  rw [dec_numOf _ h1 h2 (by
    by_cases hh : (restOf l).head? = some 48
    · exact .inl (h3 hh).2
    · exact .inr hh)]
  unfold negOf restOf Lib.trimPrefix
  cases hp : Lib.hasPrefix l [45]
  · simp
  · simp only [if_true]
    rcases l with _ | ⟨c, r⟩
    · simp [Lib.hasPrefix] at hp
    · simp [Lib.hasPrefix] at hp
      simp [← hp]

theorem up4 {w wk : World} {o : Obj} (h : Below (w.heap.size + 1) (w.alloc o) wk) : Below w.heap.size w wk := (below_alloc_new _).trans (Below.less h (Nat.le_succ _))
theorem below_sz {w wk : World} {o : Obj} (h : Below (w.heap.size + 1) (w.alloc o) wk) : w.heap.size + 1 ≤ wk.heap.size := by have := h.size; simpa using this
theorem below_at {B b i : Nat} {W wk : World} (h : Below B W wk) (hb : b < B) : wk.cell? ⟨b, i, none⟩ = W.cell? ⟨b, i, none⟩ := h.cell hb
theorem ref_pos {w : World} {B : Nat} {n : Bool} {A : Option Addr} {c : Nat} {M : List Nat} (h : RefR w B n A c M) (h0 : 0 < M.length) : valB 10000 M ≠ 0 := by
  have h1 := valB_take_succ 10000 M (M.length - 1) (by omega)
  rw [show M.length - 1 + 1 = M.length by omega, List.take_of_length_le (Nat.le_refl _)] at h1
  have h2 := h.top h0
  have h3 : 10000 ^ (M.length - 1) * 1 ≤ 10000 ^ (M.length - 1) * nth M (M.length - 1) := Nat.mul_le_mul_left _ (by omega)
  have h4 : 0 < 10000 ^ (M.length - 1) := Nat.pow_pos (by omega)
  omega

set_option maxRecDepth 20000 in
set_option maxHeartbeats 6400000 in
theorem law_parse (s : ByteArray) (w : World) (ht : Tab w.heap.size w) :
    Calls Tryd.prog 3 #[.string s] w fun e w' => e = .returned (.bool true) ∧ Below w.heap.size w w' := by
  have HT := Lib.hid ht
  clear ht
  by_cases hs : 2500 < s.size
  · go_enter Tryd.func3, Tryd.ntmps3
    go_wp2_with fail
    refine (awake_any w HT.out).mono ?_
    rintro e w1 ⟨rfl, hb1⟩
    go_wp2_with fail
    go_ret
    exact ⟨rfl, hb1⟩
  · have hP := fun W => parse_any s W (by omega)
    have hQ := fun W => rparse_any s W (by omega)
    have HP := Lib.hid hP
    have HQ := Lib.hid hQ
    clear hP hQ
    generalize he : errOf s.data.toList = er at *
    have HE := Lib.hid he
    clear he
    go_enter Tryd.func3, Tryd.ntmps3
    go_wp2_with fail
    refine (awake_any w HT.out).mono ?_
    rintro e w1 ⟨rfl, hb1⟩
    go_wp2_with fail
    refine (HP.out _).mono ?_
    rintro e w2 ⟨k, A, c, L, rfl, hi, hl, hok, hno, hb2⟩
    go_wp2_with fail
    refine (HQ.out _).mono ?_
    rintro e w3 ⟨k2, A2, c2, M, rfl, hi2, hl2, hok2, hno2, hb3⟩
    have X := boxed hb3
    have hx0 := X.1
    have hx1 := X.2.1
    have hs3 := X.2.2.1
    have hbA := X.2.2.2
    clear X
    have hb12 := hb1.trans (Below.less hb2 hb1.size)
    have hb13 : Below w.heap.size w w3 := hb12.trans (Below.less ((below_alloc_new _).trans (Below.less hb3 (by simp))) hb12.size)
    have HB13 := Lib.hid hb13
    have hnext : Below w3.heap.size w3 (w3.alloc (.cells #[.bool k2, .slice A2 M.length c2] 31)) := below_alloc_new _
    have hy0 := (hnext.cell (p := ⟨w2.heap.size, 0, none⟩) (by show w2.heap.size < _; omega)).trans hx0
    have hy1 := (hnext.cell (p := ⟨w2.heap.size, 1, none⟩) (by show w2.heap.size < _; omega)).trans hx1
    have hi3 := (hi.row.up ((below_alloc_new (.cells #[.bool k, .slice A L.length c] 25)).trans (Below.less hb3 (by simp))))
    have HI3 := Lib.hid (show IntR w3 w3.heap.size k A c L from ⟨hi3, hi.canon, hi.sgn⟩)
    have HI2 := Lib.hid hi2
    clear hx0 hx1 hnext hi hi3 hi2 hb1 hb2 hb12 hb13 hb3
    by_cases h0 : er = 0
    · subst h0
      obtain ⟨rfl, hv⟩ := hok.out rfl
      obtain ⟨rfl, hv2⟩ := hok2.out rfl
      have hbk : decI (negOf s.data.toList) (val9 L) = s.data.toList := by rw [hv]; exact text_back HE.out
      have hbk2 : decI (negOf s.data.toList) (valB 10000 M) = s.data.toList := by rw [hv2]; exact text_back HE.out
      have HTT := Lib.hid (tab_up HT.out HB13.out)
      have HTX := Lib.hid (fun (W : World) (hW : Below w3.heap.size w3 W) => text_any _ A c L W (by omega) HI3.out.canon HI3.out.sgn (HI3.out.row.up hW) (tab_up HTT.out hW))
      have HSM := Lib.hid (fun (W : World) (hW : Below w3.heap.size w3 W) => same_any _ _ A A2 c c2 L M W (by omega) (by omega) (HI3.out.up hW) (HI2.out.up hW) (tab_up HTT.out hW))
      have hsg : sgnI (negOf s.data.toList) M = sgnI (negOf s.data.toList) L := by
        unfold sgnI
        have h1 : L.length = 0 ↔ val9 L = 0 := ⟨val9_nil, fun h => by
          rcases Nat.eq_zero_or_pos L.length with h1 | h1
          · exact h1
          · exact absurd h (canon_pos HI3.out.canon h1)⟩
        have h2 : M.length = 0 ↔ valB 10000 M = 0 := ⟨fun h => by rw [List.eq_nil_of_length_eq_zero h]; rfl, fun h => by
          rcases Nat.eq_zero_or_pos M.length with h1 | h1
          · exact h1
          · exact absurd h (ref_pos HI2.out h1)⟩
        have h3 : val9 L = valB 10000 M := by rw [hv, hv2]
        simp only [h1, h2, h3]
      have HS1 := Lib.hid (fun (W : World) => sign_any (negOf s.data.toList) A c L W)
      have HS2 := Lib.hid (fun (W : World) => rsign_any (negOf s.data.toList) A2 c2 M W HI2.out.sgn)
      rw [hbk] at HTX HSM
      rw [hbk2] at HSM
      rw [hsg] at HS2
      rw [show (s.data.toList == s.data.toList) = true by simp] at HSM
      generalize sgnI (negOf s.data.toList) L = sg at *
      clear hbk hbk2 hsg hv hv2
      generalize negOf s.data.toList = ng at *
      have hes : (⟨s.data.toList.toArray⟩ : ByteArray) = s := by simp
      rw [hes] at HTX
      clear hes
      have X2 := boxed (w := w3) (x := .bool ng) (y := .slice A2 M.length c2) (t := 31) (Below.refl _ _)
      have hz0 := X2.1
      have hz1 := X2.2.1
      clear X2
      have hlt2 : w2.heap.size < w3.heap.size + 1 := by omega
      have HC := Lib.hid (below_drew (Below.refl (w3.heap.size + 1) (w3.alloc (.cells #[.bool ng, .slice A2 M.length c2] 31))))
      have hf0 := hy0
      have hf1 := hy1
      have hf2 := hz0
      have hf3 := hz1
      go_wp2_with fail
      go_region_held3 (fun w' => w'.cell? ⟨w2.heap.size, 0, none⟩ = some (.bool ng) ∧ w'.cell? ⟨w2.heap.size, 1, none⟩ = some (.slice A L.length c) ∧
        w'.cell? ⟨w3.heap.size, 0, none⟩ = some (.bool ng) ∧ w'.cell? ⟨w3.heap.size, 1, none⟩ = some (.slice A2 M.length c2)) (go_keep)
        (first
          | (go_at_call 16; (with_reducible refine (HTX.out _ (up4 HC.out)).mono ?_); rintro e w4 ⟨rfl, hb4⟩; have HC9 := Lib.hid (below_then HC.out hb4 (below_sz HC.out)); clear HC hf0 hf1 hf2 hf3; have HC := HC9; clear HC9 hb4; have hf0 := (below_at (i := 0) HC.out hlt2).trans hy0; have hf1 := (below_at (i := 1) HC.out hlt2).trans hy1; have hf2 := (below_at (i := 0) HC.out (Nat.lt_succ_self _)).trans hz0; have hf3 := (below_at (i := 1) HC.out (Nat.lt_succ_self _)).trans hz1)
          | (go_at_call 17; (with_reducible refine (HSM.out _ (up4 HC.out)).mono ?_); rintro e w4 ⟨rfl, hb4⟩; have HC9 := Lib.hid (below_then HC.out hb4 (below_sz HC.out)); clear HC hf0 hf1 hf2 hf3; have HC := HC9; clear HC9 hb4; have hf0 := (below_at (i := 0) HC.out hlt2).trans hy0; have hf1 := (below_at (i := 1) HC.out hlt2).trans hy1; have hf2 := (below_at (i := 0) HC.out (Nat.lt_succ_self _)).trans hz0; have hf3 := (below_at (i := 1) HC.out (Nat.lt_succ_self _)).trans hz1)
          | (go_at_call 15; (with_reducible refine (HS1.out _).mono ?_); rintro e w4 ⟨rfl, hb4⟩; have HC9 := Lib.hid (below_then HC.out hb4 (below_sz HC.out)); clear HC hf0 hf1 hf2 hf3; have HC := HC9; clear HC9 hb4; have hf0 := (below_at (i := 0) HC.out hlt2).trans hy0; have hf1 := (below_at (i := 1) HC.out hlt2).trans hy1; have hf2 := (below_at (i := 0) HC.out (Nat.lt_succ_self _)).trans hz0; have hf3 := (below_at (i := 1) HC.out (Nat.lt_succ_self _)).trans hz1)
          | (go_at_call 18; (with_reducible refine (HS2.out _).mono ?_); rintro e w4 ⟨rfl, hb4⟩; have HC9 := Lib.hid (below_then HC.out hb4 (below_sz HC.out)); clear HC hf0 hf1 hf2 hf3; have HC := HC9; clear HC9 hb4; have hf0 := (below_at (i := 0) HC.out hlt2).trans hy0; have hf1 := (below_at (i := 1) HC.out hlt2).trans hy1; have hf2 := (below_at (i := 0) HC.out (Nat.lt_succ_self _)).trans hz0; have hf3 := (below_at (i := 1) HC.out (Nat.lt_succ_self _)).trans hz1))
      all_goals
        go_wp2
        go_ret
        exact ⟨rfl, HB13.out.trans (Below.less (up4 HC.out) HB13.out.size)⟩
    · have hd : ((er : Int) != 0) = true := by rw [bne_iff_ne]; exact h0
      obtain ⟨rfl, rfl⟩ := hno.out h0
      go_wp2_with fail
      refine (sign_any false A c [] _).mono ?_
      rintro e w4 ⟨rfl, hb4⟩
      go_wp2_with fail
      go_ret
      exact ⟨rfl, HB13.out.trans (Below.less ((below_alloc_new _).trans (Below.less hb4 (by simp))) HB13.out.size)⟩
end Go.Proofs.YtbfbijokhlkekaaDoor

/- 'both' of the statements: two integers of the program and of the reference. -/
namespace Go.Proofs.YtbfbijokhlkekaaDoor
open Go.RowKit

/-- Block b is the box of a struct of two cells. -/
structure Box (w : World) (b : Nat) (x y : Value) : Prop where
  c0 : w.cell? ⟨b, 0, none⟩ = some x
  c1 : w.cell? ⟨b, 1, none⟩ = some y
  hi : ∀ i, w.cell? ⟨b, i + 2, none⟩ = none
  f0 : w.frozen? ⟨b, 0, none⟩ = false
  f1 : w.frozen? ⟨b, 1, none⟩ = false
def setPair (w : World) (b : Nat) (u v : Value) : World := (w.setCell ⟨b, 0, none⟩ u).setCell ⟨b, 1, none⟩ v
section
variable {w w' : World} {b b' B : Nat} {x y u v : Value}
theorem Box.below (h : Box w b x y) (hb : Below B w w') (hB : b < B) : Box w' b x y :=
  ⟨(hb.cell (by exact hB)).trans h.c0, (hb.cell (by exact hB)).trans h.c1, fun i => (hb.cell (by exact hB)).trans (h.hi i), (hb.frozen (by exact hB)).trans h.f0, (hb.frozen (by exact hB)).trans h.f1⟩
theorem Box.store (h : Box w b x y) (u v : Value) : Box (setPair w b u v) b u v := by
  have n1 : (⟨b, 1, none⟩ : Addr) ≠ ⟨b, 0, none⟩ := by simp
  refine ⟨?_, ?_, fun i => ?_, ?_, ?_⟩
  · unfold setPair; rw [World.cell?_setCell_other _ _ _ _ n1]; exact World.cell?_setCell_same _ _ _ h.c0
  · unfold setPair; exact World.cell?_setCell_same _ _ _ (by rw [World.cell?_setCell_other _ _ _ _ n1.symm]; exact h.c1)
  · unfold setPair; rw [World.cell?_setCell_other _ _ _ _ (by simp), World.cell?_setCell_other _ _ _ _ (by simp)]; exact h.hi i
  · unfold setPair; simp [h.f0]
  · unfold setPair; simp [h.f1]
theorem Box.other (h : Box w b x y) (hne : b' ≠ b) (u v : Value) : Box (setPair w b' u v) b x y := by
  have n : ∀ i j : Nat, (⟨b', i, none⟩ : Addr) ≠ ⟨b, j, none⟩ := fun i j e => hne (congrArg Addr.block e)
  refine ⟨?_, ?_, fun i => ?_, ?_, ?_⟩
  · unfold setPair; rw [World.cell?_setCell_other _ _ _ _ (n _ _), World.cell?_setCell_other _ _ _ _ (n _ _)]; exact h.c0
  · unfold setPair; rw [World.cell?_setCell_other _ _ _ _ (n _ _), World.cell?_setCell_other _ _ _ _ (n _ _)]; exact h.c1
  · unfold setPair; rw [World.cell?_setCell_other _ _ _ _ (n _ _), World.cell?_setCell_other _ _ _ _ (n _ _)]; exact h.hi i
  · unfold setPair; simp [h.f0]
  · unfold setPair; simp [h.f1]
theorem Box.new (w : World) (x y : Value) (t : TypeId) : Box (w.alloc (.cells #[x, y] t)) w.heap.size x y := by
  have hh := heap_alloc_new w (.cells #[x, y] t)
  refine ⟨?_, ?_, fun i => ?_, ?_, ?_⟩
  · unfold World.cell?; dsimp only; rw [hh]; rfl
  · unfold World.cell?; dsimp only; rw [hh]; rfl
  · unfold World.cell?; dsimp only; rw [hh]; simp
  · unfold World.frozen?; dsimp only; rw [hh]; simp
  · unfold World.frozen?; dsimp only; rw [hh]; simp
theorem Box.row {k : IntKind} {A : Option Addr} {c : Nat} {L : List Nat} (hbx : Box w b x y) (h : Row k w B A c L) (hx : ∀ n, x ≠ .int k n) (hy : ∀ n, y ≠ .int k n) (u v : Value) : Row k (setPair w b u v) B A c L := by
  refine ⟨h.len, fun hp => ?_⟩
  obtain ⟨b', o, e, hbB, hc⟩ := h.spot hp
  have hne : b ≠ b' := by
    rintro rfl
    have h0 := hc 0 hp
    match o, h0 with
    | 0, h0 => rw [hbx.c0] at h0; exact hx _ (Option.some.inj h0)
    | 1, h0 => rw [hbx.c1] at h0; exact hy _ (Option.some.inj h0)
    | o + 2, h0 => rw [Nat.add_zero, hbx.hi o] at h0; cases h0
  refine ⟨b', o, e, hbB, hc.keep fun j => ?_⟩
  unfold setPair
  rw [World.cell?_setCell_other _ _ _ _ (fun e => hne (congrArg Addr.block e)), World.cell?_setCell_other _ _ _ _ (fun e => hne (congrArg Addr.block e))]
theorem setPair_size (w : World) (b : Nat) (u v : Value) : (setPair w b u v).heap.size = w.heap.size := by unfold setPair; rw [setCell_size, setCell_size]
theorem below_setPair {a : World} (h : Below B a w) (hB : B ≤ b) (u v : Value) : Below B a (setPair w b u v) := (h.setCell (by exact hB) _).setCell (by exact hB) _
end

/-- Four new boxes. -/
theorem four_boxes (w : World) (x0 y0 x1 y1 x2 y2 x3 y3 : Value) (t0 t1 t2 t3 : TypeId) :
    let W := (((w.alloc (.cells #[x0, y0] t0)).alloc (.cells #[x1, y1] t1)).alloc (.cells #[x2, y2] t2)).alloc (.cells #[x3, y3] t3)
    Box W w.heap.size x0 y0 ∧ Box W (w.heap.size + 1) x1 y1 ∧ Box W (w.heap.size + 1 + 1) x2 y2 ∧ Box W (w.heap.size + 1 + 1 + 1) x3 y3 ∧ W.heap.size = w.heap.size + 4 ∧ Below w.heap.size w W := by
  intro W
  have s1 : (w.alloc (.cells #[x0, y0] t0)).heap.size = w.heap.size + 1 := by simp
  have s2 : ((w.alloc (.cells #[x0, y0] t0)).alloc (.cells #[x1, y1] t1)).heap.size = w.heap.size + 1 + 1 := by simp
  have s3 : (((w.alloc (.cells #[x0, y0] t0)).alloc (.cells #[x1, y1] t1)).alloc (.cells #[x2, y2] t2)).heap.size = w.heap.size + 1 + 1 + 1 := by simp
  have b0 := Box.new w x0 y0 t0
  have b1 := Box.new (w.alloc (.cells #[x0, y0] t0)) x1 y1 t1
  have b2 := Box.new ((w.alloc (.cells #[x0, y0] t0)).alloc (.cells #[x1, y1] t1)) x2 y2 t2
  have b3 := Box.new (((w.alloc (.cells #[x0, y0] t0)).alloc (.cells #[x1, y1] t1)).alloc (.cells #[x2, y2] t2)) x3 y3 t3
  have a1 := below_alloc_new (w := w.alloc (.cells #[x0, y0] t0)) (.cells #[x1, y1] t1)
  have a2 := below_alloc_new (w := (w.alloc (.cells #[x0, y0] t0)).alloc (.cells #[x1, y1] t1)) (.cells #[x2, y2] t2)
  have a3 := below_alloc_new (w := ((w.alloc (.cells #[x0, y0] t0)).alloc (.cells #[x1, y1] t1)).alloc (.cells #[x2, y2] t2)) (.cells #[x3, y3] t3)
  rw [s1] at b1 a1
  rw [s2] at b2 a2
  rw [s3] at b3 a3
  refine ⟨((b0.below a1 (by omega)).below a2 (by omega)).below a3 (by omega), (b1.below a2 (by omega)).below a3 (by omega), b2.below a3 (by omega), b3, by simp [W], ?_⟩
  exact (below_a3 w _ _ _).trans (Below.less a3 (by omega))
end Go.Proofs.YtbfbijokhlkekaaDoor

/- 'both' of the statements. -/
namespace Go.Proofs.YtbfbijokhlkekaaDoor
open Go.RowKit

/-- What 'both' returns: two integers of the program, two of the reference, and whether both texts are good. -/
def BothPost (s t : ByteArray) (w : World) (e : Ending) (w' : World) : Prop := ∃ k1 A1 c1 L1 k2 A2 c2 L2 k3 A3 c3 L3 k4 A4 c4 L4 ok,
  e = .returned (.tuple #[.agg #[.bool k1, .slice A1 (List.length L1) c1], .agg #[.bool k2, .slice A2 (List.length L2) c2], .agg #[.bool k3, .slice A3 (List.length L3) c3], .agg #[.bool k4, .slice A4 (List.length L4) c4], .bool ok]) ∧
  IntR w' w'.heap.size k1 A1 c1 L1 ∧ IntR w' w'.heap.size k2 A2 c2 L2 ∧ RefR w' w'.heap.size k3 A3 c3 L3 ∧ RefR w' w'.heap.size k4 A4 c4 L4 ∧
  List.length L1 ≤ 223 ∧ List.length L2 ≤ 223 ∧ List.length L3 ≤ 500 ∧ List.length L4 ≤ 500 ∧
  (ok = true → errOf s.data.toList = 0 ∧ errOf t.data.toList = 0 ∧ k1 = negOf s.data.toList ∧ val9 L1 = numOf (restOf s.data.toList) ∧ k2 = negOf t.data.toList ∧ val9 L2 = numOf (restOf t.data.toList) ∧
    k3 = negOf s.data.toList ∧ valB 10000 L3 = numOf (restOf s.data.toList) ∧ k4 = negOf t.data.toList ∧ valB 10000 L4 = numOf (restOf t.data.toList)) ∧ Below w.heap.size w w'

theorem below_set1 {B b : Nat} {a w : World} (h : Below B a w) (hB : B ≤ b) (i : Nat) (u : Value) : Below B a (w.setCell ⟨b, i, none⟩ u) := h.setCell (by exact hB) _
theorem keep0 (W : World) (b : Nat) (x y : Value) (h : W.cell? ⟨b, 0, none⟩ = some x) : ((W.setCell ⟨b, 0, none⟩ x).setCell ⟨b, 1, none⟩ y).cell? ⟨b, 0, none⟩ = some x := by
  rw [World.cell?_setCell_other _ _ _ _ (by simp)]; exact World.cell?_setCell_same _ _ _ h
theorem keep1 (W : World) (b : Nat) (x y : Value) (h : W.cell? ⟨b, 1, none⟩ = some y) : ((W.setCell ⟨b, 0, none⟩ x).setCell ⟨b, 1, none⟩ y).cell? ⟨b, 1, none⟩ = some y :=
  World.cell?_setCell_same _ _ _ (by rw [World.cell?_setCell_other _ _ _ _ (by simp)]; exact h)

set_option maxRecDepth 20000 in
set_option maxHeartbeats 6400000 in
theorem both_long (s t : ByteArray) (w : World) (h : 600 < s.size ∨ 600 < t.size) : Calls Tryd.prog 22 #[.string s, .string t] w (BothPost s t w) := by
  have hfin : ∀ W, Below w.heap.size w W → BothPost s t w (.returned (.tuple #[.agg #[.bool false, .slice none 0 0], .agg #[.bool false, .slice none 0 0], .agg #[.bool false, .slice none 0 0], .agg #[.bool false, .slice none 0 0], .bool false])) W := fun W hb =>
    ⟨false, none, 0, [], false, none, 0, [], false, none, 0, [], false, none, 0, [], false, rfl, IntR.zero _ _ _ _, IntR.zero _ _ _ _, RefR.zero _ _ _ _, RefR.zero _ _ _ _, by simp, by simp, by simp, by simp, fun h => absurd h Bool.false_ne_true, hb⟩
  have HF := Lib.hid hfin
  clear hfin
  have F := four_boxes w (.bool false) (.slice none 0 0) (.bool false) (.slice none 0 0) (.bool false) (.slice none 0 0) (.bool false) (.slice none 0 0) 25 25 31 31
  by_cases h1 : 600 < s.size
  · clear h
    go_enter Tryd.func22, Tryd.ntmps22
    go_wp2_with fail
    change Code.wp Tryd.prog _ _ _ ((((w.alloc (.cells #[.bool false, .slice none 0 0] 25)).alloc (.cells #[.bool false, .slice none 0 0] 25)).alloc (.cells #[.bool false, .slice none 0 0] 31)).alloc (.cells #[.bool false, .slice none 0 0] 31))
    generalize (((w.alloc (.cells #[.bool false, .slice none 0 0] 25)).alloc (.cells #[.bool false, .slice none 0 0] 25)).alloc (.cells #[.bool false, .slice none 0 0] 31)).alloc (.cells #[.bool false, .slice none 0 0] 31) = W at *
    obtain ⟨b0, b1, b2, b3, hsz, hbw⟩ := F
    have HBW := Lib.hid hbw
    have HSZ := Lib.hid hsz
    clear hbw hsz
    have x0 := b0.c0
    have y0 := b0.c1
    have p0 := b0.f0
    have q0 := b0.f1
    have x1 := b1.c0
    have y1 := b1.c1
    have p1 := b1.f0
    have q1 := b1.f1
    have x2 := b2.c0
    have y2 := b2.c1
    have p2 := b2.f0
    have q2 := b2.f1
    have x3 := b3.c0
    have y3 := b3.c1
    have p3 := b3.f0
    have q3 := b3.f1
    clear b0 b1 b2 b3
    have n1 : ¬ w.heap.size = w.heap.size + 1 + 1 := by omega
    have n2 : ¬ w.heap.size = w.heap.size + 1 + 1 + 1 := by omega
    have n3 : ¬ w.heap.size + 1 = w.heap.size + 1 + 1 + 1 := by omega
    have n4 : ¬ w.heap.size + 1 + 1 = w.heap.size := by omega
    have n5 : ¬ w.heap.size + 1 + 1 + 1 = w.heap.size := by omega
    have n6 : ¬ w.heap.size + 1 + 1 + 1 = w.heap.size + 1 := by omega
    have ks0 := keep0
    have ks1 := keep1
    go_region_held3 (fun w' => w'.cell? ⟨w.heap.size, 0, none⟩ = some (.bool false) ∧ w'.cell? ⟨w.heap.size, 1, none⟩ = some (.slice none 0 0) ∧
        w'.cell? ⟨w.heap.size + 1, 0, none⟩ = some (.bool false) ∧ w'.cell? ⟨w.heap.size + 1, 1, none⟩ = some (.slice none 0 0) ∧
        w'.cell? ⟨w.heap.size + 1 + 1, 0, none⟩ = some (.bool false) ∧ w'.cell? ⟨w.heap.size + 1 + 1, 1, none⟩ = some (.slice none 0 0) ∧
        w'.cell? ⟨w.heap.size + 1 + 1 + 1, 0, none⟩ = some (.bool false) ∧ w'.cell? ⟨w.heap.size + 1 + 1 + 1, 1, none⟩ = some (.slice none 0 0)) (go_keep)
      (fail)
    all_goals
      go_wp2
      refine bodyPost_ret (v := .tuple #[.agg #[.bool false, .slice none 0 0], .agg #[.bool false, .slice none 0 0], .agg #[.bool false, .slice none 0 0], .agg #[.bool false, .slice none 0 0], .bool false]) (by simp [results, Tryd.results22, go_sem, x0, y0, x1, y1, x2, y2, x3, y3]) rfl (HF.out _ ?_)
      repeat (first | (with_reducible exact HBW.out) | (with_reducible refine below_drew ?_) | (with_reducible refine below_drewN ?_ _) | (with_reducible refine below_set1 ?_ ?_ _ _; rotate_left; omega))
  · have h2 : 600 < t.size := by omega
    clear h
    go_enter Tryd.func22, Tryd.ntmps22
    go_wp2_with fail
    change Code.wp Tryd.prog _ _ _ ((((w.alloc (.cells #[.bool false, .slice none 0 0] 25)).alloc (.cells #[.bool false, .slice none 0 0] 25)).alloc (.cells #[.bool false, .slice none 0 0] 31)).alloc (.cells #[.bool false, .slice none 0 0] 31))
    generalize (((w.alloc (.cells #[.bool false, .slice none 0 0] 25)).alloc (.cells #[.bool false, .slice none 0 0] 25)).alloc (.cells #[.bool false, .slice none 0 0] 31)).alloc (.cells #[.bool false, .slice none 0 0] 31) = W at *
    obtain ⟨b0, b1, b2, b3, hsz, hbw⟩ := F
    have HBW := Lib.hid hbw
    have HSZ := Lib.hid hsz
    clear hbw hsz
    have x0 := b0.c0
    have y0 := b0.c1
    have p0 := b0.f0
    have q0 := b0.f1
    have x1 := b1.c0
    have y1 := b1.c1
    have p1 := b1.f0
    have q1 := b1.f1
    have x2 := b2.c0
    have y2 := b2.c1
    have p2 := b2.f0
    have q2 := b2.f1
    have x3 := b3.c0
    have y3 := b3.c1
    have p3 := b3.f0
    have q3 := b3.f1
    clear b0 b1 b2 b3
    have n1 : ¬ w.heap.size = w.heap.size + 1 + 1 := by omega
    have n2 : ¬ w.heap.size = w.heap.size + 1 + 1 + 1 := by omega
    have n3 : ¬ w.heap.size + 1 = w.heap.size + 1 + 1 + 1 := by omega
    have n4 : ¬ w.heap.size + 1 + 1 = w.heap.size := by omega
    have n5 : ¬ w.heap.size + 1 + 1 + 1 = w.heap.size := by omega
    have n6 : ¬ w.heap.size + 1 + 1 + 1 = w.heap.size + 1 := by omega
    have ks0 := keep0
    have ks1 := keep1
    go_region_held3 (fun w' => w'.cell? ⟨w.heap.size, 0, none⟩ = some (.bool false) ∧ w'.cell? ⟨w.heap.size, 1, none⟩ = some (.slice none 0 0) ∧
        w'.cell? ⟨w.heap.size + 1, 0, none⟩ = some (.bool false) ∧ w'.cell? ⟨w.heap.size + 1, 1, none⟩ = some (.slice none 0 0) ∧
        w'.cell? ⟨w.heap.size + 1 + 1, 0, none⟩ = some (.bool false) ∧ w'.cell? ⟨w.heap.size + 1 + 1, 1, none⟩ = some (.slice none 0 0) ∧
        w'.cell? ⟨w.heap.size + 1 + 1 + 1, 0, none⟩ = some (.bool false) ∧ w'.cell? ⟨w.heap.size + 1 + 1 + 1, 1, none⟩ = some (.slice none 0 0)) (go_keep)
      (fail)
    all_goals
      go_wp2
      refine bodyPost_ret (v := .tuple #[.agg #[.bool false, .slice none 0 0], .agg #[.bool false, .slice none 0 0], .agg #[.bool false, .slice none 0 0], .agg #[.bool false, .slice none 0 0], .bool false]) (by simp [results, Tryd.results22, go_sem, x0, y0, x1, y1, x2, y2, x3, y3]) rfl (HF.out _ ?_)
      repeat (first | (with_reducible exact HBW.out) | (with_reducible refine below_drew ?_) | (with_reducible refine below_drewN ?_ _) | (with_reducible refine below_set1 ?_ ?_ _ _; rotate_left; omega))

/-- The four boxes of a call that began in world w. -/
structure St (w W : World) (x0 y0 x1 y1 x2 y2 x3 y3 : Value) : Prop where
  b0 : Box W w.heap.size x0 y0
  b1 : Box W (w.heap.size + 1) x1 y1
  b2 : Box W (w.heap.size + 1 + 1) x2 y2
  b3 : Box W (w.heap.size + 1 + 1 + 1) x3 y3
  bw : Below w.heap.size w W
  sz : w.heap.size + 4 ≤ W.heap.size
section
variable {w W W' : World} {x0 y0 x1 y1 x2 y2 x3 y3 : Value}
theorem St.call (h : St w W x0 y0 x1 y1 x2 y2 x3 y3) (hb : Below W.heap.size W W') : St w W' x0 y0 x1 y1 x2 y2 x3 y3 :=
  ⟨h.b0.below hb (by have := h.sz; omega), h.b1.below hb (by have := h.sz; omega), h.b2.below hb (by have := h.sz; omega), h.b3.below hb (by have := h.sz; omega), h.bw.trans (Below.less hb h.bw.size), Nat.le_trans h.sz hb.size⟩
theorem St.s0 (h : St w W x0 y0 x1 y1 x2 y2 x3 y3) (u v : Value) : St w (setPair W w.heap.size u v) u v x1 y1 x2 y2 x3 y3 :=
  ⟨h.b0.store u v, h.b1.other (by omega) u v, h.b2.other (by omega) u v, h.b3.other (by omega) u v, below_setPair h.bw (Nat.le_refl _) u v, by rw [setPair_size]; exact h.sz⟩
theorem St.s1 (h : St w W x0 y0 x1 y1 x2 y2 x3 y3) (u v : Value) : St w (setPair W (w.heap.size + 1) u v) x0 y0 u v x2 y2 x3 y3 :=
  ⟨h.b0.other (by omega) u v, h.b1.store u v, h.b2.other (by omega) u v, h.b3.other (by omega) u v, below_setPair h.bw (by omega) u v, by rw [setPair_size]; exact h.sz⟩
theorem St.s2 (h : St w W x0 y0 x1 y1 x2 y2 x3 y3) (u v : Value) : St w (setPair W (w.heap.size + 1 + 1) u v) x0 y0 x1 y1 u v x3 y3 :=
  ⟨h.b0.other (by omega) u v, h.b1.other (by omega) u v, h.b2.store u v, h.b3.other (by omega) u v, below_setPair h.bw (by omega) u v, by rw [setPair_size]; exact h.sz⟩
theorem St.s3 (h : St w W x0 y0 x1 y1 x2 y2 x3 y3) (u v : Value) : St w (setPair W (w.heap.size + 1 + 1 + 1) u v) x0 y0 x1 y1 x2 y2 u v :=
  ⟨h.b0.other (by omega) u v, h.b1.other (by omega) u v, h.b2.other (by omega) u v, h.b3.store u v, below_setPair h.bw (by omega) u v, by rw [setPair_size]; exact h.sz⟩
end
theorem IntR.pair {w : World} {b B : Nat} {z : Bool} {a : Option Addr} {n cc : Nat} (hb : Box w b (.bool z) (.slice a n cc)) {k : Bool} {A : Option Addr} {c : Nat} {L : List Nat} (h : IntR w B k A c L) (u v : Value) : IntR (setPair w b u v) B k A c L :=
  ⟨hb.row h.row (fun _ => by simp) (fun _ => by simp) u v, h.canon, h.sgn⟩
theorem RefR.pair {w : World} {b B : Nat} {z : Bool} {a : Option Addr} {n cc : Nat} (hb : Box w b (.bool z) (.slice a n cc)) {k : Bool} {A : Option Addr} {c : Nat} {L : List Nat} (h : RefR w B k A c L) (u v : Value) : RefR (setPair w b u v) B k A c L :=
  ⟨hb.row h.row (fun _ => by simp) (fun _ => by simp) u v, h.lim, h.top, h.sgn⟩
theorem RefR.lift {w w1 : World} {B : Nat} {n : Bool} {A : Option Addr} {c : Nat} {L : List Nat} (h : RefR w B n A c L) (hb : Below w.heap.size w w1) (hB : B ≤ w.heap.size) : RefR w1 w1.heap.size n A c L :=
  ⟨((h.row.more hB).below hb).more hb.size, h.lim, h.top, h.sgn⟩
theorem IntR.lift1 {w w1 : World} {B : Nat} {n : Bool} {A : Option Addr} {c : Nat} {L : List Nat} (h : IntR w B n A c L) (hb : Below w.heap.size w w1) (hB : B ≤ w.heap.size) : IntR w1 w1.heap.size n A c L :=
  ⟨((h.row.more hB).below hb).more hb.size, h.canon, h.sgn⟩

theorem Box.drew {w : World} {b : Nat} {x y : Value} (h : Box w b x y) : Box w.drew b x y := ⟨h.c0, h.c1, h.hi, h.f0, h.f1⟩
theorem IntR.drew {w : World} {B : Nat} {k : Bool} {A : Option Addr} {c : Nat} {L : List Nat} (h : IntR w B k A c L) : IntR w.drew B k A c L := ⟨h.row.drew, h.canon, h.sgn⟩
theorem RefR.drew {w : World} {B : Nat} {k : Bool} {A : Option Addr} {c : Nat} {L : List Nat} (h : RefR w B k A c L) : RefR w.drew B k A c L := ⟨h.row.drew, h.lim, h.top, h.sgn⟩
theorem drew_size (w : World) : w.drew.heap.size = w.heap.size := rfl
theorem St.drew {w W : World} {x0 y0 x1 y1 x2 y2 x3 y3 : Value} (h : St w W x0 y0 x1 y1 x2 y2 x3 y3) : St w W.drew x0 y0 x1 y1 x2 y2 x3 y3 :=
  ⟨h.b0.drew, h.b1.drew, h.b2.drew, h.b3.drew, below_drew h.bw, by rw [drew_size]; exact h.sz⟩
/-- Each box gets back what it held. -/
def lastW (w W : World) (x0 y0 x1 y1 x2 y2 x3 y3 : Value) : World :=
  (setPair (setPair (setPair (setPair W w.heap.size x0 y0) (w.heap.size + 1) x1 y1) (w.heap.size + 1 + 1) x2 y2) (w.heap.size + 1 + 1 + 1) x3 y3).drew
theorem lastW_size (w W : World) (x0 y0 x1 y1 x2 y2 x3 y3 : Value) : (lastW w W x0 y0 x1 y1 x2 y2 x3 y3).heap.size = W.heap.size := by
  unfold lastW
  rw [drew_size, setPair_size, setPair_size, setPair_size, setPair_size]
section
variable {w W : World} {z0 z1 z2 z3 : Bool} {a0 a1 a2 a3 : Option Addr} {n0 n1 n2 n3 m0 m1 m2 m3 : Nat}
theorem St.last (h : St w W (.bool z0) (.slice a0 n0 m0) (.bool z1) (.slice a1 n1 m1) (.bool z2) (.slice a2 n2 m2) (.bool z3) (.slice a3 n3 m3)) :
    St w (lastW w W (.bool z0) (.slice a0 n0 m0) (.bool z1) (.slice a1 n1 m1) (.bool z2) (.slice a2 n2 m2) (.bool z3) (.slice a3 n3 m3)) (.bool z0) (.slice a0 n0 m0) (.bool z1) (.slice a1 n1 m1) (.bool z2) (.slice a2 n2 m2) (.bool z3) (.slice a3 n3 m3) := by
  have h4 := (((h.s0 (.bool z0) (.slice a0 n0 m0)).s1 (.bool z1) (.slice a1 n1 m1)).s2 (.bool z2) (.slice a2 n2 m2)).s3 (.bool z3) (.slice a3 n3 m3)
  unfold lastW
  exact h4.drew
theorem IntR.last (h : St w W (.bool z0) (.slice a0 n0 m0) (.bool z1) (.slice a1 n1 m1) (.bool z2) (.slice a2 n2 m2) (.bool z3) (.slice a3 n3 m3)) {k : Bool} {A : Option Addr} {c : Nat} {L : List Nat} (hi : IntR W W.heap.size k A c L) :
    IntR (lastW w W (.bool z0) (.slice a0 n0 m0) (.bool z1) (.slice a1 n1 m1) (.bool z2) (.slice a2 n2 m2) (.bool z3) (.slice a3 n3 m3)) (lastW w W (.bool z0) (.slice a0 n0 m0) (.bool z1) (.slice a1 n1 m1) (.bool z2) (.slice a2 n2 m2) (.bool z3) (.slice a3 n3 m3)).heap.size k A c L := by
  rw [lastW_size]
  have h0 := h.s0 (.bool z0) (.slice a0 n0 m0)
  have h1 := h0.s1 (.bool z1) (.slice a1 n1 m1)
  have h2 := h1.s2 (.bool z2) (.slice a2 n2 m2)
  have i3 := IntR.pair h2.b3 (IntR.pair h1.b2 (IntR.pair h0.b1 (IntR.pair h.b0 hi (.bool z0) (.slice a0 n0 m0)) (.bool z1) (.slice a1 n1 m1)) (.bool z2) (.slice a2 n2 m2)) (.bool z3) (.slice a3 n3 m3)
  unfold lastW
  exact i3.drew
theorem RefR.last (h : St w W (.bool z0) (.slice a0 n0 m0) (.bool z1) (.slice a1 n1 m1) (.bool z2) (.slice a2 n2 m2) (.bool z3) (.slice a3 n3 m3)) {k : Bool} {A : Option Addr} {c : Nat} {L : List Nat} (hi : RefR W W.heap.size k A c L) :
    RefR (lastW w W (.bool z0) (.slice a0 n0 m0) (.bool z1) (.slice a1 n1 m1) (.bool z2) (.slice a2 n2 m2) (.bool z3) (.slice a3 n3 m3)) (lastW w W (.bool z0) (.slice a0 n0 m0) (.bool z1) (.slice a1 n1 m1) (.bool z2) (.slice a2 n2 m2) (.bool z3) (.slice a3 n3 m3)).heap.size k A c L := by
  rw [lastW_size]
  have h0 := h.s0 (.bool z0) (.slice a0 n0 m0)
  have h1 := h0.s1 (.bool z1) (.slice a1 n1 m1)
  have h2 := h1.s2 (.bool z2) (.slice a2 n2 m2)
  have i3 := RefR.pair h2.b3 (RefR.pair h1.b2 (RefR.pair h0.b1 (RefR.pair h.b0 hi (.bool z0) (.slice a0 n0 m0)) (.bool z1) (.slice a1 n1 m1)) (.bool z2) (.slice a2 n2 m2)) (.bool z3) (.slice a3 n3 m3)
  unfold lastW
  exact i3.drew
end

end Go.Proofs.YtbfbijokhlkekaaDoor

/- 'Add' of integers of different signs; 'Add' and 'Sub' of any two. -/
namespace Go.Proofs.YtbfbijokhlkekaaDoor
open Go.RowKit

theorem cmp_lt {x y : Nat} (h : x < y) : cmpZ x y = -1 := by unfold cmpZ; rw [if_pos h]
theorem cmp_ge {x y : Nat} (h : y ≤ x) : 0 ≤ cmpZ x y := by unfold cmpZ; rw [if_neg (by omega)]; split <;> omega

set_option maxRecDepth 20000 in
set_option maxHeartbeats 3200000 in
theorem add_diff_ge (n : Bool) (A A' : Option Addr) (c c' : Nat) (L M : List Nat) (w : World) (hl : L.length ≤ 500000) (hml : M.length ≤ 500000) (hle : val9 M ≤ val9 L)
    (hL : IntR w w.heap.size n A c L) (hM : IntR w w.heap.size (!n) A' c' M) :
    Calls Tryd.prog 24 #[.agg #[.bool n, .slice A L.length c], .agg #[.bool (!n), .slice A' M.length c']] w fun e w' => ∃ k A c R, e = .returned (.agg #[.bool k, .slice A R.length c]) ∧
      IntR w' w'.heap.size k A c R ∧ zI k R = zI n L + zI (!n) M ∧ R.length ≤ L.length + M.length + 1 ∧ Below w.heap.size w w' := by
  have hM2 := fun W h1 h2 => subt2 A A' c c' L M W (by omega) (canon_len hL.canon hM.canon hle) hL.canon.lim hM.canon.lim hle h1 h2
  have HM2 := Lib.hid hM2
  have hC := fun W h1 h2 => compare_row A A' c c' L M W (by omega) (by omega) h1 h2 hL.canon hM.canon
  have hz := cmp_ge hle
  generalize cmpZ (val9 L) (val9 M) = z at *
  have HC := Lib.hid hC
  clear hM2 hC
  generalize hl' : L.length = l at *
  generalize hm' : M.length = l2 at *
  have HLL := Lib.hid hl'
  have HML := Lib.hid hm'
  clear hl' hm' hle
  have hbb : (n == !n) = false := by cases n <;> rfl
  go_enter Tryd.func24, Tryd.ntmps24
  go_wp2_with fail
  refine (HC.out _ (hL.row.up (below_a3 _ _ _ _)) (hM.row.up (below_a3 _ _ _ _))).mono ?_
  rintro e w9 ⟨rfl, nq, rfl⟩
  go_wp2_with fail
  have hne1 : ¬ w.heap.size = w.heap.size + 1 + 1 := by omega
  have hne2 : ¬ w.heap.size + 1 + 1 = w.heap.size := by omega
  have hup := below_drewN (below_a3 w (.cells #[.bool n, .slice A l c] 25) (.cells #[.bool (!n), .slice A' l2 c'] 25) (.cells #[.bool false, .slice none 0 0] 25)) (nq + 1)
  have HUP := Lib.hid hup
  clear hup
  go_region_held3 (fun w' => w'.cell? ⟨w.heap.size, 0, none⟩ = some (.bool n) ∧ w'.cell? ⟨w.heap.size, 1, none⟩ = some (.slice A l c) ∧
      w'.cell? ⟨w.heap.size + 1, 0, none⟩ = some (.bool (!n)) ∧ w'.cell? ⟨w.heap.size + 1, 1, none⟩ = some (.slice A' l2 c')) (go_keep)
    (first
      | (go_at_call 52; (with_reducible refine (HM2.out _ (hL.row.up HUP.out) (hM.row.up HUP.out)).mono ?_); rintro e w1 ⟨g, c1, R, rfl, hr1, hcan1, hv1, hl1, hb1, hgg⟩; have HB1 := Lib.hid (three (below_undrewN hb1)).2.2.2.2.2.2.2.2.2; have X := three (below_undrewN hb1); have hq1 := X.1; have hq2 := X.2.1; have hq3 := X.2.2.1; have hq4 := X.2.2.2.1; have hq5 := X.2.2.2.2.1; have hq6 := X.2.2.2.2.2.1; have hq7 := X.2.2.2.2.2.2.1; have hq8 := X.2.2.2.2.2.2.2.1; have hq9 := X.2.2.2.2.2.2.2.2.1; clear X hb1)
      | (go_at_call 42; refine (signed_any _ _ _ _ _).mono ?_; rintro e w2 ⟨rfl, hb2⟩; have HB2 := Lib.hid (below_then HB1.out hb2 hq9); have HR2 := Lib.hid (hr1.below hb2); have hs2 := hb2.size; clear hq1 hq2 hq3 hq4 hq5 hq6 hq7 hq8 hr1 hb2; have X := three' HB2.out; have hq1 := X.1; have hq2 := X.2.1; have hq3 := X.2.2.1; have hq4 := X.2.2.2.1; have hq5 := X.2.2.2.2.1; have hq6 := X.2.2.2.2.2.1; have hq7 := X.2.2.2.2.2.2.1; have hq8 := X.2.2.2.2.2.2.2.1; clear X))
  all_goals
    go_wp2
    have hbw : Below w.heap.size w w2 := (below_a3 w _ _ _).trans (Below.less HB2.out (by omega))
    refine bodyPost_ret (v := .agg #[.bool (n && decide (0 < R.length)), .slice (some ⟨g, 0, none⟩) R.length c1]) (by simp [results, Tryd.results24, go_sem, hq5, hq6]) rfl
      ⟨_, _, _, R, rfl, ?_, subZI n hv1 val9_nil, by omega, (hbw.setCell (by simp; omega) _).setCell (by simp; omega) _⟩
    rw [setCell_size, setCell_size]
    refine ⟨(HR2.out.more hs2).box3 HB2.out (fun _ => by simp) (fun _ => by simp) _ _, hcan1, fun hk hR => ?_⟩
    rw [hR] at hk
    simp at hk

/-- The world after 'x, y = y, x' on two boxes, a third one behind them. -/
def swapW (w : World) (x y x' y' : Value) (nq : Nat) : World :=
  ((((((((w.alloc (.cells #[x, y] 25)).alloc (.cells #[x', y'] 25)).alloc (.cells #[.bool false, .slice none 0 0] 25)).drewN nq).setCell ⟨w.heap.size, 0, none⟩ x').setCell ⟨w.heap.size, 1, none⟩ y').setCell ⟨w.heap.size + 1, 0, none⟩ x).setCell ⟨w.heap.size + 1, 1, none⟩ y)
theorem swapW_below (w : World) (x y x' y' : Value) (nq : Nat) : Below w.heap.size w (swapW w x y x' y' nq) :=
  (((((below_drewN (below_a3 w _ _ _) nq).setCell (by simp) _).setCell (by simp) _).setCell (by simp) _).setCell (by simp) _)
theorem swapW_size (w : World) (x y x' y' : Value) (nq : Nat) : (swapW w x y x' y' nq).heap.size = w.heap.size + 3 := by
  unfold swapW
  rw [setCell_size, setCell_size, setCell_size, setCell_size]
  simp [World.drewN]
theorem cell_set_same {w : World} {b i : Nat} {u v : Value} (h : w.cell? ⟨b, i, none⟩ = some v) : (w.setCell ⟨b, i, none⟩ u).cell? ⟨b, i, none⟩ = some u := by
  unfold World.cell? at h
  dsimp only at h
  unfold World.cell? World.setCell
  dsimp only
  rw [Array.getElem?_modify, if_pos rfl]
  cases hb : w.heap[b]? with
  | none => rw [hb] at h; cases h
  | some o =>
    rw [hb] at h
    cases o with
    | cells c e f =>
      simp only [Option.map_some, Option.isSome_none, Bool.false_eq_true, if_false] at h ⊢
      have hi : i < c.size := by
        rcases Nat.lt_or_ge i c.size with h1 | h1
        · exact h1
        · rw [Array.getElem?_eq_none h1] at h; cases h
      simp [hi]
    | _ => cases h
theorem cell_set_ne {w : World} {p q : Addr} {u : Value} (h : p ≠ q) : (w.setCell p u).cell? q = w.cell? q := World.cell?_setCell_other _ _ _ _ h
theorem frozen_set {w : World} {p q : Addr} {u : Value} : (w.setCell p u).frozen? q = w.frozen? q := by simp
theorem swapW_cells (w : World) (x y x' y' : Value) (nq : Nat) :
    (swapW w x y x' y' nq).cell? ⟨w.heap.size, 0, none⟩ = some x' ∧ (swapW w x y x' y' nq).cell? ⟨w.heap.size, 1, none⟩ = some y' ∧
    (swapW w x y x' y' nq).cell? ⟨w.heap.size + 1, 0, none⟩ = some x ∧ (swapW w x y x' y' nq).cell? ⟨w.heap.size + 1, 1, none⟩ = some y ∧
    (swapW w x y x' y' nq).cell? ⟨w.heap.size + 2, 0, none⟩ = some (.bool false) ∧ (swapW w x y x' y' nq).cell? ⟨w.heap.size + 2, 1, none⟩ = some (.slice none 0 0) ∧
    (swapW w x y x' y' nq).frozen? ⟨w.heap.size + 2, 0, none⟩ = false ∧ (swapW w x y x' y' nq).frozen? ⟨w.heap.size + 2, 1, none⟩ = false := by
  have X := three (Below.refl _ (((w.alloc (.cells #[x, y] 25)).alloc (.cells #[x', y'] 25)).alloc (.cells #[.bool false, .slice none 0 0] 25)))
  obtain ⟨h1, h2, h3, h4, h5, h6, h7, h8, _⟩ := X
  have d : ∀ p, ((((w.alloc (.cells #[x, y] 25)).alloc (.cells #[x', y'] 25)).alloc (.cells #[.bool false, .slice none 0 0] 25)).drewN nq).cell? p = (((w.alloc (.cells #[x, y] 25)).alloc (.cells #[x', y'] 25)).alloc (.cells #[.bool false, .slice none 0 0] 25)).cell? p := fun _ => rfl
  have df : ∀ p, ((((w.alloc (.cells #[x, y] 25)).alloc (.cells #[x', y'] 25)).alloc (.cells #[.bool false, .slice none 0 0] 25)).drewN nq).frozen? p = (((w.alloc (.cells #[x, y] 25)).alloc (.cells #[x', y'] 25)).alloc (.cells #[.bool false, .slice none 0 0] 25)).frozen? p := fun _ => rfl
  unfold swapW
  generalize (((w.alloc (.cells #[x, y] 25)).alloc (.cells #[x', y'] 25)).alloc (.cells #[.bool false, .slice none 0 0] 25)) = V at *
  generalize V.drewN nq = U at *
  generalize w.heap.size = g at *
  rw [← d] at h1 h2 h3 h4 h5 h6
  rw [← df] at h7 h8
  have n1 : (⟨g, 0, none⟩ : Addr) ≠ ⟨g, 1, none⟩ := by simp
  have n2 : (⟨g + 1, 0, none⟩ : Addr) ≠ ⟨g + 1, 1, none⟩ := by simp
  have m : ∀ i j : Nat, (⟨g, i, none⟩ : Addr) ≠ ⟨g + 1, j, none⟩ := by simp
  have k1 : ∀ i j : Nat, (⟨g, i, none⟩ : Addr) ≠ ⟨g + 2, j, none⟩ := by simp
  have k2 : ∀ i j : Nat, (⟨g + 1, i, none⟩ : Addr) ≠ ⟨g + 2, j, none⟩ := by simp
  refine ⟨?_, ?_, ?_, ?_, ?_, ?_, ?_, ?_⟩
  · rw [cell_set_ne (m _ _).symm, cell_set_ne (m _ _).symm, cell_set_ne n1.symm]; exact cell_set_same h1
  · rw [cell_set_ne (m _ _).symm, cell_set_ne (m _ _).symm]; exact cell_set_same (by rw [cell_set_ne n1]; exact h2)
  · rw [cell_set_ne n2.symm]; exact cell_set_same (by rw [cell_set_ne (m _ _), cell_set_ne (m _ _)]; exact h3)
  · exact cell_set_same (by rw [cell_set_ne n2, cell_set_ne (m _ _), cell_set_ne (m _ _)]; exact h4)
  · rw [cell_set_ne (k2 _ _), cell_set_ne (k2 _ _), cell_set_ne (k1 _ _), cell_set_ne (k1 _ _)]; exact h5
  · rw [cell_set_ne (k2 _ _), cell_set_ne (k2 _ _), cell_set_ne (k1 _ _), cell_set_ne (k1 _ _)]; exact h6
  · rw [frozen_set, frozen_set, frozen_set, frozen_set]; exact h7
  · rw [frozen_set, frozen_set, frozen_set, frozen_set]; exact h8

set_option maxRecDepth 20000 in
set_option maxHeartbeats 3200000 in
theorem add_diff_lt (n : Bool) (A A' : Option Addr) (c c' : Nat) (L M : List Nat) (w : World) (hl : L.length ≤ 500000) (hml : M.length ≤ 500000) (hlt : val9 L < val9 M)
    (hL : IntR w w.heap.size n A c L) (hM : IntR w w.heap.size (!n) A' c' M) :
    Calls Tryd.prog 24 #[.agg #[.bool n, .slice A L.length c], .agg #[.bool (!n), .slice A' M.length c']] w fun e w' => ∃ k A c R, e = .returned (.agg #[.bool k, .slice A R.length c]) ∧
      IntR w' w'.heap.size k A c R ∧ zI k R = zI n L + zI (!n) M ∧ R.length ≤ L.length + M.length + 1 ∧ Below w.heap.size w w' := by
  have hM2 := fun W h1 h2 => subt2 A' A c' c M L W (by omega) (canon_len hM.canon hL.canon (by omega)) hM.canon.lim hL.canon.lim (by omega) h1 h2
  have HM2 := Lib.hid hM2
  have hC := fun W h1 h2 => compare_row A A' c c' L M W (by omega) (by omega) h1 h2 hL.canon hM.canon
  rw [cmp_lt hlt] at hC
  have HC := Lib.hid hC
  clear hM2 hC
  generalize hl' : L.length = l at *
  generalize hm' : M.length = l2 at *
  have HLL := Lib.hid hl'
  have HML := Lib.hid hm'
  clear hl' hm' hlt
  have hbb : (n == !n) = false := by cases n <;> rfl
  go_enter Tryd.func24, Tryd.ntmps24
  go_wp2_with fail
  refine (HC.out _ (hL.row.up (below_a3 _ _ _ _)) (hM.row.up (below_a3 _ _ _ _))).mono ?_
  rintro e w9 ⟨rfl, nq, rfl⟩
  go_wp2_with fail
  have Y := swapW_cells w (.bool n) (.slice A l c) (.bool (!n)) (.slice A' l2 c') nq
  have hbS := swapW_below w (.bool n) (.slice A l c) (.bool (!n)) (.slice A' l2 c') nq
  have hsz := swapW_size w (.bool n) (.slice A l c) (.bool (!n)) (.slice A' l2 c') nq
  change Code.wp Tryd.prog _ _ _ (swapW w (.bool n) (.slice A l c) (.bool (!n)) (.slice A' l2 c') nq)
  generalize swapW w (.bool n) (.slice A l c) (.bool (!n)) (.slice A' l2 c') nq = W at *
  have hz1 : w.heap.size < W.drew.heap.size := by show _ < W.heap.size; omega
  have hz2 : w.heap.size + 1 < W.drew.heap.size := by show _ < W.heap.size; omega
  have hz3 : w.heap.size + 2 < W.drew.heap.size := by show _ < W.heap.size; omega
  have HSZ := Lib.hid hsz
  have HUP := Lib.hid (below_drew hbS)
  clear hsz hbS
  have hy1 := Y.1
  have hy2 := Y.2.1
  have hy3 := Y.2.2.1
  have hy4 := Y.2.2.2.1
  have hne1 : ¬ w.heap.size = w.heap.size + 1 + 1 := by omega
  have hne2 : ¬ w.heap.size + 1 + 1 = w.heap.size := by omega
  go_region_held3 (fun w' => w'.cell? ⟨w.heap.size, 0, none⟩ = some (.bool (!n)) ∧ w'.cell? ⟨w.heap.size, 1, none⟩ = some (.slice A' l2 c') ∧
      w'.cell? ⟨w.heap.size + 1, 0, none⟩ = some (.bool n) ∧ w'.cell? ⟨w.heap.size + 1, 1, none⟩ = some (.slice A l c)) (go_keep)
    (first
      | (go_at_call 52; (with_reducible refine (HM2.out _ (hM.row.up HUP.out) (hL.row.up HUP.out)).mono ?_); rintro e w1 ⟨g, c1, R, rfl, hr1, hcan1, hv1, hl1, hb1, hgg⟩; have hs9 := hb1.size; have HB1 := Lib.hid hb1; have hq1 := (hb1.cell (p := ⟨w.heap.size, 0, none⟩) hz1).trans Y.1; have hq2 := (hb1.cell (p := ⟨w.heap.size, 1, none⟩) hz1).trans Y.2.1; have hq3 := (hb1.cell (p := ⟨w.heap.size + 1, 0, none⟩) hz2).trans Y.2.2.1; have hq4 := (hb1.cell (p := ⟨w.heap.size + 1, 1, none⟩) hz2).trans Y.2.2.2.1; clear hb1)
      | (go_at_call 42; refine (signed_any _ _ _ _ _).mono ?_; rintro e w2 ⟨rfl, hb2⟩; have HB2 := Lib.hid (below_then HB1.out hb2 hs9); have HR2 := Lib.hid (hr1.below hb2); have hs2 := hb2.size; clear hq1 hq2 hq3 hq4 hr1 hb2; have hq1 := (HB2.out.cell (p := ⟨w.heap.size, 0, none⟩) hz1).trans Y.1; have hq2 := (HB2.out.cell (p := ⟨w.heap.size, 1, none⟩) hz1).trans Y.2.1; have hq3 := (HB2.out.cell (p := ⟨w.heap.size + 1, 0, none⟩) hz2).trans Y.2.2.1; have hq4 := (HB2.out.cell (p := ⟨w.heap.size + 1, 1, none⟩) hz2).trans Y.2.2.2.1; have hq5 := (HB2.out.cell (p := ⟨w.heap.size + 2, 0, none⟩) hz3).trans Y.2.2.2.2.1; have hq6 := (HB2.out.cell (p := ⟨w.heap.size + 2, 1, none⟩) hz3).trans Y.2.2.2.2.2.1; have hq7 := (HB2.out.frozen (p := ⟨w.heap.size + 2, 0, none⟩) hz3).trans Y.2.2.2.2.2.2.1; have hq8 := (HB2.out.frozen (p := ⟨w.heap.size + 2, 1, none⟩) hz3).trans Y.2.2.2.2.2.2.2))
  all_goals
    go_wp2
    have hbw : Below w.heap.size w w2 := HUP.out.trans (Below.less HB2.out (by omega))
    have hgg2 : w.heap.size + 3 ≤ g := by have h1 := HSZ.out; have h2 : W.heap.size ≤ g := hgg; omega
    refine bodyPost_ret (v := .agg #[.bool ((!n) && decide (0 < R.length)), .slice (some ⟨g, 0, none⟩) R.length c1]) (by simp [results, Tryd.results24, go_sem, hq5, hq6]) rfl
      ⟨_, _, _, R, rfl, ?_, ?_, by omega, (hbw.setCell (by simp; omega) _).setCell (by simp; omega) _⟩
    · rw [setCell_size, setCell_size]
      refine ⟨((HR2.out.more hs2).apart (by simp; omega) _).apart (by simp; omega) _, hcan1, fun hk hR => ?_⟩
      rw [hR] at hk
      simp at hk
    · rw [subZI (!n) hv1 val9_nil, Bool.not_not, Int.add_comm]

/-- 'Add' of any two integers. -/
theorem add_any (n m : Bool) (A A' : Option Addr) (c c' : Nat) (L M : List Nat) (w : World) (hl : L.length ≤ 500000) (hml : M.length ≤ 500000)
    (hL : IntR w w.heap.size n A c L) (hM : IntR w w.heap.size m A' c' M) :
    Calls Tryd.prog 24 #[.agg #[.bool n, .slice A L.length c], .agg #[.bool m, .slice A' M.length c']] w fun e w' => ∃ k A c R, e = .returned (.agg #[.bool k, .slice A R.length c]) ∧
      IntR w' w'.heap.size k A c R ∧ zI k R = zI n L + zI m M ∧ R.length ≤ L.length + M.length + 1 ∧ Below w.heap.size w w' := by
  by_cases h : n = m
  · subst h
    exact add_same n A A' c c' L M w hl hml hL hM
  · obtain rfl : m = !n := by cases n <;> cases m <;> first | rfl | exact absurd rfl h
    rcases Nat.lt_or_ge (val9 L) (val9 M) with h1 | h1
    · exact add_diff_lt n A A' c c' L M w hl hml h1 hL hM
    · exact add_diff_ge n A A' c c' L M w hl hml h1 hL hM
end Go.Proofs.YtbfbijokhlkekaaDoor

/- 'Sub' of integers. -/
namespace Go.Proofs.YtbfbijokhlkekaaDoor
open Go.RowKit

theorem IntR.lift {w w1 : World} {B : Nat} {n : Bool} {A : Option Addr} {c : Nat} {L : List Nat} (h : IntR w B n A c L) (hb : Below w.heap.size w w1) (hB : B ≤ w.heap.size) : IntR w1 w1.heap.size n A c L :=
  ⟨((h.row.more hB).below hb).more hb.size, h.canon, h.sgn⟩

set_option maxRecDepth 20000 in
set_option maxHeartbeats 3200000 in
theorem sub_any (n m : Bool) (A A' : Option Addr) (c c' : Nat) (L M : List Nat) (w : World) (hl : L.length ≤ 500000) (hml : M.length ≤ 500000)
    (hL : IntR w w.heap.size n A c L) (hM : IntR w w.heap.size m A' c' M) :
    Calls Tryd.prog 26 #[.agg #[.bool n, .slice A L.length c], .agg #[.bool m, .slice A' M.length c']] w fun e w' => ∃ k A c R, e = .returned (.agg #[.bool k, .slice A R.length c]) ∧
      IntR w' w'.heap.size k A c R ∧ zI k R = zI n L - zI m M ∧ R.length ≤ L.length + M.length + 1 ∧ Below w.heap.size w w' := by
  have hN := fun W (h : IntR W W.heap.size m A' c' M) => neg_any m A' c' M W hml h
  have HN := Lib.hid hN
  have hAd := fun (k : Bool) (A2 : Option Addr) (c2 : Nat) W (h1 : IntR W W.heap.size n A c L) (h2 : IntR W W.heap.size k A2 c2 M) => add_any n k A A2 c c2 L M W hl hml h1 h2
  have HAd := Lib.hid hAd
  clear hN hAd
  generalize hl' : L.length = l at *
  generalize hm' : M.length = l2 at *
  have HLL := Lib.hid hl'
  have HML := Lib.hid hm'
  clear hl' hm'
  go_enter Tryd.func26, Tryd.ntmps26
  go_wp2
  have hne1 : ¬ w.heap.size = w.heap.size + 1 + 1 := by omega
  have hne2 : ¬ w.heap.size + 1 + 1 = w.heap.size := by omega
  go_region_held3 (fun w' => w'.cell? ⟨w.heap.size, 0, none⟩ = some (.bool n) ∧ w'.cell? ⟨w.heap.size, 1, none⟩ = some (.slice A l c) ∧
      w'.cell? ⟨w.heap.size + 1, 0, none⟩ = some (.bool m) ∧ w'.cell? ⟨w.heap.size + 1, 1, none⟩ = some (.slice A' l2 c')) (go_keep)
    (first
      | (go_at_call 28; (with_reducible refine (HN.out _ (hM.up (below_drew (below_a3 _ _ _ _)))).mono ?_); rintro e w1 ⟨k, A2, c2, rfl, hi1, hz1, hb1⟩; have HZ1 := Lib.hid hz1; have HB1 := Lib.hid (three (below_undrew hb1)).2.2.2.2.2.2.2.2.2; have HW1 := Lib.hid ((below_drew (below_a3 w _ _ _)).trans (Below.less hb1 (below_drew (below_a3 w _ _ _)).size)); have X := three (below_undrew hb1); have hq1 := X.1; have hq2 := X.2.1; have hq3 := X.2.2.1; have hq4 := X.2.2.2.1; have hq9 := X.2.2.2.2.2.2.2.2.1; clear X hb1 hz1)
      | (go_at_call 24; (with_reducible refine (HAd.out _ _ _ _ (hL.up HW1.out) hi1).mono ?_); rintro e w2 ⟨k3, A3, c3, R, rfl, hi2, hz2, hl2, hb2⟩; have HZ2 := Lib.hid hz2; have HI2 := Lib.hid hi2; have HB2 := Lib.hid (below_then HB1.out hb2 hq9); clear hq1 hq2 hq3 hq4 hi1 hb2 hz2 hi2; have X := three' HB2.out; have hq1 := X.1; have hq2 := X.2.1; have hq3 := X.2.2.1; have hq4 := X.2.2.2.1; have hq5 := X.2.2.2.2.1; have hq6 := X.2.2.2.2.2.1; have hq7 := X.2.2.2.2.2.2.1; have hq8 := X.2.2.2.2.2.2.2.1; clear X))
  all_goals
    go_wp2
    have hbw : Below w.heap.size w w2 := (below_a3 w _ _ _).trans (Below.less HB2.out (by omega))
    refine bodyPost_ret (v := .agg #[.bool k3, .slice A3 R.length c3]) (by simp [results, Tryd.results26, go_sem, hq5, hq6]) rfl
      ⟨_, _, _, R, rfl, ?_, by rw [HZ2.out, HZ1.out]; rfl, hl2, (hbw.setCell (by simp; omega) _).setCell (by simp; omega) _⟩
    rw [setCell_size, setCell_size]
    exact ⟨HI2.out.row.box3 HB2.out (fun _ => by simp) (fun _ => by simp) _ _, HI2.out.canon, HI2.out.sgn⟩
end Go.Proofs.YtbfbijokhlkekaaDoor

/- 'equal' and 'abs' of the statements. -/
namespace Go.Proofs.YtbfbijokhlkekaaDoor
open Go.RowKit

theorem zI_inj {w w' : World} {B B' : Nat} {n m : Bool} {A A' : Option Addr} {c c' : Nat} {L M : List Nat} (hL : IntR w B n A c L) (hM : IntR w' B' m A' c' M) (h : zI n L = zI m M) : n = m ∧ val9 L = val9 M := by
  have h1 : n = true → 0 < val9 L := fun h => Nat.pos_of_ne_zero (canon_pos hL.canon (List.length_pos_iff.2 (hL.sgn h)))
  have h2 : m = true → 0 < val9 M := fun h => Nat.pos_of_ne_zero (canon_pos hM.canon (List.length_pos_iff.2 (hM.sgn h)))
  unfold zI at h
  cases n <;> cases m <;> simp at h h1 h2 ⊢ <;> omega

theorem upa2 {w wk : World} {a b : Obj} (h : Below (w.heap.size + 2) ((w.alloc a).alloc b) wk) : Below w.heap.size w wk := (below_a2 w a b).trans (Below.less h (by omega))
theorem sza2 {w wk : World} {a b : Obj} (h : Below (w.heap.size + 2) ((w.alloc a).alloc b) wk) : w.heap.size + 2 ≤ wk.heap.size := by have := h.size; simpa using this
theorem upa3 {w wk : World} {a b c : Obj} (h : Below (w.heap.size + 3) (((w.alloc a).alloc b).alloc c) wk) : Below w.heap.size w wk := (below_a3 w a b c).trans (Below.less h (by omega))
theorem sza3 {w wk : World} {a b c : Obj} (h : Below (w.heap.size + 3) (((w.alloc a).alloc b).alloc c) wk) : w.heap.size + 3 ≤ wk.heap.size := by have := h.size; simpa using this
theorem below_atB {B b i : Nat} {W wk : World} (h : Below B W wk) (hb : b < B) : wk.cell? ⟨b, i, none⟩ = W.cell? ⟨b, i, none⟩ := h.cell hb

set_option maxRecDepth 20000 in
set_option maxHeartbeats 3200000 in
theorem equal_true (n m : Bool) (A A' : Option Addr) (c c' : Nat) (L M : List Nat) (w : World) (hl : L.length ≤ 100000) (hml : M.length ≤ 100000)
    (hL : IntR w w.heap.size n A c L) (hM : IntR w w.heap.size m A' c' M) (hz : zI n L = zI m M) (ht : Tab w.heap.size w) :
    Calls Tryd.prog 36 #[.agg #[.bool n, .slice A L.length c], .agg #[.bool m, .slice A' M.length c']] w fun e w' => e = .returned (.bool true) ∧ Below w.heap.size w w' := by
  have hC := fun W h1 h2 => cmp_any n m A A' c c' L M W (by omega) (by omega) h1 h2
  rw [show cmpI (zI n L) (zI m M) = 0 by rw [hz]; unfold cmpI; simp] at hC
  have hX := fun W h1 h2 => text_any n A c L W hl hL.canon hL.sgn h1 h2
  have hY := fun W h1 h2 => text_any m A' c' M W hml hM.canon hM.sgn h1 h2
  have hT : decI m (valB 1000000000 M) = decI n (valB 1000000000 L) := by
    obtain ⟨h1, h2⟩ := zI_inj hL hM hz
    rw [h1, show valB 1000000000 L = valB 1000000000 M from h2]
  rw [hT] at hY
  generalize decI n (valB 1000000000 L) = T at *
  have HX := Lib.hid hX
  have HY := Lib.hid hY
  have HCM := Lib.hid hC
  clear hX hY hC hT hz
  generalize hl' : L.length = l at *
  generalize hm' : M.length = l2 at *
  have HLL := Lib.hid hl'
  have HML := Lib.hid hm'
  clear hl' hm'
  have HT := Lib.hid ht
  clear ht
  have Y := two (Below.refl _ ((w.alloc (.cells #[.bool n, .slice A l c] 25)).alloc (.cells #[.bool m, .slice A' l2 c'] 25)))
  have hy0 := Y.1
  have hy1 := Y.2.1
  have hy2 := Y.2.2.1
  have hy3 := Y.2.2.2.1
  clear Y
  have HC := Lib.hid (below_drew (Below.refl (w.heap.size + 2) ((w.alloc (.cells #[.bool n, .slice A l c] 25)).alloc (.cells #[.bool m, .slice A' l2 c'] 25))))
  go_enter Tryd.func36, Tryd.ntmps36
  go_wp2
  go_region_held3 (fun w' => w'.cell? ⟨w.heap.size, 0, none⟩ = some (.bool n) ∧ w'.cell? ⟨w.heap.size, 1, none⟩ = some (.slice A l c) ∧
      w'.cell? ⟨w.heap.size + 1, 0, none⟩ = some (.bool m) ∧ w'.cell? ⟨w.heap.size + 1, 1, none⟩ = some (.slice A' l2 c')) (go_keep)
    (first
      | (go_at_call 30; (with_reducible refine (HCM.out _ (hL.up (upa2 HC.out)) (hM.up (upa2 HC.out))).mono ?_); rintro e w4 ⟨rfl, hb4⟩; have HC9 := Lib.hid (below_then HC.out hb4 (sza2 HC.out)); clear HC; have HC := HC9; clear HC9 hb4; have hf0 := (below_atB (i := 0) HC.out (by omega)).trans hy0; have hf1 := (below_atB (i := 1) HC.out (by omega)).trans hy1; have hf2 := (below_atB (i := 0) HC.out (Nat.lt_succ_self _)).trans hy2; have hf3 := (below_atB (i := 1) HC.out (Nat.lt_succ_self _)).trans hy3)
      | (go_at_call 16; (first | (with_reducible refine (HX.out _ (hL.row.up (upa2 HC.out)) (tab_up HT.out (upa2 HC.out))).mono ?_) | (with_reducible refine (HY.out _ (hM.row.up (upa2 HC.out)) (tab_up HT.out (upa2 HC.out))).mono ?_)); rintro e w4 ⟨rfl, hb4⟩; have HC9 := Lib.hid (below_then HC.out hb4 (sza2 HC.out)); clear HC hf0 hf1 hf2 hf3; have HC := HC9; clear HC9 hb4; have hf0 := (below_atB (i := 0) HC.out (by omega)).trans hy0; have hf1 := (below_atB (i := 1) HC.out (by omega)).trans hy1; have hf2 := (below_atB (i := 0) HC.out (Nat.lt_succ_self _)).trans hy2; have hf3 := (below_atB (i := 1) HC.out (Nat.lt_succ_self _)).trans hy3))
  all_goals
    go_wp2
    go_ret
    exact ⟨rfl, upa2 HC.out⟩
end Go.Proofs.YtbfbijokhlkekaaDoor
