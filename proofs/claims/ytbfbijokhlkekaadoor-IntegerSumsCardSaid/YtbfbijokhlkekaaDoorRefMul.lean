/- The reference's 'mul'. -/
import Derived.Test.YtbfbijokhlkekaaDoorRefMulNat
import Derived.Test.YtbfbijokhlkekaaDoorRefPOk0
namespace Go.Proofs.YtbfbijokhlkekaaDoor
open Go.RowKit

set_option maxHeartbeats 1600000 in
theorem rmul_walk (A A' : Option Addr) (c c' : Nat) (L M : List Nat) (w : World) (hl : L.length ≤ 1000000) (hml : M.length ≤ 1000000)
    (hL : Lim4 L) (hM : Lim4 M) (hR : Row .i64 w w.heap.size A c L) (hR' : Row .i64 w w.heap.size A' c' M) :
    Calls Tryd.prog 58 #[.slice A L.length c, .slice A' M.length c'] w fun e w' =>
      e = .returned (.slice (some ⟨w.heap.size, 0, none⟩) (trimN (mulSt4 L M (List.replicate (L.length + M.length) 0) L.length) (L.length + M.length)) (L.length + M.length)) ∧
        Blk .i64 3 w' w.heap.size (mulSt4 L M (List.replicate (L.length + M.length) 0) L.length) ∧ Below w.heap.size w w' := by
  obtain ⟨i0, hi, hz0, hz1, hz2⟩ := info_parts info3
  have hZ : Lim4 (List.replicate (L.length + M.length) 0) := fun d hd => by have := (List.mem_replicate.1 hd).2; omega
  have hZl : (List.replicate (L.length + M.length) 0).length = L.length + M.length := by simp
  generalize hz : List.replicate (L.length + M.length) 0 = Z at *
  generalize hl' : L.length = l at *
  generalize hm' : M.length = m at *
  have HL := Lib.hid hl'
  have HM := Lib.hid hm'
  have HZ := Lib.hid hz
  have HZL := Lib.hid hZl
  clear hl' hm' hz hZl
  go_enter Tryd.func58, Tryd.ntmps58
  go_wp2_with (first
    | (refine wpList_make_zeros _ rfl (.tmp 14) (.tmp 14) 29 rfl 3 .i64 i0 8 Tryd.underlying29 hi hz0 hz1 hz2 .i64 .i64 _ _ (l + m) rfl rfl (by omega) (by omega) (by omega) (by omega) ?_; intro w1 hb1 hB1 hs1)
    | fail)
  have hb1' := hb1.out
  rw [HZ.out] at hb1'
  have hg := hb1'.lt
  clear hs1 hb1
  go_loopw [6] (fun iv wr => ∃ i : Nat, i ≤ l ∧ iv = .int .i64 i ∧ Blk .i64 3 wr w.heap.size (mulSt4 L M Z i) ∧ w1.grownBy wr (some w.heap.size)) (fun iv _ => l - (intOf iv).toNat)
  case atStart => exact ⟨0, Nat.zero_le _, rfl, hb1', grown_refl _ _⟩
  case round =>
    obtain ⟨i, hk, rfl, hb, hgr⟩ := hrel
    obtain ⟨h1, h2⟩ := mulSt_ok4 hL hM hZ i
    have HS := Lib.hid (mulSt_succ4 L M Z i)
    have h3 : (mulSt4 L M Z i).length = l + m := by rw [h2, HZL.out]
    clear h2
    generalize hs : mulSt4 L M Z i = S at *
    have HK := Lib.hid hs
    have H3 := Lib.hid h3
    clear hs h3
    by_cases hlt : i < l
    · obtain ⟨b, o, rfl, hbg, hcell⟩ := hR.spot (by rw [HL.out]; omega)
      have hx := hL.nth i
      have hcell2 := hcell.below hB1 hbg
      generalize hxx : nth L i = x at *
      have HX := Lib.hid hxx
      clear hcell hxx
      go_wp2
      have hbS := hb
      go_loopw [7, 8] (fun cv jv wq => ∃ j : Nat, j ≤ m ∧ jv = .int .i64 j ∧ cv = .int .i64 (mulRow4 x i M S j).2 ∧ Blk .i64 3 wq w.heap.size (mulRow4 x i M S j).1 ∧ w1.grownBy wq (some w.heap.size)) (fun _ jv _ => m - (intOf jv).toNat)
      case atStart => exact ⟨0, Nat.zero_le _, rfl, rfl, hbS, hgr⟩
      case round =>
        obtain ⟨j, hj, rfl, rfl, hbq, hgq⟩ := hrel
        obtain ⟨g1, g2, g3⟩ := mulRow_ok4 (o := i) hx hM h1 j
        have HS' := Lib.hid (mulRow_succ4 x i M S j)
        generalize hq : mulRow4 x i M S j = q at *
        have HQ := Lib.hid hq
        clear hq
        obtain ⟨Q, y⟩ := q
        dsimp only at *
        rw [H3.out] at g3
        have G3 := Lib.hid g3
        clear g3
        by_cases hjt : j < m
        · obtain ⟨b', o', rfl, hbg', hcell'⟩ := hR'.spot (by rw [HM.out]; omega)
          have hcy := ((hcell'.below hB1 hbg').grown hgq (by omega) (by intro e; injection e; omega)) j (by rw [HM.out]; exact hjt)
          have hcx := (hcell2.grown hgq (by omega) (by intro e; injection e; omega)) i (by rw [HL.out]; exact hlt)
          rw [HX.out] at hcx
          have hc := hbq.cell (i + j) (by rw [G3.out]; omega)
          have hfr := hbq.frozen (i + j)
          have b1 := g1.nth (i + j)
          have b2 := hM.nth j
          have b4 := mul_lt_limI4 hx b2
          have b5 := mul_nonnegI4 x (nth M j)
          clear hcell' hcell2
          go_wp2
          go_quiet (fail)
          go_wp2
          go_roundw
          case rel =>
            have E := HS'.out
            have e1 := (hbq.drewN nq).setI (i + j) (v := ((nth Q (i + j) : Int) + (x : Int) * (nth M j : Int) + (y : Int)) % 10000) (x := (nth Q (i + j) + x * nth M j + y) % 10000) (by simp)
            exact ⟨j + 1, by omega, by go_num, by rw [E]; simp, by rw [E]; exact e1, grown_set (grown_drewN hgq _) _ _⟩
          case measure => simp [intOf]; omega
        · obtain rfl : j = m := by omega
          have hc := hbq.cell (i + j) (by rw [G3.out]; omega)
          have hfr := hbq.frozen (i + j)
          go_wp2
          go_roundw
          case rel =>
            have E := HS.out
            rw [HM.out, HQ.out] at E
            exact ⟨i + 1, by omega, by go_num, by rw [E]; exact hbq.set_ _ _, grown_set hgq _ _⟩
          case measure => simp [intOf]; omega
    · obtain rfl : i = l := by omega
      have hT := rtrim_any (some ⟨w.heap.size, 0, none⟩) (i + m) S wr wr.heap.size (by rw [H3.out]; omega) (Row.ofBlk hb hb.lt (by rw [H3.out]; exact Nat.le_refl _))
      rw [H3.out] at hT
      have hB : Below w.heap.size w wr := grown_below hB1 hgr (Nat.le_refl _) hB1.size
      have hb9 := Lib.hid hb
      have HT := Lib.hid hT
      clear hT hb
      go_wp2_with fail
      refine HT.out.mono ?_
      rintro e w4 ⟨rfl, rfl⟩
      go_wp2_with fail
      go_ret
      have hk' := HK.out
      rw [hk']
      exact ⟨rfl, hb9.out, hB⟩

abbrev val4 (L : List Nat) : Nat := valB 10000 L
/-- The integer of the reference with a sign and limbs. -/
def zR (neg : Bool) (L : List Nat) : Int := if neg then -(val4 L : Int) else (val4 L : Int)

/-- The limbs that the reference's 'trim' leaves of a block, as they read behind later blocks. -/
theorem trim_pack4 {w : World} {g B c : Nat} {R : List Nat} (hb : Blk .i64 3 w g R) (hR : ∀ d ∈ R, d < 10000) (hg : g < B) (hc : R.length ≤ c) :
    ∃ L, L.length = trimN R R.length ∧ Row .i64 w B (some ⟨g, 0, none⟩) c L ∧ (∀ d ∈ L, d < 10000) ∧ (0 < L.length → nth L (L.length - 1) ≠ 0) ∧ val4 L = val4 R := by
  have htl := trimN_le R R.length
  have el : (R.take (trimN R R.length)).length = trimN R R.length := by rw [List.length_take]; omega
  refine ⟨R.take (trimN R R.length), el, (Row.ofBlk hb hg hc).take _, fun d hd => hR d (List.mem_of_mem_take hd), ?_, ?_⟩
  · rw [el]; intro h; rw [nth_take (by omega)]; exact trimN_top _ _ h
  · rw [val4, trimN_val _ _ _ (Nat.le_refl _), List.take_of_length_le (Nat.le_refl _)]
/-- Trimmed limbs stay as they are. -/
theorem trimN_same {L : List Nat} (h : 0 < L.length → nth L (L.length - 1) ≠ 0) : trimN L L.length = L.length := by
  rcases hl : L.length with _ | n
  · rfl
  · rw [trimN, if_neg]
    have := h (by omega)
    rw [hl] at this
    exact this

theorem rmul2 (A A' : Option Addr) (c c' : Nat) (L M : List Nat) (w : World) (hl : L.length ≤ 500000) (hml : M.length ≤ 500000)
    (hL : ∀ d ∈ L, d < 10000) (hM : ∀ d ∈ M, d < 10000) (hR : Row .i64 w w.heap.size A c L) (hR' : Row .i64 w w.heap.size A' c' M) :
    Calls Tryd.prog 58 #[.slice A L.length c, .slice A' M.length c'] w fun e w' => ∃ g c R, e = .returned (.slice (some ⟨g, 0, none⟩) R.length c) ∧
      Row .i64 w' w'.heap.size (some ⟨g, 0, none⟩) c R ∧ (∀ d ∈ R, d < 10000) ∧ (0 < R.length → nth R (R.length - 1) ≠ 0) ∧ val4 R = val4 L * val4 M ∧ R.length ≤ L.length + M.length ∧ Below w.heap.size w w' ∧ w.heap.size ≤ g := by
  refine (rmul_walk A A' c c' L M w (by omega) (by omega) hL hM hR hR').mono ?_
  rintro e w' ⟨rfl, hb, hbw⟩
  have hz : Lim4 (List.replicate (L.length + M.length) 0) := fun d hd => by have := (List.mem_replicate.1 hd).2; omega
  have hok := mulSt_ok4 hL hM hz L.length
  have hv := mul_val4 hL hM
  have hlen : (mulSt4 L M (List.replicate (L.length + M.length) 0) L.length).length = L.length + M.length := by rw [hok.2]; simp
  obtain ⟨R, h1, h2, h3, h3', h4⟩ := trim_pack4 (c := L.length + M.length) hb hok.1 hb.lt (by omega)
  rw [hlen] at h1
  have htl := trimN_le (mulSt4 L M (List.replicate (L.length + M.length) 0) L.length) (L.length + M.length)
  exact ⟨_, _, R, by rw [h1], h2, h3, h3', by rw [h4]; exact hv, by omega, hbw, Nat.le_refl _⟩

theorem zR_mul (n m : Bool) {L M R : List Nat} (h : val4 R = val4 L * val4 M) (h0 : R.length = 0 → val4 R = 0) : zR ((n != m) && decide (0 < R.length)) R = zR n L * zR m M := by
  have hc : ((val4 R : Nat) : Int) = (val4 L : Int) * (val4 M : Int) := by rw [h]; simp
  unfold zR
  generalize (val4 L : Int) = x at *
  generalize (val4 M : Int) = y at *
  rcases Nat.eq_zero_or_pos R.length with h1 | h1
  · have h2 := h0 h1
    rw [h2] at hc ⊢
    have e : (decide (0 < R.length)) = false := by rw [decide_eq_false_iff_not]; omega
    rw [e, Bool.and_false]
    cases n <;> cases m <;> simp <;> grind
  · have e : (decide (0 < R.length)) = true := by rw [decide_eq_true_iff]; omega
    rw [e, Bool.and_true, hc]
    cases n <;> cases m <;> simp <;> grind
theorem val4_nil {L : List Nat} (h : L.length = 0) : val4 L = 0 := by rw [List.eq_nil_of_length_eq_zero h]; rfl
end Go.Proofs.YtbfbijokhlkekaaDoor
