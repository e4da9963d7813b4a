/- The reference's 'sub' and 'compare'. -/
import Derived.Test.YtbfbijokhlkekaaDoorRefAdd
namespace Go.Proofs.YtbfbijokhlkekaaDoor
open Go.RowKit

set_option maxRecDepth 20000 in
set_option maxHeartbeats 1600000 in
theorem rsub_walk (A A' : Option Addr) (c c' : Nat) (L M : List Nat) (w : World) (hl : L.length ≤ 1000000) (hml : M.length ≤ L.length)
    (hL : Lim4 L) (hM : Lim4 M) (hR : Row .i64 w w.heap.size A c L) (hR' : Row .i64 w w.heap.size A' c' M) :
    Calls Tryd.prog 55 #[.slice A L.length c, .slice A' M.length c'] w fun e w' => ∃ A2 c2, e = .returned (.slice A2 (trimN (rsSt L M L.length).1 L.length) c2) ∧ Row .i64 w' w'.heap.size A2 c2 (rsSt L M L.length).1 ∧ Below w.heap.size w w' := by
  obtain ⟨i0, hi, hz0, hz1, hz2⟩ := info_parts info3
  generalize hl' : L.length = l at *
  generalize hm' : M.length = m at *
  have HL := Lib.hid hl'
  have HM := Lib.hid hm'
  clear hl' hm'
  go_enter Tryd.func55, Tryd.ntmps55
  go_wp2
  go_loopw [5, 6, 7] (fun ov cv iv wr => ∃ k : Nat, k ≤ l ∧ iv = .int .i64 k ∧ cv = .int .i64 (rsSt L M k).2 ∧ Own .i64 3 wr w.heap.size ov (rsSt L M k).1 ∧ Below w.heap.size w wr) (fun _ _ iv _ => l - (intOf iv).toNat)
  case atStart => exact ⟨0, Nat.zero_le _, rfl, rfl, Own.nil _ _ _ _, Below.refl _ _⟩
  case round =>
    obtain ⟨k, hk, rfl, rfl, ho, hbw⟩ := hrel
    obtain ⟨h1, h2, h3⟩ := rsSt_ok hL hM k
    have HS := Lib.hid (rsSt_succ L M k)
    have hsz := hbw.size
    have a1 := hL.nth k
    have a2 := hM.nth k
    generalize hs : rsSt L M k = S at *
    have HK := Lib.hid hs
    clear hs
    obtain ⟨Q, y⟩ := S
    dsimp only at *
    have HO := Lib.hid ho
    have H3 := Lib.hid h3
    have hql : Q.length ≤ 100000000 := by omega
    have HQL := Lib.hid hql
    clear ho h3 hql
    have zM : ¬ k < m → nth M k = 0 := fun h => nth_ge (by rw [HM.out]; omega)
    have ZM := Lib.hid zM
    clear zM
    by_cases hkl : k < l
    · obtain ⟨b, o, rfl, hb, hcell⟩ := hR.spot (by rw [HL.out]; omega)
      have hc1 := (hcell.below hbw hb) k (by rw [HL.out]; exact hkl)
      clear hcell
      by_cases hkm : k < m
      · obtain ⟨b', o', rfl, hb', hcell'⟩ := hR'.spot (by rw [HM.out]; omega)
        have hc2 := (hcell'.below hbw hb') k (by rw [HM.out]; exact hkm)
        clear hcell'
        by_cases hbo : nth L k < y + nth M k
        · go_wp2_with (at_builtin; refine wpList_append_num wr rfl (.tmp 35) (.tmp 37) 29 rfl .i64 w.heap.size 3 i0 8 Tryd.underlying29 hi hz0 hz1 hz2 (by omega) u5 _ (by rfl) HO.out _ (nth L k + 10000 - (y + nth M k)) ?_ 1 rfl HQL.out ?_ ?_; (omega); (exact hsz); intro v2 w2 ho2 hb2)
          go_roundw
          case rel =>
            have E := HS.out
            rw [if_pos hbo] at E
            exact ⟨k + 1, by omega, by go_num, by rw [E]; rfl, by rw [E]; exact ho2.out, hbw.trans hb2⟩
          case measure => simp [intOf]; omega
        · go_wp2_with (at_builtin; refine wpList_append_num wr rfl (.tmp 35) (.tmp 37) 29 rfl .i64 w.heap.size 3 i0 8 Tryd.underlying29 hi hz0 hz1 hz2 (by omega) u5 _ (by rfl) HO.out _ (nth L k - (y + nth M k)) ?_ 1 rfl HQL.out ?_ ?_; (omega); (exact hsz); intro v2 w2 ho2 hb2)
          go_roundw
          case rel =>
            have E := HS.out
            rw [if_neg hbo] at E
            exact ⟨k + 1, by omega, by go_num, by rw [E]; rfl, by rw [E]; exact ho2.out, hbw.trans hb2⟩
          case measure => simp [intOf]; omega
      · by_cases hbo : nth L k < y
        · go_wp2_with (at_builtin; refine wpList_append_num wr rfl (.tmp 35) (.tmp 37) 29 rfl .i64 w.heap.size 3 i0 8 Tryd.underlying29 hi hz0 hz1 hz2 (by omega) u5 _ (by rfl) HO.out _ (nth L k + 10000 - y) ?_ 1 rfl HQL.out ?_ ?_; (omega); (exact hsz); intro v2 w2 ho2 hb2)
          go_roundw
          case rel =>
            have E := HS.out
            simp only [ZM.out hkm, Nat.add_zero] at E
            rw [if_pos hbo] at E
            exact ⟨k + 1, by omega, by go_num, by rw [E]; rfl, by rw [E]; exact ho2.out, hbw.trans hb2⟩
          case measure => simp [intOf]; omega
        · go_wp2_with (at_builtin; refine wpList_append_num wr rfl (.tmp 35) (.tmp 37) 29 rfl .i64 w.heap.size 3 i0 8 Tryd.underlying29 hi hz0 hz1 hz2 (by omega) u5 _ (by rfl) HO.out _ (nth L k - y) ?_ 1 rfl HQL.out ?_ ?_; (omega); (exact hsz); intro v2 w2 ho2 hb2)
          go_roundw
          case rel =>
            have E := HS.out
            simp only [ZM.out hkm, Nat.add_zero] at E
            rw [if_neg hbo] at E
            exact ⟨k + 1, by omega, by go_num, by rw [E]; rfl, by rw [E]; exact ho2.out, hbw.trans hb2⟩
          case measure => simp [intOf]; omega
    · obtain rfl : k = l := by omega
      obtain ⟨A2, c2, hv, hrow⟩ := HO.out.row
      subst hv
      have hT := rtrim_any A2 c2 Q wr wr.heap.size (by have := HQL.out; rw [H3.out]; omega) hrow
      rw [H3.out] at hT
      have HT := Lib.hid hT
      have HRW := Lib.hid hrow
      clear hT hrow
      have e3 := H3.out
      rw [e3]
      clear e3
      go_wp2_with fail
      refine HT.out.mono ?_
      rintro e w4 ⟨rfl, rfl⟩
      go_wp2_with fail
      go_ret
      have hkk := HK.out
      rw [hkk]
      exact ⟨_, _, rfl, HRW.out, hbw⟩
end Go.Proofs.YtbfbijokhlkekaaDoor
