/- The reference's 'add' and 'sub'. -/
import Derived.Test.YtbfbijokhlkekaaDoorRefAddNat
namespace Go.Proofs.YtbfbijokhlkekaaDoor
open Go.RowKit

set_option maxRecDepth 20000 in
set_option maxHeartbeats 1600000 in
theorem radd_walk (A A' : Option Addr) (c c' : Nat) (L M : List Nat) (w : World) (hl : L.length ≤ 1000000) (hml : M.length ≤ 1000000)
    (hL : Lim4 L) (hM : Lim4 M) (hR : Row .i64 w w.heap.size A c L) (hR' : Row .i64 w w.heap.size A' c' M) :
    Calls Tryd.prog 53 #[.slice A L.length c, .slice A' M.length c'] w fun e w' => ∃ v k, e = .returned v ∧ L.length ≤ k ∧ M.length ≤ k ∧ k ≤ L.length + M.length + 1 ∧ (raSt L M k).2 = 0 ∧ Own .i64 3 w' w.heap.size v (raSt L M k).1 ∧ Below w.heap.size w w' := by
  obtain ⟨i0, hi, hz0, hz1, hz2⟩ := info_parts info3
  obtain ⟨mx, hx1, hx2, hx3⟩ : ∃ mx, L.length ≤ mx ∧ M.length ≤ mx ∧ (mx = L.length ∨ mx = M.length) := ⟨max L.length M.length, by omega, by omega, by omega⟩
  have hx4 : mx ≤ 1000000 := by omega
  have HX3 := Lib.hid hx3
  clear hx3
  generalize hl' : L.length = l at *
  generalize hm' : M.length = m at *
  have HL := Lib.hid hl'
  have HM := Lib.hid hm'
  clear hl' hm'
  go_enter Tryd.func53, Tryd.ntmps53
  go_wp2
  go_loopw [5, 6, 7] (fun ov cv iv wr => ∃ k : Nat, k ≤ mx + 1 ∧ iv = .int .i64 k ∧ cv = .int .i64 (raSt L M k).2 ∧ Own .i64 3 wr w.heap.size ov (raSt L M k).1 ∧ Below w.heap.size w wr ∧ Hid (mx < k → (raSt L M k).2 = 0)) (fun _ _ iv _ => mx + 1 - (intOf iv).toNat)
  case atStart => exact ⟨0, Nat.zero_le _, rfl, rfl, Own.nil _ _ _ _, Below.refl _ _, fun _ => rfl⟩
  case round =>
    obtain ⟨k, hk, rfl, rfl, ho, hbw, hc0⟩ := hrel
    obtain ⟨h1, h2, h3⟩ := raSt_ok hL hM k
    have HS := Lib.hid (raSt_succ L M k)
    have hsz := hbw.size
    have a1 := hL.nth k
    have a2 := hM.nth k
    generalize hs : raSt L M k = S at *
    have HK := Lib.hid hs
    clear hs
    obtain ⟨Q, y⟩ := S
    dsimp only at *
    have HO := Lib.hid ho
    have H3 := Lib.hid h3
    have hql : Q.length ≤ 100000000 := by omega
    have HQL := Lib.hid hql
    clear ho h3 hql
    have step : ∀ (v2 : Value) (w2 : World) (d y' : Nat), k < mx + 1 → d = (y + nth L k + nth M k) % 10000 → y' = (y + nth L k + nth M k) / 10000 → (mx ≤ k → nth L k = 0 ∧ nth M k = 0) → Own .i64 3 w2 w.heap.size v2 (Q ++ [d]) → Below w.heap.size wr w2 →
        (k + 1 ≤ mx + 1 ∧ y' = (raSt L M (k + 1)).2 ∧ Own .i64 3 w2 w.heap.size v2 (raSt L M (k + 1)).1 ∧ Below w.heap.size w w2 ∧ Hid (mx < k + 1 → (raSt L M (k + 1)).2 = 0)) := by
      intro v2 w2 d y' hk1 hd hy hzz hown hb2
      have E := HS.out
      subst hd
      subst hy
      refine ⟨by omega, by rw [E], by rw [E]; exact hown, hbw.trans hb2, fun hmk => ?_⟩
      obtain ⟨z1, z2⟩ := hzz (by omega)
      rw [E]
      dsimp only
      rw [z1, z2]
      omega
    have HST := Lib.hid step
    clear step
    have zL : ¬ k < l → nth L k = 0 := fun h => nth_ge (by rw [HL.out]; omega)
    have zM : ¬ k < m → nth M k = 0 := fun h => nth_ge (by rw [HM.out]; omega)
    have ZL := Lib.hid zL
    have ZM := Lib.hid zM
    clear zL zM
    by_cases hkl : k < l
    · obtain ⟨b, o, rfl, hb, hcell⟩ := hR.spot (by rw [HL.out]; omega)
      have hc1 := (hcell.below hbw hb) k (by rw [HL.out]; exact hkl)
      clear hcell
      by_cases hkm : k < m
      · obtain ⟨b', o', rfl, hb', hcell'⟩ := hR'.spot (by rw [HM.out]; omega)
        have hc2 := (hcell'.below hbw hb') k (by rw [HM.out]; exact hkm)
        clear hcell'
        go_wp2_with (at_builtin; refine wpList_append_num wr rfl (.tmp 46) (.tmp 49) 29 rfl .i64 w.heap.size 3 i0 8 Tryd.underlying29 hi hz0 hz1 hz2 (by omega) u5 _ (by rfl) HO.out _ ((y + nth L k + nth M k) % 10000) ?_ 1 rfl HQL.out ?_ ?_; (simp); (exact hsz); intro v2 w2 ho2 hb2)
        go_roundw
        case rel =>
          obtain ⟨r1, r2, r3, r4, r5⟩ := HST.out v2 w2 _ _ (by omega) rfl rfl (fun h => absurd h (by omega)) ho2.out hb2
          exact ⟨k + 1, r1, by go_num, by rw [← r2]; simp, r3, r4, r5⟩
        case measure => simp [intOf]; omega
      · go_wp2_with (at_builtin; refine wpList_append_num wr rfl (.tmp 46) (.tmp 49) 29 rfl .i64 w.heap.size 3 i0 8 Tryd.underlying29 hi hz0 hz1 hz2 (by omega) u5 _ (by rfl) HO.out _ ((y + nth L k) % 10000) ?_ 1 rfl HQL.out ?_ ?_; (simp); (exact hsz); intro v2 w2 ho2 hb2)
        go_roundw
        case rel =>
          obtain ⟨r1, r2, r3, r4, r5⟩ := HST.out v2 w2 _ ((y + nth L k) / 10000) (by omega) (by rw [ZM.out hkm]; rfl) (by rw [ZM.out hkm]; rfl) (fun h => absurd h (by omega)) ho2.out hb2
          exact ⟨k + 1, r1, by go_num, by rw [← r2]; simp, r3, r4, r5⟩
        case measure => simp [intOf]; omega
    · by_cases hkm : k < m
      · obtain ⟨b', o', rfl, hb', hcell'⟩ := hR'.spot (by rw [HM.out]; omega)
        have hc2 := (hcell'.below hbw hb') k (by rw [HM.out]; exact hkm)
        clear hcell'
        go_wp2_with (at_builtin; refine wpList_append_num wr rfl (.tmp 46) (.tmp 49) 29 rfl .i64 w.heap.size 3 i0 8 Tryd.underlying29 hi hz0 hz1 hz2 (by omega) u5 _ (by rfl) HO.out _ ((y + nth M k) % 10000) ?_ 1 rfl HQL.out ?_ ?_; (simp); (exact hsz); intro v2 w2 ho2 hb2)
        go_roundw
        case rel =>
          obtain ⟨r1, r2, r3, r4, r5⟩ := HST.out v2 w2 _ ((y + nth M k) / 10000) (by omega) (by rw [ZL.out hkl, Nat.add_zero]) (by rw [ZL.out hkl, Nat.add_zero]) (fun h => absurd h (by omega)) ho2.out hb2
          exact ⟨k + 1, r1, by go_num, by rw [← r2]; simp, r3, r4, r5⟩
        case measure => simp [intOf]; omega
      · rcases Nat.eq_zero_or_pos y with rfl | hy
        · have hd0 : decide ((0 : Int) < ((0 : Nat) : Int)) = false := by simp
          go_wp2
          go_ret
          have hkk := HK.out
          refine ⟨_, rfl, k, by omega, by omega, ?_, by rw [hkk], by rw [hkk]; exact HO.out, hbw⟩
          rcases HX3.out with h | h <;> omega
        · have hkx : k < mx + 1 := by
            rcases Nat.lt_or_ge mx k with h | h
            · have := hc0.out h; omega
            · omega
          have hy2 : (0 : Int) < (y : Int) := by omega
          go_wp2_with (at_builtin; refine wpList_append_num wr rfl (.tmp 46) (.tmp 49) 29 rfl .i64 w.heap.size 3 i0 8 Tryd.underlying29 hi hz0 hz1 hz2 (by omega) u5 _ (by rfl) HO.out _ (y % 10000) ?_ 1 rfl HQL.out ?_ ?_; (simp); (exact hsz); intro v2 w2 ho2 hb2)
          go_roundw
          case rel =>
            obtain ⟨r1, r2, r3, r4, r5⟩ := HST.out v2 w2 _ (y / 10000) hkx (by rw [ZL.out hkl, ZM.out hkm]; rfl) (by rw [ZL.out hkl, ZM.out hkm]; rfl) (fun _ => ⟨ZL.out hkl, ZM.out hkm⟩) ho2.out hb2
            exact ⟨k + 1, r1, by go_num, by rw [← r2]; simp, r3, r4, r5⟩
          case measure => simp [intOf]; omega
end Go.Proofs.YtbfbijokhlkekaaDoor
