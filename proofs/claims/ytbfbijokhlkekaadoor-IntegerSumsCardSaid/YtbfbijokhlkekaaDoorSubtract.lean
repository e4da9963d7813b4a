/- 'subtract' takes a row away from a row that is not less. -/
import Derived.Test.YtbfbijokhlkekaaDoorCopied
namespace Go.Proofs.YtbfbijokhlkekaaDoor
open Go.RowKit

set_option maxHeartbeats 1600000 in
theorem subtract_any (A A' : Option Addr) (c c' : Nat) (L M : List Nat) (w : World) (hl : L.length ≤ 1000000) (hml : M.length ≤ L.length)
    (hL : Lim L) (hM : Lim M) (hR : Row .u32 w w.heap.size A c L) (hR' : Row .u32 w w.heap.size A' c' M) :
    Calls Tryd.prog 52 #[.slice A L.length c, .slice A' M.length c'] w fun e w' =>
      e = .returned (.slice (some ⟨w.heap.size, 0, none⟩) (trimN (subSt M L L.length).1 L.length) L.length) ∧ Blk .u32 68 w' w.heap.size (subSt M L L.length).1 ∧ Below w.heap.size w w' := by
  have hCp := fun W h => copied_any A c L W (by omega) h
  generalize hl' : L.length = l at *
  generalize hm' : M.length = m at *
  have HL := Lib.hid hl'
  have HM := Lib.hid hm'
  clear hl' hm'
  have HCp := Lib.hid hCp
  clear hCp
  go_enter Tryd.func52, Tryd.ntmps52
  go_wp2_with fail
  refine (HCp.out _ hR).mono ?_
  rintro e w1 ⟨rfl, hb1, hB1⟩
  have hg := hb1.lt
  go_wp2_with fail
  go_loopw [6, 13] (fun cv iv wr => ∃ k : Nat, k ≤ l ∧ iv = .int .i64 k ∧ cv = .int .u32 (subSt M L k).2 ∧ Blk .u32 68 wr w.heap.size (subSt M L k).1 ∧ w1.grownBy wr (some w.heap.size)) (fun _ iv _ => l - (intOf iv).toNat)
  case atStart => exact ⟨0, Nat.zero_le _, rfl, rfl, hb1, grown_refl _ _⟩
  case round =>
    obtain ⟨k, hk, rfl, rfl, hb, hgr⟩ := hrel
    obtain ⟨h1, h2, h3⟩ := subSt_ok hM hL k
    have HS := Lib.hid (subSt_succ M L k)
    generalize hs : subSt M L k = s at *
    have HK := Lib.hid hs
    clear hs
    obtain ⟨S, x⟩ := s
    dsimp only at *
    rw [HL.out] at h3
    have hls : l = S.length := h3.symm
    clear h3
    by_cases hlt : k < l
    · have hc := hb.cell k (by omega)
      have hfr := hb.frozen k
      have b1 := h1.nth k
      have b2 := hM.nth k
      clear hls
      by_cases hkl : k < m
      · obtain ⟨b', o', rfl, hbg, hcell'⟩ := hR'.spot (by rw [HM.out]; omega)
        have hc' := ((hcell'.below hB1 hbg).grown hgr (by omega) (by intro e; injection e; omega)) k (by rw [HM.out]; exact hkl)
        clear hcell'
        by_cases hbo : nth S k < x + nth M k
        · go_wp2
          go_roundw
          case rel =>
            have E := HS.out
            rw [if_pos hbo] at E
            have e1 := (hb.setI k (v := (nth S k : Int) + 1000000000) (x := nth S k + 1000000000) (by omega)).setI k (v := (nth S k : Int) + 1000000000 - (x + nth M k)) (x := nth S k + 1000000000 - (x + nth M k)) (by omega)
            rw [List.set_set] at e1
            exact ⟨k + 1, by omega, by go_num, by rw [E]; simp, by rw [E]; exact e1, grown_set (grown_set hgr _ _) _ _⟩
          case measure => simp [intOf]; omega
        · go_wp2
          go_roundw
          case rel =>
            have E := HS.out
            rw [if_neg hbo] at E
            have e1 := hb.setI k (v := (nth S k : Int) - (x + nth M k)) (x := nth S k - (x + nth M k)) (by omega)
            exact ⟨k + 1, by omega, by go_num, by rw [E]; simp, by rw [E]; exact e1, grown_set hgr _ _⟩
          case measure => simp [intOf]; omega
      · have HZ := Lib.hid (nth_ge (L := M) (k := k) (by rw [HM.out]; omega))
        by_cases hbo : nth S k < x
        · go_wp2
          go_roundw
          case rel =>
            have E := HS.out
            simp only [HZ.out, Nat.add_zero] at E; rw [if_pos hbo] at E
            have e1 := (hb.setI k (v := (nth S k : Int) + 1000000000) (x := nth S k + 1000000000) (by omega)).setI k (v := (nth S k : Int) + 1000000000 - x) (x := nth S k + 1000000000 - x) (by omega)
            rw [List.set_set] at e1
            exact ⟨k + 1, by omega, by go_num, by rw [E]; simp, by rw [E]; exact e1, grown_set (grown_set hgr _ _) _ _⟩
          case measure => simp [intOf]; omega
        · go_wp2
          go_roundw
          case rel =>
            have E := HS.out
            simp only [HZ.out, Nat.add_zero] at E; rw [if_neg hbo] at E
            have e1 := hb.setI k (v := (nth S k : Int) - x) (x := nth S k - x) (by omega)
            exact ⟨k + 1, by omega, by go_num, by rw [E]; simp, by rw [E]; exact e1, grown_set hgr _ _⟩
          case measure => simp [intOf]; omega
    · obtain rfl : k = l := by omega
      have hT := trim_any (some ⟨w.heap.size, 0, none⟩) k w.heap.size 0 S wr (by omega) (by omega) (fun _ => rfl) hb.cells
      rw [← hls] at hT
      have hB : Below w.heap.size w wr := grown_below hB1 hgr (Nat.le_refl _) hB1.size
      have hb9 := Lib.hid hb
      have HT := Lib.hid hT
      clear hls hT hb
      go_wp2_with fail
      refine HT.out.mono ?_
      rintro e w4 ⟨rfl, rfl⟩
      go_wp2_with fail
      go_ret
      have hk' := HK.out
      rw [hk']
      exact ⟨rfl, hb9.out, hB⟩
end Go.Proofs.YtbfbijokhlkekaaDoor
