/- 'addTo' adds a row into another one, in place. -/
import Derived.Test.YtbfbijokhlkekaaDoorAddNat
namespace Go.Proofs.YtbfbijokhlkekaaDoor
open Go.RowKit

set_option maxHeartbeats 800000 in
theorem addTo_any (g o n c : Nat) (A' : Option Addr) (c' : Nat) (M L : List Nat) (w : World) (hn : o + n ≤ M.length) (hm : M.length ≤ 3000000) (hl : L.length ≤ 1000000)
    (hM : Lim M) (hL : Lim L) (hblk : Blk .u32 68 w g M) (hR : Row .u32 w g A' c' L) :
    Calls Tryd.prog 66 #[.slice (some ⟨g, o, none⟩) n c, .slice A' L.length c'] w fun e w' => e = .returned (.tuple #[]) ∧ Blk .u32 68 w' g (addSt o L M n).1 ∧ w.grownBy w' (some g) := by
  generalize hl' : L.length = l at *
  have HL := Lib.hid hl'
  clear hl'
  go_enter Tryd.func66, Tryd.ntmps66
  go_wp2
  go_loopw [4, 9] (fun cv iv wr => ∃ k : Nat, k ≤ n ∧ iv = .int .i64 k ∧ cv = .int .u32 (addSt o L M k).2 ∧ Blk .u32 68 wr g (addSt o L M k).1 ∧ w.grownBy wr (some g)) (fun _ iv _ => n - (intOf iv).toNat)
  case atStart => exact ⟨0, Nat.zero_le _, rfl, rfl, hblk, grown_refl _ _⟩
  case round =>
    obtain ⟨k, hk, rfl, rfl, hb, hgr⟩ := hrel
    obtain ⟨h1, h2, h3⟩ := addSt_ok (o := o) hL hM k
    have HS := Lib.hid (addSt_succ o L M k)
    generalize hs : addSt o L M k = s at *
    have HK := Lib.hid hs
    clear hs
    obtain ⟨S, x⟩ := s
    dsimp only at *
    by_cases hlt : k < n
    · have hc := hb.cell (o + k) (by omega)
      have hfr := hb.frozen (o + k)
      have b1 := h1.nth (o + k)
      have b2 := hL.nth k
      by_cases hkl : k < l
      · obtain ⟨b', o', rfl, hbg, hcell'⟩ := hR.spot (by rw [HL.out]; omega)
        have hc' := (hcell'.grown hgr (by have := hblk.lt; omega) (by intro e; injection e; omega)) k (by rw [HL.out]; exact hkl)
        clear hcell'
        go_wp2
        go_roundw
        case rel =>
          have E := HS.out
          have e1 := hb.set_ (o + k) ((nth S (o + k) + x + nth L k) % 1000000000)
          exact ⟨k + 1, by omega, by go_num, by rw [E]; simp, by rw [E]; simpa using e1, grown_set hgr _ _⟩
        case measure => simp [intOf]; omega
      · have hz : nth L k = 0 := nth_ge (by rw [HL.out]; omega)
        have HZ := Lib.hid hz
        clear hz
        go_wp2
        go_roundw
        case rel =>
          have E := HS.out
          have e1 := hb.set_ (o + k) ((nth S (o + k) + x + nth L k) % 1000000000)
          exact ⟨k + 1, by omega, by go_num, by rw [E]; simp [HZ.out], by rw [E]; simpa [HZ.out] using e1, grown_set hgr _ _⟩
        case measure => simp [intOf]; omega
    · obtain rfl : k = n := by omega
      go_wp2
      go_end0
      exact ⟨rfl, by rw [HK.out]; exact hb, hgr⟩
end Go.Proofs.YtbfbijokhlkekaaDoor
