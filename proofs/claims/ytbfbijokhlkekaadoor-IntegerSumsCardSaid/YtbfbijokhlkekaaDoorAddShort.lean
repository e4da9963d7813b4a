/- 'add' where the second row is the longer one. -/
import Derived.Test.YtbfbijokhlkekaaDoorCopied
namespace Go.Proofs.YtbfbijokhlkekaaDoor
open Go.RowKit

set_option maxHeartbeats 800000 in
theorem add_short (A A' : Option Addr) (c c' : Nat) (L M : List Nat) (w : World) (hl : L.length ≤ 1000000) (hml : M.length < L.length)
    (hL : Lim L) (hM : Lim M) (hR : Row .u32 w w.heap.size A c L) (hR' : Row .u32 w w.heap.size A' c' M) :
    Calls Tryd.prog 50 #[.slice A' M.length c', .slice A L.length c] w fun e w' =>
      let R := (addSt 0 M (L ++ [0]) (L.length + 1)).1
      e = .returned (.slice (some ⟨w.heap.size, 0, none⟩) (trimN R (L.length + 1)) (L.length + 1)) ∧ Blk .u32 68 w' w.heap.size R ∧ Below w.heap.size w w' := by
  obtain ⟨i0, hi, hz0, hz1, hz2⟩ := info_parts info68
  generalize hl' : L.length = l at *
  generalize hm' : M.length = m at *
  have HL := Lib.hid hl'
  have HM := Lib.hid hm'
  clear hl' hm'
  have hyes : m < l := by omega
  go_enter Tryd.func50, Tryd.ntmps50
  go_wp2_with (first
    | (refine wpList_make_zeros _ rfl (.tmp 15) (.tmp 15) 23 rfl 68 .u32 i0 4 Tryd.underlying23 hi hz0 hz1 hz2 .i64 .i64 _ _ (l + 1) rfl rfl (by omega) (by omega) (by omega) (by omega) ?_; intro w1 hb1 hB1 hs1)
    | (refine wpList_copy_row rfl (.tmp 17) (.tmp 18) 23 23 rfl 68 Tryd.underlying23 size68 .u32 68 w.heap.size (l + 1) (l + 1) c A (List.replicate (l + 1) 0) L rfl (by rw [HL.out]; rfl) hb1.out (hR.below hB1) (by rw [HL.out]; omega) (by simp) ?_; intro w2 hb2 hB2)
    | fail)
  have hb3 := hb2.out
  have e1 : splice (List.replicate (l + 1) 0) 0 L = L ++ [0] := by
    simp [splice, HL.out]
  rw [e1] at hb3
  have hlen : (L ++ [0]).length = l + 1 := by simp [HL.out]
  have hA := addTo_any w.heap.size 0 (l + 1) (l + 1) A' c' (L ++ [0]) M w2 (by omega) (by omega) (by rw [HM.out]; omega)
    (by intro d hd; rcases List.mem_append.1 hd with h | h; exact hL d h; simp at h; omega) hM hb3 ((hR'.below hB1).below hB2)
  rw [HM.out] at hA
  clear hlen e1 hb2 hb1 hb3
  refine hA.mono ?_
  rintro e w3 ⟨rfl, hb4, hg4⟩
  have hB4 : Below w.heap.size w w3 := grown_below (hB1.trans hB2) hg4 (Nat.le_refl _) (hB1.trans hB2).size
  have H4 := Lib.hid hb4
  have ok := addSt_ok (o := 0) hM (M := L ++ [0]) (by intro d hd; rcases List.mem_append.1 hd with h | h; exact hL d h; simp at h; omega) (l + 1)
  have hlen : (addSt 0 M (L ++ [0]) (l + 1)).1.length = l + 1 := by rw [ok.2.2]; simp [HL.out]
  have hT := trim_any (some ⟨w.heap.size, 0, none⟩) (l + 1) w.heap.size 0 (addSt 0 M (L ++ [0]) (l + 1)).1 w3 (by omega) (by omega) (fun _ => rfl) hb4.cells
  rw [hlen] at hT
  clear ok hlen hb4
  go_wp2_with fail
  refine hT.mono ?_
  rintro e w4 ⟨rfl, rfl⟩
  go_wp2_with fail
  go_ret
  exact ⟨rfl, H4.out, hB4⟩
end Go.Proofs.YtbfbijokhlkekaaDoor
