/- 'multiply': the product of two rows, as one does on paper. -/
import Derived.Test.YtbfbijokhlkekaaDoorCopied
namespace Go.Proofs.YtbfbijokhlkekaaDoor
open Go.RowKit

set_option maxHeartbeats 1600000 in
theorem multiply_any (A A' : Option Addr) (c c' : Nat) (L M : List Nat) (w : World) (hl : L.length ≤ 1000000) (hml : M.length ≤ 1000000)
    (hL : Lim L) (hM : Lim M) (hR : Row .u32 w w.heap.size A c L) (hR' : Row .u32 w w.heap.size A' c' M) :
    Calls Tryd.prog 57 #[.slice A L.length c, .slice A' M.length c'] w fun e w' =>
      e = .returned (.slice (some ⟨w.heap.size, 0, none⟩) (trimN (mulSt L M (List.replicate (L.length + M.length) 0) L.length) (L.length + M.length)) (L.length + M.length)) ∧
        Blk .u32 68 w' w.heap.size (mulSt L M (List.replicate (L.length + M.length) 0) L.length) ∧ Below w.heap.size w w' := by
  obtain ⟨i0, hi, hz0, hz1, hz2⟩ := info_parts info68
  have hZ : Lim (List.replicate (L.length + M.length) 0) := fun d hd => by have := (List.mem_replicate.1 hd).2; omega
  have hZl : (List.replicate (L.length + M.length) 0).length = L.length + M.length := by simp
  generalize hz : List.replicate (L.length + M.length) 0 = Z at *
  generalize hl' : L.length = l at *
  generalize hm' : M.length = m at *
  have HL := Lib.hid hl'
  have HM := Lib.hid hm'
  have HZ := Lib.hid hz
  have HZL := Lib.hid hZl
  clear hl' hm' hz hZl
  go_enter Tryd.func57, Tryd.ntmps57
  go_wp2_with (first
    | (refine wpList_make_zeros _ rfl (.tmp 16) (.tmp 16) 23 rfl 68 .u32 i0 4 Tryd.underlying23 hi hz0 hz1 hz2 .i64 .i64 _ _ (l + m) rfl rfl (by omega) (by omega) (by omega) (by omega) ?_; intro w1 hb1 hB1 hs1)
    | fail)
  have hb1' := hb1.out
  rw [HZ.out] at hb1'
  have hg := hb1'.lt
  clear hs1 hb1
  go_loopw [20] (fun iv wr => ∃ i : Nat, i ≤ l ∧ iv = .int .i64 i ∧ Blk .u32 68 wr w.heap.size (mulSt L M Z i) ∧ w1.grownBy wr (some w.heap.size)) (fun iv _ => l - (intOf iv).toNat)
  case atStart => exact ⟨0, Nat.zero_le _, rfl, hb1', grown_refl _ _⟩
  case round =>
    obtain ⟨i, hk, rfl, hb, hgr⟩ := hrel
    obtain ⟨h1, h2⟩ := mulSt_ok hL hM hZ i
    have HS := Lib.hid (mulSt_succ L M Z i)
    have h3 : (mulSt L M Z i).length = l + m := by rw [h2, HZL.out]
    clear h2
    generalize hs : mulSt L M Z i = S at *
    have HK := Lib.hid hs
    have H3 := Lib.hid h3
    clear hs h3
    by_cases hlt : i < l
    · obtain ⟨b, o, rfl, hbg, hcell⟩ := hR.spot (by rw [HL.out]; omega)
      have hcx := ((hcell.below hB1 hbg).grown hgr (by omega) (by intro e; injection e; omega)) i (by rw [HL.out]; exact hlt)
      have hx := hL.nth i
      generalize hxx : nth L i = x at *
      have HX := Lib.hid hxx
      clear hcell hxx
      go_wp2
      have hbS := hb
      go_loopw [8, 27] (fun cv jv wq => ∃ j : Nat, j ≤ m ∧ jv = .int .i64 j ∧ cv = .int .u64 (mulRow x i M S j).2 ∧ Blk .u32 68 wq w.heap.size (mulRow x i M S j).1 ∧ w1.grownBy wq (some w.heap.size)) (fun _ jv _ => m - (intOf jv).toNat)
      case atStart => exact ⟨0, Nat.zero_le _, rfl, rfl, hbS, hgr⟩
      case round =>
        obtain ⟨j, hj, rfl, rfl, hbq, hgq⟩ := hrel
        obtain ⟨g1, g2, g3⟩ := mulRow_ok (o := i) hx hM h1 j
        have HS' := Lib.hid (mulRow_succ x i M S j)
        generalize hq : mulRow x i M S j = q at *
        have HQ := Lib.hid hq
        clear hq
        obtain ⟨Q, y⟩ := q
        dsimp only at *
        rw [H3.out] at g3
        have G3 := Lib.hid g3
        clear g3
        by_cases hjt : j < m
        · obtain ⟨b', o', rfl, hbg', hcell'⟩ := hR'.spot (by rw [HM.out]; omega)
          have hcy := ((hcell'.below hB1 hbg').grown hgq (by omega) (by intro e; injection e; omega)) j (by rw [HM.out]; exact hjt)
          have hc := hbq.cell (i + j) (by rw [G3.out]; omega)
          have hfr := hbq.frozen (i + j)
          have b1 := g1.nth (i + j)
          have b2 := hM.nth j
          have b4 := mul_lt_limI hx b2
          have b5 := mul_nonnegI x (nth M j)
          clear hcell'
          go_wp2
          go_roundw
          case rel =>
            have E := HS'.out
            have e1 := hbq.setI (i + j) (v := ((x : Int) * (nth M j : Int) + (nth Q (i + j) : Int) + (y : Int)) % 1000000000) (x := (x * nth M j + nth Q (i + j) + y) % 1000000000) (by simp)
            exact ⟨j + 1, by omega, by go_num, by rw [E]; simp, by rw [E]; exact e1, grown_set hgq _ _⟩
          case measure => simp [intOf]; omega
        · obtain rfl : j = m := by omega
          have hc := hbq.cell (i + j) (by rw [G3.out]; omega)
          have hfr := hbq.frozen (i + j)
          go_wp2
          go_roundw
          case rel =>
            have E := HS.out
            rw [HM.out, HQ.out] at E
            exact ⟨i + 1, by omega, by go_num, by rw [E]; exact hbq.set_ _ _, grown_set hgq _ _⟩
          case measure => simp [intOf]; omega
    · obtain rfl : i = l := by omega
      have hT := trim_any (some ⟨w.heap.size, 0, none⟩) (i + m) w.heap.size 0 S wr (by rw [H3.out]; omega) (by rw [H3.out]; omega) (fun _ => rfl) hb.cells
      rw [H3.out] at hT
      have hB : Below w.heap.size w wr := grown_below hB1 hgr (Nat.le_refl _) hB1.size
      have hb9 := Lib.hid hb
      have HT := Lib.hid hT
      clear hT hb
      go_wp2_with fail
      refine HT.out.mono ?_
      rintro e w4 ⟨rfl, rfl⟩
      go_wp2_with fail
      go_ret
      have hk' := HK.out
      rw [hk']
      exact ⟨rfl, hb9.out, hB⟩
end Go.Proofs.YtbfbijokhlkekaaDoor
