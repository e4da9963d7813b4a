/- 'readDigits': the limbs of a text of digits. -/
import Derived.Test.YtbfbijokhlkekaaDoorReadNat
import Derived.Test.YtbfbijokhlkekaaDoorCopied
import Derived.Test.YtbfbijokhlkekaaDoorText
import Derived.Test.YtbfbijokhlkekaaDoorIsNumber
import Derived.Lib.OthersKept
namespace Go.Proofs.YtbfbijokhlkekaaDoor
open Go.RowKit

theorem Blk.iterAt {k : IntKind} {t : TypeId} {w : World} {g : Nat} {L : List Nat} (h : Blk k t w g L) {K : Nat} (hK : g ≠ K) (s : ByteArray) (p : Nat) : Blk k t (w.iterAt K s p) g L := (Lib.iterAt_other w K g s p hK).trans h

theorem iterPos_of {w : World} {K p : Nat} {s : ByteArray} (h : w.heap[K]? = some (.stringIter s p)) : w.iterPos K = p := by unfold World.iterPos; rw [h]
set_option maxHeartbeats 1600000 in
theorem readDigits_any (s : ByteArray) (w : World) (hs : 0 < s.size) (hs2 : s.size ≤ 100000) (hd : ∀ c ∈ s.data.toList, isDig c = true) :
    Calls Tryd.prog 43 #[.string s] w fun e w' => ∃ A c L, e = .returned (.slice A L.length c) ∧ Row .u32 w' w'.heap.size A c L ∧ Canon L ∧ valB 1000000000 L = numOf s.data.toList ∧ L.length ≤ (s.size + 8) / 9 ∧ Below w.heap.size w w' := by
  obtain ⟨i0, hi, hz0, hz1, hz2⟩ := info_parts info68
  have hlen : s.data.toList.length = s.size := by simp
  have hinv := fun i h => rd_inv (s := s.data.toList) hd i h
  have hget : ∀ i (h : i < s.size), ((s[i]'h).toNat - 48 = digAt s.data.toList i) ∧ 48 ≤ (s[i]'h).toNat ∧ (s[i]'h).toNat ≤ 57 := fun i h => by
    have e := toList_get s i h
    have h1 := isDig_iff.1 (hd _ (List.getElem_mem (by simpa using h : i < s.data.toList.length)))
    rw [e] at h1
    refine ⟨?_, h1⟩
    simp only [digAt, List.getD_eq_getElem?_getD, List.getElem?_eq_getElem (by simpa using h : i < s.data.toList.length), Option.getD_some]
    rw [e]
  generalize hS : s.data.toList = S at *
  rw [hlen] at hinv
  have HINV := Lib.hid hinv
  have HLEN := Lib.hid hlen
  have HGET := Lib.hid hget
  clear hlen hinv hget hS hd
  go_enter Tryd.func43, Tryd.ntmps43
  go_wp2_with (refine wpList_make_zeros _ rfl (.tmp 11) (.tmp 11) 23 rfl 68 .u32 i0 4 Tryd.underlying23 hi hz0 hz1 hz2 .i64 .i64 _ _ ((s.size + 8) / 9) rfl rfl ?_ ?_ ?_ ?_ ?_; (omega); (omega); (omega); (omega); intro w1 hb1 hB1 hs1)
  have hsz := Lib.hid hs1
  clear hs1
  generalize hM0 : List.replicate ((s.size + 8) / 9) 0 = M0 at *
  have HM0 := Lib.hid hM0
  clear hM0
  go_loopw [] (fun wr => ∃ k : Nat, k ≤ s.size ∧ Hid (wr.heap[w1.heap.size]? = some (.stringIter s k)) ∧ Hid (Blk .u32 68 wr w.heap.size (rdSt S M0 k)) ∧ Below w.heap.size w wr) (fun wr => s.size - wr.iterPos w1.heap.size)
  case atStart =>
    refine ⟨0, Nat.zero_le _, World.iter_heap _ _ _, ?_, hB1.trans ((Below.refl _ _).alloc hB1.size _)⟩
    exact Blk.alloc hb1.out _
  case round =>
    obtain ⟨k, hk, hit, hb, hbw⟩ := hrel
    have hKg : w.heap.size ≠ w1.heap.size := by have := hsz.out; omega
    have HI := HINV.out k hk
    by_cases hlt : k < s.size
    · obtain ⟨g1, g2, g3⟩ := HGET.out k hlt
      have hroom := rd_room HI rfl hlt
      have hnx := fun ty => Lib.run_next_ascii_at (P := Tryd.prog) wr w1.heap.size s k ty hit.out hlt (by omega)
      have hb' := hb.out.iterAt hKg s (k + 1)
      have hst := rdSt_succ S M0 k
      rw [HLEN.out, ← g1] at hst
      have HST := Lib.hid hst
      have hlenM := HI.len
      clear HI
      generalize rdSt S M0 k = M at *
      obtain ⟨r1, r2⟩ := hroom
      have hc := hb'.cell ((s.size - 1 - k) / 9) (by omega)
      have hfr := hb'.frozen ((s.size - 1 - k) / 9)
      have hi1 : (((s.size : Int) - 1 - (k : Int)) / 9) = (((s.size - 1 - k) / 9 : Nat) : Int) := by omega
      have G1 := Lib.hid g1
      clear g1 hlenM hst
      go_wp2
      have hit2 : ((wr.iterAt w1.heap.size s (k + 1)).setCell ⟨w.heap.size, (s.size - 1 - k) / 9, none⟩ (.int .u32 ((nth M ((s.size - 1 - k) / 9) : Int) * 10 + (((s[k]'hlt).toNat : Int) - 48)))).heap[w1.heap.size]? = some (.stringIter s (k + 1)) :=
        (Below.heap_setCell _ _ _ _ (by show w1.heap.size ≠ w.heap.size; omega)).trans (Lib.iterAt_heap wr w1.heap.size s k (k + 1) hit.out)
      go_roundw
      case rel =>
        refine ⟨k + 1, by omega, hit2, ?_, ?_⟩
        · show Blk _ _ _ _ _
          rw [HST.out]
          exact hb'.setI _ (by omega)
        · exact (Lib.below_iterAt hbw (by have := hsz.out; omega) s (k + 1)).setCell (by simp) _
      case measure =>
        rw [iterPos_of hit2, iterPos_of hit.out]; omega
    · obtain rfl : k = s.size := by omega
      have hnx := fun ty => Lib.run_next_end_at (P := Tryd.prog) wr w1.heap.size s s.size ty hit.out hlt
      have hlenM := HI.len
      have hv := rd_end HI (by omega)
      have hlim := HI.lim
      rw [List.take_of_length_le (by rw [HLEN.out]; exact Nat.le_refl _)] at hv
      have hbb := hb.out
      have hT := trim_any (some ⟨w.heap.size, 0, none⟩) ((s.size + 8) / 9) w.heap.size 0 (rdSt S M0 s.size) wr (by omega) (by omega) (fun _ => rfl) hbb.cells
      rw [hlenM] at hT
      have hw := hbb.lt
      have HTT := Lib.hid hT
      have HB := Lib.hid hbb
      have HL := Lib.hid hlenM
      have HV := Lib.hid hv
      clear hT hbb hlenM hv hit hb HI
      generalize rdSt S M0 s.size = M at *
      go_wp2_with fail
      refine HTT.out.mono ?_
      rintro e w4 ⟨rfl, rfl⟩
      go_wp2_with fail
      go_ret
      have htl := trimN_le M ((s.size + 8) / 9)
      have el : (M.take (trimN M ((s.size + 8) / 9))).length = trimN M ((s.size + 8) / 9) := by rw [List.length_take, HL.out]; omega
      refine ⟨some ⟨w.heap.size, 0, none⟩, (s.size + 8) / 9, M.take (trimN M ((s.size + 8) / 9)), ?_, ?_, ⟨hlim.take _, ?_⟩, ?_, ?_, hbw⟩
      · rw [el]; rfl
      · exact (Row.ofBlk HB.out hw (by rw [HL.out]; exact Nat.le_refl _)).take _
      · rw [el]; intro h; rw [nth_take (by omega)]; exact trimN_top _ _ h
      · rw [trimN_val _ _ _ (by rw [HL.out]; exact Nat.le_refl _), List.take_of_length_le (by rw [HL.out]; exact Nat.le_refl _)]; exact HV.out
      · rw [el]; exact htl
end Go.Proofs.YtbfbijokhlkekaaDoor
