/- The reference's 'Parse' of a good text. -/
import Derived.Test.YtbfbijokhlkekaaDoorRefPBase
namespace Go.Proofs.YtbfbijokhlkekaaDoor
open Go.RowKit

theorem info3 : (Tryd.prog.info? 3).map (fun i => (i.zero, i.size, i.bytes)) = some (some (.int .i64 0), 1, 8) := by kernel_rfl

set_option maxRecDepth 20000 in
set_option maxHeartbeats 3200000 in
theorem rparse_ok_plain (s : ByteArray) (w : World) (hn : negOf s.data.toList = false) (hr : restOf s.data.toList = s.data.toList) (h0 : ∀ h : 0 < s.size, (s[0]'h).toNat ≠ 45) (hbad : badNum s.data.toList = false) (hlong : (restOf s.data.toList).length ≤ 2000) :
    Calls Tryd.prog 14 #[.string s] w fun e w' => ∃ A c L, e = .returned (.tuple #[.agg #[.bool (negOf s.data.toList), .slice A L.length c], .int .i64 0]) ∧ RefR w' w'.heap.size (negOf s.data.toList) A c L ∧
      valB 10000 L = numOf (restOf s.data.toList) ∧ L.length ≤ 500 ∧ Below w.heap.size w w' := by
  obtain ⟨i0, hi, hz0, hz1, hz2⟩ := info_parts info3
  obtain ⟨hdig, hne, hhead, hnum⟩ := good_facts hbad
  have HV := hlong
  clear hlong hbad
  have hp : 0 < s.size := by
    have := List.length_pos_iff.2 hne; rw [hr] at this; simpa using this
  have h45 := h0 hp
  have hq : (((s[0]'hp).toNat : Int) == 45) = false := by rw [beq_eq_false_iff_ne]; omega
  have hd : decide ((0 : Int) < (s.size : Int)) = true := by rw [decide_eq_true_iff]; omega
  have he : ((s.size : Int) == 0) = false := by rw [beq_eq_false_iff_ne]; omega
  have hsl := size_list s
  rw [hr] at hdig hhead HV
  rw [hn] at *
  have hby := byte_dig s hdig
  have HB := Lib.hid hby
  have HDIG := Lib.hid hdig
  have hDs : s.size ≤ s.size := Nat.le_refl _
  have hlt0 : decide ((s.size : Int) < (s.size : Int)) = false := by simp
  rw [size_list] at HV
  rw [hr]
  clear h45 h0 hby
  by_cases h48 : (s[0]'hp).toNat = 48
  · have hs48 : s.data.toList = [48] := by
      have := (hhead (by rw [head_byte hp]; congr 1; apply UInt8.toNat_inj.1; rw [h48]; rfl)).2
      exact this
    have hb1 : (s.toList == [48]) = true := by rw [ByteArray.toList_eq, hs48]; rfl
    have hb2 : (((s[0]'hp).toNat : Int) == 48) = true := by rw [beq_iff_eq]; omega
    clear hs48 h48 hr hn hdig hhead hne hsl
    go_enter Tryd.func14, Tryd.ntmps14
    go_wp2
    go_loop [5] (fun v => ∃ k : Nat, k ≤ s.size ∧ v = .int .i64 k) (fun v => s.size - (intOf v).toNat)
    case atStart => exact ⟨0, Nat.zero_le _, rfl⟩
    case round =>
      obtain ⟨k, hk, rfl⟩ := hrel
      by_cases hlz : k < s.size
      · have hlt : k < s.size := hlz
        obtain ⟨b1, b2, _⟩ := HB.out k hlt
        have hdq : decide ((((s[k]'hlt).toNat : Nat) : Int) < 48) = false := by rw [decide_eq_false_iff_not]; omega
        go_wp2
        go_round
        case rel => exact ⟨k + 1, by omega, by go_num⟩
        case measure => simp [intOf]; omega
      · obtain rfl : k = s.size := by omega
        go_wp2
        go_loopw [6, 7] (fun lv ev wr => ∃ (j : Nat) (x : Int), j ≤ (s.size + 3) / 4 ∧ ev = .int .i64 x ∧ Hid (x = (s.size : Int) - 4 * (j : Int)) ∧ Own .i64 3 wr (w.heap.size + 1) lv (chunks s.data.toList j) ∧
          Below (w.heap.size + 1) (w.alloc (.cells #[.bool false, .slice none 0 0] 31)) wr) (fun _ ev _ => (intOf ev + 3).toNat)
        case atStart => exact ⟨0, _, Nat.zero_le _, rfl, by show _ = _; omega, Own.nil _ _ _ _, by have := Below.refl (w.heap.size + 1) (w.alloc (.cells #[.bool false, .slice none 0 0] 31)); exact this⟩
        case round =>
          obtain ⟨j, x, hj, rfl, hx, ho, hbr⟩ := hrel
          have hsr : w.heap.size + 1 ≤ wr.heap.size := by have := hbr.size; simpa using this
          have HO := Lib.hid ho
          clear ho
          by_cases hpos : 0 < x
          · obtain ⟨e, rfl⟩ : ∃ e : Nat, x = (e : Int) := ⟨x.toNat, by omega⟩
            have hme : e ≤ s.size := by have := hx.out; omega
            go_wp2
            have hsl2 := seg_lt HDIG.out (a := e - 4) (b := e) (by omega)
            go_loop [8, 9] (fun nv iv => ∃ k : Nat, e - 4 ≤ k ∧ k ≤ e ∧ iv = .int .i64 k ∧ nv = .int .i64 (numOf (seg s.data.toList (e - 4) k))) (fun _ iv => e - (intOf iv).toNat)
            case atStart => exact ⟨e - 4, Nat.le_refl _, by omega, by congr 1; omega, by rw [seg_self]; rfl⟩
            case round =>
              obtain ⟨k, hk1, hk2, rfl, rfl⟩ := hrel
              have hsk := seg_lt HDIG.out (a := e - 4) (b := k) (by omega)
              by_cases hke : k < e
              · have hlz : k < s.size := by omega
                have hlt : k < s.size := hlz
                obtain ⟨b1, b2, b3⟩ := HB.out k hlt
                have hsg := @seg_succ s.data.toList _ _ hk1 (by rw [size_list]; exact hlt)
                rw [← b3] at hsg
                have HSG := Lib.hid hsg
                clear b3 hsg
                generalize hgg : numOf (seg s.data.toList (e - 4) k) = q at *
                have HGG := Lib.hid hgg
                clear hgg
                go_wp2
                go_round
                case rel => exact ⟨k + 1, by omega, by omega, by go_num, by rw [HSG.out]; congr 1; omega⟩
                case measure => simp [intOf]; omega
              · obtain rfl : k = e := by omega
                clear hsk
                have hlen : (chunks s.data.toList j).length ≤ 100000000 := by rw [chunks_len]; omega
                have HLEN := Lib.hid hlen
                generalize hgg : numOf (seg s.data.toList (k - 4) k) = q at *
                have HGG := Lib.hid hgg
                clear hgg hlen
                go_wp2_with (first
                  | (at_builtin; refine wpList_append_num wr rfl (.tmp 77) (.tmp 79) 29 rfl .i64 (w.heap.size + 1) 3 i0 8 Tryd.underlying29 hi hz0 hz1 hz2 (by omega) u6 _ (by rfl) HO.out _ q ?_ 1 rfl HLEN.out ?_ ?_; (rfl); (exact hsr); intro v2 w2 ho2 hb2)
                  | fail)
                go_roundw
                case rel =>
                  have hxx := hx.out
                  have hc : chunks s.data.toList (j + 1) = chunks s.data.toList j ++ [q] := by
                    rw [chunks, size_list]
                    have e1 : s.size - 4 * j = k := (by omega)
                    rw [e1, HGG.out]
                  exact ⟨j + 1, _, by omega, rfl, by show _ = _; omega, by rw [hc]; exact ho2.out, hbr.trans hb2⟩
                case measure => simp [intOf]; omega
          · have hjj : s.size ≤ 4 * j := by have := hx.out; omega
            obtain ⟨A, c, hv, hrow⟩ := HO.out.row
            subst hv
            have hcl := chunks_len s.data.toList j
            have hcv := chunks_val s.data.toList j
            have hclim := chunks_lim HDIG.out j
            rw [size_list] at hcv
            have hz0' : s.size - 4 * j = 0 := (by omega)
            rw [hz0'] at hcv
            have hcv2 : numOf s.data.toList = valB 10000 (chunks s.data.toList j) := by rw [hcv]; simp [numOf]
            clear hcv hz0'
            have hsgn := fun W h => rsigned_any false A c (chunks s.data.toList j) W (by rw [hcl]; omega) h
            have HSGN := Lib.hid hsgn
            have HCL := Lib.hid hcl
            have HCV := Lib.hid hcv2
            clear hsgn hcl hcv2
            go_wp2_with fail
            refine (HSGN.out wr hrow).mono ?_
            rintro e w4 ⟨rfl, hb4⟩
            have hby : Below (w.heap.size + 1) (w.alloc (Obj.cells #[Value.bool false, Value.slice none 0 0] 31)) w4 := hbr.trans (Below.less hb4 hsr)
            have htv := trimN_val 10000 (chunks s.data.toList j) _ (Nat.le_refl _)
            have htt := trimN_top (chunks s.data.toList j) (chunks s.data.toList j).length
            have htl := trimN_le (chunks s.data.toList j) (chunks s.data.toList j).length
            rw [List.take_of_length_le (Nat.le_refl _), ← HCV.out] at htv
            generalize htm : trimN (chunks s.data.toList j) (chunks s.data.toList j).length = m at *
            have hcl' := HCL.out
            have hrow4 : RefR w4 wr.heap.size false A c ((chunks s.data.toList j).take m) := RefR.below ⟨hrow.take m, fun d hd => hclim d (List.mem_of_mem_take hd), fun h => by
              have el : ((chunks s.data.toList j).take m).length = m := by rw [List.length_take]; omega
              rw [el] at h ⊢; rw [nth_take (by omega)]; exact htt h, fun h => absurd h Bool.false_ne_true⟩ hb4
            have el : ((chunks s.data.toList j).take m).length = m := by rw [List.length_take]; omega
            have hy0 := (boxed2 hby).1
            have hy1 := (boxed2 hby).2
            have gy0 := boxedF hby 0
            have gy1 := boxedF hby 1
            have hbw4 : Below w.heap.size w w4 := (below_alloc_new _).trans (Below.less hby (Nat.le_succ _))
            have hw34 := hb4.size
            have HBY := Lib.hid hby
            have HTV := Lib.hid htv
            have HEL := Lib.hid el
            clear hby hb4 htv el htm htt
            go_wp2_with fail
            refine bodyPost_ret (v := .tuple #[.agg #[.bool false, .slice A m c], .int .i64 0]) (by simp [results, Tryd.results14, go_sem, hy0, hy1]) rfl ⟨A, c, (chunks s.data.toList j).take m, by rw [HEL.out], ?_, HTV.out, by rw [HEL.out]; omega, (hbw4.setCell (by simp) _).setCell (by simp) _⟩
            rw [setCell_size, setCell_size]
            exact ⟨(hrow4.row.more hw34).box HBY.out (fun _ => by simp) (fun _ => by simp) _ _, hrow4.lim, hrow4.top, hrow4.sgn⟩
  · have hb2 : (((s[0]'hp).toNat : Int) == 48) = false := by rw [beq_eq_false_iff_ne]; omega
    clear h48 hr hn hdig hhead hne hsl
    go_enter Tryd.func14, Tryd.ntmps14
    go_wp2
    go_loop [5] (fun v => ∃ k : Nat, k ≤ s.size ∧ v = .int .i64 k) (fun v => s.size - (intOf v).toNat)
    case atStart => exact ⟨0, Nat.zero_le _, rfl⟩
    case round =>
      obtain ⟨k, hk, rfl⟩ := hrel
      by_cases hlz : k < s.size
      · have hlt : k < s.size := hlz
        obtain ⟨b1, b2, _⟩ := HB.out k hlt
        have hdq : decide ((((s[k]'hlt).toNat : Nat) : Int) < 48) = false := by rw [decide_eq_false_iff_not]; omega
        go_wp2
        go_round
        case rel => exact ⟨k + 1, by omega, by go_num⟩
        case measure => simp [intOf]; omega
      · obtain rfl : k = s.size := by omega
        go_wp2
        go_loopw [6, 7] (fun lv ev wr => ∃ (j : Nat) (x : Int), j ≤ (s.size + 3) / 4 ∧ ev = .int .i64 x ∧ Hid (x = (s.size : Int) - 4 * (j : Int)) ∧ Own .i64 3 wr (w.heap.size + 1) lv (chunks s.data.toList j) ∧
          Below (w.heap.size + 1) (w.alloc (.cells #[.bool false, .slice none 0 0] 31)) wr) (fun _ ev _ => (intOf ev + 3).toNat)
        case atStart => exact ⟨0, _, Nat.zero_le _, rfl, by show _ = _; omega, Own.nil _ _ _ _, by have := Below.refl (w.heap.size + 1) (w.alloc (.cells #[.bool false, .slice none 0 0] 31)); exact this⟩
        case round =>
          obtain ⟨j, x, hj, rfl, hx, ho, hbr⟩ := hrel
          have hsr : w.heap.size + 1 ≤ wr.heap.size := by have := hbr.size; simpa using this
          have HO := Lib.hid ho
          clear ho
          by_cases hpos : 0 < x
          · obtain ⟨e, rfl⟩ : ∃ e : Nat, x = (e : Int) := ⟨x.toNat, by omega⟩
            have hme : e ≤ s.size := by have := hx.out; omega
            go_wp2
            have hsl2 := seg_lt HDIG.out (a := e - 4) (b := e) (by omega)
            go_loop [8, 9] (fun nv iv => ∃ k : Nat, e - 4 ≤ k ∧ k ≤ e ∧ iv = .int .i64 k ∧ nv = .int .i64 (numOf (seg s.data.toList (e - 4) k))) (fun _ iv => e - (intOf iv).toNat)
            case atStart => exact ⟨e - 4, Nat.le_refl _, by omega, by congr 1; omega, by rw [seg_self]; rfl⟩
            case round =>
              obtain ⟨k, hk1, hk2, rfl, rfl⟩ := hrel
              have hsk := seg_lt HDIG.out (a := e - 4) (b := k) (by omega)
              by_cases hke : k < e
              · have hlz : k < s.size := by omega
                have hlt : k < s.size := hlz
                obtain ⟨b1, b2, b3⟩ := HB.out k hlt
                have hsg := @seg_succ s.data.toList _ _ hk1 (by rw [size_list]; exact hlt)
                rw [← b3] at hsg
                have HSG := Lib.hid hsg
                clear b3 hsg
                generalize hgg : numOf (seg s.data.toList (e - 4) k) = q at *
                have HGG := Lib.hid hgg
                clear hgg
                go_wp2
                go_round
                case rel => exact ⟨k + 1, by omega, by omega, by go_num, by rw [HSG.out]; congr 1; omega⟩
                case measure => simp [intOf]; omega
              · obtain rfl : k = e := by omega
                clear hsk
                have hlen : (chunks s.data.toList j).length ≤ 100000000 := by rw [chunks_len]; omega
                have HLEN := Lib.hid hlen
                generalize hgg : numOf (seg s.data.toList (k - 4) k) = q at *
                have HGG := Lib.hid hgg
                clear hgg hlen
                go_wp2_with (first
                  | (at_builtin; refine wpList_append_num wr rfl (.tmp 77) (.tmp 79) 29 rfl .i64 (w.heap.size + 1) 3 i0 8 Tryd.underlying29 hi hz0 hz1 hz2 (by omega) u6 _ (by rfl) HO.out _ q ?_ 1 rfl HLEN.out ?_ ?_; (rfl); (exact hsr); intro v2 w2 ho2 hb2)
                  | fail)
                go_roundw
                case rel =>
                  have hxx := hx.out
                  have hc : chunks s.data.toList (j + 1) = chunks s.data.toList j ++ [q] := by
                    rw [chunks, size_list]
                    have e1 : s.size - 4 * j = k := (by omega)
                    rw [e1, HGG.out]
                  exact ⟨j + 1, _, by omega, rfl, by show _ = _; omega, by rw [hc]; exact ho2.out, hbr.trans hb2⟩
                case measure => simp [intOf]; omega
          · have hjj : s.size ≤ 4 * j := by have := hx.out; omega
            obtain ⟨A, c, hv, hrow⟩ := HO.out.row
            subst hv
            have hcl := chunks_len s.data.toList j
            have hcv := chunks_val s.data.toList j
            have hclim := chunks_lim HDIG.out j
            rw [size_list] at hcv
            have hz0' : s.size - 4 * j = 0 := (by omega)
            rw [hz0'] at hcv
            have hcv2 : numOf s.data.toList = valB 10000 (chunks s.data.toList j) := by rw [hcv]; simp [numOf]
            clear hcv hz0'
            have hsgn := fun W h => rsigned_any false A c (chunks s.data.toList j) W (by rw [hcl]; omega) h
            have HSGN := Lib.hid hsgn
            have HCL := Lib.hid hcl
            have HCV := Lib.hid hcv2
            clear hsgn hcl hcv2
            go_wp2_with fail
            refine (HSGN.out wr hrow).mono ?_
            rintro e w4 ⟨rfl, hb4⟩
            have hby : Below (w.heap.size + 1) (w.alloc (Obj.cells #[Value.bool false, Value.slice none 0 0] 31)) w4 := hbr.trans (Below.less hb4 hsr)
            have htv := trimN_val 10000 (chunks s.data.toList j) _ (Nat.le_refl _)
            have htt := trimN_top (chunks s.data.toList j) (chunks s.data.toList j).length
            have htl := trimN_le (chunks s.data.toList j) (chunks s.data.toList j).length
            rw [List.take_of_length_le (Nat.le_refl _), ← HCV.out] at htv
            generalize htm : trimN (chunks s.data.toList j) (chunks s.data.toList j).length = m at *
            have hcl' := HCL.out
            have hrow4 : RefR w4 wr.heap.size false A c ((chunks s.data.toList j).take m) := RefR.below ⟨hrow.take m, fun d hd => hclim d (List.mem_of_mem_take hd), fun h => by
              have el : ((chunks s.data.toList j).take m).length = m := by rw [List.length_take]; omega
              rw [el] at h ⊢; rw [nth_take (by omega)]; exact htt h, fun h => absurd h Bool.false_ne_true⟩ hb4
            have el : ((chunks s.data.toList j).take m).length = m := by rw [List.length_take]; omega
            have hy0 := (boxed2 hby).1
            have hy1 := (boxed2 hby).2
            have gy0 := boxedF hby 0
            have gy1 := boxedF hby 1
            have hbw4 : Below w.heap.size w w4 := (below_alloc_new _).trans (Below.less hby (Nat.le_succ _))
            have hw34 := hb4.size
            have HBY := Lib.hid hby
            have HTV := Lib.hid htv
            have HEL := Lib.hid el
            clear hby hb4 htv el htm htt
            go_wp2_with fail
            refine bodyPost_ret (v := .tuple #[.agg #[.bool false, .slice A m c], .int .i64 0]) (by simp [results, Tryd.results14, go_sem, hy0, hy1]) rfl ⟨A, c, (chunks s.data.toList j).take m, by rw [HEL.out], ?_, HTV.out, by rw [HEL.out]; omega, (hbw4.setCell (by simp) _).setCell (by simp) _⟩
            rw [setCell_size, setCell_size]
            exact ⟨(hrow4.row.more hw34).box HBY.out (fun _ => by simp) (fun _ => by simp) _ _, hrow4.lim, hrow4.top, hrow4.sgn⟩
end Go.Proofs.YtbfbijokhlkekaaDoor
