/- Contracts of the functions that the statements reach, part 3: what was proved of each, callees first. -/
import Derived.Deep.CutRange
import Derived.Deep.RegionWith
import Derived.Deep.RegionHeld3
import Derived.Test.YtodapfhnbgoanaaGreatDoorZK2
namespace Go.Proofs.YtodapfhnbgoanaaGreatDoor
open Go.RowKit
theorem info3 : (Tryz.prog.info? 3).map (fun i => (i.zero, i.size, i.bytes)) = some (some (.int .i64 0), 1, 8) := by kernel_rfl
set_option maxRecDepth 20000 in
set_option maxHeartbeats 3200000 in
theorem rparse_ok_plain (s : ByteArray) (w : World) (hn : negOf s.data.toList = false) (hr : restOf s.data.toList = s.data.toList) (h0 : ∀ h : 0 < s.size, (s[0]'h).toNat ≠ 45) (hbad : badNum s.data.toList = false) (hlong : (restOf s.data.toList).length ≤ 2000) :
  Calls Tryz.prog 18 #[.string s] w fun e w' => ∃ A c L, e = .returned (.tuple #[.agg #[.bool (negOf s.data.toList), .slice A L.length c], .int .i64 0]) ∧ RefR w' w'.heap.size (negOf s.data.toList) A c L ∧
   valB 10000 L = numOf (restOf s.data.toList) ∧ L.length ≤ 500 ∧ Below w.heap.size w w' := by
 obtain ⟨i0, hi, hz0, hz1, hz2⟩ := info_parts info3
 obtain ⟨hdig, hne, hhead, hnum⟩ := good_facts hbad
 have HV := hlong
 clear hlong hbad
 have hp : 0 < s.size := by
  have := List.length_pos_iff.2 hne; rw [hr] at this; simpa using this
 have h45 := h0 hp
 have hq : (((s[0]'hp).toNat : Int) == 45) = false := by rw [beq_eq_false_iff_ne]; omega
 have hd : decide ((0 : Int) < (s.size : Int)) = true := by rw [decide_eq_true_iff]; omega
 have he : ((s.size : Int) == 0) = false := by rw [beq_eq_false_iff_ne]; omega
 have hsl := size_list s
 rw [hr] at hdig hhead HV
 rw [hn] at *
 have hby := byte_dig s hdig
 have HB := Lib.hid hby
 have HDIG := Lib.hid hdig
 have hDs : s.size ≤ s.size := Nat.le_refl _
 have hlt0 : decide ((s.size : Int) < (s.size : Int)) = false := by simp
 rw [size_list] at HV
 rw [hr]
 clear h45 h0 hby
 by_cases h48 : (s[0]'hp).toNat = 48
 ·have hs48 : s.data.toList = [48] := by
   have := (hhead (by rw [head_byte hp]; congr 1; apply UInt8.toNat_inj.1; rw [h48]; rfl)).2
   exact this
  have hb1 : (s.toList == [48]) = true := by rw [ByteArray.toList_eq, hs48]; rfl
  have hb2 : (((s[0]'hp).toNat : Int) == 48) = true := by rw [beq_iff_eq]; omega
  clear hs48 h48 hr hn hdig hhead hne hsl
  go_enter Tryz.func18, Tryz.ntmps18
  go_wp2
  go_loop [5] (fun v => ∃ k : Nat, k ≤ s.size ∧ v = .int .i64 k) (fun v => s.size - (intOf v).toNat)
  case atStart => exact ⟨0, Nat.zero_le _, rfl⟩
  case round =>
   obtain ⟨k, hk, rfl⟩ := hrel
   by_cases hlz : k < s.size
   ·have hlt : k < s.size := hlz
    obtain ⟨b1, b2, _⟩ := HB.out k hlt
    have hdq : decide ((((s[k]'hlt).toNat : Nat) : Int) < 48) = false := by rw [decide_eq_false_iff_not]; omega
    go_wp2
    go_round
    case rel => exact ⟨k + 1, by omega, by go_num⟩
    case measure => simp [intOf]; omega
   ·obtain rfl : k = s.size := by omega
    go_wp2
    go_loopw [6, 7] (fun lv ev wr => ∃ (j : Nat) (x : Int), j ≤ (s.size + 3) / 4 ∧ ev = .int .i64 x ∧ Hid (x = (s.size : Int) - 4 * (j : Int)) ∧ Own .i64 3 wr (w.heap.size + 1) lv (chunks s.data.toList j) ∧
     Below (w.heap.size + 1) (w.alloc (.cells #[.bool false, .slice none 0 0] 33)) wr) (fun _ ev _ => (intOf ev + 3).toNat)
    case atStart => exact ⟨0, _, Nat.zero_le _, rfl, by show _ = _; omega, Own.nil _ _ _ _, by have := Below.refl (w.heap.size + 1) (w.alloc (.cells #[.bool false, .slice none 0 0] 33)); exact this⟩
    case round =>
     obtain ⟨j, x, hj, rfl, hx, ho, hbr⟩ := hrel
     have hsr : w.heap.size + 1 ≤ wr.heap.size := by have := hbr.size; simpa using this
     have HO := Lib.hid ho
     clear ho
     by_cases hpos : 0 < x
     ·obtain ⟨e, rfl⟩ : ∃ e : Nat, x = (e : Int) := ⟨x.toNat, by omega⟩
      have hme : e ≤ s.size := by have := hx.out; omega
      go_wp2
      have hsl2 := seg_lt HDIG.out (a := e - 4) (b := e) (by omega)
      go_loop [8, 9] (fun nv iv => ∃ k : Nat, e - 4 ≤ k ∧ k ≤ e ∧ iv = .int .i64 k ∧ nv = .int .i64 (numOf (seg s.data.toList (e - 4) k))) (fun _ iv => e - (intOf iv).toNat)
      case atStart => exact ⟨e - 4, Nat.le_refl _, by omega, by congr 1; omega, by rw [seg_self]; rfl⟩
      case round =>
       obtain ⟨k, hk1, hk2, rfl, rfl⟩ := hrel
       have hsk := seg_lt HDIG.out (a := e - 4) (b := k) (by omega)
       by_cases hke : k < e
       ·have hlz : k < s.size := by omega
        have hlt : k < s.size := hlz
        obtain ⟨b1, b2, b3⟩ := HB.out k hlt
        have hsg := @seg_succ s.data.toList _ _ hk1 (by rw [size_list]; exact hlt)
        rw [← b3] at hsg
        have HSG := Lib.hid hsg
        clear b3 hsg
        generalize hgg : numOf (seg s.data.toList (e - 4) k) = q at *
        have HGG := Lib.hid hgg
        clear hgg
        go_wp2
        go_round
        case rel => exact ⟨k + 1, by omega, by omega, by go_num, by rw [HSG.out]; congr 1; omega⟩
        case measure => simp [intOf]; omega
       ·obtain rfl : k = e := by omega
        clear hsk
        have hlen : (chunks s.data.toList j).length ≤ 100000000 := by rw [chunks_len]; omega
        have HLEN := Lib.hid hlen
        generalize hgg : numOf (seg s.data.toList (k - 4) k) = q at *
        have HGG := Lib.hid hgg
        clear hgg hlen
        go_wp2_with (first
         | (at_builtin; refine wpList_append_num wr rfl (.tmp 77) (.tmp 79) 31 rfl .i64 (w.heap.size + 1) 3 i0 8 Tryz.underlying31 hi hz0 hz1 hz2 (by omega) u6 _ (by rfl) HO.out _ q ?_ 1 rfl HLEN.out ?_ ?_; (rfl); (exact hsr); intro v2 w2 ho2 hb2)
         | fail)
        go_roundw
        case rel =>
         have hxx := hx.out
         have hc : chunks s.data.toList (j + 1) = chunks s.data.toList j ++ [q] := by
          rw [chunks, size_list]
          have e1 : s.size - 4 * j = k := (by omega)
          rw [e1, HGG.out]
         exact ⟨j + 1, _, by omega, rfl, by show _ = _; omega, by rw [hc]; exact ho2.out, hbr.trans hb2⟩
        case measure => simp [intOf]; omega
     ·have hjj : s.size ≤ 4 * j := by have := hx.out; omega
      obtain ⟨A, c, hv, hrow⟩ := HO.out.row
      subst hv
      have hcl := chunks_len s.data.toList j
      have hcv := chunks_val s.data.toList j
      have hclim := chunks_lim HDIG.out j
      rw [size_list] at hcv
      have hz0' : s.size - 4 * j = 0 := (by omega)
      rw [hz0'] at hcv
      have hcv2 : numOf s.data.toList = valB 10000 (chunks s.data.toList j) := by rw [hcv]; simp [numOf]
      clear hcv hz0'
      have hsgn := fun W h => rsigned_any false A c (chunks s.data.toList j) W (by rw [hcl]; omega) h
      have HSGN := Lib.hid hsgn
      have HCL := Lib.hid hcl
      have HCV := Lib.hid hcv2
      clear hsgn hcl hcv2
      go_wp2_with fail
      refine (HSGN.out wr hrow).mono ?_
      rintro e w4 ⟨rfl, hb4⟩
      have hby : Below (w.heap.size + 1) (w.alloc (Obj.cells #[Value.bool false, Value.slice none 0 0] 33)) w4 := hbr.trans (Below.less hb4 hsr)
      have htv := trimN_val 10000 (chunks s.data.toList j) _ (Nat.le_refl _)
      have htt := trimN_top (chunks s.data.toList j) (chunks s.data.toList j).length
      have htl := trimN_le (chunks s.data.toList j) (chunks s.data.toList j).length
      rw [List.take_of_length_le (Nat.le_refl _), ← HCV.out] at htv
      generalize htm : trimN (chunks s.data.toList j) (chunks s.data.toList j).length = m at *
      have hcl' := HCL.out
      have hrow4 : RefR w4 wr.heap.size false A c ((chunks s.data.toList j).take m) := RefR.below ⟨hrow.take m, fun d hd => hclim d (List.mem_of_mem_take hd), fun h => by
       have el : ((chunks s.data.toList j).take m).length = m := by rw [List.length_take]; omega
       rw [el] at h ⊢; rw [nth_take (by omega)]; exact htt h, fun h => absurd h Bool.false_ne_true⟩ hb4
      have el : ((chunks s.data.toList j).take m).length = m := by rw [List.length_take]; omega
      have hy0 := (boxed2 hby).1
      have hy1 := (boxed2 hby).2
      have gy0 := boxedF hby 0
      have gy1 := boxedF hby 1
      have hbw4 : Below w.heap.size w w4 := (below_alloc_new _).trans (Below.less hby (Nat.le_succ _))
      have hw34 := hb4.size
      have HBY := Lib.hid hby
      have HTV := Lib.hid htv
      have HEL := Lib.hid el
      clear hby hb4 htv el htm htt
      go_wp2_with fail
      refine bodyPost_ret (v := .tuple #[.agg #[.bool false, .slice A m c], .int .i64 0]) (by simp [results, Tryz.results18, go_sem, hy0, hy1]) rfl ⟨A, c, (chunks s.data.toList j).take m, by rw [HEL.out], ?_, HTV.out, by rw [HEL.out]; omega, (hbw4.setCell (by simp) _).setCell (by simp) _⟩
      rw [setCell_size, setCell_size]
      exact ⟨(hrow4.row.more hw34).box HBY.out (fun _ => by simp) (fun _ => by simp) _ _, hrow4.lim, hrow4.top, hrow4.sgn⟩
 ·have hb2 : (((s[0]'hp).toNat : Int) == 48) = false := by rw [beq_eq_false_iff_ne]; omega
  clear h48 hr hn hdig hhead hne hsl
  go_enter Tryz.func18, Tryz.ntmps18
  go_wp2
  go_loop [5] (fun v => ∃ k : Nat, k ≤ s.size ∧ v = .int .i64 k) (fun v => s.size - (intOf v).toNat)
  case atStart => exact ⟨0, Nat.zero_le _, rfl⟩
  case round =>
   obtain ⟨k, hk, rfl⟩ := hrel
   by_cases hlz : k < s.size
   ·have hlt : k < s.size := hlz
    obtain ⟨b1, b2, _⟩ := HB.out k hlt
    have hdq : decide ((((s[k]'hlt).toNat : Nat) : Int) < 48) = false := by rw [decide_eq_false_iff_not]; omega
    go_wp2
    go_round
    case rel => exact ⟨k + 1, by omega, by go_num⟩
    case measure => simp [intOf]; omega
   ·obtain rfl : k = s.size := by omega
    go_wp2
    go_loopw [6, 7] (fun lv ev wr => ∃ (j : Nat) (x : Int), j ≤ (s.size + 3) / 4 ∧ ev = .int .i64 x ∧ Hid (x = (s.size : Int) - 4 * (j : Int)) ∧ Own .i64 3 wr (w.heap.size + 1) lv (chunks s.data.toList j) ∧
     Below (w.heap.size + 1) (w.alloc (.cells #[.bool false, .slice none 0 0] 33)) wr) (fun _ ev _ => (intOf ev + 3).toNat)
    case atStart => exact ⟨0, _, Nat.zero_le _, rfl, by show _ = _; omega, Own.nil _ _ _ _, by have := Below.refl (w.heap.size + 1) (w.alloc (.cells #[.bool false, .slice none 0 0] 33)); exact this⟩
    case round =>
     obtain ⟨j, x, hj, rfl, hx, ho, hbr⟩ := hrel
     have hsr : w.heap.size + 1 ≤ wr.heap.size := by have := hbr.size; simpa using this
     have HO := Lib.hid ho
     clear ho
     by_cases hpos : 0 < x
     ·obtain ⟨e, rfl⟩ : ∃ e : Nat, x = (e : Int) := ⟨x.toNat, by omega⟩
      have hme : e ≤ s.size := by have := hx.out; omega
      go_wp2
      have hsl2 := seg_lt HDIG.out (a := e - 4) (b := e) (by omega)
      go_loop [8, 9] (fun nv iv => ∃ k : Nat, e - 4 ≤ k ∧ k ≤ e ∧ iv = .int .i64 k ∧ nv = .int .i64 (numOf (seg s.data.toList (e - 4) k))) (fun _ iv => e - (intOf iv).toNat)
      case atStart => exact ⟨e - 4, Nat.le_refl _, by omega, by congr 1; omega, by rw [seg_self]; rfl⟩
      case round =>
       obtain ⟨k, hk1, hk2, rfl, rfl⟩ := hrel
       have hsk := seg_lt HDIG.out (a := e - 4) (b := k) (by omega)
       by_cases hke : k < e
       ·have hlz : k < s.size := by omega
        have hlt : k < s.size := hlz
        obtain ⟨b1, b2, b3⟩ := HB.out k hlt
        have hsg := @seg_succ s.data.toList _ _ hk1 (by rw [size_list]; exact hlt)
        rw [← b3] at hsg
        have HSG := Lib.hid hsg
        clear b3 hsg
        generalize hgg : numOf (seg s.data.toList (e - 4) k) = q at *
        have HGG := Lib.hid hgg
        clear hgg
        go_wp2
        go_round
        case rel => exact ⟨k + 1, by omega, by omega, by go_num, by rw [HSG.out]; congr 1; omega⟩
        case measure => simp [intOf]; omega
       ·obtain rfl : k = e := by omega
        clear hsk
        have hlen : (chunks s.data.toList j).length ≤ 100000000 := by rw [chunks_len]; omega
        have HLEN := Lib.hid hlen
        generalize hgg : numOf (seg s.data.toList (k - 4) k) = q at *
        have HGG := Lib.hid hgg
        clear hgg hlen
        go_wp2_with (first
         | (at_builtin; refine wpList_append_num wr rfl (.tmp 77) (.tmp 79) 31 rfl .i64 (w.heap.size + 1) 3 i0 8 Tryz.underlying31 hi hz0 hz1 hz2 (by omega) u6 _ (by rfl) HO.out _ q ?_ 1 rfl HLEN.out ?_ ?_; (rfl); (exact hsr); intro v2 w2 ho2 hb2)
         | fail)
        go_roundw
        case rel =>
         have hxx := hx.out
         have hc : chunks s.data.toList (j + 1) = chunks s.data.toList j ++ [q] := by
          rw [chunks, size_list]
          have e1 : s.size - 4 * j = k := (by omega)
          rw [e1, HGG.out]
         exact ⟨j + 1, _, by omega, rfl, by show _ = _; omega, by rw [hc]; exact ho2.out, hbr.trans hb2⟩
        case measure => simp [intOf]; omega
     ·have hjj : s.size ≤ 4 * j := by have := hx.out; omega
      obtain ⟨A, c, hv, hrow⟩ := HO.out.row
      subst hv
      have hcl := chunks_len s.data.toList j
      have hcv := chunks_val s.data.toList j
      have hclim := chunks_lim HDIG.out j
      rw [size_list] at hcv
      have hz0' : s.size - 4 * j = 0 := (by omega)
      rw [hz0'] at hcv
      have hcv2 : numOf s.data.toList = valB 10000 (chunks s.data.toList j) := by rw [hcv]; simp [numOf]
      clear hcv hz0'
      have hsgn := fun W h => rsigned_any false A c (chunks s.data.toList j) W (by rw [hcl]; omega) h
      have HSGN := Lib.hid hsgn
      have HCL := Lib.hid hcl
      have HCV := Lib.hid hcv2
      clear hsgn hcl hcv2
      go_wp2_with fail
      refine (HSGN.out wr hrow).mono ?_
      rintro e w4 ⟨rfl, hb4⟩
      have hby : Below (w.heap.size + 1) (w.alloc (Obj.cells #[Value.bool false, Value.slice none 0 0] 33)) w4 := hbr.trans (Below.less hb4 hsr)
      have htv := trimN_val 10000 (chunks s.data.toList j) _ (Nat.le_refl _)
      have htt := trimN_top (chunks s.data.toList j) (chunks s.data.toList j).length
      have htl := trimN_le (chunks s.data.toList j) (chunks s.data.toList j).length
      rw [List.take_of_length_le (Nat.le_refl _), ← HCV.out] at htv
      generalize htm : trimN (chunks s.data.toList j) (chunks s.data.toList j).length = m at *
      have hcl' := HCL.out
      have hrow4 : RefR w4 wr.heap.size false A c ((chunks s.data.toList j).take m) := RefR.below ⟨hrow.take m, fun d hd => hclim d (List.mem_of_mem_take hd), fun h => by
       have el : ((chunks s.data.toList j).take m).length = m := by rw [List.length_take]; omega
       rw [el] at h ⊢; rw [nth_take (by omega)]; exact htt h, fun h => absurd h Bool.false_ne_true⟩ hb4
      have el : ((chunks s.data.toList j).take m).length = m := by rw [List.length_take]; omega
      have hy0 := (boxed2 hby).1
      have hy1 := (boxed2 hby).2
      have gy0 := boxedF hby 0
      have gy1 := boxedF hby 1
      have hbw4 : Below w.heap.size w w4 := (below_alloc_new _).trans (Below.less hby (Nat.le_succ _))
      have hw34 := hb4.size
      have HBY := Lib.hid hby
      have HTV := Lib.hid htv
      have HEL := Lib.hid el
      clear hby hb4 htv el htm htt
      go_wp2_with fail
      refine bodyPost_ret (v := .tuple #[.agg #[.bool false, .slice A m c], .int .i64 0]) (by simp [results, Tryz.results18, go_sem, hy0, hy1]) rfl ⟨A, c, (chunks s.data.toList j).take m, by rw [HEL.out], ?_, HTV.out, by rw [HEL.out]; omega, (hbw4.setCell (by simp) _).setCell (by simp) _⟩
      rw [setCell_size, setCell_size]
      exact ⟨(hrow4.row.more hw34).box HBY.out (fun _ => by simp) (fun _ => by simp) _ _, hrow4.lim, hrow4.top, hrow4.sgn⟩
set_option maxRecDepth 20000 in
set_option maxHeartbeats 3200000 in
theorem rparse_ok_neg (s : ByteArray) (w : World) (hn : negOf s.data.toList = true) (hr : restOf s.data.toList = (s.extract 1 s.size).data.toList) (h0 : 0 < s.size) (h1 : (s[0]'h0).toNat = 45) (hbad : badNum s.data.toList = false) (hlong : (restOf s.data.toList).length ≤ 2000) :
    Calls Tryz.prog 18 #[.string s] w fun e w' => ∃ A c L, e = .returned (.tuple #[.agg #[.bool (negOf s.data.toList), .slice A L.length c], .int .i64 0]) ∧ RefR w' w'.heap.size (negOf s.data.toList) A c L ∧
      valB 10000 L = numOf (restOf s.data.toList) ∧ L.length ≤ 500 ∧ Below w.heap.size w w' := by
  obtain ⟨i0, hi, hz0, hz1, hz2⟩ := info_parts info3
  obtain ⟨hdig, hne, hhead, hnum⟩ := good_facts hbad
  have HV := hlong
  clear hlong hbad
  obtain ⟨D, hD⟩ : ∃ D, D = s.extract 1 s.size := ⟨_, rfl⟩
  obtain ⟨D, hD⟩ : ∃ D, D = s.extract 1 s.size := ⟨_, rfl⟩
  obtain ⟨D, hD⟩ : ∃ D, D = s.extract 1 s.size := ⟨_, rfl⟩
  obtain ⟨D, hD⟩ : ∃ D, D = s.extract 1 s.size := ⟨_, rfl⟩
  have hes : D.size = s.size - 1 := by
    rw [hD, ← size_list, Lib.extract_to_end, List.length_drop, size_list]
  have hr' : restOf s.data.toList = D.data.toList := by rw [hr, hD]
  have hps : 0 < D.size := by
    have := List.length_pos_iff.2 hne; rw [hr'] at this; simpa using this
  have hq : (((s[0]'h0).toNat : Int) == 45) = true := by rw [beq_iff_eq]; omega
  have hd : decide ((0 : Int) < (s.size : Int)) = true := by rw [decide_eq_true_iff]; omega
  have he : ((D.size : Int) == 0) = false := by rw [beq_eq_false_iff_ne]; omega
  have hb2 : (((D[0]'hps).toNat : Int) == 48) = false := by
    rw [beq_eq_false_iff_ne]
    intro e
    have := (hhead (by rw [hr', head_byte hps]; congr 1; apply UInt8.toNat_inj.1; have : (D[0]'hps).toNat = 48 := by omega
                       rw [this]; rfl)).1
    rw [this] at hn; cases hn
  rw [hr'] at hdig HV hnum
  rw [hn] at *
  have hby := byte_dig D hdig
  have HB := Lib.hid hby
  have HDIG := Lib.hid hdig
  have HES := Lib.hid hes
  rw [size_list] at HV
  have HNUM := Lib.hid (hnum (by first | exact hn | rfl))
  clear hnum
  rw [hr']
  have hlt0 : decide ((D.size : Int) < (s.size : Int)) = true := by rw [decide_eq_true_iff]; omega
  have hlt1 : D.size < s.size := by omega
  have hs1 : 1 ≤ s.size := h0
  have hs2 : s.size ≤ 2001 := by omega
  have HD := Lib.hid hD
  clear h1 hby hr hr' hn hdig hhead hne hes hD
  go_enter Tryz.func18, Tryz.ntmps18
  go_upto_region 3 with fail
  go_cut [4] from 19 to 20 (fun v wx => v = .string D ∧ w.alloc (.cells #[.bool false, .slice none 0 0] 33) = wx)
  case first =>
    go_wp2
    go_meet
    exact ⟨by rw [HD.out], rfl⟩
  case rest =>
  obtain ⟨rfl, rfl⟩ := hcut
  go_wp2
  go_loop [5] (fun v => ∃ k : Nat, k ≤ D.size ∧ v = .int .i64 k) (fun v => D.size - (intOf v).toNat)
  case atStart => exact ⟨0, Nat.zero_le _, rfl⟩
  case round =>
    obtain ⟨k, hk, rfl⟩ := hrel
    by_cases hlz : k < D.size
    · have hlt : k < D.size := hlz
      obtain ⟨b1, b2, _⟩ := HB.out k hlt
      have hdq : decide ((((D[k]'hlt).toNat : Nat) : Int) < 48) = false := by rw [decide_eq_false_iff_not]; omega
      go_wp2
      go_round
      case rel => exact ⟨k + 1, by omega, by go_num⟩
      case measure => simp [intOf]; omega
    · obtain rfl : k = D.size := by omega
      go_wp2
      go_loopw [6, 7] (fun lv ev wr => ∃ (j : Nat) (x : Int), j ≤ (D.size + 3) / 4 ∧ ev = .int .i64 x ∧ Hid (x = (D.size : Int) - 4 * (j : Int)) ∧ Own .i64 3 wr (w.heap.size + 1) lv (chunks D.data.toList j) ∧
        Below (w.heap.size + 1) (w.alloc (.cells #[.bool false, .slice none 0 0] 33)) wr) (fun _ ev _ => (intOf ev + 3).toNat)
      case atStart => exact ⟨0, _, Nat.zero_le _, rfl, by show _ = _; omega, Own.nil _ _ _ _, by have := Below.refl (w.heap.size + 1) (w.alloc (.cells #[.bool false, .slice none 0 0] 33)); exact this⟩
      case round =>
        obtain ⟨j, x, hj, rfl, hx, ho, hbr⟩ := hrel
        have hsr : w.heap.size + 1 ≤ wr.heap.size := by have := hbr.size; simpa using this
        have HO := Lib.hid ho
        clear ho
        by_cases hpos : 0 < x
        · obtain ⟨e, rfl⟩ : ∃ e : Nat, x = (e : Int) := ⟨x.toNat, by omega⟩
          have hme : e ≤ D.size := by have := hx.out; omega
          go_wp2
          have hsl2 := seg_lt HDIG.out (a := e - 4) (b := e) (by omega)
          go_loop [8, 9] (fun nv iv => ∃ k : Nat, e - 4 ≤ k ∧ k ≤ e ∧ iv = .int .i64 k ∧ nv = .int .i64 (numOf (seg D.data.toList (e - 4) k))) (fun _ iv => e - (intOf iv).toNat)
          case atStart => exact ⟨e - 4, Nat.le_refl _, by omega, by congr 1; omega, by rw [seg_self]; rfl⟩
          case round =>
            obtain ⟨k, hk1, hk2, rfl, rfl⟩ := hrel
            have hsk := seg_lt HDIG.out (a := e - 4) (b := k) (by omega)
            by_cases hke : k < e
            · have hlz : k < D.size := by omega
              have hlt : k < D.size := hlz
              obtain ⟨b1, b2, b3⟩ := HB.out k hlt
              have hsg := @seg_succ D.data.toList _ _ hk1 (by rw [size_list]; exact hlt)
              rw [← b3] at hsg
              have HSG := Lib.hid hsg
              clear b3 hsg
              generalize hgg : numOf (seg D.data.toList (e - 4) k) = q at *
              have HGG := Lib.hid hgg
              clear hgg
              go_wp2
              go_round
              case rel => exact ⟨k + 1, by omega, by omega, by go_num, by rw [HSG.out]; congr 1; omega⟩
              case measure => simp [intOf]; omega
            · obtain rfl : k = e := by omega
              clear hsk
              have hlen : (chunks D.data.toList j).length ≤ 100000000 := by rw [chunks_len]; omega
              have HLEN := Lib.hid hlen
              generalize hgg : numOf (seg D.data.toList (k - 4) k) = q at *
              have HGG := Lib.hid hgg
              clear hgg hlen
              go_wp2_with (first
                | (at_builtin; refine wpList_append_num wr rfl (.tmp 77) (.tmp 79) 31 rfl .i64 (w.heap.size + 1) 3 i0 8 Tryz.underlying31 hi hz0 hz1 hz2 (by omega) u6 _ (by rfl) HO.out _ q ?_ 1 rfl HLEN.out ?_ ?_; (rfl); (exact hsr); intro v2 w2 ho2 hb2)
                | fail)
              go_roundw
              case rel =>
                have hxx := hx.out
                have hc : chunks D.data.toList (j + 1) = chunks D.data.toList j ++ [q] := by
                  rw [chunks, size_list]
                  have e1 : D.size - 4 * j = k := (by omega)
                  rw [e1, HGG.out]
                exact ⟨j + 1, _, by omega, rfl, by show _ = _; omega, by rw [hc]; exact ho2.out, hbr.trans hb2⟩
              case measure => simp [intOf]; omega
        · have hjj : D.size ≤ 4 * j := by have := hx.out; omega
          obtain ⟨A, c, hv, hrow⟩ := HO.out.row
          subst hv
          have hcl := chunks_len D.data.toList j
          have hcv := chunks_val D.data.toList j
          have hclim := chunks_lim HDIG.out j
          rw [size_list] at hcv
          have hz0' : D.size - 4 * j = 0 := (by omega)
          rw [hz0'] at hcv
          have hcv2 : numOf D.data.toList = valB 10000 (chunks D.data.toList j) := by rw [hcv]; simp [numOf]
          clear hcv hz0'
          have hsgn := fun W h => rsigned_any true A c (chunks D.data.toList j) W (by rw [hcl]; omega) h
          have HSGN := Lib.hid hsgn
          have HCL := Lib.hid hcl
          have HCV := Lib.hid hcv2
          clear hsgn hcl hcv2
          go_wp2_with fail
          refine (HSGN.out wr hrow).mono ?_
          rintro e w4 ⟨rfl, hb4⟩
          have hby : Below (w.heap.size + 1) (w.alloc (Obj.cells #[Value.bool false, Value.slice none 0 0] 33)) w4 := hbr.trans (Below.less hb4 hsr)
          have htv := trimN_val 10000 (chunks D.data.toList j) _ (Nat.le_refl _)
          have htt := trimN_top (chunks D.data.toList j) (chunks D.data.toList j).length
          have htl := trimN_le (chunks D.data.toList j) (chunks D.data.toList j).length
          rw [List.take_of_length_le (Nat.le_refl _), ← HCV.out] at htv
          generalize htm : trimN (chunks D.data.toList j) (chunks D.data.toList j).length = m at *
          have hcl' := HCL.out
          have hmp : 0 < m := by
            rcases Nat.eq_zero_or_pos m with h | h
            · rw [h] at htv; simp [valB] at htv; have := HNUM.out; omega
            · exact h
          have hrow4 : RefR w4 wr.heap.size true A c ((chunks D.data.toList j).take m) := RefR.below ⟨hrow.take m, fun d hd => hclim d (List.mem_of_mem_take hd), fun h => by
            have el : ((chunks D.data.toList j).take m).length = m := by rw [List.length_take]; omega
            rw [el] at h ⊢; rw [nth_take (by omega)]; exact htt h, fun _ h => by have h9 := congrArg List.length h; rw [List.length_take, Nat.min_eq_left (by omega)] at h9; have h8 : m = 0 := h9; omega⟩ hb4
          have el : ((chunks D.data.toList j).take m).length = m := by rw [List.length_take]; omega
          have hd0 : (true && decide (0 < m)) = true := by simpa using hmp
          rw [hd0]
          clear hd0
          have hy0 := (boxed2 hby).1
          have hy1 := (boxed2 hby).2
          have gy0 := boxedF hby 0
          have gy1 := boxedF hby 1
          have hbw4 : Below w.heap.size w w4 := (below_alloc_new _).trans (Below.less hby (Nat.le_succ _))
          have hw34 := hb4.size
          have HBY := Lib.hid hby
          have HTV := Lib.hid htv
          have HEL := Lib.hid el
          clear hby hb4 htv el htm htt
          go_wp2_with fail
          refine bodyPost_ret (v := .tuple #[.agg #[.bool true, .slice A m c], .int .i64 0]) (by simp [results, Tryz.results18, go_sem, hy0, hy1]) rfl ⟨A, c, (chunks D.data.toList j).take m, by rw [HEL.out], ?_, HTV.out, by rw [HEL.out]; omega, (hbw4.setCell (by simp) _).setCell (by simp) _⟩
          rw [setCell_size, setCell_size]
          exact ⟨(hrow4.row.more hw34).box HBY.out (fun _ => by simp) (fun _ => by simp) _ _, hrow4.lim, hrow4.top, hrow4.sgn⟩
theorem rparse_any (s : ByteArray) (w : World) (hs : s.size ≤ 1000000) :
  Calls Tryz.prog 18 #[.string s] w fun e w' => ∃ k A c L, e = .returned (.tuple #[.agg #[.bool k, .slice A L.length c], .int .i64 (errOf s.data.toList)]) ∧ RefR w' w'.heap.size k A c L ∧ L.length ≤ 500 ∧
   Hid (errOf s.data.toList = 0 → k = negOf s.data.toList ∧ valB 10000 L = numOf (restOf s.data.toList)) ∧ Hid (errOf s.data.toList ≠ 0 → k = false ∧ L = []) ∧ Below w.heap.size w w' := by
 unfold errOf
 by_cases hb : badNum s.data.toList = true
 ·rw [if_pos hb]
  refine (rparse_bad s w hs hb).mono ?_
  rintro e w' ⟨rfl, hbw⟩
  exact ⟨false, none, 0, [], rfl, RefR.zero _ _ _ _, by simp, fun h => absurd h (by decide), fun _ => ⟨rfl, rfl⟩, hbw⟩
 ·rw [if_neg hb]
  rw [Bool.not_eq_true] at hb
  by_cases hl : 2000 < (restOf s.data.toList).length
  ·rw [if_pos hl]
   refine (rparse_long s w hs hb hl).mono ?_
   rintro e w' ⟨rfl, hbw⟩
   exact ⟨false, none, 0, [], rfl, RefR.zero _ _ _ _, by simp, fun h => absurd h (by decide), fun _ => ⟨rfl, rfl⟩, hbw⟩
  ·rw [if_neg hl]
   have hc : Calls Tryz.prog 18 #[.string s] w fun e w' => ∃ A c L, e = .returned (.tuple #[.agg #[.bool (negOf s.data.toList), .slice A L.length c], .int .i64 0]) ∧ RefR w' w'.heap.size (negOf s.data.toList) A c L ∧
     valB 10000 L = numOf (restOf s.data.toList) ∧ L.length ≤ 500 ∧ Below w.heap.size w w' := by
    rcases neg_cases s with ⟨h1, h2, h3⟩ | ⟨h1, h2, h3, h4⟩
    ·exact rparse_ok_plain s w h1 h2 h3 hb (by omega)
    ·exact rparse_ok_neg s w h1 h2 h3 h4 hb (by omega)
   refine hc.mono ?_
   rintro e w' ⟨A, c, L, rfl, hi, hv, hn, hbw⟩
   exact ⟨_, A, c, L, rfl, hi, hn, fun _ => ⟨rfl, hv⟩, fun h => absurd rfl h, hbw⟩
theorem errOf_good {l : List UInt8} (h : errOf l = 0) : badNum l = false := by
 unfold errOf at h
 split at h
 ·cases h
 ·rename_i h1; simpa using h1
theorem text_back {l : List UInt8} (h : errOf l = 0) : decI (negOf l) (numOf (restOf l)) = l := by
 obtain ⟨h1, h2, h3, _⟩ := good_facts (errOf_good h)
 unfold decI
 rw [dec_numOf _ h1 h2 (by
  by_cases hh : (restOf l).head? = some 48
  ·exact .inl (h3 hh).2
  ·exact .inr hh)]
 unfold negOf restOf Lib.trimPrefix
 cases hp : Lib.hasPrefix l [45]
 ·simp
 ·simp only [if_true]
  rcases l with _ | ⟨c, r⟩
  ·simp [Lib.hasPrefix] at hp
  ·simp [Lib.hasPrefix] at hp
   simp [← hp]
theorem up4 {w wk : World} {o : Obj} (h : Below (w.heap.size + 1) (w.alloc o) wk) : Below w.heap.size w wk := (below_alloc_new _).trans (Below.less h (Nat.le_succ _))
theorem below_sz {w wk : World} {o : Obj} (h : Below (w.heap.size + 1) (w.alloc o) wk) : w.heap.size + 1 ≤ wk.heap.size := by have := h.size; simpa using this
theorem ref_pos {w : World} {B : Nat} {n : Bool} {A : Option Addr} {c : Nat} {M : List Nat} (h : RefR w B n A c M) (h0 : 0 < M.length) : valB 10000 M ≠ 0 := by
 have h1 := valB_take_succ 10000 M (M.length - 1) (by omega)
 rw [show M.length - 1 + 1 = M.length by omega, List.take_of_length_le (Nat.le_refl _)] at h1
 have h2 := h.top h0
 have h3 : 10000 ^ (M.length - 1) * 1 ≤ 10000 ^ (M.length - 1) * nth M (M.length - 1) := Nat.mul_le_mul_left _ (by omega)
 have h4 : 0 < 10000 ^ (M.length - 1) := Nat.pow_pos (by omega)
 omega
structure Box (w : World) (b : Nat) (x y : Value) : Prop where
 c0 : w.cell? ⟨b, 0, none⟩ = some x
 c1 : w.cell? ⟨b, 1, none⟩ = some y
 hi : ∀ i, w.cell? ⟨b, i + 2, none⟩ = none
 f0 : w.frozen? ⟨b, 0, none⟩ = false
 f1 : w.frozen? ⟨b, 1, none⟩ = false
def setPair (w : World) (b : Nat) (u v : Value) : World := (w.setCell ⟨b, 0, none⟩ u).setCell ⟨b, 1, none⟩ v
section
variable {w w' : World} {b b' B : Nat} {x y u v : Value}
theorem Box.below (h : Box w b x y) (hb : Below B w w') (hB : b < B) : Box w' b x y :=
 ⟨(hb.cell (by exact hB)).trans h.c0, (hb.cell (by exact hB)).trans h.c1, fun i => (hb.cell (by exact hB)).trans (h.hi i), (hb.frozen (by exact hB)).trans h.f0, (hb.frozen (by exact hB)).trans h.f1⟩
theorem Box.store (h : Box w b x y) (u v : Value) : Box (setPair w b u v) b u v := by
 have n1 : (⟨b, 1, none⟩ : Addr) ≠ ⟨b, 0, none⟩ := by simp
 refine ⟨?_, ?_, fun i => ?_, ?_, ?_⟩
 ·unfold setPair; rw [World.cell?_setCell_other _ _ _ _ n1]; exact World.cell?_setCell_same _ _ _ h.c0
 ·unfold setPair; exact World.cell?_setCell_same _ _ _ (by rw [World.cell?_setCell_other _ _ _ _ n1.symm]; exact h.c1)
 ·unfold setPair; rw [World.cell?_setCell_other _ _ _ _ (by simp), World.cell?_setCell_other _ _ _ _ (by simp)]; exact h.hi i
 ·unfold setPair; simp [h.f0]
 ·unfold setPair; simp [h.f1]
theorem Box.other (h : Box w b x y) (hne : b' ≠ b) (u v : Value) : Box (setPair w b' u v) b x y := by
 have n : ∀ i j : Nat, (⟨b', i, none⟩ : Addr) ≠ ⟨b, j, none⟩ := fun i j e => hne (congrArg Addr.block e)
 refine ⟨?_, ?_, fun i => ?_, ?_, ?_⟩
 ·unfold setPair; rw [World.cell?_setCell_other _ _ _ _ (n _ _), World.cell?_setCell_other _ _ _ _ (n _ _)]; exact h.c0
 ·unfold setPair; rw [World.cell?_setCell_other _ _ _ _ (n _ _), World.cell?_setCell_other _ _ _ _ (n _ _)]; exact h.c1
 ·unfold setPair; rw [World.cell?_setCell_other _ _ _ _ (n _ _), World.cell?_setCell_other _ _ _ _ (n _ _)]; exact h.hi i
 ·unfold setPair; simp [h.f0]
 ·unfold setPair; simp [h.f1]
theorem Box.new (w : World) (x y : Value) (t : TypeId) : Box (w.alloc (.cells #[x, y] t)) w.heap.size x y := by
 have hh := heap_alloc_new w (.cells #[x, y] t)
 refine ⟨?_, ?_, fun i => ?_, ?_, ?_⟩
 ·unfold World.cell?; dsimp only; rw [hh]; rfl
 ·unfold World.cell?; dsimp only; rw [hh]; rfl
 ·unfold World.cell?; dsimp only; rw [hh]; simp
 ·unfold World.frozen?; dsimp only; rw [hh]; simp
 ·unfold World.frozen?; dsimp only; rw [hh]; simp
theorem Box.row {k : IntKind} {A : Option Addr} {c : Nat} {L : List Nat} (hbx : Box w b x y) (h : Row k w B A c L) (hx : ∀ n, x ≠ .int k n) (hy : ∀ n, y ≠ .int k n) (u v : Value) : Row k (setPair w b u v) B A c L := by
 refine ⟨h.len, fun hp => ?_⟩
 obtain ⟨b', o, e, hbB, hc⟩ := h.spot hp
 have hne : b ≠ b' := by
  rintro rfl
  have h0 := hc 0 hp
  match o, h0 with
  | 0, h0 => rw [hbx.c0] at h0; exact hx _ (Option.some.inj h0)
  | 1, h0 => rw [hbx.c1] at h0; exact hy _ (Option.some.inj h0)
  | o + 2, h0 => rw [Nat.add_zero, hbx.hi o] at h0; cases h0
 refine ⟨b', o, e, hbB, hc.keep fun j => ?_⟩
 unfold setPair
 rw [World.cell?_setCell_other _ _ _ _ (fun e => hne (congrArg Addr.block e)), World.cell?_setCell_other _ _ _ _ (fun e => hne (congrArg Addr.block e))]
theorem setPair_size (w : World) (b : Nat) (u v : Value) : (setPair w b u v).heap.size = w.heap.size := by unfold setPair; rw [setCell_size, setCell_size]
theorem below_setPair {a : World} (h : Below B a w) (hB : B ≤ b) (u v : Value) : Below B a (setPair w b u v) := (h.setCell (by exact hB) _).setCell (by exact hB) _
end
theorem four_boxes (w : World) (x0 y0 x1 y1 x2 y2 x3 y3 : Value) (t0 t1 t2 t3 : TypeId) :
  let W := (((w.alloc (.cells #[x0, y0] t0)).alloc (.cells #[x1, y1] t1)).alloc (.cells #[x2, y2] t2)).alloc (.cells #[x3, y3] t3)
  Box W w.heap.size x0 y0 ∧ Box W (w.heap.size + 1) x1 y1 ∧ Box W (w.heap.size + 1 + 1) x2 y2 ∧ Box W (w.heap.size + 1 + 1 + 1) x3 y3 ∧ W.heap.size = w.heap.size + 4 ∧ Below w.heap.size w W := by
 intro W
 have s1 : (w.alloc (.cells #[x0, y0] t0)).heap.size = w.heap.size + 1 := by simp
 have s2 : ((w.alloc (.cells #[x0, y0] t0)).alloc (.cells #[x1, y1] t1)).heap.size = w.heap.size + 1 + 1 := by simp
 have s3 : (((w.alloc (.cells #[x0, y0] t0)).alloc (.cells #[x1, y1] t1)).alloc (.cells #[x2, y2] t2)).heap.size = w.heap.size + 1 + 1 + 1 := by simp
 have b0 := Box.new w x0 y0 t0
 have b1 := Box.new (w.alloc (.cells #[x0, y0] t0)) x1 y1 t1
 have b2 := Box.new ((w.alloc (.cells #[x0, y0] t0)).alloc (.cells #[x1, y1] t1)) x2 y2 t2
 have b3 := Box.new (((w.alloc (.cells #[x0, y0] t0)).alloc (.cells #[x1, y1] t1)).alloc (.cells #[x2, y2] t2)) x3 y3 t3
 have a1 := below_alloc_new (w := w.alloc (.cells #[x0, y0] t0)) (.cells #[x1, y1] t1)
 have a2 := below_alloc_new (w := (w.alloc (.cells #[x0, y0] t0)).alloc (.cells #[x1, y1] t1)) (.cells #[x2, y2] t2)
 have a3 := below_alloc_new (w := ((w.alloc (.cells #[x0, y0] t0)).alloc (.cells #[x1, y1] t1)).alloc (.cells #[x2, y2] t2)) (.cells #[x3, y3] t3)
 rw [s1] at b1 a1
 rw [s2] at b2 a2
 rw [s3] at b3 a3
 refine ⟨((b0.below a1 (by omega)).below a2 (by omega)).below a3 (by omega), (b1.below a2 (by omega)).below a3 (by omega), b2.below a3 (by omega), b3, by simp [W], ?_⟩
 exact (below_a3 w _ _ _).trans (Below.less a3 (by omega))
open Go.RowKit
structure St (w W : World) (x0 y0 x1 y1 x2 y2 x3 y3 : Value) : Prop where
 b0 : Box W w.heap.size x0 y0
 b1 : Box W (w.heap.size + 1) x1 y1
 b2 : Box W (w.heap.size + 1 + 1) x2 y2
 b3 : Box W (w.heap.size + 1 + 1 + 1) x3 y3
 bw : Below w.heap.size w W
 sz : w.heap.size + 4 ≤ W.heap.size
section
variable {w W W' : World} {x0 y0 x1 y1 x2 y2 x3 y3 : Value}
theorem St.call (h : St w W x0 y0 x1 y1 x2 y2 x3 y3) (hb : Below W.heap.size W W') : St w W' x0 y0 x1 y1 x2 y2 x3 y3 :=
 ⟨h.b0.below hb (by have := h.sz; omega), h.b1.below hb (by have := h.sz; omega), h.b2.below hb (by have := h.sz; omega), h.b3.below hb (by have := h.sz; omega), h.bw.trans (Below.less hb h.bw.size), Nat.le_trans h.sz hb.size⟩
theorem St.s2 (h : St w W x0 y0 x1 y1 x2 y2 x3 y3) (u v : Value) : St w (setPair W (w.heap.size + 1 + 1) u v) x0 y0 x1 y1 u v x3 y3 :=
 ⟨h.b0.other (by omega) u v, h.b1.other (by omega) u v, h.b2.store u v, h.b3.other (by omega) u v, below_setPair h.bw (by omega) u v, by rw [setPair_size]; exact h.sz⟩
theorem St.s3 (h : St w W x0 y0 x1 y1 x2 y2 x3 y3) (u v : Value) : St w (setPair W (w.heap.size + 1 + 1 + 1) u v) x0 y0 x1 y1 x2 y2 u v :=
 ⟨h.b0.other (by omega) u v, h.b1.other (by omega) u v, h.b2.other (by omega) u v, h.b3.store u v, below_setPair h.bw (by omega) u v, by rw [setPair_size]; exact h.sz⟩
end
theorem IntR.pair {w : World} {b B : Nat} {z : Bool} {a : Option Addr} {n cc : Nat} (hb : Box w b (.bool z) (.slice a n cc)) {k : Bool} {A : Option Addr} {c : Nat} {L : List Nat} (h : IntR w B k A c L) (u v : Value) : IntR (setPair w b u v) B k A c L :=
 ⟨hb.row h.row (fun _ => by simp) (fun _ => by simp) u v, h.canon, h.sgn⟩
theorem RefR.pair {w : World} {b B : Nat} {z : Bool} {a : Option Addr} {n cc : Nat} (hb : Box w b (.bool z) (.slice a n cc)) {k : Bool} {A : Option Addr} {c : Nat} {L : List Nat} (h : RefR w B k A c L) (u v : Value) : RefR (setPair w b u v) B k A c L :=
 ⟨hb.row h.row (fun _ => by simp) (fun _ => by simp) u v, h.lim, h.top, h.sgn⟩
section
variable {w W : World} {z0 z1 z2 z3 : Bool} {a0 a1 a2 a3 : Option Addr} {n0 n1 n2 n3 m0 m1 m2 m3 : Nat}
end
def Lim4 (L : List Nat) : Prop := ∀ d ∈ L, d < 10000
theorem Lim4.nth {L : List Nat} (h : Lim4 L) (k : Nat) : nth L k < 10000 := nth_all h (by omega) k
theorem Lim4.set {L : List Nat} (h : Lim4 L) (i : Nat) {x : Nat} (hx : x < 10000) : Lim4 (L.set i x) := fun d hd => by
 rcases List.mem_or_eq_of_mem_set hd with h1 | h1
 ·exact h d h1
 ·omega
theorem Lim4.take {L : List Nat} (h : Lim4 L) (n : Nat) : Lim4 (L.take n) := fun d hd => h d (List.mem_of_mem_take hd)
def mulRow4 (x o : Nat) (B M : List Nat) : Nat → List Nat × Nat
 | 0 => (M, 0)
 | j + 1 => ((mulRow4 x o B M j).1.set (o + j) ((nth (mulRow4 x o B M j).1 (o + j) + x * nth B j + (mulRow4 x o B M j).2) % 10000),
   (nth (mulRow4 x o B M j).1 (o + j) + x * nth B j + (mulRow4 x o B M j).2) / 10000)
theorem mulRow_succ4 (x o : Nat) (B M : List Nat) (j : Nat) : mulRow4 x o B M (j + 1) =
  ((mulRow4 x o B M j).1.set (o + j) ((nth (mulRow4 x o B M j).1 (o + j) + x * nth B j + (mulRow4 x o B M j).2) % 10000),
   (nth (mulRow4 x o B M j).1 (o + j) + x * nth B j + (mulRow4 x o B M j).2) / 10000) := rfl
theorem mul_lt_lim4 {x y : Nat} (hx : x < 10000) (hy : y < 10000) : x * y ≤ 99980001 := by
 have : x * y ≤ 9999 * 9999 := Nat.mul_le_mul (by omega) (by omega)
 omega
theorem mul_lt_limI4 {x y : Nat} (hx : x < 10000) (hy : y < 10000) : (x : Int) * (y : Int) ≤ 99980001 := by
 have h := mul_lt_lim4 hx hy
 have e : ((x * y : Nat) : Int) = (x : Int) * (y : Int) := by simp
 omega
theorem mul_nonnegI4 (x y : Nat) : 0 ≤ (x : Int) * (y : Int) := by
 have e : ((x * y : Nat) : Int) = (x : Int) * (y : Int) := by simp
 omega
theorem mulRow_ok4 {x o : Nat} {B M : List Nat} (hx : x < 10000) (hB : Lim4 B) (hM : Lim4 M) (j : Nat) :
  Lim4 (mulRow4 x o B M j).1 ∧ (mulRow4 x o B M j).2 < 10000 ∧ (mulRow4 x o B M j).1.length = M.length := by
 induction j with
 | zero => exact ⟨hM, by simp [mulRow4], rfl⟩
 | succ j ih =>
  obtain ⟨h1, h2, h3⟩ := ih
  have a := h1.nth (o + j)
  have b := mul_lt_lim4 hx (hB.nth j)
  rw [mulRow_succ4]
  exact ⟨h1.set _ (Nat.mod_lt _ (by omega)), by show _ / _ < _; omega, by simp [h3]⟩
def mulSt4 (A B M : List Nat) : Nat → List Nat
 | 0 => M
 | i + 1 => (mulRow4 (nth A i) i B (mulSt4 A B M i) B.length).1.set (i + B.length) (mulRow4 (nth A i) i B (mulSt4 A B M i) B.length).2
theorem mulSt_succ4 (A B M : List Nat) (i : Nat) : mulSt4 A B M (i + 1) =
  (mulRow4 (nth A i) i B (mulSt4 A B M i) B.length).1.set (i + B.length) (mulRow4 (nth A i) i B (mulSt4 A B M i) B.length).2 := rfl
theorem mulSt_ok4 {A B M : List Nat} (hA : Lim4 A) (hB : Lim4 B) (hM : Lim4 M) (i : Nat) : Lim4 (mulSt4 A B M i) ∧ (mulSt4 A B M i).length = M.length := by
 induction i with
 | zero => exact ⟨hM, rfl⟩
 | succ i ih =>
  obtain ⟨a, b, c⟩ := mulRow_ok4 (o := i) (hA.nth i) hB ih.1 B.length
  rw [mulSt_succ4]
  exact ⟨a.set _ b, by simp [c, ih.2]⟩
theorem mulRow_val4 {x o : Nat} {B M : List Nat} (ho : o + B.length ≤ M.length) (j : Nat) (hj : j ≤ B.length) (hM : Lim4 M) (hB : Lim4 B) (hx : x < 10000) :
  valB 10000 (mulRow4 x o B M j).1 + 10000 ^ (o + j) * (mulRow4 x o B M j).2 = valB 10000 M + 10000 ^ o * (x * valB 10000 (B.take j)) := by
 induction j with
 | zero => simp [mulRow4, valB]
 | succ j ih =>
  replace ih := ih (by omega)
  have hl := (mulRow_ok4 (o := o) hx hB hM j).2.2
  rw [mulRow_succ4, valB_take_succ _ _ _ (by omega)]
  have hs := valB_set 10000 (mulRow4 x o B M j).1 (o + j) ((nth (mulRow4 x o B M j).1 (o + j) + x * nth B j + (mulRow4 x o B M j).2) % 10000) (by omega)
  generalize mulRow4 x o B M j = q at *
  obtain ⟨Q, y⟩ := q
  dsimp only at *
  have ht := Nat.div_add_mod (nth Q (o + j) + x * nth B j + y) 10000
  generalize (nth Q (o + j) + x * nth B j + y) % 10000 = r at *
  generalize (nth Q (o + j) + x * nth B j + y) / 10000 = c at *
  generalize valB 10000 (Q.set (o + j) r) = V at *
  generalize valB 10000 Q = VQ at *
  generalize valB 10000 M = VM at *
  generalize valB 10000 (B.take j) = VB at *
  generalize nth B j = bj at *
  generalize nth Q (o + j) = qj at *
  rw [← Nat.add_assoc, Nat.pow_succ]
  have e : (10000 : Nat) ^ (o + j) = 10000 ^ o * 10000 ^ j := Nat.pow_add _ _ _
  rw [e] at hs ih ⊢
  generalize (10000 : Nat) ^ o = po at *
  generalize (10000 : Nat) ^ j = pj at *
  have h1 : po * pj * (10000 * c + r) = po * pj * (qj + x * bj + y) := by rw [ht]
  clear ht e hl hj ho hx hB hM
  grind
theorem mulRow_high4 {x o : Nat} {B M : List Nat} (j k : Nat) (hk : o + j ≤ k) : nth (mulRow4 x o B M j).1 k = nth M k := by
 induction j with
 | zero => rfl
 | succ j ih => rw [mulRow_succ4]; rw [nth_set_ne (by omega)]; exact ih (by omega)
theorem mulSt_val4 {A B M : List Nat} (hA : Lim4 A) (hB : Lim4 B) (hM : Lim4 M) (hz : ∀ k, nth M k = 0) (hl : M.length = A.length + B.length) (h0 : valB 10000 M = 0) (i : Nat) (hi : i ≤ A.length) :
  valB 10000 (mulSt4 A B M i) = valB 10000 (A.take i) * valB 10000 B ∧ (∀ k, i + B.length ≤ k → nth (mulSt4 A B M i) k = 0) := by
 induction i with
 | zero => exact ⟨by simp [mulSt4, valB, h0], fun k _ => hz k⟩
 | succ i ih =>
  obtain ⟨ih1, ih2⟩ := ih (by omega)
  have hok := mulSt_ok4 hA hB hM i
  have hr := mulRow_val4 (x := nth A i) (o := i) (B := B) (M := mulSt4 A B M i) (by rw [hok.2]; omega) B.length (Nat.le_refl _) hok.1 hB (hA.nth i)
  have hro := mulRow_ok4 (x := nth A i) (o := i) (hA.nth i) hB hok.1 B.length
  have hh := mulRow_high4 (x := nth A i) (o := i) (B := B) (M := mulSt4 A B M i) B.length (i + B.length) (Nat.le_refl _)
  have hh2 := fun k hk => mulRow_high4 (x := nth A i) (o := i) (B := B) (M := mulSt4 A B M i) B.length k hk
  rw [ih2 _ (Nat.le_refl _)] at hh
  rw [mulSt_succ4, valB_take_succ _ _ _ (by omega)]
  have hs := valB_set 10000 (mulRow4 (nth A i) i B (mulSt4 A B M i) B.length).1 (i + B.length) (mulRow4 (nth A i) i B (mulSt4 A B M i) B.length).2 (by rw [hro.2.2, hok.2]; omega)
  refine ⟨?_, fun k hk => ?_⟩
  ·rw [hh] at hs
   rw [List.take_of_length_le (Nat.le_refl _)] at hr
   generalize valB 10000 ((mulRow4 (nth A i) i B (mulSt4 A B M i) B.length).1.set (i + B.length) (mulRow4 (nth A i) i B (mulSt4 A B M i) B.length).2) = V at *
   generalize valB 10000 (mulRow4 (nth A i) i B (mulSt4 A B M i) B.length).1 = V1 at *
   generalize 10000 ^ (i + B.length) * (mulRow4 (nth A i) i B (mulSt4 A B M i) B.length).2 = V2 at *
   rw [Nat.mul_zero, Nat.add_zero] at hs
   rw [hs, hr, ih1, Nat.add_mul, Nat.mul_assoc]
  ·rw [nth_set_ne (by omega), hh2 k (by omega)]
   exact ih2 k (by omega)
theorem mul_val4 {A B : List Nat} (hA : Lim4 A) (hB : Lim4 B) : valB 10000 (mulSt4 A B (List.replicate (A.length + B.length) 0) A.length) = valB 10000 A * valB 10000 B := by
 have := (mulSt_val4 (M := List.replicate (A.length + B.length) 0) hA hB (fun d hd => by have := (List.mem_replicate.1 hd).2; omega) (nth_zeros _) (by simp) (valB_zeros _ _) A.length (Nat.le_refl _)).1
 rwa [List.take_of_length_le (Nat.le_refl _)] at this
open Go.RowKit
set_option maxHeartbeats 1600000 in
theorem rmul_walk (A A' : Option Addr) (c c' : Nat) (L M : List Nat) (w : World) (hl : L.length ≤ 1000000) (hml : M.length ≤ 1000000)
  (hL : Lim4 L) (hM : Lim4 M) (hR : Row .i64 w w.heap.size A c L) (hR' : Row .i64 w w.heap.size A' c' M) :
  Calls Tryz.prog 88 #[.slice A L.length c, .slice A' M.length c'] w fun e w' =>
   e = .returned (.slice (some ⟨w.heap.size, 0, none⟩) (trimN (mulSt4 L M (List.replicate (L.length + M.length) 0) L.length) (L.length + M.length)) (L.length + M.length)) ∧
    Blk .i64 3 w' w.heap.size (mulSt4 L M (List.replicate (L.length + M.length) 0) L.length) ∧ Below w.heap.size w w' := by
 obtain ⟨i0, hi, hz0, hz1, hz2⟩ := info_parts info3
 have hZ : Lim4 (List.replicate (L.length + M.length) 0) := fun d hd => by have := (List.mem_replicate.1 hd).2; omega
 have hZl : (List.replicate (L.length + M.length) 0).length = L.length + M.length := by simp
 generalize hz : List.replicate (L.length + M.length) 0 = Z at *
 generalize hl' : L.length = l at *
 generalize hm' : M.length = m at *
 have HL := Lib.hid hl'
 have HM := Lib.hid hm'
 have HZ := Lib.hid hz
 have HZL := Lib.hid hZl
 clear hl' hm' hz hZl
 go_enter Tryz.func88, Tryz.ntmps88
 go_wp2_with (first
  | (refine wpList_make_zeros _ rfl (.tmp 14) (.tmp 14) 31 rfl 3 .i64 i0 8 Tryz.underlying31 hi hz0 hz1 hz2 .i64 .i64 _ _ (l + m) rfl rfl (by omega) (by omega) (by omega) (by omega) ?_; intro w1 hb1 hB1 hs1)
  | fail)
 have hb1' := hb1.out
 rw [HZ.out] at hb1'
 have hg := hb1'.lt
 clear hs1 hb1
 go_loopw [6] (fun iv wr => ∃ i : Nat, i ≤ l ∧ iv = .int .i64 i ∧ Blk .i64 3 wr w.heap.size (mulSt4 L M Z i) ∧ w1.grownBy wr (some w.heap.size)) (fun iv _ => l - (intOf iv).toNat)
 case atStart => exact ⟨0, Nat.zero_le _, rfl, hb1', grown_refl _ _⟩
 case round =>
  obtain ⟨i, hk, rfl, hb, hgr⟩ := hrel
  obtain ⟨h1, h2⟩ := mulSt_ok4 hL hM hZ i
  have HS := Lib.hid (mulSt_succ4 L M Z i)
  have h3 : (mulSt4 L M Z i).length = l + m := by rw [h2, HZL.out]
  clear h2
  generalize hs : mulSt4 L M Z i = S at *
  have HK := Lib.hid hs
  have H3 := Lib.hid h3
  clear hs h3
  by_cases hlt : i < l
  ·obtain ⟨b, o, rfl, hbg, hcell⟩ := hR.spot (by rw [HL.out]; omega)
   have hx := hL.nth i
   have hcell2 := hcell.below hB1 hbg
   generalize hxx : nth L i = x at *
   have HX := Lib.hid hxx
   clear hcell hxx
   go_wp2
   have hbS := hb
   go_loopw [7, 8] (fun cv jv wq => ∃ j : Nat, j ≤ m ∧ jv = .int .i64 j ∧ cv = .int .i64 (mulRow4 x i M S j).2 ∧ Blk .i64 3 wq w.heap.size (mulRow4 x i M S j).1 ∧ w1.grownBy wq (some w.heap.size)) (fun _ jv _ => m - (intOf jv).toNat)
   case atStart => exact ⟨0, Nat.zero_le _, rfl, rfl, hbS, hgr⟩
   case round =>
    obtain ⟨j, hj, rfl, rfl, hbq, hgq⟩ := hrel
    obtain ⟨g1, g2, g3⟩ := mulRow_ok4 (o := i) hx hM h1 j
    have HS' := Lib.hid (mulRow_succ4 x i M S j)
    generalize hq : mulRow4 x i M S j = q at *
    have HQ := Lib.hid hq
    clear hq
    obtain ⟨Q, y⟩ := q
    dsimp only at *
    rw [H3.out] at g3
    have G3 := Lib.hid g3
    clear g3
    by_cases hjt : j < m
    ·obtain ⟨b', o', rfl, hbg', hcell'⟩ := hR'.spot (by rw [HM.out]; omega)
     have hcy := ((hcell'.below hB1 hbg').grown hgq (by omega) (by intro e; injection e; omega)) j (by rw [HM.out]; exact hjt)
     have hcx := (hcell2.grown hgq (by omega) (by intro e; injection e; omega)) i (by rw [HL.out]; exact hlt)
     rw [HX.out] at hcx
     have hc := hbq.cell (i + j) (by rw [G3.out]; omega)
     have hfr := hbq.frozen (i + j)
     have b1 := g1.nth (i + j)
     have b2 := hM.nth j
     have b4 := mul_lt_limI4 hx b2
     have b5 := mul_nonnegI4 x (nth M j)
     clear hcell' hcell2
     go_wp2
     go_quiet (fail)
     go_wp2
     go_roundw
     case rel =>
      have E := HS'.out
      have e1 := (hbq.drewN nq).setI (i + j) (v := ((nth Q (i + j) : Int) + (x : Int) * (nth M j : Int) + (y : Int)) % 10000) (x := (nth Q (i + j) + x * nth M j + y) % 10000) (by simp)
      exact ⟨j + 1, by omega, by go_num, by rw [E]; simp, by rw [E]; exact e1, grown_set (grown_drewN hgq _) _ _⟩
     case measure => simp [intOf]; omega
    ·obtain rfl : j = m := by omega
     have hc := hbq.cell (i + j) (by rw [G3.out]; omega)
     have hfr := hbq.frozen (i + j)
     go_wp2
     go_roundw
     case rel =>
      have E := HS.out
      rw [HM.out, HQ.out] at E
      exact ⟨i + 1, by omega, by go_num, by rw [E]; exact hbq.set_ _ _, grown_set hgq _ _⟩
     case measure => simp [intOf]; omega
  ·obtain rfl : i = l := by omega
   have hT := rtrim_any (some ⟨w.heap.size, 0, none⟩) (i + m) S wr wr.heap.size (by rw [H3.out]; omega) (Row.ofBlk hb hb.lt (by rw [H3.out]; exact Nat.le_refl _))
   rw [H3.out] at hT
   have hB : Below w.heap.size w wr := grown_below hB1 hgr (Nat.le_refl _) hB1.size
   have hb9 := Lib.hid hb
   have HT := Lib.hid hT
   clear hT hb
   go_wp2_with fail
   refine HT.out.mono ?_
   rintro e w4 ⟨rfl, rfl⟩
   go_wp2_with fail
   go_ret
   have hk' := HK.out
   rw [hk']
   exact ⟨rfl, hb9.out, hB⟩
abbrev val4 (L : List Nat) : Nat := valB 10000 L
def zR (neg : Bool) (L : List Nat) : Int := if neg then -(val4 L : Int) else (val4 L : Int)
theorem trim_pack4 {w : World} {g B c : Nat} {R : List Nat} (hb : Blk .i64 3 w g R) (hR : ∀ d ∈ R, d < 10000) (hg : g < B) (hc : R.length ≤ c) :
  ∃ L, L.length = trimN R R.length ∧ Row .i64 w B (some ⟨g, 0, none⟩) c L ∧ (∀ d ∈ L, d < 10000) ∧ (0 < L.length → nth L (L.length - 1) ≠ 0) ∧ val4 L = val4 R := by
 have htl := trimN_le R R.length
 have el : (R.take (trimN R R.length)).length = trimN R R.length := by rw [List.length_take]; omega
 refine ⟨R.take (trimN R R.length), el, (Row.ofBlk hb hg hc).take _, fun d hd => hR d (List.mem_of_mem_take hd), ?_, ?_⟩
 ·rw [el]; intro h; rw [nth_take (by omega)]; exact trimN_top _ _ h
 ·rw [val4, trimN_val _ _ _ (Nat.le_refl _), List.take_of_length_le (Nat.le_refl _)]
theorem trimN_same {L : List Nat} (h : 0 < L.length → nth L (L.length - 1) ≠ 0) : trimN L L.length = L.length := by
 rcases hl : L.length with _ | n
 ·rfl
 ·rw [trimN, if_neg]
  have := h (by omega)
  rw [hl] at this
  exact this
theorem rmul2 (A A' : Option Addr) (c c' : Nat) (L M : List Nat) (w : World) (hl : L.length ≤ 500000) (hml : M.length ≤ 500000)
  (hL : ∀ d ∈ L, d < 10000) (hM : ∀ d ∈ M, d < 10000) (hR : Row .i64 w w.heap.size A c L) (hR' : Row .i64 w w.heap.size A' c' M) :
  Calls Tryz.prog 88 #[.slice A L.length c, .slice A' M.length c'] w fun e w' => ∃ g c R, e = .returned (.slice (some ⟨g, 0, none⟩) R.length c) ∧
   Row .i64 w' w'.heap.size (some ⟨g, 0, none⟩) c R ∧ (∀ d ∈ R, d < 10000) ∧ (0 < R.length → nth R (R.length - 1) ≠ 0) ∧ val4 R = val4 L * val4 M ∧ R.length ≤ L.length + M.length ∧ Below w.heap.size w w' ∧ w.heap.size ≤ g := by
 refine (rmul_walk A A' c c' L M w (by omega) (by omega) hL hM hR hR').mono ?_
 rintro e w' ⟨rfl, hb, hbw⟩
 have hz : Lim4 (List.replicate (L.length + M.length) 0) := fun d hd => by have := (List.mem_replicate.1 hd).2; omega
 have hok := mulSt_ok4 hL hM hz L.length
 have hv := mul_val4 hL hM
 have hlen : (mulSt4 L M (List.replicate (L.length + M.length) 0) L.length).length = L.length + M.length := by rw [hok.2]; simp
 obtain ⟨R, h1, h2, h3, h3', h4⟩ := trim_pack4 (c := L.length + M.length) hb hok.1 hb.lt (by omega)
 rw [hlen] at h1
 have htl := trimN_le (mulSt4 L M (List.replicate (L.length + M.length) 0) L.length) (L.length + M.length)
 exact ⟨_, _, R, by rw [h1], h2, h3, h3', by rw [h4]; exact hv, by omega, hbw, Nat.le_refl _⟩
theorem zR_mul (n m : Bool) {L M R : List Nat} (h : val4 R = val4 L * val4 M) (h0 : R.length = 0 → val4 R = 0) : zR ((n != m) && decide (0 < R.length)) R = zR n L * zR m M := by
 have hc : ((val4 R : Nat) : Int) = (val4 L : Int) * (val4 M : Int) := by rw [h]; simp
 unfold zR
 generalize (val4 L : Int) = x at *
 generalize (val4 M : Int) = y at *
 rcases Nat.eq_zero_or_pos R.length with h1 | h1
 ·have h2 := h0 h1
  rw [h2] at hc ⊢
  have e : (decide (0 < R.length)) = false := by rw [decide_eq_false_iff_not]; omega
  rw [e, Bool.and_false]
  cases n <;> cases m <;> simp <;> grind
 ·have e : (decide (0 < R.length)) = true := by rw [decide_eq_true_iff]; omega
  rw [e, Bool.and_true, hc]
  cases n <;> cases m <;> simp <;> grind
theorem val4_nil {L : List Nat} (h : L.length = 0) : val4 L = 0 := by rw [List.eq_nil_of_length_eq_zero h]; rfl
theorem rsigned_trim (neg : Bool) (A : Option Addr) (c : Nat) (L : List Nat) (w : World) {n : Nat} (hl : L.length ≤ n) (ht : 0 < L.length → nth L (L.length - 1) ≠ 0) (hR : Row .i64 w w.heap.size A c L) (hn : n ≤ 4000000 := by omega) :
  Calls Tryz.prog 43 #[.bool neg, .slice A L.length c] w fun e w' => e = .returned (.agg #[.bool (neg && decide (0 < L.length)), .slice A L.length c]) ∧ Below w.heap.size w w' := by
 have := rsigned_any neg A c L w (by omega) hR
 rwa [trimN_same ht] at this
set_option maxRecDepth 20000 in
set_option maxHeartbeats 3200000 in
theorem rmulI_any (n m : Bool) (A A' : Option Addr) (c c' : Nat) (L M : List Nat) (w : World) (hl : L.length ≤ 500000) (hml : M.length ≤ 500000)
  (hL : RefR w w.heap.size n A c L) (hM : RefR w w.heap.size m A' c' M) :
  Calls Tryz.prog 70 #[.agg #[.bool n, .slice A L.length c], .agg #[.bool m, .slice A' M.length c']] w fun e w' => ∃ k A c R, e = .returned (.agg #[.bool k, .slice A R.length c]) ∧
   RefR w' w'.heap.size k A c R ∧ zR k R = zR n L * zR m M ∧ R.length ≤ L.length + M.length ∧ Below w.heap.size w w' := by
 have hM2 := fun W h1 h2 => rmul2 A A' c c' L M W hl hml hL.lim hM.lim h1 h2
 have HM2 := Lib.hid hM2
 clear hM2
 generalize hl' : L.length = l at *
 generalize hm' : M.length = l2 at *
 have HLL := Lib.hid hl'
 have HML := Lib.hid hm'
 clear hl' hm'
 go_enter Tryz.func70, Tryz.ntmps70
 go_wp2
 have hne1 : ¬ w.heap.size = w.heap.size + 1 + 1 := by omega
 have hne2 : ¬ w.heap.size + 1 + 1 = w.heap.size := by omega
 go_region_held3 (fun w' => w'.cell? ⟨w.heap.size, 0, none⟩ = some (.bool n) ∧ w'.cell? ⟨w.heap.size, 1, none⟩ = some (.slice A l c) ∧
   w'.cell? ⟨w.heap.size + 1, 0, none⟩ = some (.bool m) ∧ w'.cell? ⟨w.heap.size + 1, 1, none⟩ = some (.slice A' l2 c')) (go_keep)
  (first
   | (go_at_call 88; refine (HM2.out _ (hL.row.up (below_drew (below_a3 _ _ _ _))) (hM.row.up (below_drew (below_a3 _ _ _ _)))).mono ?_; rintro e w1 ⟨g, c1, R, rfl, hr1, hlim1, htop1, hv1, hl1, hb1, _⟩; have HB1 := Lib.hid (three (below_undrew hb1)).2.2.2.2.2.2.2.2.2; have X := three (below_undrew hb1); have hq1 := X.1; have hq2 := X.2.1; have hq3 := X.2.2.1; have hq4 := X.2.2.2.1; have hq5 := X.2.2.2.2.1; have hq6 := X.2.2.2.2.2.1; have hq7 := X.2.2.2.2.2.2.1; have hq8 := X.2.2.2.2.2.2.2.1; have hq9 := X.2.2.2.2.2.2.2.2.1; clear X hb1)
   | (go_at_call 43; refine (rsigned_trim _ _ _ R _ hl1 htop1 hr1).mono ?_; rintro e w2 ⟨rfl, hb2⟩; have HB2 := Lib.hid (below_then HB1.out hb2 hq9); have HR2 := Lib.hid (hr1.below hb2); have hs2 := hb2.size; clear hq1 hq2 hq3 hq4 hq5 hq6 hq7 hq8 hr1 hb2; have X := three' HB2.out; have hq1 := X.1; have hq2 := X.2.1; have hq3 := X.2.2.1; have hq4 := X.2.2.2.1; have hq5 := X.2.2.2.2.1; have hq6 := X.2.2.2.2.2.1; have hq7 := X.2.2.2.2.2.2.1; have hq8 := X.2.2.2.2.2.2.2.1; clear X))
 all_goals
  go_wp2
  have hbw : Below w.heap.size w w2 := (below_a3 w _ _ _).trans (Below.less HB2.out (by omega))
  refine bodyPost_ret (v := .agg #[.bool (!(n == m) && decide (0 < R.length)), .slice (some ⟨g, 0, none⟩) R.length c1]) (by simp [results, Tryz.results70, go_sem, hq5, hq6]) rfl
   ⟨_, _, _, R, rfl, ?_, zR_mul n m hv1 val4_nil, hl1, (hbw.setCell (by simp; omega) _).setCell (by simp; omega) _⟩
  rw [setCell_size, setCell_size]
  refine ⟨(HR2.out.more hs2).box3 HB2.out (fun _ => by simp) (fun _ => by simp) _ _, hlim1, htop1, fun hk hR => ?_⟩
  rw [hR] at hk
  simp at hk
def textZ (l : List UInt8) : Int := if negOf l then -(numOf (restOf l) : Int) else (numOf (restOf l) : Int)
theorem textZ_I {l : List UInt8} {k : Bool} {L : List Nat} (h1 : k = negOf l) (h2 : val9 L = numOf (restOf l)) : zI k L = textZ l := by unfold zI textZ; rw [h1, h2]
theorem textZ_R {l : List UInt8} {k : Bool} {L : List Nat} (h1 : k = negOf l) (h2 : valB 10000 L = numOf (restOf l)) : zR k L = textZ l := by unfold zR textZ val4; rw [h1, h2]
def raSt (A B : List Nat) : Nat → List Nat × Nat
 | 0 => ([], 0)
 | k + 1 => ((raSt A B k).1 ++ [((raSt A B k).2 + nth A k + nth B k) % 10000], ((raSt A B k).2 + nth A k + nth B k) / 10000)
theorem raSt_succ (A B : List Nat) (k : Nat) : raSt A B (k + 1) = ((raSt A B k).1 ++ [((raSt A B k).2 + nth A k + nth B k) % 10000], ((raSt A B k).2 + nth A k + nth B k) / 10000) := rfl
theorem raSt_ok {A B : List Nat} (hA : Lim4 A) (hB : Lim4 B) (k : Nat) : Lim4 (raSt A B k).1 ∧ (raSt A B k).2 ≤ 1 ∧ (raSt A B k).1.length = k := by
 induction k with
 | zero => exact ⟨fun _ h => absurd h (List.not_mem_nil), by simp [raSt], rfl⟩
 | succ k ih =>
  obtain ⟨h1, h2, h3⟩ := ih
  have a := hA.nth k
  have b := hB.nth k
  rw [raSt_succ]
  refine ⟨fun d hd => ?_, by show _ / _ ≤ _; omega, by simp [h3]⟩
  rcases List.mem_append.1 hd with h | h
  ·exact h1 d h
  ·rw [List.mem_singleton] at h; subst h; exact Nat.mod_lt _ (by omega)
theorem take_val (b : Nat) (B : List Nat) (k : Nat) : valB b (B.take (k + 1)) = valB b (B.take k) + b ^ k * nth B k := by
 rcases Nat.lt_or_ge k B.length with h | h
 ·exact valB_take_succ _ _ _ h
 ·rw [valB_take_over _ _ _ h, valB_take_over _ _ _ (by omega), nth_ge h]; simp
theorem raSt_val {A B : List Nat} (hA : Lim4 A) (hB : Lim4 B) (k : Nat) : valB 10000 (raSt A B k).1 + 10000 ^ k * (raSt A B k).2 = valB 10000 (A.take k) + valB 10000 (B.take k) := by
 induction k with
 | zero => simp [raSt, valB]
 | succ k ih =>
  have hl := (raSt_ok hA hB k).2.2
  rw [raSt_succ, take_val, take_val]
  dsimp only
  rw [valB_append, hl]
  generalize raSt A B k = q at *
  obtain ⟨Q, y⟩ := q
  dsimp only at *
  have ht := Nat.div_add_mod (y + nth A k + nth B k) 10000
  generalize (y + nth A k + nth B k) % 10000 = r at *
  generalize (y + nth A k + nth B k) / 10000 = c at *
  simp only [valB, Nat.mul_zero, Nat.add_zero]
  rw [Nat.pow_succ]
  generalize (10000 : Nat) ^ k = p at *
  have h1 : p * (10000 * c + r) = p * (y + nth A k + nth B k) := by rw [ht]
  clear ht hl hA hB
  grind
def rsSt (A B : List Nat) : Nat → List Nat × Nat
 | 0 => ([], 0)
 | k + 1 => if nth A k < (rsSt A B k).2 + nth B k
   then ((rsSt A B k).1 ++ [nth A k + 10000 - ((rsSt A B k).2 + nth B k)], 1)
   else ((rsSt A B k).1 ++ [nth A k - ((rsSt A B k).2 + nth B k)], 0)
theorem rsSt_succ (A B : List Nat) (k : Nat) : rsSt A B (k + 1) = if nth A k < (rsSt A B k).2 + nth B k
      then ((rsSt A B k).1 ++ [nth A k + 10000 - ((rsSt A B k).2 + nth B k)], 1)
      else ((rsSt A B k).1 ++ [nth A k - ((rsSt A B k).2 + nth B k)], 0) := rfl
theorem rsSt_ok {A B : List Nat} (hA : Lim4 A) (hB : Lim4 B) (k : Nat) : Lim4 (rsSt A B k).1 ∧ (rsSt A B k).2 ≤ 1 ∧ (rsSt A B k).1.length = k := by
 induction k with
 | zero => exact ⟨fun _ h => absurd h (List.not_mem_nil), by simp [rsSt], rfl⟩
 | succ k ih =>
  obtain ⟨h1, h2, h3⟩ := ih
  have a := hA.nth k
  have b := hB.nth k
  rw [rsSt_succ]
  split
  ·refine ⟨fun d hd => ?_, by simp, by simp [h3]⟩
   rcases List.mem_append.1 hd with h | h
   ·exact h1 d h
   ·rw [List.mem_singleton] at h; omega
  ·refine ⟨fun d hd => ?_, by simp, by simp [h3]⟩
   rcases List.mem_append.1 hd with h | h
   ·exact h1 d h
   ·rw [List.mem_singleton] at h; omega
theorem rsSt_val {A B : List Nat} (hA : Lim4 A) (hB : Lim4 B) (k : Nat) : valB 10000 (rsSt A B k).1 + valB 10000 (B.take k) = valB 10000 (A.take k) + 10000 ^ k * (rsSt A B k).2 := by
 induction k with
 | zero => simp [rsSt, valB]
 | succ k ih =>
  obtain ⟨h1, h2, hl⟩ := rsSt_ok hA hB k
  have b := hB.nth k
  rw [rsSt_succ, take_val, take_val]
  generalize rsSt A B k = q at *
  obtain ⟨Q, y⟩ := q
  dsimp only at *
  rw [Nat.pow_succ]
  split
  ·rename_i hlt
   dsimp only
   rw [valB_append, hl]
   simp only [valB, Nat.mul_zero, Nat.add_zero]
   obtain ⟨v, hv⟩ : ∃ v, nth A k + 10000 - (y + nth B k) = v := ⟨_, rfl⟩
   have hv2 : v + (y + nth B k) = nth A k + 10000 := by omega
   rw [hv]
   generalize (10000 : Nat) ^ k = p at *
   have h3 : p * (v + (y + nth B k)) = p * (nth A k + 10000) := by rw [hv2]
   clear hv hv2 hl h1 h2 hA hB b hlt
   grind
  ·rename_i hge
   dsimp only
   rw [valB_append, hl]
   simp only [valB, Nat.mul_zero, Nat.add_zero]
   obtain ⟨v, hv⟩ : ∃ v, nth A k - (y + nth B k) = v := ⟨_, rfl⟩
   have hv2 : v + (y + nth B k) = nth A k := by omega
   rw [hv]
   generalize (10000 : Nat) ^ k = p at *
   have h3 : p * (v + (y + nth B k)) = p * nth A k := by rw [hv2]
   clear hv hv2 hl h1 h2 hA hB b hge
   grind
set_option maxRecDepth 20000 in
set_option maxHeartbeats 1600000 in
theorem radd_walk (A A' : Option Addr) (c c' : Nat) (L M : List Nat) (w : World) (hl : L.length ≤ 1000000) (hml : M.length ≤ 1000000)
  (hL : Lim4 L) (hM : Lim4 M) (hR : Row .i64 w w.heap.size A c L) (hR' : Row .i64 w w.heap.size A' c' M) :
  Calls Tryz.prog 90 #[.slice A L.length c, .slice A' M.length c'] w fun e w' => ∃ v k, e = .returned v ∧ L.length ≤ k ∧ M.length ≤ k ∧ k ≤ L.length + M.length + 1 ∧ (raSt L M k).2 = 0 ∧ Own .i64 3 w' w.heap.size v (raSt L M k).1 ∧ Below w.heap.size w w' := by
 obtain ⟨i0, hi, hz0, hz1, hz2⟩ := info_parts info3
 obtain ⟨mx, hx1, hx2, hx3⟩ : ∃ mx, L.length ≤ mx ∧ M.length ≤ mx ∧ (mx = L.length ∨ mx = M.length) := ⟨max L.length M.length, by omega, by omega, by omega⟩
 have hx4 : mx ≤ 1000000 := by omega
 have HX3 := Lib.hid hx3
 clear hx3
 generalize hl' : L.length = l at *
 generalize hm' : M.length = m at *
 have HL := Lib.hid hl'
 have HM := Lib.hid hm'
 clear hl' hm'
 go_enter Tryz.func90, Tryz.ntmps90
 go_wp2
 go_loopw [5, 6, 7] (fun ov cv iv wr => ∃ k : Nat, k ≤ mx + 1 ∧ iv = .int .i64 k ∧ cv = .int .i64 (raSt L M k).2 ∧ Own .i64 3 wr w.heap.size ov (raSt L M k).1 ∧ Below w.heap.size w wr ∧ Hid (mx < k → (raSt L M k).2 = 0)) (fun _ _ iv _ => mx + 1 - (intOf iv).toNat)
 case atStart => exact ⟨0, Nat.zero_le _, rfl, rfl, Own.nil _ _ _ _, Below.refl _ _, fun _ => rfl⟩
 case round =>
  obtain ⟨k, hk, rfl, rfl, ho, hbw, hc0⟩ := hrel
  obtain ⟨h1, h2, h3⟩ := raSt_ok hL hM k
  have HS := Lib.hid (raSt_succ L M k)
  have hsz := hbw.size
  have a1 := hL.nth k
  have a2 := hM.nth k
  generalize hs : raSt L M k = S at *
  have HK := Lib.hid hs
  clear hs
  obtain ⟨Q, y⟩ := S
  dsimp only at *
  have HO := Lib.hid ho
  have H3 := Lib.hid h3
  have hql : Q.length ≤ 100000000 := by omega
  have HQL := Lib.hid hql
  clear ho h3 hql
  have step : ∀ (v2 : Value) (w2 : World) (d y' : Nat), k < mx + 1 → d = (y + nth L k + nth M k) % 10000 → y' = (y + nth L k + nth M k) / 10000 → (mx ≤ k → nth L k = 0 ∧ nth M k = 0) → Own .i64 3 w2 w.heap.size v2 (Q ++ [d]) → Below w.heap.size wr w2 →
    (k + 1 ≤ mx + 1 ∧ y' = (raSt L M (k + 1)).2 ∧ Own .i64 3 w2 w.heap.size v2 (raSt L M (k + 1)).1 ∧ Below w.heap.size w w2 ∧ Hid (mx < k + 1 → (raSt L M (k + 1)).2 = 0)) := by
   intro v2 w2 d y' hk1 hd hy hzz hown hb2
   have E := HS.out
   subst hd
   subst hy
   refine ⟨by omega, by rw [E], by rw [E]; exact hown, hbw.trans hb2, fun hmk => ?_⟩
   obtain ⟨z1, z2⟩ := hzz (by omega)
   rw [E]
   dsimp only
   rw [z1, z2]
   omega
  have HST := Lib.hid step
  clear step
  have zL : ¬ k < l → nth L k = 0 := fun h => nth_ge (by rw [HL.out]; omega)
  have zM : ¬ k < m → nth M k = 0 := fun h => nth_ge (by rw [HM.out]; omega)
  have ZL := Lib.hid zL
  have ZM := Lib.hid zM
  clear zL zM
  by_cases hkl : k < l
  ·obtain ⟨b, o, rfl, hb, hcell⟩ := hR.spot (by rw [HL.out]; omega)
   have hc1 := (hcell.below hbw hb) k (by rw [HL.out]; exact hkl)
   clear hcell
   by_cases hkm : k < m
   ·obtain ⟨b', o', rfl, hb', hcell'⟩ := hR'.spot (by rw [HM.out]; omega)
    have hc2 := (hcell'.below hbw hb') k (by rw [HM.out]; exact hkm)
    clear hcell'
    go_wp2_with (at_builtin; refine wpList_append_num wr rfl (.tmp 46) (.tmp 49) 31 rfl .i64 w.heap.size 3 i0 8 Tryz.underlying31 hi hz0 hz1 hz2 (by omega) u5 _ (by rfl) HO.out _ ((y + nth L k + nth M k) % 10000) ?_ 1 rfl HQL.out ?_ ?_; (simp); (exact hsz); intro v2 w2 ho2 hb2)
    go_roundw
    case rel =>
     obtain ⟨r1, r2, r3, r4, r5⟩ := HST.out v2 w2 _ _ (by omega) rfl rfl (fun h => absurd h (by omega)) ho2.out hb2
     exact ⟨k + 1, r1, by go_num, by rw [← r2]; simp, r3, r4, r5⟩
    case measure => simp [intOf]; omega
   ·go_wp2_with (at_builtin; refine wpList_append_num wr rfl (.tmp 46) (.tmp 49) 31 rfl .i64 w.heap.size 3 i0 8 Tryz.underlying31 hi hz0 hz1 hz2 (by omega) u5 _ (by rfl) HO.out _ ((y + nth L k) % 10000) ?_ 1 rfl HQL.out ?_ ?_; (simp); (exact hsz); intro v2 w2 ho2 hb2)
    go_roundw
    case rel =>
     obtain ⟨r1, r2, r3, r4, r5⟩ := HST.out v2 w2 _ ((y + nth L k) / 10000) (by omega) (by rw [ZM.out hkm]; rfl) (by rw [ZM.out hkm]; rfl) (fun h => absurd h (by omega)) ho2.out hb2
     exact ⟨k + 1, r1, by go_num, by rw [← r2]; simp, r3, r4, r5⟩
    case measure => simp [intOf]; omega
  ·by_cases hkm : k < m
   ·obtain ⟨b', o', rfl, hb', hcell'⟩ := hR'.spot (by rw [HM.out]; omega)
    have hc2 := (hcell'.below hbw hb') k (by rw [HM.out]; exact hkm)
    clear hcell'
    go_wp2_with (at_builtin; refine wpList_append_num wr rfl (.tmp 46) (.tmp 49) 31 rfl .i64 w.heap.size 3 i0 8 Tryz.underlying31 hi hz0 hz1 hz2 (by omega) u5 _ (by rfl) HO.out _ ((y + nth M k) % 10000) ?_ 1 rfl HQL.out ?_ ?_; (simp); (exact hsz); intro v2 w2 ho2 hb2)
    go_roundw
    case rel =>
     obtain ⟨r1, r2, r3, r4, r5⟩ := HST.out v2 w2 _ ((y + nth M k) / 10000) (by omega) (by rw [ZL.out hkl, Nat.add_zero]) (by rw [ZL.out hkl, Nat.add_zero]) (fun h => absurd h (by omega)) ho2.out hb2
     exact ⟨k + 1, r1, by go_num, by rw [← r2]; simp, r3, r4, r5⟩
    case measure => simp [intOf]; omega
   ·rcases Nat.eq_zero_or_pos y with rfl | hy
    ·have hd0 : decide ((0 : Int) < ((0 : Nat) : Int)) = false := by simp
     go_wp2
     go_ret
     have hkk := HK.out
     refine ⟨_, rfl, k, by omega, by omega, ?_, by rw [hkk], by rw [hkk]; exact HO.out, hbw⟩
     rcases HX3.out with h | h <;> omega
    ·have hkx : k < mx + 1 := by
      rcases Nat.lt_or_ge mx k with h | h
      ·have := hc0.out h; omega
      ·omega
     have hy2 : (0 : Int) < (y : Int) := by omega
     go_wp2_with (at_builtin; refine wpList_append_num wr rfl (.tmp 46) (.tmp 49) 31 rfl .i64 w.heap.size 3 i0 8 Tryz.underlying31 hi hz0 hz1 hz2 (by omega) u5 _ (by rfl) HO.out _ (y % 10000) ?_ 1 rfl HQL.out ?_ ?_; (simp); (exact hsz); intro v2 w2 ho2 hb2)
     go_roundw
     case rel =>
      obtain ⟨r1, r2, r3, r4, r5⟩ := HST.out v2 w2 _ (y / 10000) hkx (by rw [ZL.out hkl, ZM.out hkm]; rfl) (by rw [ZL.out hkl, ZM.out hkm]; rfl) (fun _ => ⟨ZL.out hkl, ZM.out hkm⟩) ho2.out hb2
      exact ⟨k + 1, r1, by go_num, by rw [← r2]; simp, r3, r4, r5⟩
     case measure => simp [intOf]; omega
set_option maxRecDepth 20000 in
set_option maxHeartbeats 1600000 in
theorem rsub_walk (A A' : Option Addr) (c c' : Nat) (L M : List Nat) (w : World) (hl : L.length ≤ 1000000) (hml : M.length ≤ L.length)
  (hL : Lim4 L) (hM : Lim4 M) (hR : Row .i64 w w.heap.size A c L) (hR' : Row .i64 w w.heap.size A' c' M) :
  Calls Tryz.prog 89 #[.slice A L.length c, .slice A' M.length c'] w fun e w' => ∃ A2 c2, e = .returned (.slice A2 (trimN (rsSt L M L.length).1 L.length) c2) ∧ Row .i64 w' w'.heap.size A2 c2 (rsSt L M L.length).1 ∧ Below w.heap.size w w' := by
 obtain ⟨i0, hi, hz0, hz1, hz2⟩ := info_parts info3
 generalize hl' : L.length = l at *
 generalize hm' : M.length = m at *
 have HL := Lib.hid hl'
 have HM := Lib.hid hm'
 clear hl' hm'
 go_enter Tryz.func89, Tryz.ntmps89
 go_wp2
 go_loopw [5, 6, 7] (fun ov cv iv wr => ∃ k : Nat, k ≤ l ∧ iv = .int .i64 k ∧ cv = .int .i64 (rsSt L M k).2 ∧ Own .i64 3 wr w.heap.size ov (rsSt L M k).1 ∧ Below w.heap.size w wr) (fun _ _ iv _ => l - (intOf iv).toNat)
 case atStart => exact ⟨0, Nat.zero_le _, rfl, rfl, Own.nil _ _ _ _, Below.refl _ _⟩
 case round =>
  obtain ⟨k, hk, rfl, rfl, ho, hbw⟩ := hrel
  obtain ⟨h1, h2, h3⟩ := rsSt_ok hL hM k
  have HS := Lib.hid (rsSt_succ L M k)
  have hsz := hbw.size
  have a1 := hL.nth k
  have a2 := hM.nth k
  generalize hs : rsSt L M k = S at *
  have HK := Lib.hid hs
  clear hs
  obtain ⟨Q, y⟩ := S
  dsimp only at *
  have HO := Lib.hid ho
  have H3 := Lib.hid h3
  have hql : Q.length ≤ 100000000 := by omega
  have HQL := Lib.hid hql
  clear ho h3 hql
  have zM : ¬ k < m → nth M k = 0 := fun h => nth_ge (by rw [HM.out]; omega)
  have ZM := Lib.hid zM
  clear zM
  by_cases hkl : k < l
  ·obtain ⟨b, o, rfl, hb, hcell⟩ := hR.spot (by rw [HL.out]; omega)
   have hc1 := (hcell.below hbw hb) k (by rw [HL.out]; exact hkl)
   clear hcell
   by_cases hkm : k < m
   ·obtain ⟨b', o', rfl, hb', hcell'⟩ := hR'.spot (by rw [HM.out]; omega)
    have hc2 := (hcell'.below hbw hb') k (by rw [HM.out]; exact hkm)
    clear hcell'
    by_cases hbo : nth L k < y + nth M k
    ·go_wp2_with (at_builtin; refine wpList_append_num wr rfl (.tmp 35) (.tmp 37) 31 rfl .i64 w.heap.size 3 i0 8 Tryz.underlying31 hi hz0 hz1 hz2 (by omega) u5 _ (by rfl) HO.out _ (nth L k + 10000 - (y + nth M k)) ?_ 1 rfl HQL.out ?_ ?_; (omega); (exact hsz); intro v2 w2 ho2 hb2)
     go_roundw
     case rel =>
      have E := HS.out
      rw [if_pos hbo] at E
      exact ⟨k + 1, by omega, by go_num, by rw [E]; rfl, by rw [E]; exact ho2.out, hbw.trans hb2⟩
     case measure => simp [intOf]; omega
    ·go_wp2_with (at_builtin; refine wpList_append_num wr rfl (.tmp 35) (.tmp 37) 31 rfl .i64 w.heap.size 3 i0 8 Tryz.underlying31 hi hz0 hz1 hz2 (by omega) u5 _ (by rfl) HO.out _ (nth L k - (y + nth M k)) ?_ 1 rfl HQL.out ?_ ?_; (omega); (exact hsz); intro v2 w2 ho2 hb2)
     go_roundw
     case rel =>
      have E := HS.out
      rw [if_neg hbo] at E
      exact ⟨k + 1, by omega, by go_num, by rw [E]; rfl, by rw [E]; exact ho2.out, hbw.trans hb2⟩
     case measure => simp [intOf]; omega
   ·by_cases hbo : nth L k < y
    ·go_wp2_with (at_builtin; refine wpList_append_num wr rfl (.tmp 35) (.tmp 37) 31 rfl .i64 w.heap.size 3 i0 8 Tryz.underlying31 hi hz0 hz1 hz2 (by omega) u5 _ (by rfl) HO.out _ (nth L k + 10000 - y) ?_ 1 rfl HQL.out ?_ ?_; (omega); (exact hsz); intro v2 w2 ho2 hb2)
     go_roundw
     case rel =>
      have E := HS.out
      simp only [ZM.out hkm, Nat.add_zero] at E
      rw [if_pos hbo] at E
      exact ⟨k + 1, by omega, by go_num, by rw [E]; rfl, by rw [E]; exact ho2.out, hbw.trans hb2⟩
     case measure => simp [intOf]; omega
    ·go_wp2_with (at_builtin; refine wpList_append_num wr rfl (.tmp 35) (.tmp 37) 31 rfl .i64 w.heap.size 3 i0 8 Tryz.underlying31 hi hz0 hz1 hz2 (by omega) u5 _ (by rfl) HO.out _ (nth L k - y) ?_ 1 rfl HQL.out ?_ ?_; (omega); (exact hsz); intro v2 w2 ho2 hb2)
     go_roundw
     case rel =>
      have E := HS.out
      simp only [ZM.out hkm, Nat.add_zero] at E
      rw [if_neg hbo] at E
      exact ⟨k + 1, by omega, by go_num, by rw [E]; rfl, by rw [E]; exact ho2.out, hbw.trans hb2⟩
     case measure => simp [intOf]; omega
  ·obtain rfl : k = l := by omega
   obtain ⟨A2, c2, hv, hrow⟩ := HO.out.row
   subst hv
   have hT := rtrim_any A2 c2 Q wr wr.heap.size (by have := HQL.out; rw [H3.out]; omega) hrow
   rw [H3.out] at hT
   have HT := Lib.hid hT
   have HRW := Lib.hid hrow
   clear hT hrow
   have e3 := H3.out
   rw [e3]
   clear e3
   go_wp2_with fail
   refine HT.out.mono ?_
   rintro e w4 ⟨rfl, rfl⟩
   go_wp2_with fail
   go_ret
   have hkk := HK.out
   rw [hkk]
   exact ⟨_, _, rfl, HRW.out, hbw⟩
set_option maxRecDepth 20000 in
set_option maxHeartbeats 1600000 in
theorem rcompare_any (A A' : Option Addr) (c c' : Nat) (L M : List Nat) (w : World) (hl : L.length ≤ 1000000) (hm : M.length ≤ 1000000)
  (hR : Row .i64 w w.heap.size A c L) (hR' : Row .i64 w w.heap.size A' c' M) :
  Calls Tryz.prog 87 #[.slice A L.length c, .slice A' M.length c'] w fun e w' => e = .returned (.int .i64 (cmpL L M)) ∧ ∃ n, w' = w.drewN n := by
 generalize hn : L.length = n at *
 generalize hn' : M.length = n' at *
 have HN := Lib.hid hn
 have HN' := Lib.hid hn'
 clear hn hn'
 by_cases hne : n = n'
 ·subst hne
  have hdec : ((n : Int) != (n : Int)) = false := by simp
  go_enter Tryz.func87, Tryz.ntmps87
  go_wp2
  go_loopw [5] (fun v wr => ∃ k : Nat, k ≤ n ∧ v = .int .i64 ((k : Int) - 1) ∧ Hid (∃ d, wr = w.drewN d) ∧ Hid (cmpDown L M k = cmpDown L M n)) (fun v _ => (intOf v + 1).toNat)
  case atStart => exact ⟨n, Nat.le_refl _, rfl, ⟨0, rfl⟩, rfl⟩
  case round =>
   obtain ⟨k, hk, rfl, hw, ht⟩ := hrel
   obtain ⟨d, rfl⟩ := hw.out
   rcases Nat.eq_zero_or_pos k with rfl | hpos
   ·have hd : decide ((0 : Int) ≤ ((0 : Nat) : Int) - 1) = false := by simp
    go_wp2
    go_ret
    exact ⟨by rw [cmpL, HN.out, HN'.out, if_pos rfl, ← ht.out]; rfl, d, rfl⟩
   ·obtain ⟨m, rfl⟩ : ∃ m, k = m + 1 := ⟨k - 1, by omega⟩
    have h1 : ((0 : Int) ≤ ((m + 1 : Nat) : Int) - 1) := by omega
    obtain ⟨b, o, rfl, _, hcell⟩ := hR.spot (by rw [HN.out]; omega)
    obtain ⟨b', o', rfl, _, hcell'⟩ := hR'.spot (by rw [HN'.out]; omega)
    have hc1 := hcell m (by rw [HN.out]; omega)
    have hc2 := hcell' m (by rw [HN'.out]; omega)
    have e1 : ((m + 1 : Nat) : Int) - 1 = (m : Int) := by omega
    rw [e1]
    clear e1 h1 hcell hcell'
    rcases Nat.lt_trichotomy (nth L m) (nth M m) with hz | hz | hz
    ·have HZ := Lib.hid hz
     go_wp2
     go_quiet (fail)
     go_wp2
     go_ret
     have hzz := HZ.out
     exact ⟨ret_int (by rw [cmpL, HN.out, HN'.out, if_pos rfl, ← ht.out, cmpDown, if_neg (by omega)]; unfold cmpZ; rw [if_pos hzz]), _, World.drewN_drewN _ _ _⟩
    ·have hz1 : ¬ nth L m < nth M m := by omega
     have hz2 : ¬ nth M m < nth L m := by omega
     have HZ := Lib.hid hz
     clear hz
     go_wp2
     go_quiet (fail)
     go_wp2
     go_quiet (fail)
     go_wp2
     go_roundw
     case rel => exact ⟨m, by omega, rfl, ⟨_, rfl⟩, by have := ht.out; rw [cmpDown, if_pos HZ.out] at this; exact this⟩
     case measure => simp [intOf]
    ·have hz1 : ¬ nth L m < nth M m := by omega
     have HZ := Lib.hid hz
     go_wp2
     go_quiet (fail)
     go_wp2
     go_quiet (fail)
     go_wp2
     go_ret
     have hzz := HZ.out
     exact ⟨ret_int (by rw [cmpL, HN.out, HN'.out, if_pos rfl, ← ht.out, cmpDown, if_neg (by omega)]; unfold cmpZ; rw [if_neg (by omega), if_neg (by omega)]), _, drew3 _ _ _ _⟩
 ·rcases Nat.lt_or_gt_of_ne hne with hlt | hlt
  ·have hdec : ((n : Int) != (n' : Int)) = true := by simp; omega
   go_enter Tryz.func87, Tryz.ntmps87
   go_wp2
   go_ret
   exact ⟨ret_int (by rw [cmpL, HN.out, HN'.out, if_neg hne]; unfold cmpZ; rw [if_pos hlt]), 0, rfl⟩
  ·have hdec : ((n : Int) != (n' : Int)) = true := by simp; omega
   have hlt2 : ¬ n < n' := by omega
   go_enter Tryz.func87, Tryz.ntmps87
   go_wp2
   go_ret
   exact ⟨ret_int (by rw [cmpL, HN.out, HN'.out, if_neg hne]; unfold cmpZ; rw [if_neg hlt2, if_neg hne]), 0, rfl⟩
theorem canon_lt4 {L M : List Nat} (hL : Lim4 L) (h0 : 0 < M.length → nth M (M.length - 1) ≠ 0) (h : L.length < M.length) : val4 L < val4 M := by
 have h1 := valB_lt hL
 have h2 : (10000 : Nat) ^ L.length ≤ 10000 ^ (M.length - 1) := Nat.pow_le_pow_right (by omega) (by omega)
 have h3 := valB_take_succ 10000 M (M.length - 1) (by omega)
 rw [show M.length - 1 + 1 = M.length by omega, List.take_of_length_le (Nat.le_refl _)] at h3
 have h4 := h0 (by omega)
 have h5 : 10000 ^ (M.length - 1) * 1 ≤ 10000 ^ (M.length - 1) * nth M (M.length - 1) := Nat.mul_le_mul_left _ (by omega)
 unfold val4
 omega
theorem cmpDown_val4 {L M : List Nat} (hL : Lim4 L) (hM : Lim4 M) (n : Nat) (h1 : n ≤ L.length) (h2 : n ≤ M.length) : cmpDown L M n = cmpZ (val4 (L.take n)) (val4 (M.take n)) := by
 induction n with
 | zero => simp [cmpDown, cmpZ, valB]
 | succ n ih =>
  have e1 := valB_take_succ 10000 L n (by omega)
  have e2 := valB_take_succ 10000 M n (by omega)
  have b1 := valB_lt (hL.take n)
  have b2 := valB_lt (hM.take n)
  rw [List.length_take, Nat.min_eq_left (by omega)] at b1 b2
  unfold cmpDown val4
  rw [e1, e2]
  split
  ·rename_i h
   rw [ih (by omega) (by omega), h]
   unfold cmpZ val4
   simp
  ·rename_i h
   generalize valB 10000 (L.take n) = x at *
   generalize valB 10000 (M.take n) = y at *
   generalize (10000 : Nat) ^ n = p at *
   unfold cmpZ
   rcases Nat.lt_or_gt_of_ne h with h | h
   ·rw [if_pos h]
    have : p * (nth L n + 1) ≤ p * nth M n := Nat.mul_le_mul_left _ h
    rw [Nat.mul_add] at this
    rw [if_pos (by omega)]
   ·rw [if_neg (by omega), if_neg (by omega)]
    have : p * (nth M n + 1) ≤ p * nth L n := Nat.mul_le_mul_left _ h
    rw [Nat.mul_add] at this
    rw [if_neg (by omega), if_neg (by omega)]
theorem cmpL_val4 {w w' : World} {B B' : Nat} {n m : Bool} {A A' : Option Addr} {c c' : Nat} {L M : List Nat} (hL : RefR w B n A c L) (hM : RefR w' B' m A' c' M) : cmpL L M = cmpZ (val4 L) (val4 M) := by
 unfold cmpL
 split
 ·rename_i h
  rw [cmpDown_val4 hL.lim hM.lim _ (Nat.le_refl _) (by omega), List.take_of_length_le (Nat.le_refl _), List.take_of_length_le (by omega)]
 ·rename_i h
  rcases Nat.lt_or_gt_of_ne h with h | h
  ·have := canon_lt4 hL.lim hM.top h
   unfold cmpZ; rw [if_pos h, if_pos this]
  ·have := canon_lt4 hM.lim hL.top h
   unfold cmpZ; rw [if_neg (by omega), if_neg (by omega), if_neg (by omega), if_neg (by omega)]
theorem ref_len {w w' : World} {B B' : Nat} {n m : Bool} {A A' : Option Addr} {c c' : Nat} {L M : List Nat} (hL : RefR w B n A c L) (hM : RefR w' B' m A' c' M) (h : val4 M ≤ val4 L) : M.length ≤ L.length := by
 rcases Nat.lt_or_ge L.length M.length with hlt | hge
 ·have := canon_lt4 hL.lim hM.top hlt; omega
 ·exact hge
set_option maxHeartbeats 3200000
set_option maxRecDepth 20000
theorem radd2 (A A' : Option Addr) (c c' : Nat) (L M : List Nat) (w : World) (hl : L.length ≤ 500000) (hml : M.length ≤ 500000)
  (hL : Lim4 L) (hM : Lim4 M) (hR : Row .i64 w w.heap.size A c L) (hR' : Row .i64 w w.heap.size A' c' M) :
  Calls Tryz.prog 90 #[.slice A L.length c, .slice A' M.length c'] w fun e w' => ∃ A2 c2 R, e = .returned (.slice A2 (List.length R) c2) ∧
   Row .i64 w' w'.heap.size A2 c2 R ∧ Lim4 R ∧ val4 R = val4 L + val4 M ∧ List.length R ≤ L.length + M.length + 1 ∧ Below w.heap.size w w' := by
 refine (radd_walk A A' c c' L M w (by omega) (by omega) hL hM hR hR').mono ?_
 rintro e w' ⟨v, k, rfl, h1, h2, h3, h4, ho, hb⟩
 obtain ⟨A2, c2, rfl, hrow⟩ := ho.row
 have hok := raSt_ok hL hM k
 have hv := raSt_val hL hM k
 rw [h4, valB_take_over _ _ _ h1, valB_take_over _ _ _ h2] at hv
 exact ⟨A2, c2, _, rfl, hrow, hok.1, by simpa using hv, by rw [hok.2.2]; exact h3, hb⟩
theorem rsub2 (A A' : Option Addr) (c c' : Nat) (L M : List Nat) (w : World) (hl : L.length ≤ 500000) (hml : M.length ≤ L.length)
  (hL : Lim4 L) (hM : Lim4 M) (hle : val4 M ≤ val4 L) (hR : Row .i64 w w.heap.size A c L) (hR' : Row .i64 w w.heap.size A' c' M) :
  Calls Tryz.prog 89 #[.slice A L.length c, .slice A' M.length c'] w fun e w' => ∃ A2 c2 R, e = .returned (.slice A2 (List.length R) c2) ∧
   Row .i64 w' w'.heap.size A2 c2 R ∧ Lim4 R ∧ val4 R + val4 M = val4 L ∧ List.length R ≤ L.length + M.length + 1 ∧ Below w.heap.size w w' := by
 refine (rsub_walk A A' c c' L M w (by omega) hml hL hM hR hR').mono ?_
 rintro e w' ⟨A2, c2, rfl, hrow, hb⟩
 have hok := rsSt_ok hL hM L.length
 have hv := rsSt_val hL hM L.length
 rw [valB_take_over _ _ _ (Nat.le_refl _), valB_take_over _ _ _ hml] at hv
 have hlt := valB_lt hok.1
 rw [hok.2.2] at hlt
 have hb0 : (rsSt L M L.length).2 = 0 := by
  rcases Nat.eq_zero_or_pos (rsSt L M L.length).2 with h | h
  ·exact h
  ·have h1 : (rsSt L M L.length).2 = 1 := by have := hok.2.1; omega
   rw [h1] at hv; simp only [val4] at hle; omega
 rw [hb0] at hv
 have htl := trimN_le (rsSt L M L.length).1 L.length
 have el : ((rsSt L M L.length).1.take (trimN (rsSt L M L.length).1 L.length)).length = trimN (rsSt L M L.length).1 L.length := by rw [List.length_take, hok.2.2]; omega
 refine ⟨A2, c2, (rsSt L M L.length).1.take (trimN (rsSt L M L.length).1 L.length), by rw [el], hrow.take _, hok.1.take _, ?_, by rw [el]; omega, hb⟩
 rw [val4, trimN_val _ _ _ (by rw [hok.2.2]; exact Nat.le_refl _), List.take_of_length_le (by rw [hok.2.2]; exact Nat.le_refl _)]
 simpa using hv
theorem rsigned_pack (neg : Bool) (A : Option Addr) (c : Nat) (R : List Nat) (w : World) {n : Nat} (hl : R.length ≤ n) (hn : n ≤ 4000000) (hlim : Lim4 R) (hR : Row .i64 w w.heap.size A c R) :
  Calls Tryz.prog 43 #[.bool neg, .slice A R.length c] w fun e w' => ∃ T, e = .returned (.agg #[.bool (neg && decide (0 < List.length T)), .slice A (List.length T) c]) ∧ Row .i64 w' w'.heap.size A c T ∧ (∀ d ∈ T, d < 10000) ∧ (0 < List.length T → nth T (List.length T - 1) ≠ 0) ∧
   val4 T = val4 R ∧ List.length T ≤ R.length ∧ Below w.heap.size w w' := by
 have htl := trimN_le R R.length
 have el : (R.take (trimN R R.length)).length = trimN R R.length := by rw [List.length_take]; omega
 refine (rsigned_any neg A c R w (by omega) hR).mono ?_
 rintro e w' ⟨rfl, hb⟩
 refine ⟨R.take (trimN R R.length), by rw [el], (((hR.below hb).more hb.size).take _), fun d hd => hlim d (List.mem_of_mem_take hd), ?_, ?_, by rw [el]; exact htl, hb⟩
 ·rw [el]; intro h; rw [nth_take (by omega)]; exact trimN_top _ _ h
 ·rw [val4, trimN_val _ _ _ (Nat.le_refl _), List.take_of_length_le (Nat.le_refl _)]
theorem addZR (n : Bool) {L M R : List Nat} (h : val4 R = val4 L + val4 M) (h0 : R.length = 0 → val4 R = 0) : zR (n && decide (0 < R.length)) R = zR n L + zR n M := by
 unfold zR
 rcases Nat.eq_zero_or_pos R.length with h1 | h1
 ·have h2 := h0 h1
  have e : (decide (0 < R.length)) = false := by rw [decide_eq_false_iff_not]; omega
  rw [e, Bool.and_false]
  cases n <;> simp <;> omega
 ·have e : (decide (0 < R.length)) = true := by rw [decide_eq_true_iff]; omega
  rw [e, Bool.and_true]
  cases n <;> simp <;> omega
theorem subZR (n : Bool) {L M R : List Nat} (h : val4 R + val4 M = val4 L) (h0 : R.length = 0 → val4 R = 0) : zR (n && decide (0 < R.length)) R = zR n L + zR (!n) M := by
 unfold zR
 rcases Nat.eq_zero_or_pos R.length with h1 | h1
 ·have h2 := h0 h1
  have e : (decide (0 < R.length)) = false := by rw [decide_eq_false_iff_not]; omega
  rw [e, Bool.and_false]
  cases n <;> simp <;> omega
 ·have e : (decide (0 < R.length)) = true := by rw [decide_eq_true_iff]; omega
  rw [e, Bool.and_true]
  cases n <;> simp <;> omega
theorem radd_same (n : Bool) (A A' : Option Addr) (c c' : Nat) (L M : List Nat) (w : World) (hl : L.length ≤ 500000) (hml : M.length ≤ 500000)
  (hL : RefR w w.heap.size n A c L) (hM : RefR w w.heap.size n A' c' M) :
  Calls Tryz.prog 71 #[.agg #[.bool n, .slice A L.length c], .agg #[.bool n, .slice A' M.length c']] w fun e w' => ∃ k A c R, e = .returned (.agg #[.bool k, .slice A (List.length R) c]) ∧
   RefR w' w'.heap.size k A c R ∧ zR k R = zR n L + zR n M ∧ List.length R ≤ L.length + M.length + 1 ∧ Below w.heap.size w w' := by
 have hM2 := fun W h1 h2 => radd2 A A' c c' L M W hl hml hL.lim hM.lim h1 h2
 have HM2 := Lib.hid hM2
 clear hM2
 generalize hl' : L.length = l at *
 generalize hm' : M.length = l2 at *
 have HLL := Lib.hid hl'
 have HML := Lib.hid hm'
 clear hl' hm'
 have hbb : (n == n) = true := by simp
 go_enter Tryz.func71, Tryz.ntmps71
 go_wp2
 have hne1 : ¬ w.heap.size = w.heap.size + 1 + 1 := by omega
 have hne2 : ¬ w.heap.size + 1 + 1 = w.heap.size := by omega
 have HUP := Lib.hid (below_drew (below_a3 w (.cells #[.bool n, .slice A l c] 33) (.cells #[.bool n, .slice A' l2 c'] 33) (.cells #[.bool false, .slice none 0 0] 33)))
 go_region_held3 (fun w' => w'.cell? ⟨w.heap.size, 0, none⟩ = some (.bool n) ∧ w'.cell? ⟨w.heap.size, 1, none⟩ = some (.slice A l c) ∧
   w'.cell? ⟨w.heap.size + 1, 0, none⟩ = some (.bool n) ∧ w'.cell? ⟨w.heap.size + 1, 1, none⟩ = some (.slice A' l2 c')) (go_keep)
  (first
   | (go_at_call 90; (with_reducible refine (HM2.out _ (hL.row.up HUP.out) (hM.row.up HUP.out)).mono ?_); rintro e w1 ⟨A2, c1, R, rfl, hr1, hlim1, hv1, hl1, hb1⟩; have HB1 := Lib.hid (three (below_undrew hb1)).2.2.2.2.2.2.2.2.2; have X := three (below_undrew hb1); have hq1 := X.1; have hq2 := X.2.1; have hq3 := X.2.2.1; have hq4 := X.2.2.2.1; have hq9 := X.2.2.2.2.2.2.2.2.1; clear X hb1)
   | (go_at_call 43; refine (rsigned_pack _ _ _ R _ hl1 (by omega) hlim1 hr1).mono ?_; rintro e w2 ⟨T, rfl, hr2, hlim2, htop2, hv2, hl2, hb2⟩; have HB2 := Lib.hid (below_then HB1.out hb2 hq9); have HR2 := Lib.hid hr2; have HV2 := Lib.hid hv2; clear hq1 hq2 hq3 hq4 hr1 hr2 hv2 hb2; have X := three' HB2.out; have hq1 := X.1; have hq2 := X.2.1; have hq3 := X.2.2.1; have hq4 := X.2.2.2.1; have hq5 := X.2.2.2.2.1; have hq6 := X.2.2.2.2.2.1; have hq7 := X.2.2.2.2.2.2.1; have hq8 := X.2.2.2.2.2.2.2.1; clear X))
 all_goals
  go_wp2
  have hbw : Below w.heap.size w w2 := (below_a3 w _ _ _).trans (Below.less HB2.out (by omega))
  refine bodyPost_ret (v := .agg #[.bool (n && decide (0 < List.length T)), .slice A2 (List.length T) c1]) (by simp [results, Tryz.results71, go_sem, hq5, hq6]) rfl
   ⟨_, _, _, T, rfl, ?_, addZR n (by rw [HV2.out]; exact hv1) val4_nil, by omega, (hbw.setCell (by simp; omega) _).setCell (by simp; omega) _⟩
  rw [setCell_size, setCell_size]
  refine ⟨HR2.out.box3 HB2.out (fun _ => by simp) (fun _ => by simp) _ _, hlim2, htop2, fun hk hR => ?_⟩
  rw [hR] at hk
  simp at hk
theorem radd_ge (n : Bool) (A A' : Option Addr) (c c' : Nat) (L M : List Nat) (w : World) (hl : L.length ≤ 500000) (hml : M.length ≤ 500000) (hle : val4 M ≤ val4 L)
  (hL : RefR w w.heap.size n A c L) (hM : RefR w w.heap.size (!n) A' c' M) :
  Calls Tryz.prog 71 #[.agg #[.bool n, .slice A L.length c], .agg #[.bool (!n), .slice A' M.length c']] w fun e w' => ∃ k A c R, e = .returned (.agg #[.bool k, .slice A (List.length R) c]) ∧
   RefR w' w'.heap.size k A c R ∧ zR k R = zR n L + zR (!n) M ∧ List.length R ≤ L.length + M.length + 1 ∧ Below w.heap.size w w' := by
 have hM2 := fun W h1 h2 => rsub2 A A' c c' L M W hl (ref_len hL hM hle) hL.lim hM.lim hle h1 h2
 have HM2 := Lib.hid hM2
 have hC := fun W h1 h2 => rcompare_any A A' c c' L M W (by omega) (by omega) h1 h2
 have hz : cmpL L M = cmpZ (val4 L) (val4 M) := cmpL_val4 hL hM
 have hz2 : 0 ≤ cmpL L M := by rw [hz]; exact cmp_ge hle
 generalize cmpL L M = z at *
 have HC := Lib.hid hC
 clear hC hz hle hM2
 generalize hl' : L.length = l at *
 generalize hm' : M.length = l2 at *
 have HLL := Lib.hid hl'
 have HML := Lib.hid hm'
 clear hl' hm'
 have hbb : (n == !n) = false := by cases n <;> rfl
 go_enter Tryz.func71, Tryz.ntmps71
 go_wp2_with fail
 refine (HC.out _ (hL.row.up (below_a3 _ _ _ _)) (hM.row.up (below_a3 _ _ _ _))).mono ?_
 rintro e w9 ⟨rfl, nq, rfl⟩
 go_wp2_with fail
 have hne1 : ¬ w.heap.size = w.heap.size + 1 + 1 := by omega
 have hne2 : ¬ w.heap.size + 1 + 1 = w.heap.size := by omega
 have HUP := Lib.hid (below_drewN (below_a3 w (.cells #[.bool n, .slice A l c] 33) (.cells #[.bool (!n), .slice A' l2 c'] 33) (.cells #[.bool false, .slice none 0 0] 33)) (nq + 1))
 go_region_held3 (fun w' => w'.cell? ⟨w.heap.size, 0, none⟩ = some (.bool n) ∧ w'.cell? ⟨w.heap.size, 1, none⟩ = some (.slice A l c) ∧
   w'.cell? ⟨w.heap.size + 1, 0, none⟩ = some (.bool (!n)) ∧ w'.cell? ⟨w.heap.size + 1, 1, none⟩ = some (.slice A' l2 c')) (go_keep)
  (first
   | (go_at_call 89; (with_reducible refine (HM2.out _ (hL.row.up HUP.out) (hM.row.up HUP.out)).mono ?_); rintro e w1 ⟨A2, c1, R, rfl, hr1, hlim1, hv1, hl1, hb1⟩; have HB1 := Lib.hid (three (below_undrewN hb1)).2.2.2.2.2.2.2.2.2; have X := three (below_undrewN hb1); have hq1 := X.1; have hq2 := X.2.1; have hq3 := X.2.2.1; have hq4 := X.2.2.2.1; have hq9 := X.2.2.2.2.2.2.2.2.1; clear X hb1)
   | (go_at_call 43; refine (rsigned_pack _ _ _ R _ hl1 (by omega) hlim1 hr1).mono ?_; rintro e w2 ⟨T, rfl, hr2, hlim2, htop2, hv2, hl2, hb2⟩; have HB2 := Lib.hid (below_then HB1.out hb2 hq9); have HR2 := Lib.hid hr2; have HV2 := Lib.hid hv2; clear hq1 hq2 hq3 hq4 hr1 hr2 hv2 hb2; have X := three' HB2.out; have hq1 := X.1; have hq2 := X.2.1; have hq3 := X.2.2.1; have hq4 := X.2.2.2.1; have hq5 := X.2.2.2.2.1; have hq6 := X.2.2.2.2.2.1; have hq7 := X.2.2.2.2.2.2.1; have hq8 := X.2.2.2.2.2.2.2.1; clear X))
 all_goals
  go_wp2
  have hbw : Below w.heap.size w w2 := (below_a3 w _ _ _).trans (Below.less HB2.out (by omega))
  refine bodyPost_ret (v := .agg #[.bool (n && decide (0 < List.length T)), .slice A2 (List.length T) c1]) (by simp [results, Tryz.results71, go_sem, hq5, hq6]) rfl
   ⟨_, _, _, T, rfl, ?_, subZR n (by rw [HV2.out]; exact hv1) val4_nil, by omega, (hbw.setCell (by simp; omega) _).setCell (by simp; omega) _⟩
  rw [setCell_size, setCell_size]
  refine ⟨HR2.out.box3 HB2.out (fun _ => by simp) (fun _ => by simp) _ _, hlim2, htop2, fun hk hR => ?_⟩
  rw [hR] at hk
  simp at hk
theorem radd_lt (n : Bool) (A A' : Option Addr) (c c' : Nat) (L M : List Nat) (w : World) (hl : L.length ≤ 500000) (hml : M.length ≤ 500000) (hlt : val4 L < val4 M)
  (hL : RefR w w.heap.size n A c L) (hM : RefR w w.heap.size (!n) A' c' M) :
  Calls Tryz.prog 71 #[.agg #[.bool n, .slice A L.length c], .agg #[.bool (!n), .slice A' M.length c']] w fun e w' => ∃ k A c R, e = .returned (.agg #[.bool k, .slice A (List.length R) c]) ∧
   RefR w' w'.heap.size k A c R ∧ zR k R = zR n L + zR (!n) M ∧ List.length R ≤ L.length + M.length + 1 ∧ Below w.heap.size w w' := by
 have hM2 := fun W h1 h2 => rsub2 A' A c' c M L W hml (ref_len hM hL (by omega)) hM.lim hL.lim (by omega) h1 h2
 have HM2 := Lib.hid hM2
 have hC := fun W h1 h2 => rcompare_any A A' c c' L M W (by omega) (by omega) h1 h2
 have hz : cmpL L M = cmpZ (val4 L) (val4 M) := cmpL_val4 hL hM
 have hz2 : cmpL L M = -1 := by rw [hz]; exact cmp_lt hlt
 rw [hz2] at hC
 have HC := Lib.hid hC
 clear hC hz hz2 hlt hM2
 generalize hl' : L.length = l at *
 generalize hm' : M.length = l2 at *
 have HLL := Lib.hid hl'
 have HML := Lib.hid hm'
 clear hl' hm'
 have hbb : (n == !n) = false := by cases n <;> rfl
 go_enter Tryz.func71, Tryz.ntmps71
 go_wp2_with fail
 refine (HC.out _ (hL.row.up (below_a3 _ _ _ _)) (hM.row.up (below_a3 _ _ _ _))).mono ?_
 rintro e w9 ⟨rfl, nq, rfl⟩
 go_wp2_with fail
 have hne1 : ¬ w.heap.size = w.heap.size + 1 + 1 := by omega
 have hne2 : ¬ w.heap.size + 1 + 1 = w.heap.size := by omega
 have HUP := Lib.hid (below_drewN (below_a3 w (.cells #[.bool n, .slice A l c] 33) (.cells #[.bool (!n), .slice A' l2 c'] 33) (.cells #[.bool false, .slice none 0 0] 33)) (nq + 1))
 go_region_held3 (fun w' => w'.cell? ⟨w.heap.size, 0, none⟩ = some (.bool n) ∧ w'.cell? ⟨w.heap.size, 1, none⟩ = some (.slice A l c) ∧
   w'.cell? ⟨w.heap.size + 1, 0, none⟩ = some (.bool (!n)) ∧ w'.cell? ⟨w.heap.size + 1, 1, none⟩ = some (.slice A' l2 c')) (go_keep)
  (first
   | (go_at_call 89; (with_reducible refine (HM2.out _ (hM.row.up HUP.out) (hL.row.up HUP.out)).mono ?_); rintro e w1 ⟨A2, c1, R, rfl, hr1, hlim1, hv1, hl1, hb1⟩; have HB1 := Lib.hid (three (below_undrewN hb1)).2.2.2.2.2.2.2.2.2; have X := three (below_undrewN hb1); have hq1 := X.1; have hq2 := X.2.1; have hq3 := X.2.2.1; have hq4 := X.2.2.2.1; have hq9 := X.2.2.2.2.2.2.2.2.1; clear X hb1)
   | (go_at_call 43; refine (rsigned_pack _ _ _ R _ hl1 (by omega) hlim1 hr1).mono ?_; rintro e w2 ⟨T, rfl, hr2, hlim2, htop2, hv2, hl2, hb2⟩; have HB2 := Lib.hid (below_then HB1.out hb2 hq9); have HR2 := Lib.hid hr2; have HV2 := Lib.hid hv2; clear hq1 hq2 hq3 hq4 hr1 hr2 hv2 hb2; have X := three' HB2.out; have hq1 := X.1; have hq2 := X.2.1; have hq3 := X.2.2.1; have hq4 := X.2.2.2.1; have hq5 := X.2.2.2.2.1; have hq6 := X.2.2.2.2.2.1; have hq7 := X.2.2.2.2.2.2.1; have hq8 := X.2.2.2.2.2.2.2.1; clear X))
 all_goals
  go_wp2
  have hbw : Below w.heap.size w w2 := (below_a3 w _ _ _).trans (Below.less HB2.out (by omega))
  refine bodyPost_ret (v := .agg #[.bool ((!n) && decide (0 < List.length T)), .slice A2 (List.length T) c1]) (by simp [results, Tryz.results71, go_sem, hq5, hq6]) rfl
   ⟨_, _, _, T, rfl, ?_, ((subZR (!n) (L := M) (M := L) (R := T) (by rw [HV2.out]; exact hv1) val4_nil).trans (by rw [Bool.not_not, Int.add_comm])), by omega, (hbw.setCell (by simp; omega) _).setCell (by simp; omega) _⟩
  rw [setCell_size, setCell_size]
  refine ⟨HR2.out.box3 HB2.out (fun _ => by simp) (fun _ => by simp) _ _, hlim2, htop2, fun hk hR => ?_⟩
  rw [hR] at hk
  simp at hk
theorem raddI_any (n m : Bool) (A A' : Option Addr) (c c' : Nat) (L M : List Nat) (w : World) (hl : L.length ≤ 500000) (hml : M.length ≤ 500000)
  (hL : RefR w w.heap.size n A c L) (hM : RefR w w.heap.size m A' c' M) :
  Calls Tryz.prog 71 #[.agg #[.bool n, .slice A L.length c], .agg #[.bool m, .slice A' M.length c']] w fun e w' => ∃ k A c R, e = .returned (.agg #[.bool k, .slice A (List.length R) c]) ∧
   RefR w' w'.heap.size k A c R ∧ zR k R = zR n L + zR m M ∧ List.length R ≤ L.length + M.length + 1 ∧ Below w.heap.size w w' := by
 by_cases h : n = m
 ·subst h
  exact radd_same n A A' c c' L M w hl hml hL hM
 ·obtain rfl : m = !n := by cases n <;> cases m <;> first | rfl | exact absurd rfl h
  rcases Nat.lt_or_ge (val4 L) (val4 M) with h1 | h1
  ·exact radd_lt n A A' c c' L M w hl hml h1 hL hM
  ·exact radd_ge n A A' c c' L M w hl hml h1 hL hM
set_option maxHeartbeats 3200000
set_option maxRecDepth 20000
theorem zR_neg (n : Bool) {L : List Nat} : zR ((!n) && decide (0 < L.length)) L = - zR n L := by
 unfold zR
 rcases Nat.eq_zero_or_pos L.length with h1 | h1
 ·have h2 := val4_nil h1
  have e : (decide (0 < L.length)) = false := by rw [decide_eq_false_iff_not]; omega
  rw [e, Bool.and_false, h2]
  cases n <;> simp
 ·have e : (decide (0 < L.length)) = true := by rw [decide_eq_true_iff]; omega
  rw [e, Bool.and_true]
  cases n <;> simp
theorem rneg_any (n : Bool) (A : Option Addr) (c : Nat) (L : List Nat) (w : World) (hl : L.length ≤ 500000) (hL : RefR w w.heap.size n A c L) :
  Calls Tryz.prog 72 #[.agg #[.bool n, .slice A L.length c]] w fun e w' => ∃ k A c, e = .returned (.agg #[.bool k, .slice A L.length c]) ∧
   RefR w' w'.heap.size k A c L ∧ zR k L = - zR n L ∧ Below w.heap.size w w' := by
 have hM2 := fun W h1 => rsigned_trim (!n) A c L W hl hL.top h1
 have HM2 := Lib.hid hM2
 clear hM2
 have HZ := Lib.hid (zR_neg n (L := L))
 generalize hl' : L.length = l at *
 have HLL := Lib.hid hl'
 clear hl'
 go_enter Tryz.func72, Tryz.ntmps72
 go_wp2_with fail
 refine (HM2.out _ (hL.row.up (below_a2 _ _ _))).mono ?_
 rintro e w1 ⟨rfl, hb1⟩
 have X := two hb1
 have hq3 := X.2.2.1
 have hq4 := X.2.2.2.1
 have hq5 := X.2.2.2.2.1
 have hq6 := X.2.2.2.2.2.1
 have HB1 := Lib.hid X.2.2.2.2.2.2.2
 have HR1 := Lib.hid (hL.up (upa2 HB1.out))
 clear X hb1
 go_wp2_with fail
 refine bodyPost_ret (v := .agg #[.bool ((!n) && decide (0 < l)), .slice A l c]) (by simp [results, Tryz.results72, go_sem, hq3, hq4]) rfl
  ⟨_, _, _, rfl, ?_, by rw [← HZ.out], ((upa2 HB1.out).setCell (by simp) _).setCell (by simp) _⟩
 rw [setCell_size, setCell_size]
 refine ⟨HR1.out.row.box2 HB1.out (fun _ => by simp) (fun _ => by simp) _ _, HR1.out.lim, HR1.out.top, fun hk hR => ?_⟩
 have h9 : l = 0 := by rw [← HLL.out, hR]; rfl
 rw [h9] at hk
 simp at hk
def PInt (z : Int) (n : Nat) (v : Value) (w : World) : Prop := ∃ k A c L, v = .agg #[.bool k, .slice A (List.length L) c] ∧ IntR w w.heap.size k A c L ∧ zI k L = z ∧ L.length ≤ n
def PRef (z : Int) (n : Nat) (v : Value) (w : World) : Prop := ∃ k A c L, v = .agg #[.bool k, .slice A (List.length L) c] ∧ RefR w w.heap.size k A c L ∧ zR k L = z ∧ L.length ≤ n
theorem PInt.up {z : Int} {n : Nat} {v : Value} {w w' : World} (h : PInt z n v w) (hb : Below w.heap.size w w') : PInt z n v w' := by
 obtain ⟨k, A, c, L, h1, h2, h3⟩ := h
 exact ⟨k, A, c, L, h1, h2.up hb, h3⟩
theorem PInt.more {z : Int} {n m : Nat} {v : Value} {w : World} (h : PInt z n v w) (hm : n ≤ m) : PInt z m v w := by
 obtain ⟨k, A, c, L, h1, h2, h3, h4⟩ := h
 exact ⟨k, A, c, L, h1, h2, h3, by omega⟩
theorem add_fact {x y : Int} {n m : Nat} {a b : Value} {w : World} (h1 : PInt x n a w) (h2 : PInt y m b w) (hn : n ≤ 500000) (hm : m ≤ 500000) :
  Calls Tryz.prog 32 #[a, b] w fun e w' => ∃ v, e = .returned v ∧ PInt (x + y) (n + m + 1) v w' ∧ Below w.heap.size w w' := by
 obtain ⟨k, A, c, L, rfl, i1, rfl, l1⟩ := h1
 obtain ⟨k', A', c', M, rfl, i2, rfl, l2⟩ := h2
 refine (add_any k k' A A' c c' L M w (by omega) (by omega) i1 i2).mono ?_
 rintro e w' ⟨q, B, d, R, rfl, hi, hz, hl, hb⟩
 exact ⟨_, rfl, ⟨q, B, d, R, rfl, hi, hz, by omega⟩, hb⟩
theorem mul_fact {x y : Int} {n m : Nat} {a b : Value} {w : World} (h1 : PInt x n a w) (h2 : PInt y m b w) (hn : n ≤ 500000) (hm : m ≤ 500000) :
  Calls Tryz.prog 31 #[a, b] w fun e w' => ∃ v, e = .returned v ∧ PInt (x * y) (n + m) v w' ∧ Below w.heap.size w w' := by
 obtain ⟨k, A, c, L, rfl, i1, rfl, l1⟩ := h1
 obtain ⟨k', A', c', M, rfl, i2, rfl, l2⟩ := h2
 refine (mul_any k k' A A' c c' L M w (by omega) (by omega) i1 i2).mono ?_
 rintro e w' ⟨q, B, d, R, rfl, hi, hz, hl, hb⟩
 exact ⟨_, rfl, ⟨q, B, d, R, rfl, hi, hz, by omega⟩, hb⟩
theorem neg_fact {x : Int} {n : Nat} {a : Value} {w : World} (h1 : PInt x n a w) (hn : n ≤ 500000) :
  Calls Tryz.prog 53 #[a] w fun e w' => ∃ v, e = .returned v ∧ PInt (-x) n v w' ∧ Below w.heap.size w w' := by
 obtain ⟨k, A, c, L, rfl, i1, rfl, l1⟩ := h1
 refine (neg_any k A c L w (by omega) i1).mono ?_
 rintro e w' ⟨q, B, d, rfl, hi, hz, hb⟩
 exact ⟨_, rfl, ⟨q, B, d, L, rfl, hi, hz, by omega⟩, hb⟩
theorem cmp_fact {x y : Int} {n m : Nat} {a b : Value} {w : World} (h1 : PInt x n a w) (h2 : PInt y m b w) (hn : n ≤ 1000000) (hm : m ≤ 1000000) :
  Calls Tryz.prog 25 #[a, b] w fun e w' => e = .returned (.int .i64 (cmpI x y)) ∧ Below w.heap.size w w' := by
 obtain ⟨k, A, c, L, rfl, i1, rfl, l1⟩ := h1
 obtain ⟨k', A', c', M, rfl, i2, rfl, l2⟩ := h2
 exact cmp_any k k' A A' c c' L M w (by omega) (by omega) i1 i2
theorem sgnI_cmp {w : World} {B : Nat} {n : Bool} {A : Option Addr} {c : Nat} {L : List Nat} (h : IntR w B n A c L) : sgnI n L = cmpI (zI n L) 0 := by
 unfold sgnI zI cmpI
 cases n
 ·rcases Nat.eq_zero_or_pos L.length with h0 | h0
  ·have : L = [] := List.eq_nil_of_length_eq_zero h0
   subst this; simp [valB]
  ·have := canon_pos h.canon h0
   have h1 : ¬ L.length = 0 := by omega
   have h2 : ¬ ((val9 L : Nat) : Int) < 0 := by omega
   have h3 : ¬ ((val9 L : Nat) : Int) = 0 := by omega
   simp only [Bool.false_eq_true, if_false]
   rw [if_neg h1, if_neg h2, if_neg h3]
 ·have h1 := List.length_pos_iff.2 (h.sgn rfl)
  have := canon_pos h.canon h1
  have h2 : -((val9 L : Nat) : Int) < 0 := by omega
  simp only [if_true]
  rw [if_pos h2]
theorem sign_fact {x : Int} {n : Nat} {a : Value} {w : World} (h1 : PInt x n a w) :
  Calls Tryz.prog 23 #[a] w fun e w' => e = .returned (.int .i64 (cmpI x 0)) ∧ Below w.heap.size w w' := by
 obtain ⟨k, A, c, L, rfl, i1, rfl, l1⟩ := h1
 rw [← sgnI_cmp i1]
 exact sign_any k A c L w
theorem sign_is {x c : Int} {n : Nat} {a : Value} {w : World} (h1 : PInt x n a w) (hc : cmpI x 0 = c) :
  Calls Tryz.prog 23 #[a] w fun e w' => e = .returned (.int .i64 c) ∧ Below w.heap.size w w' := hc ▸ sign_fact h1
theorem cmp_is {x y c : Int} {n m : Nat} {a b : Value} {w : World} (h1 : PInt x n a w) (h2 : PInt y m b w) (hn : n ≤ 1000000) (hm : m ≤ 1000000) (hc : cmpI x y = c) :
  Calls Tryz.prog 25 #[a, b] w fun e w' => e = .returned (.int .i64 c) ∧ Below w.heap.size w w' := hc ▸ cmp_fact h1 h2 hn hm
set_option maxHeartbeats 1600000
set_option maxRecDepth 20000
theorem rof_len {k v m n : Nat} (h : k * 10000 ^ n + v = m) (hm : m ≤ 9223372036854775808) (hk : k ≠ 0) : n ≤ 4 := by
 rcases Nat.lt_or_ge 4 n with h1 | h1
 ·have h2 : (10000 : Nat) ^ 5 ≤ 10000 ^ n := Nat.pow_le_pow_right (by omega) (by omega)
  have h3 : 1 * 10000 ^ n ≤ k * 10000 ^ n := Nat.mul_le_mul_right _ (by omega)
  omega
 ·exact h1
theorem rof_step {k v m n : Nat} (h : k * 10000 ^ n + v = m) : k / 10000 * 10000 ^ (n + 1) + (v + 10000 ^ n * (k % 10000)) = m := by
 have h1 := Nat.div_add_mod k 10000
 rw [Nat.pow_succ]
 generalize k / 10000 = a at *
 generalize k % 10000 = b at *
 subst h1
 grind
theorem tmod_neg (k : Nat) : Int.tmod (-(k : Int)) 10000 = -((k % 10000 : Nat) : Int) := by rw [Int.neg_tmod]; rfl
theorem tdiv_neg (k : Nat) : Int.tdiv (-(k : Int)) 10000 = -((k / 10000 : Nat) : Int) := by rw [Int.neg_tdiv]; rfl
theorem rof_pos (m : Nat) (w : World) (h2 : m ≤ 9223372036854775807) :
  Calls Tryz.prog 69 #[.int .i64 m] w fun e w' => ∃ k A c R, e = .returned (.agg #[.bool k, .slice A (List.length R) c]) ∧ RefR w' w'.heap.size k A c R ∧ zR k R = (m : Int) ∧ List.length R ≤ 5 ∧ Below w.heap.size w w' := by
 obtain ⟨i0, hi, hz0, hz1, hz2⟩ := info_parts info3
 go_enter Tryz.func69, Tryz.ntmps69
 go_wp2
 go_loopw [3, 4] (fun ov kv wr => ∃ (k : Nat) (Q : List Nat), k ≤ m ∧ kv = .int .i64 k ∧ Own .i64 3 wr (w.heap.size + 1) ov Q ∧ Lim4 Q ∧ Hid (k * 10000 ^ Q.length + val4 Q = m) ∧ Hid (Q.length ≤ 5) ∧ Below (w.heap.size + 1) (w.alloc (.cells #[.bool false, .slice none 0 0] 33)) wr) (fun _ kv _ => (intOf kv).natAbs)
 case atStart => exact ⟨m, [], Nat.le_refl _, rfl, Own.nil _ _ _ _, fun _ h => absurd h (List.not_mem_nil), by show _ = _; simp [val4, valB], Nat.zero_le _, Below.refl _ _⟩
 case round =>
  obtain ⟨k, Q, hk, rfl, ho, hlim, hv, hql5, hb⟩ := hrel
  have hsz : w.heap.size + 1 ≤ wr.heap.size := by have := hb.size; simpa using this
  have HO := Lib.hid ho
  clear ho
  rcases Nat.eq_zero_or_pos k with rfl | hpos
  ·obtain ⟨A, c, rfl, hrow⟩ := HO.out.row
   have HV0 := hv.out
   rw [Nat.zero_mul, Nat.zero_add] at HV0
   have HVV := Lib.hid HV0
   clear HV0 hv
   have HB1 := Lib.hid hb
   clear hb
   have hd0 : decide ((m : Int) < 0) = false := by simp
   go_wp2_with fail
   try rw [hd0]
   refine (rsigned_pack _ _ _ Q _ hql5.out (by omega) hlim hrow).mono ?_
   rintro e w2 ⟨T, rfl, hr2, hlim2, htop2, hv2, hl2, hb2⟩
   have hby := below_then HB1.out hb2 hsz
   have hy0 := (boxed2 hby).1
   have hy1 := (boxed2 hby).2
   have gy0 := boxedF hby 0
   have gy1 := boxedF hby 1
   have HBY := Lib.hid hby
   have HV2 := Lib.hid hv2
   have HR2 := Lib.hid hr2
   clear hb2 hby hv2 hr2
   go_wp2_with fail
   have hbw : Below w.heap.size w w2 := (below_alloc_new _).trans (Below.less HBY.out (Nat.le_succ _))
   refine bodyPost_ret (v := .agg #[.bool (false && decide (0 < List.length T)), .slice A (List.length T) c]) (by simp [results, Tryz.results69, go_sem, hy0, hy1]) rfl
    ⟨_, _, _, T, rfl, ?_, ?_, by have := hql5.out; omega, (hbw.setCell (by simp) _).setCell (by simp) _⟩
   ·rw [setCell_size, setCell_size]
    exact ⟨HR2.out.box HBY.out (fun _ => by simp) (fun _ => by simp) _ _, hlim2, htop2, fun hk0 hR => by rw [hR] at hk0; simp at hk0⟩
   ·have e1 : val4 T = m := by rw [HV2.out, HVV.out]
    have e2 : List.length T = 0 → val4 T = 0 := val4_nil
    unfold zR
    rw [e1]
    simp
  ·have hq := rof_len hv.out (by omega) (by omega)
   have hql : Q.length ≤ 100000000 := by omega
   have HQL := Lib.hid hql
   clear hql
   have hk0 : ¬ ((k : Int) = 0) := by omega
   go_wp2_with (at_builtin; refine wpList_append_num wr rfl (.tmp 17) (.tmp 19) 31 rfl .i64 (w.heap.size + 1) 3 i0 8 Tryz.underlying31 hi hz0 hz1 hz2 (by omega) u3 _ (by rfl) HO.out _ (k % 10000) ?_ 1 rfl HQL.out ?_ ?_; (simp); (exact hsz); intro v2 w2 ho2 hb2)
   go_roundw
   case rel =>
    exact ⟨k / 10000, Q ++ [k % 10000], by omega, rfl, ho2.out, fun d hd => by
     rcases List.mem_append.1 hd with h | h
     ·exact hlim d h
     ·rw [List.mem_singleton] at h; subst h; exact Nat.mod_lt _ (by omega), by
     show _ = _
     have h1 := rof_step hv.out
     rw [List.length_append, List.length_singleton, val4, valB_append]
     simp only [valB, Nat.mul_zero, Nat.add_zero]
     exact h1, by show _ ≤ _; simp; omega, hb.trans (Below.less hb2 (by simp))⟩
   case measure => simp [intOf]; omega
theorem rof_neg (m : Nat) (w : World) (h2 : m ≤ 9223372036854775808) (h3 : 0 < m) :
  Calls Tryz.prog 69 #[.int .i64 (-(m : Int))] w fun e w' => ∃ k A c R, e = .returned (.agg #[.bool k, .slice A (List.length R) c]) ∧ RefR w' w'.heap.size k A c R ∧ zR k R = -(m : Int) ∧ List.length R ≤ 5 ∧ Below w.heap.size w w' := by
 obtain ⟨i0, hi, hz0, hz1, hz2⟩ := info_parts info3
 go_enter Tryz.func69, Tryz.ntmps69
 go_wp2
 go_loopw [3, 4] (fun ov kv wr => ∃ (k : Nat) (Q : List Nat), k ≤ m ∧ kv = .int .i64 (-(k : Int)) ∧ Own .i64 3 wr (w.heap.size + 1) ov Q ∧ Lim4 Q ∧ Hid (k * 10000 ^ Q.length + val4 Q = m) ∧ Hid (Q.length ≤ 5) ∧ Below (w.heap.size + 1) (w.alloc (.cells #[.bool false, .slice none 0 0] 33)) wr) (fun _ kv _ => (intOf kv).natAbs)
 case atStart => exact ⟨m, [], Nat.le_refl _, rfl, Own.nil _ _ _ _, fun _ h => absurd h (List.not_mem_nil), by show _ = _; simp [val4, valB], Nat.zero_le _, Below.refl _ _⟩
 case round =>
  obtain ⟨k, Q, hk, rfl, ho, hlim, hv, hql5, hb⟩ := hrel
  have hsz : w.heap.size + 1 ≤ wr.heap.size := by have := hb.size; simpa using this
  have HO := Lib.hid ho
  clear ho
  rcases Nat.eq_zero_or_pos k with rfl | hpos
  ·obtain ⟨A, c, rfl, hrow⟩ := HO.out.row
   have HV0 := hv.out
   rw [Nat.zero_mul, Nat.zero_add] at HV0
   have HVV := Lib.hid HV0
   clear HV0 hv
   have HB1 := Lib.hid hb
   clear hb
   have hd0 : decide (-(m : Int) < 0) = true := by simp; omega
   go_wp2_with fail
   try rw [hd0]
   refine (rsigned_pack _ _ _ Q _ hql5.out (by omega) hlim hrow).mono ?_
   rintro e w2 ⟨T, rfl, hr2, hlim2, htop2, hv2, hl2, hb2⟩
   have hby := below_then HB1.out hb2 hsz
   have hy0 := (boxed2 hby).1
   have hy1 := (boxed2 hby).2
   have gy0 := boxedF hby 0
   have gy1 := boxedF hby 1
   have HBY := Lib.hid hby
   have HV2 := Lib.hid hv2
   have HR2 := Lib.hid hr2
   clear hb2 hby hv2 hr2
   go_wp2_with fail
   have hbw : Below w.heap.size w w2 := (below_alloc_new _).trans (Below.less HBY.out (Nat.le_succ _))
   refine bodyPost_ret (v := .agg #[.bool (true && decide (0 < List.length T)), .slice A (List.length T) c]) (by simp [results, Tryz.results69, go_sem, hy0, hy1]) rfl
    ⟨_, _, _, T, rfl, ?_, ?_, by have := hql5.out; omega, (hbw.setCell (by simp) _).setCell (by simp) _⟩
   ·rw [setCell_size, setCell_size]
    exact ⟨HR2.out.box HBY.out (fun _ => by simp) (fun _ => by simp) _ _, hlim2, htop2, fun hk0 hR => by rw [hR] at hk0; simp at hk0⟩
   ·have e1 : val4 T = m := by rw [HV2.out, HVV.out]
    have e2 : List.length T = 0 → val4 T = 0 := val4_nil
    unfold zR
    rw [e1]
    have h9 : 0 < List.length T := by
     rcases Nat.eq_zero_or_pos (List.length T) with h | h
     ·have := e2 h; omega
     ·exact h
    simp [h9]
  ·have hq := rof_len hv.out (by omega) (by omega)
   have hql : Q.length ≤ 100000000 := by omega
   have HQL := Lib.hid hql
   clear hql
   have hk0 : ¬ (-(k : Int) = 0) := by omega
   have ht := tmod_neg k
   have hdv := tdiv_neg k
   rcases Nat.eq_zero_or_pos (k % 10000) with hz | hz
   ·go_wp2_with (at_builtin; refine wpList_append_num wr rfl (.tmp 17) (.tmp 19) 31 rfl .i64 (w.heap.size + 1) 3 i0 8 Tryz.underlying31 hi hz0 hz1 hz2 (by omega) u3 _ (by rfl) HO.out _ (0) ?_ 1 rfl HQL.out ?_ ?_; (simp); (exact hsz); intro v2 w2 ho2 hb2)
    go_roundw
    case rel =>
     have hkk := hz
     exact ⟨k / 10000, Q ++ [0], by omega, by first | rfl | (rw [hdv]; rfl), ho2.out, fun d hd => by
      rcases List.mem_append.1 hd with h | h
      ·exact hlim d h
      ·rw [List.mem_singleton] at h; subst h; omega, by
      show _ = _
      have h1 := rof_step hv.out
      rw [List.length_append, List.length_singleton, val4, valB_append]
      simp only [valB, Nat.mul_zero, Nat.add_zero]
      rw [hz, Nat.mul_zero, Nat.add_zero] at h1
      simpa using h1, by show _ ≤ _; simp; omega, hb.trans (Below.less hb2 (by simp))⟩
    case measure => simp [intOf]; omega
   ·go_wp2_with (at_builtin; refine wpList_append_num wr rfl (.tmp 17) (.tmp 19) 31 rfl .i64 (w.heap.size + 1) 3 i0 8 Tryz.underlying31 hi hz0 hz1 hz2 (by omega) u3 _ (by rfl) HO.out _ (k % 10000) ?_ 1 rfl HQL.out ?_ ?_; (simp); (exact hsz); intro v2 w2 ho2 hb2)
    go_roundw
    case rel =>
     have hkk := hz
     exact ⟨k / 10000, Q ++ [k % 10000], by omega, by first | rfl | (rw [hdv]; rfl), ho2.out, fun d hd => by
      rcases List.mem_append.1 hd with h | h
      ·exact hlim d h
      ·rw [List.mem_singleton] at h; subst h; omega, by
      show _ = _
      have h1 := rof_step hv.out
      rw [List.length_append, List.length_singleton, val4, valB_append]
      simp only [valB, Nat.mul_zero, Nat.add_zero]
      exact h1, by show _ ≤ _; simp; omega, hb.trans (Below.less hb2 (by simp))⟩
    case measure => simp [intOf]; omega
theorem rof_any (n : Int) (w : World) (h1 : -9223372036854775808 ≤ n) (h2 : n ≤ 9223372036854775807) :
  Calls Tryz.prog 69 #[.int .i64 n] w fun e w' => ∃ k A c R, e = .returned (.agg #[.bool k, .slice A (List.length R) c]) ∧ RefR w' w'.heap.size k A c R ∧ zR k R = n ∧ List.length R ≤ 5 ∧ Below w.heap.size w w' := by
 rcases Int.lt_or_le n 0 with h | h
 ·obtain ⟨m, rfl⟩ : ∃ m : Nat, n = -(m : Int) := ⟨n.natAbs, by omega⟩
  exact rof_neg m w (by omega) (by omega)
 ·obtain ⟨m, rfl⟩ : ∃ m : Nat, n = (m : Int) := ⟨n.natAbs, by omega⟩
  exact rof_pos m w (by omega)
def limbsN (n : Nat) : List Nat := if n = 0 then [] else n % 1000000000 :: limbsN (n / 1000000000)
termination_by n
decreasing_by omega
theorem limbsN_zero : limbsN 0 = [] := by rw [limbsN]; rfl
theorem limbsN_pos {n : Nat} (h : 0 < n) : limbsN n = n % 1000000000 :: limbsN (n / 1000000000) := by rw [limbsN, if_neg (by omega)]
theorem limbsN_val (n : Nat) : val9 (limbsN n) = n := by
 induction n using Nat.strongRecOn with
 | _ n ih =>
  rcases Nat.eq_zero_or_pos n with rfl | h
  ·rw [limbsN_zero]; rfl
  ·rw [limbsN_pos h]
   have := ih (n / 1000000000) (by omega)
   show n % 1000000000 + 1000000000 * val9 _ = n
   rw [this]; omega
theorem limbsN_canon (n : Nat) : Canon (limbsN n) := by
 induction n using Nat.strongRecOn with
 | _ n ih =>
  rcases Nat.eq_zero_or_pos n with rfl | h
  ·rw [limbsN_zero]; exact ⟨fun _ h => absurd h (List.not_mem_nil), fun h => absurd h (Nat.lt_irrefl 0)⟩
  ·have i := ih (n / 1000000000) (by omega)
   have e := limbsN_pos h
   rw [e]
   refine ⟨fun d hd => ?_, fun _ => ?_⟩
   ·rcases List.mem_cons.1 hd with h1 | h1
    ·omega
    ·exact i.lim d h1
   ·rcases Nat.eq_zero_or_pos (n / 1000000000) with h0 | h0
    ·rw [h0, limbsN_zero]; simp [nth]; omega
    ·have hl : 0 < (limbsN (n / 1000000000)).length := by rw [limbsN_pos h0]; simp
     have ht := i.top hl
     have : nth (n % 1000000000 :: limbsN (n / 1000000000)) ((n % 1000000000 :: limbsN (n / 1000000000)).length - 1) = nth (limbsN (n / 1000000000)) ((limbsN (n / 1000000000)).length - 1) := by
      generalize limbsN (n / 1000000000) = l at *
      rcases l with _ | ⟨a, r⟩
      ·simp at hl
      ·simp [nth]
     rw [this]; exact ht
theorem limbsN_len (n : Nat) (h : n < 1000000000000000000000000000) : (limbsN n).length ≤ 3 := by
 rcases Nat.eq_zero_or_pos n with rfl | h1
 ·rw [limbsN_zero]; simp
 ·rw [limbsN_pos h1]
  rcases Nat.eq_zero_or_pos (n / 1000000000) with h2 | h2
  ·rw [h2, limbsN_zero]; simp
  ·rw [limbsN_pos h2]
   rcases Nat.eq_zero_or_pos (n / 1000000000 / 1000000000) with h3 | h3
   ·rw [h3, limbsN_zero]; simp
   ·rw [limbsN_pos h3]
    have : n / 1000000000 / 1000000000 / 1000000000 = 0 := by omega
    rw [this, limbsN_zero]; simp
set_option maxHeartbeats 1600000 in
theorem limbsOf_any (n : Nat) (w : World) (hn : n ≤ 10000000000000000000) :
  Calls Tryz.prog 39 #[.int .u64 n] w fun e w' => ∃ A c, e = .returned (.slice A (limbsN n).length c) ∧ Row .u32 w' w'.heap.size A c (limbsN n) ∧ Below w.heap.size w w' := by
 obtain ⟨i0, hi, hz0, hz1, hz2⟩ := info_parts info68
 have hlen := limbsN_len n (by omega)
 have HLEN := Lib.hid hlen
 clear hlen
 go_enter Tryz.func39, Tryz.ntmps39
 go_wp2
 go_loopw [0, 3] (fun wv lv wr => ∃ (m : Nat) (pre : List Nat), m ≤ n ∧ wv = .int .u64 m ∧ Own .u32 86 wr w.heap.size lv pre ∧ Hid (pre ++ limbsN m = limbsN n) ∧ Below w.heap.size w wr) (fun wv _ _ => (intOf wv).toNat)
 case atStart => exact ⟨n, [], Nat.le_refl _, rfl, Own.nil _ _ _ _, by show _ = _; simp, Below.refl _ _⟩
 case round =>
  obtain ⟨m, pre, hm, rfl, ho, hpre, hbw⟩ := hrel
  have hsz := hbw.size
  rcases Nat.eq_zero_or_pos m with rfl | hpos
  ·have hd : decide ((0 : Int) < ((0 : Nat) : Int)) = false := by simp
   have hp := hpre.out
   rw [limbsN_zero, List.append_nil] at hp
   obtain ⟨A, c, hv, hrow⟩ := ho.row
   subst hv
   have HR := Lib.hid hrow
   have HP := Lib.hid hp
   clear hp hrow ho hpre
   go_wp2
   go_ret
   have hpp := HP.out
   exact ⟨A, c, by rw [← hpp]; rfl, by rw [← hpp]; exact HR.out, hbw⟩
  ·have hpl : pre.length ≤ 100000000 := by
    have h1 := congrArg List.length hpre.out
    rw [List.length_append] at h1
    have := HLEN.out
    omega
   have HPL := Lib.hid hpl
   have HO := Lib.hid ho
   have hp0 : (0 : Int) < (m : Int) := by omega
   clear hpl ho
   go_wp2_with (at_builtin; refine wpList_append_num wr rfl (.tmp 8) (.tmp 12) 23 rfl .u32 w.heap.size 86 i0 4 Tryz.underlying23 hi hz0 hz1 hz2 (by omega) u3 _ (by rfl) HO.out _ (m % 1000000000) ?_ 1 rfl HPL.out ?_ ?_; (simp); (exact hsz); intro v2 w2 ho2 hb2)
   go_roundw
   case rel =>
    exact ⟨m / 1000000000, pre ++ [m % 1000000000], by omega, by simp, ho2.out, by show _ = _; rw [List.append_assoc]; rw [← hpre.out, limbsN_pos hpos]; rfl, hbw.trans hb2⟩
   case measure => simp [intOf]; omega
set_option maxHeartbeats 1600000
set_option maxRecDepth 20000
theorem wordOf_any (A : Option Addr) (c : Nat) (L : List Nat) (w : World) (hl : L.length ≤ 1000000) (hv : val9 L ≤ 10000000000000000000) (hR : Row .u32 w w.heap.size A c L) (hL : Lim L) :
  Calls Tryz.prog 52 #[.slice A L.length c] w fun e w' => e = .returned (.int .u64 (val9 L)) ∧ w = w' := by
 have hvd : ∀ k, val9 (L.drop k) ≤ 10000000000000000000 := fun k => by
  have h1 := valB_append 1000000000 (L.take k) (L.drop k)
  rw [List.take_append_drop] at h1
  have h2 : 1 * valB 1000000000 (L.drop k) ≤ 1000000000 ^ (L.take k).length * valB 1000000000 (L.drop k) := Nat.mul_le_mul_right _ (Nat.pow_pos (by omega))
  unfold val9 at *
  omega
 have HVD := Lib.hid hvd
 clear hvd hv
 generalize hn : L.length = n at *
 have HN := Lib.hid hn
 clear hn
 go_enter Tryz.func52, Tryz.ntmps52
 go_wp2
 go_loop [3, 4] (fun wv iv => ∃ (k v : Nat), k ≤ n ∧ iv = .int .i64 ((k : Int) - 1) ∧ wv = .int .u64 v ∧ Hid (v = val9 (L.drop k))) (fun _ iv => (intOf iv + 1).toNat)
 case atStart => exact ⟨n, 0, Nat.le_refl _, rfl, rfl, by show _ = _; rw [List.drop_of_length_le (by rw [HN.out]; exact Nat.le_refl _)]; rfl⟩
 case round =>
  obtain ⟨k, v, hk, rfl, rfl, ht⟩ := hrel
  rcases Nat.eq_zero_or_pos k with rfl | hpos
  ·have hd : decide ((0 : Int) ≤ ((0 : Nat) : Int) - 1) = false := by simp
   go_wp2
   go_ret
   have htt := ht.out
   rw [List.drop_zero] at htt
   exact ⟨by rw [htt]; rfl, rfl⟩
  ·obtain ⟨m, rfl⟩ : ∃ m, k = m + 1 := ⟨k - 1, by omega⟩
   have h1 : ((0 : Int) ≤ ((m + 1 : Nat) : Int) - 1) := by omega
   obtain ⟨b, o, rfl, _, hcell⟩ := hR.spot (by rw [HN.out]; omega)
   have hc := hcell m (by rw [HN.out]; omega)
   have hd := hL.nth m
   have hst := valB_drop 1000000000 L m (by rw [HN.out]; omega)
   have hbd := HVD.out m
   unfold val9 at hbd
   rw [hst] at hbd
   have htt := ht.out
   unfold val9 at htt
   rw [← htt] at hbd
   have e1 : ((m + 1 : Nat) : Int) - 1 = (m : Int) := by omega
   rw [e1]
   have HST := Lib.hid hst
   clear e1 h1 hcell hst htt
   go_wp2
   go_round
   case rel => exact ⟨m, v * 1000000000 + nth L m, by omega, rfl, by simp, by
    show _ = _
    have h9 := ht.out
    unfold val9 at h9 ⊢
    rw [HST.out, ← h9]; omega⟩
   case measure => simp [intOf]
theorem wrap_neg {n : Int} (h1 : -9223372036854775808 ≤ n) (h2 : n < 0) : IntKind.u64.wrap (-IntKind.u64.wrap n) = -n := by
 simp only [IntKind.wrap, IntKind.signed, IntKind.bits, Bool.false_and, Bool.false_eq_true, if_false]
 omega
theorem of_any (n : Int) (w : World) (h1 : -9223372036854775808 ≤ n) (h2 : n ≤ 9223372036854775807) :
  Calls Tryz.prog 16 #[.int .i64 n] w fun e w' => ∃ k A c, e = .returned (.agg #[.bool k, .slice A (limbsN n.natAbs).length c]) ∧ IntR w' w'.heap.size k A c (limbsN n.natAbs) ∧ zI k (limbsN n.natAbs) = n ∧ Below w.heap.size w w' := by
 have hLo : ∀ (x : Int), x = (n.natAbs : Int) → ∀ W, Calls Tryz.prog 39 #[.int .u64 x] W fun e w' => ∃ A c, e = .returned (.slice A (limbsN n.natAbs).length c) ∧ Row .u32 w' w'.heap.size A c (limbsN n.natAbs) ∧ Below W.heap.size W w' := by
  intro x hx W
  subst hx
  exact limbsOf_any n.natAbs W (by omega)
 have HLO := Lib.hid hLo
 clear hLo
 have hval := limbsN_val n.natAbs
 have hcan := limbsN_canon n.natAbs
 have hz0 : n.natAbs = 0 → (limbsN n.natAbs).length = 0 := fun h => by rw [h, limbsN_zero]; rfl
 have hzp : 0 < n.natAbs → 0 < (limbsN n.natAbs).length := fun h => by rw [limbsN_pos h]; simp
 by_cases hneg : n < 0
 ·have hn : (n.natAbs : Int) = -n := by omega
  go_enter Tryz.func16, Tryz.ntmps16
  go_wp2_with fail
  refine (HLO.out _ (by rw [hn]; exact wrap_neg h1 hneg) _).mono ?_
  rintro e w1 ⟨A, c, rfl, hr1, hb1⟩
  have X := boxed hb1
  have HB1 := Lib.hid X.2.2.2
  have hs1 := X.2.2.1
  clear X hb1
  have HN := Lib.hid hn
  have HZP := Lib.hid (hzp (by omega))
  have HV := Lib.hid hval
  have HCAN := Lib.hid hcan
  clear hn hz0 hzp hval hcan
  go_wp2_with fail
  refine (signed_any _ _ _ _ _).mono ?_
  rintro e w2 ⟨rfl, hb2⟩
  have HR2 := Lib.hid ((hr1.below hb2).more hb2.size)
  have hby := below_then HB1.out hb2 hs1
  have hy0 := (boxed2 hby).1
  have hy1 := (boxed2 hby).2
  have gy0 := boxedF hby 0
  have gy1 := boxedF hby 1
  have HBY := Lib.hid hby
  have hdt : (true && decide (0 < (limbsN n.natAbs).length)) = true := by simpa using HZP.out
  rw [hdt]
  clear hby hb2 hr1 hdt
  go_wp2_with fail
  have hbw : Below w.heap.size w w2 := (below_alloc_new _).trans (Below.less HBY.out (Nat.le_succ _))
  refine bodyPost_ret (v := .agg #[.bool true, .slice A (limbsN n.natAbs).length c]) (by simp [results, Tryz.results16, go_sem, hy0, hy1]) rfl
   ⟨_, _, _, rfl, ?_, ?_, (hbw.setCell (by simp) _).setCell (by simp) _⟩
  ·rw [setCell_size, setCell_size]
   exact ⟨HR2.out.box HBY.out (fun _ => by simp) (fun _ => by simp) _ _, HCAN.out, fun _ h => by have := HZP.out; rw [h] at this; simp at this⟩
  ·unfold zI
   rw [HV.out]
   have := HN.out
   simp only [if_true]
   omega
 ·have hn : (n.natAbs : Int) = n := by omega
  go_enter Tryz.func16, Tryz.ntmps16
  go_wp2_with fail
  refine (HLO.out _ hn.symm _).mono ?_
  rintro e w1 ⟨A, c, rfl, hr1, hb1⟩
  have X := boxed hb1
  have HB1 := Lib.hid X.2.2.2
  have hs1 := X.2.2.1
  clear X hb1
  have HN := Lib.hid hn
  have HV := Lib.hid hval
  have HCAN := Lib.hid hcan
  clear hn hz0 hzp hval hcan
  go_wp2_with fail
  refine (signed_any _ _ _ _ _).mono ?_
  rintro e w2 ⟨rfl, hb2⟩
  have HR2 := Lib.hid ((hr1.below hb2).more hb2.size)
  have hby := below_then HB1.out hb2 hs1
  have hy0 := (boxed2 hby).1
  have hy1 := (boxed2 hby).2
  have gy0 := boxedF hby 0
  have gy1 := boxedF hby 1
  have HBY := Lib.hid hby
  have hdt : (false && decide (0 < (limbsN n.natAbs).length)) = false := rfl
  rw [hdt]
  clear hby hb2 hr1 hdt
  go_wp2_with fail
  have hbw : Below w.heap.size w w2 := (below_alloc_new _).trans (Below.less HBY.out (Nat.le_succ _))
  refine bodyPost_ret (v := .agg #[.bool false, .slice A (limbsN n.natAbs).length c]) (by simp [results, Tryz.results16, go_sem, hy0, hy1]) rfl
   ⟨_, _, _, rfl, ?_, ?_, (hbw.setCell (by simp) _).setCell (by simp) _⟩
  ·rw [setCell_size, setCell_size]
   exact ⟨HR2.out.box HBY.out (fun _ => by simp) (fun _ => by simp) _ _, HCAN.out, fun h => absurd h Bool.false_ne_true⟩
  ·unfold zI
   rw [HV.out]
   simp only [Bool.false_eq_true, if_false]
   exact HN.out
set_option maxHeartbeats 6400000
set_option maxRecDepth 20000
def minI : Int := -9223372036854775808
def maxI : Int := 9223372036854775807
theorem of_min (w : World) : Calls Tryz.prog 16 #[.int .i64 (-9223372036854775808)] w fun e w' => ∃ k A c M, e = .returned (.agg #[.bool k, .slice A (List.length M) c]) ∧ IntR w' w'.heap.size k A c M ∧ zI k M = minI ∧ List.length M ≤ 3 ∧ Below w.heap.size w w' := by
 refine (of_any (-9223372036854775808) w (by omega) (by omega)).mono ?_
 rintro e w' ⟨k, A, c, h1, h2, h3, h4⟩
 exact ⟨k, A, c, _, h1, h2, h3, limbsN_len _ (by decide), h4⟩
theorem of_max (w : World) : Calls Tryz.prog 16 #[.int .i64 9223372036854775807] w fun e w' => ∃ k A c M, e = .returned (.agg #[.bool k, .slice A (List.length M) c]) ∧ IntR w' w'.heap.size k A c M ∧ zI k M = maxI ∧ List.length M ≤ 3 ∧ Below w.heap.size w w' := by
 refine (of_any 9223372036854775807 w (by omega) (by omega)).mono ?_
 rintro e w' ⟨k, A, c, h1, h2, h3, h4⟩
 exact ⟨k, A, c, _, h1, h2, h3, limbsN_len _ (by decide), h4⟩
theorem small_below (n : Bool) (A : Option Addr) (c : Nat) (L : List Nat) (w : World) (hl : L.length ≤ 100000) (hL : IntR w w.heap.size n A c L) (hz : zI n L < minI) :
  Calls Tryz.prog 29 #[.agg #[.bool n, .slice A L.length c]] w fun e w' => e = .returned (.tuple #[.int .i64 0, .bool false]) ∧ Below w.heap.size w w' := by
 have hC := fun (k : Bool) (A2 : Option Addr) (c2 : Nat) (M : List Nat) W (hM : zI k M = minI) (hml : M.length ≤ 3) (h1 : IntR W W.heap.size n A c L) (h2 : IntR W W.heap.size k A2 c2 M) =>
  (show Calls Tryz.prog 25 #[.agg #[.bool n, .slice A L.length c], .agg #[.bool k, .slice A2 M.length c2]] W fun e w' => e = .returned (.int .i64 (-1)) ∧ Below W.heap.size W w' from by
   have := cmp_any n k A A2 c c2 L M W (by omega) (by omega) h1 h2
   rw [hM, show cmpI (zI n L) minI = -1 by unfold cmpI; rw [if_pos hz]] at this
   exact this)
 have HC := Lib.hid hC
 clear hC hz
 generalize hl' : L.length = l at *
 have HLL := Lib.hid hl'
 clear hl'
 go_enter Tryz.func29, Tryz.ntmps29
 go_wp2
 go_region_with (first
  | (go_at_call 16; (with_reducible refine (of_min _).mono ?_); rintro e w1 ⟨k, A2, c2, M, rfl, hi, hzm, hml, hb1⟩; have X := boxed (below_undrew hb1); have hx0 := X.1; have hx1 := X.2.1; have HB1 := Lib.hid ((below_alloc_new _).trans (Below.less X.2.2.2 (Nat.le_succ _))); clear X hb1)
  | (go_at_call 25; (with_reducible refine (HC.out k A2 c2 M _ hzm hml (hL.up HB1.out) hi).mono ?_); rintro e w2 ⟨rfl, hb2⟩))
 all_goals
  go_wp2
  go_ret2
  exact ⟨rfl, HB1.out.trans (Below.less hb2 HB1.out.size)⟩
theorem wrap64_back {v : Int} (h1 : 0 ≤ v) (h2 : v ≤ 9223372036854775808) : wrap64 (IntKind.u64.wrap (-v)) = -v := by
 simp only [wrap64, IntKind.wrap, IntKind.signed, IntKind.bits, Bool.false_and, Bool.false_eq_true, if_false]
 omega
theorem tup_eq {a b : Int} {c : Bool} (h : a = b) : Ending.returned (.tuple #[.int .i64 a, .bool c]) = .returned (.tuple #[.int .i64 b, .bool c]) := by rw [h]
theorem small_above (n : Bool) (A : Option Addr) (c : Nat) (L : List Nat) (w : World) (hl : L.length ≤ 100000) (hL : IntR w w.heap.size n A c L) (hz : maxI < zI n L) :
  Calls Tryz.prog 29 #[.agg #[.bool n, .slice A L.length c]] w fun e w' => e = .returned (.tuple #[.int .i64 0, .bool false]) ∧ Below w.heap.size w w' := by
 have hmm : minI ≤ maxI := by decide
 have hCA := fun (k : Bool) (A2 : Option Addr) (c2 : Nat) (M : List Nat) W (hM : zI k M = minI) (hml : M.length ≤ 3) (h1 : IntR W W.heap.size n A c L) (h2 : IntR W W.heap.size k A2 c2 M) =>
  (show Calls Tryz.prog 25 #[.agg #[.bool n, .slice A L.length c], .agg #[.bool k, .slice A2 M.length c2]] W fun e w' => e = .returned (.int .i64 (cmpI (zI n L) minI)) ∧ Below W.heap.size W w' from by
   have := cmp_any n k A A2 c c2 L M W (by omega) (by omega) h1 h2
   rw [hM] at this
   exact this)
 have hCB := fun (k : Bool) (A2 : Option Addr) (c2 : Nat) (M : List Nat) W (hM : zI k M = maxI) (hml : M.length ≤ 3) (h1 : IntR W W.heap.size n A c L) (h2 : IntR W W.heap.size k A2 c2 M) =>
  (show Calls Tryz.prog 25 #[.agg #[.bool n, .slice A L.length c], .agg #[.bool k, .slice A2 M.length c2]] W fun e w' => e = .returned (.int .i64 (cmpI (zI n L) maxI)) ∧ Below W.heap.size W w' from by
   have := cmp_any n k A A2 c c2 L M W (by omega) (by omega) h1 h2
   rw [hM] at this
   exact this)
 have hqa : cmpI (zI n L) minI = 0 ∨ cmpI (zI n L) minI = 1 := by unfold cmpI; rw [if_neg (by omega)]; split <;> simp
 have hqb : cmpI (zI n L) maxI = 1 := by unfold cmpI; rw [if_neg (by omega), if_neg (by omega)]
 rcases hqa with e | e
 all_goals
  rw [e] at hCA
  rw [hqb] at hCB
  have HCA := Lib.hid hCA
  have HCB := Lib.hid hCB
  clear hCA hCB e hqb hz hmm
  generalize hl' : L.length = l at *
  have HLL := Lib.hid hl'
  clear hl'
  have Y := boxed (w := w) (x := .bool n) (y := .slice A l c) (t := 25) (Below.refl _ _)
  have hy0 := Y.1
  have hy1 := Y.2.1
  clear Y
  have HC := Lib.hid (below_drew (Below.refl (w.heap.size + 1) (w.alloc (.cells #[.bool n, .slice A l c] 25))))
  have hf0 := hy0
  have hf1 := hy1
  go_enter Tryz.func29, Tryz.ntmps29
  go_wp2
  go_region_held3 (fun w' => w'.cell? ⟨w.heap.size, 0, none⟩ = some (.bool n) ∧ w'.cell? ⟨w.heap.size, 1, none⟩ = some (.slice A l c)) (go_keep)
   (first
    | (go_at_call 16; (first | ((with_reducible refine (of_min _).mono ?_); rintro e w4 ⟨k, A2, c2, M, rfl, hi, hzm, hml, hb4⟩) | ((with_reducible refine (of_max _).mono ?_); rintro e w4 ⟨k, A2, c2, M, rfl, hi, hzm, hml, hb4⟩)); have HZM := Lib.hid hzm; have HI := Lib.hid hi; clear hzm hi; have HC9 := Lib.hid (below_then HC.out hb4 (below_sz HC.out)); clear HC hf0 hf1; have HC := HC9; clear HC9 hb4; have hf0 := (below_atB (i := 0) HC.out (Nat.lt_succ_self _)).trans hy0; have hf1 := (below_atB (i := 1) HC.out (Nat.lt_succ_self _)).trans hy1)
    | (go_at_call 25; (first | (with_reducible refine (HCA.out k A2 c2 M _ HZM.out hml (hL.up (up4 HC.out)) HI.out).mono ?_) | (with_reducible refine (HCB.out k A2 c2 M _ HZM.out hml (hL.up (up4 HC.out)) HI.out).mono ?_)); rintro e w4 ⟨rfl, hb4⟩; have HC9 := Lib.hid (below_then HC.out hb4 (below_sz HC.out)); clear HC hf0 hf1; have HC := HC9; clear HC9 hb4; have hf0 := (below_atB (i := 0) HC.out (Nat.lt_succ_self _)).trans hy0; have hf1 := (below_atB (i := 1) HC.out (Nat.lt_succ_self _)).trans hy1))
  all_goals
   go_wp2
   go_ret2
   exact ⟨rfl, up4 HC.out⟩
theorem small_in_neg (A : Option Addr) (c : Nat) (L : List Nat) (w : World) (hl : L.length ≤ 100000) (hL : IntR w w.heap.size true A c L) (hz1 : minI ≤ zI true L) (hz2 : zI true L ≤ maxI) :
  Calls Tryz.prog 29 #[.agg #[.bool true, .slice A L.length c]] w fun e w' => e = .returned (.tuple #[.int .i64 (zI true L), .bool true]) ∧ Below w.heap.size w w' := by
 have hvb : (val9 L : Int) ≤ 9223372036854775808 ∧ (true = false → (val9 L : Int) ≤ 9223372036854775807) := by
  unfold zI minI maxI at *
  simp at hz1 hz2 ⊢
  omega
 have hW := fun W (h1 : Row .u32 W W.heap.size A c L) => wordOf_any A c L W (by omega) (by omega) h1 hL.canon.lim
 have HW := Lib.hid hW
 clear hW
 have HVB := Lib.hid hvb
 clear hvb
 have hCA := fun (k : Bool) (A2 : Option Addr) (c2 : Nat) (M : List Nat) W (hM : zI k M = minI) (hml : M.length ≤ 3) (h1 : IntR W W.heap.size true A c L) (h2 : IntR W W.heap.size k A2 c2 M) =>
  (show Calls Tryz.prog 25 #[.agg #[.bool true, .slice A L.length c], .agg #[.bool k, .slice A2 M.length c2]] W fun e w' => e = .returned (.int .i64 (cmpI (zI true L) minI)) ∧ Below W.heap.size W w' from by
   have := cmp_any true k A A2 c c2 L M W (by omega) (by omega) h1 h2
   rw [hM] at this
   exact this)
 have hCB := fun (k : Bool) (A2 : Option Addr) (c2 : Nat) (M : List Nat) W (hM : zI k M = maxI) (hml : M.length ≤ 3) (h1 : IntR W W.heap.size true A c L) (h2 : IntR W W.heap.size k A2 c2 M) =>
  (show Calls Tryz.prog 25 #[.agg #[.bool true, .slice A L.length c], .agg #[.bool k, .slice A2 M.length c2]] W fun e w' => e = .returned (.int .i64 (cmpI (zI true L) maxI)) ∧ Below W.heap.size W w' from by
   have := cmp_any true k A A2 c c2 L M W (by omega) (by omega) h1 h2
   rw [hM] at this
   exact this)
 have hqa : cmpI (zI true L) minI = 0 ∨ cmpI (zI true L) minI = 1 := by unfold cmpI; rw [if_neg (by omega)]; split <;> simp
 have hqb : cmpI (zI true L) maxI = -1 ∨ cmpI (zI true L) maxI = 0 := by
  unfold cmpI
  by_cases h : zI true L < maxI
  ·rw [if_pos h]; simp
  ·rw [if_neg h, if_pos (by omega)]; simp
 rcases hqa with e | e <;> rcases hqb with e2 | e2
 all_goals
  rw [e] at hCA
  rw [e2] at hCB
  have HCA := Lib.hid hCA
  have HCB := Lib.hid hCB
  clear hCA hCB e e2 hz1 hz2
  generalize hl' : L.length = l at *
  have HLL := Lib.hid hl'
  clear hl'
  have Y := boxed (w := w) (x := .bool true) (y := .slice A l c) (t := 25) (Below.refl _ _)
  have hy0 := Y.1
  have hy1 := Y.2.1
  clear Y
  have HC := Lib.hid (below_drew (Below.refl (w.heap.size + 1) (w.alloc (.cells #[.bool true, .slice A l c] 25))))
  have hf0 := hy0
  have hf1 := hy1
  go_enter Tryz.func29, Tryz.ntmps29
  go_wp2
  go_region_held3 (fun w' => w'.cell? ⟨w.heap.size, 0, none⟩ = some (.bool true) ∧ w'.cell? ⟨w.heap.size, 1, none⟩ = some (.slice A l c)) (go_keep)
   (first
    | (go_at_call 16; (first | ((with_reducible refine (of_min _).mono ?_); rintro e w4 ⟨k, A2, c2, M, rfl, hi, hzm, hml, hb4⟩) | ((with_reducible refine (of_max _).mono ?_); rintro e w4 ⟨k, A2, c2, M, rfl, hi, hzm, hml, hb4⟩)); have HZM := Lib.hid hzm; have HI := Lib.hid hi; clear hzm hi; have HC9 := Lib.hid (below_then HC.out hb4 (below_sz HC.out)); clear HC hf0 hf1; have HC := HC9; clear HC9 hb4; have hf0 := (below_atB (i := 0) HC.out (Nat.lt_succ_self _)).trans hy0; have hf1 := (below_atB (i := 1) HC.out (Nat.lt_succ_self _)).trans hy1)
    | (go_at_call 25; (first | (with_reducible refine (HCA.out k A2 c2 M _ HZM.out hml (hL.up (up4 HC.out)) HI.out).mono ?_) | (with_reducible refine (HCB.out k A2 c2 M _ HZM.out hml (hL.up (up4 HC.out)) HI.out).mono ?_)); rintro e w4 ⟨rfl, hb4⟩; have HC9 := Lib.hid (below_then HC.out hb4 (below_sz HC.out)); clear HC hf0 hf1; have HC := HC9; clear HC9 hb4; have hf0 := (below_atB (i := 0) HC.out (Nat.lt_succ_self _)).trans hy0; have hf1 := (below_atB (i := 1) HC.out (Nat.lt_succ_self _)).trans hy1))
  all_goals
   go_wp2_with fail
  all_goals
   refine (HW.out _ (hL.row.up (up4 HC.out))).mono ?_
   rintro e w5 ⟨rfl, rfl⟩
   have hv := HVB.out
   have hv0 : (0 : Int) ≤ (val9 L : Int) := by omega
   go_wp2_with fail
   go_ret2
   exact ⟨tup_eq (wrap64_back hv0 hv.1), up4 HC.out⟩
theorem small_in_pos (A : Option Addr) (c : Nat) (L : List Nat) (w : World) (hl : L.length ≤ 100000) (hL : IntR w w.heap.size false A c L) (hz1 : minI ≤ zI false L) (hz2 : zI false L ≤ maxI) :
  Calls Tryz.prog 29 #[.agg #[.bool false, .slice A L.length c]] w fun e w' => e = .returned (.tuple #[.int .i64 (zI false L), .bool true]) ∧ Below w.heap.size w w' := by
 have hvb : (val9 L : Int) ≤ 9223372036854775808 ∧ (false = false → (val9 L : Int) ≤ 9223372036854775807) := by
  unfold zI minI maxI at *
  simp at hz1 hz2 ⊢
  omega
 have hW := fun W (h1 : Row .u32 W W.heap.size A c L) => wordOf_any A c L W (by omega) (by omega) h1 hL.canon.lim
 have HW := Lib.hid hW
 clear hW
 have HVB := Lib.hid hvb
 clear hvb
 have hCA := fun (k : Bool) (A2 : Option Addr) (c2 : Nat) (M : List Nat) W (hM : zI k M = minI) (hml : M.length ≤ 3) (h1 : IntR W W.heap.size false A c L) (h2 : IntR W W.heap.size k A2 c2 M) =>
  (show Calls Tryz.prog 25 #[.agg #[.bool false, .slice A L.length c], .agg #[.bool k, .slice A2 M.length c2]] W fun e w' => e = .returned (.int .i64 (cmpI (zI false L) minI)) ∧ Below W.heap.size W w' from by
   have := cmp_any false k A A2 c c2 L M W (by omega) (by omega) h1 h2
   rw [hM] at this
   exact this)
 have hCB := fun (k : Bool) (A2 : Option Addr) (c2 : Nat) (M : List Nat) W (hM : zI k M = maxI) (hml : M.length ≤ 3) (h1 : IntR W W.heap.size false A c L) (h2 : IntR W W.heap.size k A2 c2 M) =>
  (show Calls Tryz.prog 25 #[.agg #[.bool false, .slice A L.length c], .agg #[.bool k, .slice A2 M.length c2]] W fun e w' => e = .returned (.int .i64 (cmpI (zI false L) maxI)) ∧ Below W.heap.size W w' from by
   have := cmp_any false k A A2 c c2 L M W (by omega) (by omega) h1 h2
   rw [hM] at this
   exact this)
 have hqa : cmpI (zI false L) minI = 0 ∨ cmpI (zI false L) minI = 1 := by unfold cmpI; rw [if_neg (by omega)]; split <;> simp
 have hqb : cmpI (zI false L) maxI = -1 ∨ cmpI (zI false L) maxI = 0 := by
  unfold cmpI
  by_cases h : zI false L < maxI
  ·rw [if_pos h]; simp
  ·rw [if_neg h, if_pos (by omega)]; simp
 rcases hqa with e | e <;> rcases hqb with e2 | e2
 all_goals
  rw [e] at hCA
  rw [e2] at hCB
  have HCA := Lib.hid hCA
  have HCB := Lib.hid hCB
  clear hCA hCB e e2 hz1 hz2
  generalize hl' : L.length = l at *
  have HLL := Lib.hid hl'
  clear hl'
  have Y := boxed (w := w) (x := .bool false) (y := .slice A l c) (t := 25) (Below.refl _ _)
  have hy0 := Y.1
  have hy1 := Y.2.1
  clear Y
  have HC := Lib.hid (below_drew (Below.refl (w.heap.size + 1) (w.alloc (.cells #[.bool false, .slice A l c] 25))))
  have hf0 := hy0
  have hf1 := hy1
  go_enter Tryz.func29, Tryz.ntmps29
  go_wp2
  go_region_held3 (fun w' => w'.cell? ⟨w.heap.size, 0, none⟩ = some (.bool false) ∧ w'.cell? ⟨w.heap.size, 1, none⟩ = some (.slice A l c)) (go_keep)
   (first
    | (go_at_call 16; (first | ((with_reducible refine (of_min _).mono ?_); rintro e w4 ⟨k, A2, c2, M, rfl, hi, hzm, hml, hb4⟩) | ((with_reducible refine (of_max _).mono ?_); rintro e w4 ⟨k, A2, c2, M, rfl, hi, hzm, hml, hb4⟩)); have HZM := Lib.hid hzm; have HI := Lib.hid hi; clear hzm hi; have HC9 := Lib.hid (below_then HC.out hb4 (below_sz HC.out)); clear HC hf0 hf1; have HC := HC9; clear HC9 hb4; have hf0 := (below_atB (i := 0) HC.out (Nat.lt_succ_self _)).trans hy0; have hf1 := (below_atB (i := 1) HC.out (Nat.lt_succ_self _)).trans hy1)
    | (go_at_call 25; (first | (with_reducible refine (HCA.out k A2 c2 M _ HZM.out hml (hL.up (up4 HC.out)) HI.out).mono ?_) | (with_reducible refine (HCB.out k A2 c2 M _ HZM.out hml (hL.up (up4 HC.out)) HI.out).mono ?_)); rintro e w4 ⟨rfl, hb4⟩; have HC9 := Lib.hid (below_then HC.out hb4 (below_sz HC.out)); clear HC hf0 hf1; have HC := HC9; clear HC9 hb4; have hf0 := (below_atB (i := 0) HC.out (Nat.lt_succ_self _)).trans hy0; have hf1 := (below_atB (i := 1) HC.out (Nat.lt_succ_self _)).trans hy1))
  all_goals
   go_wp2_with fail
  all_goals
   refine (HW.out _ (hL.row.up (up4 HC.out))).mono ?_
   rintro e w5 ⟨rfl, rfl⟩
   have hv := HVB.out
   have hv0 : (0 : Int) ≤ (val9 L : Int) := by omega
   go_wp2_with fail
   go_ret2
   exact ⟨tup_eq (IntWalk.wrap64_in _ ⟨by omega, by have := hv.2 trivial; omega⟩), up4 HC.out⟩
set_option maxHeartbeats 3200000
set_option maxRecDepth 20000
theorem rof_fact {n : Int} {w : World} (h1 : -9223372036854775808 ≤ n) (h2 : n ≤ 9223372036854775807) :
  Calls Tryz.prog 69 #[.int .i64 n] w fun e w' => ∃ v, e = .returned v ∧ PRef n 5 v w' ∧ Below w.heap.size w w' := by
 refine (rof_any n w h1 h2).mono ?_
 rintro e w' ⟨k, A, c, R, rfl, hr, hz, hl, hb⟩
 exact ⟨_, rfl, ⟨k, A, c, R, rfl, hr, hz, hl⟩, hb⟩
def inR (z : Int) : Prop := minI ≤ z ∧ z ≤ maxI
def smB (z : Int) : Bool := decide (-9223372036854775808 ≤ z) && decide (z ≤ 9223372036854775807)
def smN (z : Int) : Int := if smB z then z else 0
theorem smB_in {z : Int} (h : inR z) : smB z = true := by unfold inR minI maxI at h; unfold smB; simp; omega
theorem smB_out {z : Int} (h : ¬ inR z) : smB z = false := by unfold inR minI maxI at h; unfold smB; simp; omega
theorem small_fact {z : Int} {n : Nat} {a : Value} {w : World} (h1 : PInt z n a w) (hn : n ≤ 100000) :
  Calls Tryz.prog 29 #[a] w fun e w' => e = .returned (.tuple #[.int .i64 (smN z), .bool (smB z)]) ∧ Below w.heap.size w w' := by
 obtain ⟨k, A, c, L, rfl, i1, rfl, l1⟩ := h1
 unfold smN
 by_cases h : inR (zI k L)
 ·rw [smB_in h, if_pos rfl]
  cases k
  ·exact small_in_pos A c L w (by omega) i1 h.1 h.2
  ·exact small_in_neg A c L w (by omega) i1 h.1 h.2
 ·rw [smB_out h, if_neg (by simp)]
  unfold inR at h
  by_cases h2 : zI k L < minI
  ·exact small_below k A c L w (by omega) i1 h2
  ·exact small_above k A c L w (by omega) i1 (by omega)
end Go.Proofs.YtodapfhnbgoanaaGreatDoor
