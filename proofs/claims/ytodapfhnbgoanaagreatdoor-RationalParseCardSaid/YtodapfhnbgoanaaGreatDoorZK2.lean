/- Contracts of the functions that the statements reach, part 2: what was proved of each, callees first. -/
import Derived.Lib.OthersKept
import Derived.Deep.RegionHeld3
import Derived.Lib.AppendIntMem
import Derived.Lib.ItoaLen
import Derived.Shelf.Strings.SlTrimAscii
import Derived.Lib.AtoiErrMem
import Derived.Lib.AtoiAll
import Derived.Lib.AtoiAllCases
import Derived.Lib.IndexMore
import Derived.Lib.IndexAny
import Derived.LoopTactic
import Derived.Laws.BytesString
import Derived.Laws.Cells
import Derived.WideShapes
import Derived.WalkLawsBesides
import Derived.Lib.IndexBytes
import Derived.Test.YtodapfhnbgoanaaGreatDoorZK1
namespace Go.Proofs.YtodapfhnbgoanaaGreatDoor
open Go.RowKit
theorem Blk.iterAt {k : IntKind} {t : TypeId} {w : World} {g : Nat} {L : List Nat} (h : Blk k t w g L) {K : Nat} (hK : g ≠ K) (s : ByteArray) (p : Nat) : Blk k t (w.iterAt K s p) g L := (Lib.iterAt_other w K g s p hK).trans h
theorem iterPos_of {w : World} {K p : Nat} {s : ByteArray} (h : w.heap[K]? = some (.stringIter s p)) : w.iterPos K = p := by unfold World.iterPos; rw [h]
set_option maxHeartbeats 1600000 in
theorem readDigits_any (s : ByteArray) (w : World) (hs : 0 < s.size) (hs2 : s.size ≤ 100000) (hd : ∀ c ∈ s.data.toList, isDig c = true) :
  Calls Tryz.prog 38 #[.string s] w fun e w' => ∃ A c L, e = .returned (.slice A L.length c) ∧ Row .u32 w' w'.heap.size A c L ∧ Canon L ∧ valB 1000000000 L = numOf s.data.toList ∧ L.length ≤ (s.size + 8) / 9 ∧ Below w.heap.size w w' := by
 obtain ⟨i0, hi, hz0, hz1, hz2⟩ := info_parts info68
 have hlen : s.data.toList.length = s.size := by simp
 have hinv := fun i h => rd_inv (s := s.data.toList) hd i h
 have hget : ∀ i (h : i < s.size), ((s[i]'h).toNat - 48 = digAt s.data.toList i) ∧ 48 ≤ (s[i]'h).toNat ∧ (s[i]'h).toNat ≤ 57 := fun i h => by
  have e := toList_get s i h
  have h1 := isDig_iff.1 (hd _ (List.getElem_mem (by simpa using h : i < s.data.toList.length)))
  rw [e] at h1
  refine ⟨?_, h1⟩
  simp only [digAt, List.getD_eq_getElem?_getD, List.getElem?_eq_getElem (by simpa using h : i < s.data.toList.length), Option.getD_some]
  rw [e]
 generalize hS : s.data.toList = S at *
 rw [hlen] at hinv
 have HINV := Lib.hid hinv
 have HLEN := Lib.hid hlen
 have HGET := Lib.hid hget
 clear hlen hinv hget hS hd
 go_enter Tryz.func38, Tryz.ntmps38
 go_wp2_with (refine wpList_make_zeros _ rfl (.tmp 11) (.tmp 11) 23 rfl 86 .u32 i0 4 Tryz.underlying23 hi hz0 hz1 hz2 .i64 .i64 _ _ ((s.size + 8) / 9) rfl rfl ?_ ?_ ?_ ?_ ?_; (omega); (omega); (omega); (omega); intro w1 hb1 hB1 hs1)
 have hsz := Lib.hid hs1
 clear hs1
 generalize hM0 : List.replicate ((s.size + 8) / 9) 0 = M0 at *
 have HM0 := Lib.hid hM0
 clear hM0
 go_loopw [] (fun wr => ∃ k : Nat, k ≤ s.size ∧ Hid (wr.heap[w1.heap.size]? = some (.stringIter s k)) ∧ Hid (Blk .u32 86 wr w.heap.size (rdSt S M0 k)) ∧ Below w.heap.size w wr) (fun wr => s.size - wr.iterPos w1.heap.size)
 case atStart =>
  refine ⟨0, Nat.zero_le _, World.iter_heap _ _ _, ?_, hB1.trans ((Below.refl _ _).alloc hB1.size _)⟩
  exact Blk.alloc hb1.out _
 case round =>
  obtain ⟨k, hk, hit, hb, hbw⟩ := hrel
  have hKg : w.heap.size ≠ w1.heap.size := by have := hsz.out; omega
  have HI := HINV.out k hk
  by_cases hlt : k < s.size
  ·obtain ⟨g1, g2, g3⟩ := HGET.out k hlt
   have hroom := rd_room HI rfl hlt
   have hnx := fun ty => Lib.run_next_ascii_at (P := Tryz.prog) wr w1.heap.size s k ty hit.out hlt (by omega)
   have hb' := hb.out.iterAt hKg s (k + 1)
   have hst := rdSt_succ S M0 k
   rw [HLEN.out, ← g1] at hst
   have HST := Lib.hid hst
   have hlenM := HI.len
   clear HI
   generalize rdSt S M0 k = M at *
   obtain ⟨r1, r2⟩ := hroom
   have hc := hb'.cell ((s.size - 1 - k) / 9) (by omega)
   have hfr := hb'.frozen ((s.size - 1 - k) / 9)
   have hi1 : (((s.size : Int) - 1 - (k : Int)) / 9) = (((s.size - 1 - k) / 9 : Nat) : Int) := by omega
   have G1 := Lib.hid g1
   clear g1 hlenM hst
   go_wp2
   have hit2 : ((wr.iterAt w1.heap.size s (k + 1)).setCell ⟨w.heap.size, (s.size - 1 - k) / 9, none⟩ (.int .u32 ((nth M ((s.size - 1 - k) / 9) : Int) * 10 + (((s[k]'hlt).toNat : Int) - 48)))).heap[w1.heap.size]? = some (.stringIter s (k + 1)) :=
    (Below.heap_setCell _ _ _ _ (by show w1.heap.size ≠ w.heap.size; omega)).trans (Lib.iterAt_heap wr w1.heap.size s k (k + 1) hit.out)
   go_roundw
   case rel =>
    refine ⟨k + 1, by omega, hit2, ?_, ?_⟩
    ·show Blk _ _ _ _ _
     rw [HST.out]
     exact hb'.setI _ (by omega)
    ·exact (Lib.below_iterAt hbw (by have := hsz.out; omega) s (k + 1)).setCell (by simp) _
   case measure =>
    rw [iterPos_of hit2, iterPos_of hit.out]; omega
  ·obtain rfl : k = s.size := by omega
   have hnx := fun ty => Lib.run_next_end_at (P := Tryz.prog) wr w1.heap.size s s.size ty hit.out hlt
   have hlenM := HI.len
   have hv := rd_end HI (by omega)
   have hlim := HI.lim
   rw [List.take_of_length_le (by rw [HLEN.out]; exact Nat.le_refl _)] at hv
   have hbb := hb.out
   have hT := trim_any (some ⟨w.heap.size, 0, none⟩) ((s.size + 8) / 9) w.heap.size 0 (rdSt S M0 s.size) wr (by omega) (by omega) (fun _ => rfl) hbb.cells
   rw [hlenM] at hT
   have hw := hbb.lt
   have HTT := Lib.hid hT
   have HB := Lib.hid hbb
   have HL := Lib.hid hlenM
   have HV := Lib.hid hv
   clear hT hbb hlenM hv hit hb HI
   generalize rdSt S M0 s.size = M at *
   go_wp2_with fail
   refine HTT.out.mono ?_
   rintro e w4 ⟨rfl, rfl⟩
   go_wp2_with fail
   go_ret
   have htl := trimN_le M ((s.size + 8) / 9)
   have el : (M.take (trimN M ((s.size + 8) / 9))).length = trimN M ((s.size + 8) / 9) := by rw [List.length_take, HL.out]; omega
   refine ⟨some ⟨w.heap.size, 0, none⟩, (s.size + 8) / 9, M.take (trimN M ((s.size + 8) / 9)), ?_, ?_, ⟨hlim.take _, ?_⟩, ?_, ?_, hbw⟩
   ·rw [el]; rfl
   ·exact (Row.ofBlk HB.out hw (by rw [HL.out]; exact Nat.le_refl _)).take _
   ·rw [el]; intro h; rw [nth_take (by omega)]; exact trimN_top _ _ h
   ·rw [trimN_val _ _ _ (by rw [HL.out]; exact Nat.le_refl _), List.take_of_length_le (by rw [HL.out]; exact Nat.le_refl _)]; exact HV.out
   ·rw [el]; exact htl
set_option maxHeartbeats 400000 in
theorem signed_any (neg : Bool) (A : Option Addr) (c n : Nat) (w : World) :
  Calls Tryz.prog 37 #[.bool neg, .slice A n c] w fun e w' => e = .returned (.agg #[.bool (neg && decide (0 < n)), .slice A n c]) ∧ Below w.heap.size w w' := by
 rcases Nat.eq_zero_or_pos n with rfl | hn
 ·have hd : decide ((0 : Int) < ((0 : Nat) : Int)) = false := by simp
  cases neg
  ·go_enter Tryz.func37, Tryz.ntmps37
   go_wp2
   exact bodyPost_ret (v := .agg #[.bool false, .slice A 0 c]) (by simp [results, Tryz.results37, go_sem]) rfl ⟨rfl, ((Below.refl _ _).alloc (Nat.le_refl _) _)⟩
  ·go_enter Tryz.func37, Tryz.ntmps37
   go_wp2
   exact bodyPost_ret (v := .agg #[.bool false, .slice A 0 c]) (by simp [results, Tryz.results37, go_sem]) rfl ⟨rfl, ((Below.refl _ _).alloc (Nat.le_refl _) _)⟩
 ·have hd : decide ((0 : Int) < (n : Int)) = true := by simp; omega
  cases neg
  ·go_enter Tryz.func37, Tryz.ntmps37
   go_wp2
   exact bodyPost_ret (v := .agg #[.bool false, .slice A n c]) (by simp [results, Tryz.results37, go_sem]) rfl ⟨rfl, ((Below.refl _ _).alloc (Nat.le_refl _) _)⟩
  ·go_enter Tryz.func37, Tryz.ntmps37
   go_wp2
   exact bodyPost_ret (v := .agg #[.bool true, .slice A n c]) (by simp [results, Tryz.results37, go_sem]) rfl ⟨by simp [hn], ((Below.refl _ _).alloc (Nat.le_refl _) _)⟩
set_option maxHeartbeats 1600000
set_option maxRecDepth 20000
def restOf (l : List UInt8) : List UInt8 := Lib.trimPrefix l [45]
def negOf (l : List UInt8) : Bool := Lib.hasPrefix l [45]
def badNum (l : List UInt8) : Bool := !okNum (restOf l) || (negOf l && restOf l == [48])
theorem restOf_le (l : List UInt8) : (restOf l).length ≤ l.length := by
 unfold restOf Lib.trimPrefix
 split <;> simp
def errOf (l : List UInt8) : Int := if badNum l then 3 else if 2000 < (restOf l).length then 6 else 0
structure IntR (w : World) (B : Nat) (neg : Bool) (A : Option Addr) (c : Nat) (L : List Nat) : Prop where
 row : Row .u32 w B A c L
 canon : Canon L
 sgn : neg = true → L ≠ []
theorem IntR.zero (w : World) (B : Nat) (A : Option Addr) (c : Nat) : IntR w B false A c [] := ⟨Row.nil _ _ _ _ _, ⟨fun _ h => absurd h (List.not_mem_nil), fun h => absurd h (Nat.lt_irrefl 0)⟩, fun h => absurd h Bool.false_ne_true⟩
theorem IntR.below {w w' : World} {B : Nat} {neg : Bool} {A : Option Addr} {c : Nat} {L : List Nat} (h : IntR w B neg A c L) (hb : Below B w w') : IntR w' B neg A c L := ⟨h.row.below hb, h.canon, h.sgn⟩
theorem Row.box {k : IntKind} {w w1 : World} {B : Nat} {A : Option Addr} {c : Nat} {L : List Nat} {x y : Value} {t : TypeId} (h : Row k w1 B A c L) (hb : Below (w.heap.size + 1) (w.alloc (.cells #[x, y] t)) w1)
  (hx : ∀ n, x ≠ .int k n) (hy : ∀ n, y ≠ .int k n) (u v : Value) : Row k ((w1.setCell ⟨w.heap.size, 0, none⟩ u).setCell ⟨w.heap.size, 1, none⟩ v) B A c L := by
 refine ⟨h.len, fun hp => ?_⟩
 obtain ⟨b, o, e, hbB, hc⟩ := h.spot hp
 have hne : b ≠ w.heap.size := by
  rintro rfl
  have h0 := hc 0 hp
  rw [hb.cell (by show w.heap.size < _; omega)] at h0
  unfold World.cell? at h0
  dsimp only at h0
  rw [heap_alloc_new] at h0
  match o, h0 with
  | 0, h0 => exact hx _ (Option.some.inj h0)
  | 1, h0 => exact hy _ (Option.some.inj h0)
  | o + 2, h0 => simp at h0
 refine ⟨b, o, e, hbB, hc.keep fun j => ?_⟩
 rw [World.cell?_setCell_other _ _ _ _ (fun e => hne (congrArg Addr.block e).symm), World.cell?_setCell_other _ _ _ _ (fun e => hne (congrArg Addr.block e).symm)]
theorem setCell_size (w : World) (p : Addr) (u : Value) : (w.setCell p u).heap.size = w.heap.size := by simp [World.setCell]
theorem parse_bad (s : ByteArray) (w : World) (hs : s.size ≤ 1000000) (hbad : badNum s.data.toList = true) :
  Calls Tryz.prog 15 #[.string s] w fun e w' => e = .returned (.tuple #[.agg #[.bool false, .slice none 0 0], .int .i64 3]) ∧ Below w.heap.size w w' := by
 have hcp := fun W => Tryz.strings_CutPrefix s ⟨#[45]⟩ W
 have HCP := Lib.hid hcp
 clear hcp
 go_enter Tryz.func15, Tryz.ntmps15
 go_wp2_with fail
 refine (HCP.out _).mono ?_
 rintro e w1 ⟨rfl, rfl⟩
 go_wp2_with fail
 have hD : (⟨(Lib.trimPrefix s.data.toList (#[45] : Array UInt8).toList).toArray⟩ : ByteArray).data.toList = restOf s.data.toList := rfl
 generalize (⟨(Lib.trimPrefix s.data.toList (#[45] : Array UInt8).toList).toArray⟩ : ByteArray) = D at *
 have hDs : D.size ≤ 1000000 := by
  have h1 : D.size = (restOf s.data.toList).length := by rw [← hD]; simp
  have h2 := restOf_le s.data.toList
  have h3 : s.data.toList.length = s.size := by simp
  omega
 have HN := Lib.hid (isNumber_any D (w.alloc (Obj.cells #[Value.bool false, Value.slice none 0 0] 25)) hDs)
 have HX : badNum s.data.toList = (!okNum D.data.toList || (Lib.hasPrefix s.data.toList [45] && D.data.toList == [48])) := by rw [hD]; rfl
 rw [hbad] at HX
 clear hD
 refine HN.out.mono ?_
 rintro e w2 ⟨rfl, hb2⟩
 have X := boxed hb2
 have hx0 := X.1
 have hx1 := X.2.1
 have hs2 := X.2.2.1
 have hbx := X.2.2.2
 have hf0 := hb2.frozen (p := ⟨w.heap.size, 0, none⟩) (by simp)
 have hf1 := hb2.frozen (p := ⟨w.heap.size, 1, none⟩) (by simp)
 have hfw : ∀ i, (w.alloc (Obj.cells #[Value.bool false, Value.slice none 0 0] 25)).frozen? ⟨w.heap.size, i, none⟩ = false := fun i => by unfold World.frozen?; dsimp only; rw [heap_alloc_new]; simp
 rw [hfw] at hf0 hf1
 have hbw : Below w.heap.size w w2 := (below_alloc_new _).trans (Below.less hbx (Nat.le_succ _))
 clear X hb2 hbx hfw
 by_cases hok : okNum D.data.toList = false
 ·clear HX
  go_wp2
  exact bodyPost_ret (v := .tuple #[.agg #[.bool false, .slice none 0 0], .int .i64 3]) (by simp [results, Tryz.results15, go_sem, hx0, hx1]) rfl ⟨rfl, (hbw.setCell (by simp) _).setCell (by simp) _⟩
 ·simp only [Bool.not_eq_false] at hok
  rw [hok] at HX
  have hneg : Lib.hasPrefix s.data.toList [45] = true := by
   revert HX; cases Lib.hasPrefix s.data.toList [45] <;> simp
  have h48 : (D.toList == [48]) = true := by
   rw [ByteArray.toList_eq]; revert HX; rw [hneg]; simp
  clear HX
  go_wp2
  exact bodyPost_ret (v := .tuple #[.agg #[.bool false, .slice none 0 0], .int .i64 3]) (by simp [results, Tryz.results15, go_sem, hx0, hx1]) rfl ⟨rfl, (hbw.setCell (by simp) _).setCell (by simp) _⟩
theorem parse_long (s : ByteArray) (w : World) (hs : s.size ≤ 1000000) (hbad : badNum s.data.toList = false) (hlong : 2000 < (restOf s.data.toList).length) :
    Calls Tryz.prog 15 #[.string s] w fun e w' => e = .returned (.tuple #[.agg #[.bool false, .slice none 0 0], .int .i64 6]) ∧ Below w.heap.size w w' := by
  have hcp := fun W => Tryz.strings_CutPrefix s ⟨#[45]⟩ W
  have HCP := Lib.hid hcp
  clear hcp
  go_enter Tryz.func15, Tryz.ntmps15
  go_wp2_with fail
  refine (HCP.out _).mono ?_
  rintro e w1 ⟨rfl, rfl⟩
  go_wp2_with fail
  have hD : (⟨(Lib.trimPrefix s.data.toList (#[45] : Array UInt8).toList).toArray⟩ : ByteArray).data.toList = restOf s.data.toList := rfl
  generalize (⟨(Lib.trimPrefix s.data.toList (#[45] : Array UInt8).toList).toArray⟩ : ByteArray) = D at *
  have hDs : D.size ≤ 1000000 := by
    have h1 : D.size = (restOf s.data.toList).length := by rw [← hD]; simp
    have h2 := restOf_le s.data.toList
    have h3 : s.data.toList.length = s.size := by simp
    omega
  have HN := Lib.hid (isNumber_any D (w.alloc (Obj.cells #[Value.bool false, Value.slice none 0 0] 25)) hDs)
  have HX : badNum s.data.toList = (!okNum D.data.toList || (Lib.hasPrefix s.data.toList [45] && D.data.toList == [48])) := by rw [hD]; rfl
  rw [hbad] at HX
  have hlo : 2000 < D.size := by have h1 : D.size = (restOf s.data.toList).length := by rw [← hD]; simp
                                 omega
  clear hD hlong
  refine HN.out.mono ?_
  rintro e w2 ⟨rfl, hb2⟩
  have X := boxed hb2
  have hx0 := X.1
  have hx1 := X.2.1
  have hs2 := X.2.2.1
  have hbx := X.2.2.2
  have hf0 := hb2.frozen (p := ⟨w.heap.size, 0, none⟩) (by simp)
  have hf1 := hb2.frozen (p := ⟨w.heap.size, 1, none⟩) (by simp)
  have hfw : ∀ i, (w.alloc (Obj.cells #[Value.bool false, Value.slice none 0 0] 25)).frozen? ⟨w.heap.size, i, none⟩ = false := fun i => by unfold World.frozen?; dsimp only; rw [heap_alloc_new]; simp
  rw [hfw] at hf0 hf1
  have hbw : Below w.heap.size w w2 := (below_alloc_new _).trans (Below.less hbx (Nat.le_succ _))
  clear X hb2 hbx hfw
  have hok : okNum D.data.toList = true := by revert HX; cases okNum D.data.toList <;> simp
  rw [hok] at HX
  by_cases hneg : Lib.hasPrefix s.data.toList [45] = true
  · have h48 : (D.toList == [48]) = false := by
      rw [ByteArray.toList_eq]; revert HX; rw [hneg]; simp
    clear HX
    go_wp2
    exact bodyPost_ret (v := .tuple #[.agg #[.bool false, .slice none 0 0], .int .i64 6]) (by simp [results, Tryz.results15, go_sem, hx0, hx1]) rfl ⟨rfl, (hbw.setCell (by simp) _).setCell (by simp) _⟩
  · simp only [Bool.not_eq_true] at hneg
    clear HX
    go_wp2
    exact bodyPost_ret (v := .tuple #[.agg #[.bool false, .slice none 0 0], .int .i64 6]) (by simp [results, Tryz.results15, go_sem, hx0, hx1]) rfl ⟨rfl, (hbw.setCell (by simp) _).setCell (by simp) _⟩
theorem okNum_parts {l : List UInt8} (h : okNum l = true) : (∀ c ∈ l, isDig c = true) ∧ l ≠ [] ∧ (l = [48] ∨ l.head? ≠ some 48) := by
 unfold okNum at h
 rw [Bool.and_eq_true, Bool.or_eq_true, Bool.and_eq_true, List.all_eq_true] at h
 obtain ⟨h1, h2⟩ := h
 refine ⟨h1, ?_, ?_⟩
 ·rintro rfl; simp at h2
 ·rcases h2 with h2 | h2
  ·left; simpa using h2
  ·right; simpa using h2.2
theorem parse_ok (s : ByteArray) (w : World) (_hs : s.size ≤ 1000000) (hbad : badNum s.data.toList = false) (hshort : (restOf s.data.toList).length ≤ 2000) :
    Calls Tryz.prog 15 #[.string s] w fun e w' => ∃ A c L, e = .returned (.tuple #[.agg #[.bool (negOf s.data.toList), .slice A L.length c], .int .i64 0]) ∧ IntR w' w'.heap.size (negOf s.data.toList) A c L ∧ valB 1000000000 L = numOf (restOf s.data.toList) ∧ L.length ≤ 223 ∧ Below w.heap.size w w' := by
  have hcp := fun W => Tryz.strings_CutPrefix s ⟨#[45]⟩ W
  have HCP := Lib.hid hcp
  clear hcp
  go_enter Tryz.func15, Tryz.ntmps15
  go_wp2_with fail
  refine (HCP.out _).mono ?_
  rintro e w1 ⟨rfl, rfl⟩
  go_wp2_with fail
  have hD : (⟨(Lib.trimPrefix s.data.toList (#[45] : Array UInt8).toList).toArray⟩ : ByteArray).data.toList = restOf s.data.toList := rfl
  generalize (⟨(Lib.trimPrefix s.data.toList (#[45] : Array UInt8).toList).toArray⟩ : ByteArray) = D at *
  have hDs : D.size ≤ 1000000 := by
    have h1 : D.size = (restOf s.data.toList).length := by rw [← hD]; simp
    have h2 := restOf_le s.data.toList
    have h3 : s.data.toList.length = s.size := by simp
    omega
  have HN := Lib.hid (isNumber_any D (w.alloc (Obj.cells #[Value.bool false, Value.slice none 0 0] 25)) hDs)
  have HX : badNum s.data.toList = (!okNum D.data.toList || (Lib.hasPrefix s.data.toList [45] && D.data.toList == [48])) := by rw [hD]; rfl
  rw [hbad] at HX
  have hlo : D.size ≤ 2000 := by have h1 : D.size = (restOf s.data.toList).length := by rw [← hD]; simp
                                 omega
  have HD := Lib.hid hD
  clear hD hshort
  refine HN.out.mono ?_
  rintro e w2 ⟨rfl, hb2⟩
  have X := boxed hb2
  have hx0 := X.1
  have hx1 := X.2.1
  have hs2 := X.2.2.1
  have hbx := X.2.2.2
  have hf0 := hb2.frozen (p := ⟨w.heap.size, 0, none⟩) (by simp)
  have hf1 := hb2.frozen (p := ⟨w.heap.size, 1, none⟩) (by simp)
  have hfw : ∀ i, (w.alloc (Obj.cells #[Value.bool false, Value.slice none 0 0] 25)).frozen? ⟨w.heap.size, i, none⟩ = false := fun i => by unfold World.frozen?; dsimp only; rw [heap_alloc_new]; simp
  rw [hfw] at hf0 hf1
  have hbw : Below w.heap.size w w2 := (below_alloc_new _).trans (Below.less hbx (Nat.le_succ _))
  have hbx' := hbx
  clear X hb2 hbx hfw
  have hok : okNum D.data.toList = true := by revert HX; cases okNum D.data.toList <;> simp
  rw [hok] at HX
  obtain ⟨k1, k2, k3⟩ := okNum_parts hok
  have hpos : 0 < D.size := by have := List.length_pos_iff.2 k2; simpa using this
  by_cases hneg : Lib.hasPrefix s.data.toList [45] = true
  · have h48 : (D.toList == [48]) = false := by
      rw [ByteArray.toList_eq]; revert HX; rw [hneg]; simp
    have hp : 0 < numOf D.data.toList := numOf_pos k1 k2 (by rcases k3 with h | h; rw [ByteArray.toList_eq, h] at h48; exact absurd h48 (by decide); exact h)
    clear HX
    go_wp2_with fail
    refine (readDigits_any D _ hpos (by omega) k1).mono ?_
    rintro e w3 ⟨A, c, L, rfl, hr, hcan, hv, hl, hb3⟩
    rw [← hv] at hp
    have hL : 0 < L.length := by
      rcases L with _ | ⟨x, r⟩
      · simp [valB] at hp
      · simp
    have HV := Lib.hid hv
    clear hv
    go_wp2_with fail
    refine (signed_any true A c L.length w3).mono ?_
    rintro e w4 ⟨rfl, hb4⟩
    have hd : (true && decide (0 < L.length)) = true := by simpa using hL
    rw [hd]
    have hby : Below (w.heap.size + 1) (w.alloc (Obj.cells #[Value.bool false, Value.slice none 0 0] 25)) w4 := hbx'.trans (Below.less (hb3.trans (Below.less hb4 hb3.size)) hs2)
    have hrow4 : IntR w4 w3.heap.size true A c L := IntR.below ⟨hr, hcan, fun _ h => by rw [h] at hL; simp at hL⟩ hb4
    have hy0 := (boxed2 hby).1
    have hy1 := (boxed2 hby).2
    have gy0 := boxedF hby 0
    have gy1 := boxedF hby 1
    have hbw4 : Below w.heap.size w w4 := (below_alloc_new _).trans (Below.less hby (Nat.le_succ _))
    have hw34 := hb4.size
    have hw23 := hb3.size
    have HBY := Lib.hid hby
    clear hx0 hx1 hf0 hf1 hbx' hby hb3 hb4 hr hcan
    go_wp2_with fail
    refine bodyPost_ret (v := .tuple #[.agg #[.bool true, .slice A L.length c], .int .i64 0]) (by simp [results, Tryz.results15, go_sem, hy0, hy1]) rfl ⟨A, c, L, by rw [show negOf s.data.toList = true from hneg], ?_, by rw [HV.out, HD.out], by omega, (hbw4.setCell (by simp) _).setCell (by simp) _⟩
    rw [show negOf s.data.toList = true from hneg, setCell_size, setCell_size]
    exact ⟨(hrow4.row.more hw34).box HBY.out (fun _ => by simp) (fun _ => by simp) _ _, hrow4.canon, hrow4.sgn⟩
  · simp only [Bool.not_eq_true] at hneg
    clear HX
    go_wp2_with fail
    refine (readDigits_any D _ hpos (by omega) k1).mono ?_
    rintro e w3 ⟨A, c, L, rfl, hr, hcan, hv, hl, hb3⟩
    have HV := Lib.hid hv
    clear hv
    go_wp2_with fail
    refine (signed_any false A c L.length w3).mono ?_
    rintro e w4 ⟨rfl, hb4⟩
    have hd : (false && decide (0 < L.length)) = false := rfl
    rw [hd]
    have hby : Below (w.heap.size + 1) (w.alloc (Obj.cells #[Value.bool false, Value.slice none 0 0] 25)) w4 := hbx'.trans (Below.less (hb3.trans (Below.less hb4 hb3.size)) hs2)
    have hrow4 : IntR w4 w3.heap.size false A c L := IntR.below ⟨hr, hcan, fun h => absurd h Bool.false_ne_true⟩ hb4
    have hy0 := (boxed2 hby).1
    have hy1 := (boxed2 hby).2
    have gy0 := boxedF hby 0
    have gy1 := boxedF hby 1
    have hbw4 : Below w.heap.size w w4 := (below_alloc_new _).trans (Below.less hby (Nat.le_succ _))
    have hw34 := hb4.size
    have hw23 := hb3.size
    have HBY := Lib.hid hby
    clear hx0 hx1 hf0 hf1 hbx' hby hb3 hb4 hr hcan
    go_wp2_with fail
    refine bodyPost_ret (v := .tuple #[.agg #[.bool false, .slice A L.length c], .int .i64 0]) (by simp [results, Tryz.results15, go_sem, hy0, hy1]) rfl ⟨A, c, L, by rw [show negOf s.data.toList = false from hneg], ?_, by rw [HV.out, HD.out], by omega, (hbw4.setCell (by simp) _).setCell (by simp) _⟩
    rw [show negOf s.data.toList = false from hneg, setCell_size, setCell_size]
    exact ⟨(hrow4.row.more hw34).box HBY.out (fun _ => by simp) (fun _ => by simp) _ _, hrow4.canon, hrow4.sgn⟩
set_option maxHeartbeats 1600000 in
theorem multiply_any (A A' : Option Addr) (c c' : Nat) (L M : List Nat) (w : World) (hl : L.length ≤ 1000000) (hml : M.length ≤ 1000000)
  (hL : Lim L) (hM : Lim M) (hR : Row .u32 w w.heap.size A c L) (hR' : Row .u32 w w.heap.size A' c' M) :
  Calls Tryz.prog 55 #[.slice A L.length c, .slice A' M.length c'] w fun e w' =>
   e = .returned (.slice (some ⟨w.heap.size, 0, none⟩) (trimN (mulSt L M (List.replicate (L.length + M.length) 0) L.length) (L.length + M.length)) (L.length + M.length)) ∧
    Blk .u32 86 w' w.heap.size (mulSt L M (List.replicate (L.length + M.length) 0) L.length) ∧ Below w.heap.size w w' := by
 obtain ⟨i0, hi, hz0, hz1, hz2⟩ := info_parts info68
 have hZ : Lim (List.replicate (L.length + M.length) 0) := fun d hd => by have := (List.mem_replicate.1 hd).2; omega
 have hZl : (List.replicate (L.length + M.length) 0).length = L.length + M.length := by simp
 generalize hz : List.replicate (L.length + M.length) 0 = Z at *
 generalize hl' : L.length = l at *
 generalize hm' : M.length = m at *
 have HL := Lib.hid hl'
 have HM := Lib.hid hm'
 have HZ := Lib.hid hz
 have HZL := Lib.hid hZl
 clear hl' hm' hz hZl
 go_enter Tryz.func55, Tryz.ntmps55
 go_wp2_with (first
  | (refine wpList_make_zeros _ rfl (.tmp 16) (.tmp 16) 23 rfl 86 .u32 i0 4 Tryz.underlying23 hi hz0 hz1 hz2 .i64 .i64 _ _ (l + m) rfl rfl (by omega) (by omega) (by omega) (by omega) ?_; intro w1 hb1 hB1 hs1)
  | fail)
 have hb1' := hb1.out
 rw [HZ.out] at hb1'
 have hg := hb1'.lt
 clear hs1 hb1
 go_loopw [20] (fun iv wr => ∃ i : Nat, i ≤ l ∧ iv = .int .i64 i ∧ Blk .u32 86 wr w.heap.size (mulSt L M Z i) ∧ w1.grownBy wr (some w.heap.size)) (fun iv _ => l - (intOf iv).toNat)
 case atStart => exact ⟨0, Nat.zero_le _, rfl, hb1', grown_refl _ _⟩
 case round =>
  obtain ⟨i, hk, rfl, hb, hgr⟩ := hrel
  obtain ⟨h1, h2⟩ := mulSt_ok hL hM hZ i
  have HS := Lib.hid (mulSt_succ L M Z i)
  have h3 : (mulSt L M Z i).length = l + m := by rw [h2, HZL.out]
  clear h2
  generalize hs : mulSt L M Z i = S at *
  have HK := Lib.hid hs
  have H3 := Lib.hid h3
  clear hs h3
  by_cases hlt : i < l
  ·obtain ⟨b, o, rfl, hbg, hcell⟩ := hR.spot (by rw [HL.out]; omega)
   have hcx := ((hcell.below hB1 hbg).grown hgr (by omega) (by intro e; injection e; omega)) i (by rw [HL.out]; exact hlt)
   have hx := hL.nth i
   generalize hxx : nth L i = x at *
   have HX := Lib.hid hxx
   clear hcell hxx
   go_wp2
   have hbS := hb
   go_loopw [8, 27] (fun cv jv wq => ∃ j : Nat, j ≤ m ∧ jv = .int .i64 j ∧ cv = .int .u64 (mulRow x i M S j).2 ∧ Blk .u32 86 wq w.heap.size (mulRow x i M S j).1 ∧ w1.grownBy wq (some w.heap.size)) (fun _ jv _ => m - (intOf jv).toNat)
   case atStart => exact ⟨0, Nat.zero_le _, rfl, rfl, hbS, hgr⟩
   case round =>
    obtain ⟨j, hj, rfl, rfl, hbq, hgq⟩ := hrel
    obtain ⟨g1, g2, g3⟩ := mulRow_ok (o := i) hx hM h1 j
    have HS' := Lib.hid (mulRow_succ x i M S j)
    generalize hq : mulRow x i M S j = q at *
    have HQ := Lib.hid hq
    clear hq
    obtain ⟨Q, y⟩ := q
    dsimp only at *
    rw [H3.out] at g3
    have G3 := Lib.hid g3
    clear g3
    by_cases hjt : j < m
    ·obtain ⟨b', o', rfl, hbg', hcell'⟩ := hR'.spot (by rw [HM.out]; omega)
     have hcy := ((hcell'.below hB1 hbg').grown hgq (by omega) (by intro e; injection e; omega)) j (by rw [HM.out]; exact hjt)
     have hc := hbq.cell (i + j) (by rw [G3.out]; omega)
     have hfr := hbq.frozen (i + j)
     have b1 := g1.nth (i + j)
     have b2 := hM.nth j
     have b4 := mul_lt_limI hx b2
     have b5 := mul_nonnegI x (nth M j)
     clear hcell'
     go_wp2
     go_roundw
     case rel =>
      have E := HS'.out
      have e1 := hbq.setI (i + j) (v := ((x : Int) * (nth M j : Int) + (nth Q (i + j) : Int) + (y : Int)) % 1000000000) (x := (x * nth M j + nth Q (i + j) + y) % 1000000000) (by simp)
      exact ⟨j + 1, by omega, by go_num, by rw [E]; simp, by rw [E]; exact e1, grown_set hgq _ _⟩
     case measure => simp [intOf]; omega
    ·obtain rfl : j = m := by omega
     have hc := hbq.cell (i + j) (by rw [G3.out]; omega)
     have hfr := hbq.frozen (i + j)
     go_wp2
     go_roundw
     case rel =>
      have E := HS.out
      rw [HM.out, HQ.out] at E
      exact ⟨i + 1, by omega, by go_num, by rw [E]; exact hbq.set_ _ _, grown_set hgq _ _⟩
     case measure => simp [intOf]; omega
  ·obtain rfl : i = l := by omega
   have hT := trim_any (some ⟨w.heap.size, 0, none⟩) (i + m) w.heap.size 0 S wr (by rw [H3.out]; omega) (by rw [H3.out]; omega) (fun _ => rfl) hb.cells
   rw [H3.out] at hT
   have hB : Below w.heap.size w wr := grown_below hB1 hgr (Nat.le_refl _) hB1.size
   have hb9 := Lib.hid hb
   have HT := Lib.hid hT
   clear hT hb
   go_wp2_with fail
   refine HT.out.mono ?_
   rintro e w4 ⟨rfl, rfl⟩
   go_wp2_with fail
   go_ret
   have hk' := HK.out
   rw [hk']
   exact ⟨rfl, hb9.out, hB⟩
set_option maxHeartbeats 1600000 in
theorem subtract_any (A A' : Option Addr) (c c' : Nat) (L M : List Nat) (w : World) (hl : L.length ≤ 1000000) (hml : M.length ≤ L.length)
  (hL : Lim L) (hM : Lim M) (hR : Row .u32 w w.heap.size A c L) (hR' : Row .u32 w w.heap.size A' c' M) :
  Calls Tryz.prog 57 #[.slice A L.length c, .slice A' M.length c'] w fun e w' =>
   e = .returned (.slice (some ⟨w.heap.size, 0, none⟩) (trimN (subSt M L L.length).1 L.length) L.length) ∧ Blk .u32 86 w' w.heap.size (subSt M L L.length).1 ∧ Below w.heap.size w w' := by
 have hCp := fun W h => copied_any A c L W (by omega) h
 generalize hl' : L.length = l at *
 generalize hm' : M.length = m at *
 have HL := Lib.hid hl'
 have HM := Lib.hid hm'
 clear hl' hm'
 have HCp := Lib.hid hCp
 clear hCp
 go_enter Tryz.func57, Tryz.ntmps57
 go_wp2_with fail
 refine (HCp.out _ hR).mono ?_
 rintro e w1 ⟨rfl, hb1, hB1⟩
 have hg := hb1.lt
 go_wp2_with fail
 go_loopw [6, 13] (fun cv iv wr => ∃ k : Nat, k ≤ l ∧ iv = .int .i64 k ∧ cv = .int .u32 (subSt M L k).2 ∧ Blk .u32 86 wr w.heap.size (subSt M L k).1 ∧ w1.grownBy wr (some w.heap.size)) (fun _ iv _ => l - (intOf iv).toNat)
 case atStart => exact ⟨0, Nat.zero_le _, rfl, rfl, hb1, grown_refl _ _⟩
 case round =>
  obtain ⟨k, hk, rfl, rfl, hb, hgr⟩ := hrel
  obtain ⟨h1, h2, h3⟩ := subSt_ok hM hL k
  have HS := Lib.hid (subSt_succ M L k)
  generalize hs : subSt M L k = s at *
  have HK := Lib.hid hs
  clear hs
  obtain ⟨S, x⟩ := s
  dsimp only at *
  rw [HL.out] at h3
  have hls : l = S.length := h3.symm
  clear h3
  by_cases hlt : k < l
  ·have hc := hb.cell k (by omega)
   have hfr := hb.frozen k
   have b1 := h1.nth k
   have b2 := hM.nth k
   clear hls
   by_cases hkl : k < m
   ·obtain ⟨b', o', rfl, hbg, hcell'⟩ := hR'.spot (by rw [HM.out]; omega)
    have hc' := ((hcell'.below hB1 hbg).grown hgr (by omega) (by intro e; injection e; omega)) k (by rw [HM.out]; exact hkl)
    clear hcell'
    by_cases hbo : nth S k < x + nth M k
    ·go_wp2
     go_roundw
     case rel =>
      have E := HS.out
      rw [if_pos hbo] at E
      have e1 := (hb.setI k (v := (nth S k : Int) + 1000000000) (x := nth S k + 1000000000) (by omega)).setI k (v := (nth S k : Int) + 1000000000 - (x + nth M k)) (x := nth S k + 1000000000 - (x + nth M k)) (by omega)
      rw [List.set_set] at e1
      exact ⟨k + 1, by omega, by go_num, by rw [E]; simp, by rw [E]; exact e1, grown_set (grown_set hgr _ _) _ _⟩
     case measure => simp [intOf]; omega
    ·go_wp2
     go_roundw
     case rel =>
      have E := HS.out
      rw [if_neg hbo] at E
      have e1 := hb.setI k (v := (nth S k : Int) - (x + nth M k)) (x := nth S k - (x + nth M k)) (by omega)
      exact ⟨k + 1, by omega, by go_num, by rw [E]; simp, by rw [E]; exact e1, grown_set hgr _ _⟩
     case measure => simp [intOf]; omega
   ·have HZ := Lib.hid (nth_ge (L := M) (k := k) (by rw [HM.out]; omega))
    by_cases hbo : nth S k < x
    ·go_wp2
     go_roundw
     case rel =>
      have E := HS.out
      simp only [HZ.out, Nat.add_zero] at E; rw [if_pos hbo] at E
      have e1 := (hb.setI k (v := (nth S k : Int) + 1000000000) (x := nth S k + 1000000000) (by omega)).setI k (v := (nth S k : Int) + 1000000000 - x) (x := nth S k + 1000000000 - x) (by omega)
      rw [List.set_set] at e1
      exact ⟨k + 1, by omega, by go_num, by rw [E]; simp, by rw [E]; exact e1, grown_set (grown_set hgr _ _) _ _⟩
     case measure => simp [intOf]; omega
    ·go_wp2
     go_roundw
     case rel =>
      have E := HS.out
      simp only [HZ.out, Nat.add_zero] at E; rw [if_neg hbo] at E
      have e1 := hb.setI k (v := (nth S k : Int) - x) (x := nth S k - x) (by omega)
      exact ⟨k + 1, by omega, by go_num, by rw [E]; simp, by rw [E]; exact e1, grown_set hgr _ _⟩
     case measure => simp [intOf]; omega
  ·obtain rfl : k = l := by omega
   have hT := trim_any (some ⟨w.heap.size, 0, none⟩) k w.heap.size 0 S wr (by omega) (by omega) (fun _ => rfl) hb.cells
   rw [← hls] at hT
   have hB : Below w.heap.size w wr := grown_below hB1 hgr (Nat.le_refl _) hB1.size
   have hb9 := Lib.hid hb
   have HT := Lib.hid hT
   clear hls hT hb
   go_wp2_with fail
   refine HT.out.mono ?_
   rintro e w4 ⟨rfl, rfl⟩
   go_wp2_with fail
   go_ret
   have hk' := HK.out
   rw [hk']
   exact ⟨rfl, hb9.out, hB⟩
set_option maxHeartbeats 800000
theorem nan_int (x : Int) (w : World) : Calls Tryz.prog 91 #[.int .i64 x] w fun e w' => e = .returned (.bool false) ∧ w = w' := by
 go_enter Tryz.func91, Tryz.ntmps91
 go_wp2
 go_ret
 exact ⟨by simp, rfl⟩
theorem nan_u32 (x : Int) (w : World) : Calls Tryz.prog 92 #[.int .u32 x] w fun e w' => e = .returned (.bool false) ∧ w = w' := by
 go_enter Tryz.func92, Tryz.ntmps92
 go_wp2
 go_ret
 exact ⟨by simp, rfl⟩
theorem cmp_int (x y : Nat) (w : World) : Calls Tryz.prog 74 #[.int .i64 x, .int .i64 y] w fun e w' => e = .returned (.int .i64 (cmpZ x y)) ∧ w = w' := by
 rcases Nat.lt_trichotomy x y with h | h | h
 ·go_enter Tryz.func74, Tryz.ntmps74
  go_wp2_with (go_at_call 91; refine (nan_int _ _).mono ?_; rintro e w' ⟨rfl, rfl⟩)
  go_ret
  exact ⟨ret_int (by unfold cmpZ; simp [h]), rfl⟩
 ·subst h
  go_enter Tryz.func74, Tryz.ntmps74
  go_wp2_with (go_at_call 91; refine (nan_int _ _).mono ?_; rintro e w' ⟨rfl, rfl⟩)
  go_ret
  exact ⟨ret_int (by unfold cmpZ; simp), rfl⟩
 ·go_enter Tryz.func74, Tryz.ntmps74
  go_wp2_with (go_at_call 91; refine (nan_int _ _).mono ?_; rintro e w' ⟨rfl, rfl⟩)
  go_ret
  exact ⟨ret_int (by unfold cmpZ; rw [if_neg (by omega), if_neg (by omega)]), rfl⟩
theorem cmp_u32 (x y : Nat) (w : World) : Calls Tryz.prog 75 #[.int .u32 x, .int .u32 y] w fun e w' => e = .returned (.int .i64 (cmpZ x y)) ∧ w = w' := by
 rcases Nat.lt_trichotomy x y with h | h | h
 ·go_enter Tryz.func75, Tryz.ntmps75
  go_wp2_with (go_at_call 92; refine (nan_u32 _ _).mono ?_; rintro e w' ⟨rfl, rfl⟩)
  go_ret
  exact ⟨ret_int (by unfold cmpZ; simp [h]), rfl⟩
 ·subst h
  go_enter Tryz.func75, Tryz.ntmps75
  go_wp2_with (go_at_call 92; refine (nan_u32 _ _).mono ?_; rintro e w' ⟨rfl, rfl⟩)
  go_ret
  exact ⟨ret_int (by unfold cmpZ; simp), rfl⟩
 ·go_enter Tryz.func75, Tryz.ntmps75
  go_wp2_with (go_at_call 92; refine (nan_u32 _ _).mono ?_; rintro e w' ⟨rfl, rfl⟩)
  go_ret
  exact ⟨ret_int (by unfold cmpZ; rw [if_neg (by omega), if_neg (by omega)]), rfl⟩
theorem compare_any (A A' : Option Addr) (c b o c' b' o' : Nat) (L M : List Nat) (w : World) (hl : L.length ≤ 1000000) (hm : M.length ≤ 1000000)
  (hA : 0 < L.length → A = some ⟨b, o, none⟩) (hcell : Cells .u32 w b o L) (hA' : 0 < M.length → A' = some ⟨b', o', none⟩) (hcell' : Cells .u32 w b' o' M) :
  Calls Tryz.prog 49 #[.slice A L.length c, .slice A' M.length c'] w fun e w' => e = .returned (.int .i64 (cmpL L M)) ∧ ∃ n, w' = w.drewN n := by
 generalize hn : L.length = n at *
 generalize hn' : M.length = n' at *
 have HN := Lib.hid hn
 have HN' := Lib.hid hn'
 clear hn hn'
 have HA := Lib.hid hA
 have HA' := Lib.hid hA'
 clear hA hA'
 by_cases hne : n = n'
 ·subst hne
  have hdec : ((n : Int) != (n : Int)) = false := by simp
  go_enter Tryz.func49, Tryz.ntmps49
  go_wp2
  go_loopw [5] (fun v wr => ∃ k : Nat, k ≤ n ∧ v = .int .i64 ((k : Int) - 1) ∧ Hid (∃ d, wr = w.drewN d) ∧ Hid (cmpDown L M k = cmpDown L M n)) (fun v _ => (intOf v + 1).toNat)
  case atStart => exact ⟨n, Nat.le_refl _, rfl, ⟨0, rfl⟩, rfl⟩
  case round =>
   obtain ⟨k, hk, rfl, hw, ht⟩ := hrel
   obtain ⟨d, rfl⟩ := hw.out
   rcases Nat.eq_zero_or_pos k with rfl | hpos
   ·have hd : decide ((0 : Int) ≤ ((0 : Nat) : Int) - 1) = false := by simp
    go_wp2
    go_ret
    exact ⟨by rw [cmpL, HN.out, HN'.out, if_pos rfl, ← ht.out]; rfl, d, rfl⟩
   ·obtain ⟨m, rfl⟩ : ∃ m, k = m + 1 := ⟨k - 1, by omega⟩
    have h1 : ((0 : Int) ≤ ((m + 1 : Nat) : Int) - 1) := by omega
    have hc1 := hcell m (by rw [HN.out]; omega)
    have hc2 := hcell' m (by rw [HN'.out]; omega)
    obtain rfl := HA.out (by omega)
    obtain rfl := HA'.out (by omega)
    have e1 : ((m + 1 : Nat) : Int) - 1 = (m : Int) := by omega
    rw [e1]
    clear e1 h1
    by_cases hz : nth L m = nth M m
    ·have hz' : (((nth L m : Nat) : Int) != ((nth M m : Nat) : Int)) = false := by simp [hz]
     go_wp2
     go_quiet (fail)
     go_wp2
     go_roundw
     case rel => exact ⟨m, by omega, rfl, ⟨d + nq, rfl⟩, by have := ht.out; rw [cmpDown, if_pos hz] at this; exact this⟩
     case measure => simp [intOf]
    ·have hz' : (((nth L m : Nat) : Int) != ((nth M m : Nat) : Int)) = true := by simp; omega
     go_wp2
     go_quiet (fail)
     go_wp2
     go_quiet ((go_at_call 75; exact quiet_more (same_quiet (cmp_u32 _ _))))
     go_wp2
     go_ret
     exact ⟨ret_int (by rw [cmpL, HN.out, HN'.out, if_pos rfl, ← ht.out, cmpDown, if_neg hz]), _, drew3 _ _ _ _⟩
 ·have hdec : ((n : Int) != (n' : Int)) = true := by simp; omega
  go_enter Tryz.func49, Tryz.ntmps49
  go_wp2_with (go_at_call 74; refine (cmp_int _ _ _).mono ?_; rintro e w' ⟨rfl, rfl⟩)
  go_ret
  exact ⟨ret_int (by rw [cmpL, HN.out, HN'.out, if_neg hne]), 0, rfl⟩
abbrev val9 (L : List Nat) : Nat := valB 1000000000 L
theorem trim_pack {w : World} {g B c : Nat} {R : List Nat} (hb : Blk .u32 86 w g R) (hR : Lim R) (hg : g < B) (hc : R.length ≤ c) :
  ∃ L, L.length = trimN R R.length ∧ Row .u32 w B (some ⟨g, 0, none⟩) c L ∧ Canon L ∧ val9 L = val9 R := by
 have htl := trimN_le R R.length
 have el : (R.take (trimN R R.length)).length = trimN R R.length := by rw [List.length_take]; omega
 refine ⟨R.take (trimN R R.length), el, (Row.ofBlk hb hg hc).take _, ⟨hR.take _, ?_⟩, ?_⟩
 ·rw [el]; intro h; rw [nth_take (by omega)]; exact trimN_top _ _ h
 ·rw [val9, trimN_val _ _ _ (Nat.le_refl _), List.take_of_length_le (Nat.le_refl _)]
theorem mult2 (A A' : Option Addr) (c c' : Nat) (L M : List Nat) (w : World) (hl : L.length ≤ 500000) (hml : M.length ≤ 500000)
  (hL : Lim L) (hM : Lim M) (hR : Row .u32 w w.heap.size A c L) (hR' : Row .u32 w w.heap.size A' c' M) :
  Calls Tryz.prog 55 #[.slice A L.length c, .slice A' M.length c'] w fun e w' => ∃ g c R, e = .returned (.slice (some ⟨g, 0, none⟩) R.length c) ∧
   Row .u32 w' w'.heap.size (some ⟨g, 0, none⟩) c R ∧ Canon R ∧ val9 R = val9 L * val9 M ∧ R.length ≤ L.length + M.length ∧ Below w.heap.size w w' ∧ w.heap.size ≤ g := by
 refine (multiply_any A A' c c' L M w (by omega) (by omega) hL hM hR hR').mono ?_
 rintro e w' ⟨rfl, hb, hbw⟩
 have hz : Lim (List.replicate (L.length + M.length) 0) := fun d hd => by have := (List.mem_replicate.1 hd).2; omega
 have hok := mulSt_ok hL hM hz L.length
 have hv := mul_val hL hM
 have hlen : (mulSt L M (List.replicate (L.length + M.length) 0) L.length).length = L.length + M.length := by rw [hok.2]; simp
 obtain ⟨R, h1, h2, h3, h4⟩ := trim_pack (c := L.length + M.length) hb hok.1 hb.lt (by omega)
 rw [hlen] at h1
 have htl := trimN_le (mulSt L M (List.replicate (L.length + M.length) 0) L.length) (L.length + M.length)
 exact ⟨_, _, R, by rw [h1], h2, h3, by rw [h4]; exact hv, by omega, hbw, Nat.le_refl _⟩
theorem subt2 (A A' : Option Addr) (c c' : Nat) (L M : List Nat) (w : World) (hl : L.length ≤ 1000000) (hml : M.length ≤ L.length)
  (hL : Lim L) (hM : Lim M) (hle : val9 M ≤ val9 L) (hR : Row .u32 w w.heap.size A c L) (hR' : Row .u32 w w.heap.size A' c' M) :
  Calls Tryz.prog 57 #[.slice A L.length c, .slice A' M.length c'] w fun e w' => ∃ g c R, e = .returned (.slice (some ⟨g, 0, none⟩) R.length c) ∧
   Row .u32 w' w'.heap.size (some ⟨g, 0, none⟩) c R ∧ Canon R ∧ val9 R + val9 M = val9 L ∧ R.length ≤ L.length ∧ Below w.heap.size w w' ∧ w.heap.size ≤ g := by
 refine (subtract_any A A' c c' L M w hl hml hL hM hR hR').mono ?_
 rintro e w' ⟨rfl, hb, hbw⟩
 have hok := subSt_ok hM hL L.length
 have hv := subSt_val hM hL L.length (Nat.le_refl _)
 rw [valB_take_over _ _ _ hml] at hv
 have hlt := valB_lt hok.1
 rw [hok.2.2] at hlt
 have hb0 : (subSt M L L.length).2 = 0 := by
  rcases Nat.eq_zero_or_pos (subSt M L L.length).2 with h | h
  ·exact h
  ·have h1 : (subSt M L L.length).2 = 1 := by have := hok.2.1; omega
   rw [h1] at hv; simp only [val9] at hle; omega
 rw [hb0] at hv
 obtain ⟨R, h1, h2, h3, h4⟩ := trim_pack (c := L.length) hb hok.1 hb.lt (by rw [hok.2.2]; exact Nat.le_refl _)
 rw [hok.2.2] at h1
 have htl := trimN_le (subSt M L L.length).1 L.length
 exact ⟨_, _, R, by rw [h1], h2, h3, by rw [h4]; simpa using hv, by omega, hbw, Nat.le_refl _⟩
theorem addl2 (A A' : Option Addr) (c c' : Nat) (L M : List Nat) (w : World) (hl : L.length ≤ 500000) (hml : M.length ≤ L.length)
  (hL : Lim L) (hM : Lim M) (hR : Row .u32 w w.heap.size A c L) (hR' : Row .u32 w w.heap.size A' c' M) :
  Calls Tryz.prog 56 #[.slice A L.length c, .slice A' M.length c'] w fun e w' => ∃ g c R, e = .returned (.slice (some ⟨g, 0, none⟩) R.length c) ∧
   Row .u32 w' w'.heap.size (some ⟨g, 0, none⟩) c R ∧ Canon R ∧ val9 R = val9 L + val9 M ∧ R.length ≤ L.length + 1 ∧ Below w.heap.size w w' ∧ w.heap.size ≤ g := by
 refine (add_long A A' c c' L M w (by omega) hml hL hM hR hR').mono ?_
 rintro e w' ⟨rfl, hb, hbw⟩
 have hL0 : Lim (L ++ [0]) := by intro d hd; rcases List.mem_append.1 hd with h | h; exact hL d h; simp at h; omega
 have hok := addSt_ok (o := 0) hM hL0 (L.length + 1)
 have hv := addSt_val (o := 0) hM hL0 (L.length + 1) (by simp)
 rw [valB_take_over _ _ _ (by omega), valB_append] at hv
 have hlen : (addSt 0 M (L ++ [0]) (L.length + 1)).1.length = L.length + 1 := by rw [hok.2.2]; simp
 have h1 := valB_lt hL
 have h2 := valB_lt hM
 have h3 : (1000000000 : Nat) ^ M.length ≤ 1000000000 ^ L.length := Nat.pow_le_pow_right (by omega) hml
 have hc0 : (addSt 0 M (L ++ [0]) (L.length + 1)).2 = 0 := by
  rcases Nat.eq_zero_or_pos (addSt 0 M (L ++ [0]) (L.length + 1)).2 with h | h
  ·exact h
  ·have h4 : (addSt 0 M (L ++ [0]) (L.length + 1)).2 = 1 := by have := hok.2.1; omega
   rw [h4] at hv
   have h5 : (1000000000 : Nat) ^ (0 + (L.length + 1)) = 1000000000 * 1000000000 ^ L.length := by rw [Nat.zero_add, Nat.pow_succ, Nat.mul_comm]
   rw [h5] at hv
   simp [valB] at hv
   omega
 rw [hc0] at hv
 obtain ⟨R, h1, h2, h3, h4⟩ := trim_pack (c := L.length + 1) hb hok.1 hb.lt (by omega)
 rw [hlen] at h1
 have htl := trimN_le (addSt 0 M (L ++ [0]) (L.length + 1)).1 (L.length + 1)
 refine ⟨_, _, R, by rw [h1], h2, h3, ?_, by omega, hbw, Nat.le_refl _⟩
 rw [h4]
 simp [valB] at hv
 exact hv
theorem canon_lt {L M : List Nat} (hL : Lim L) (hM : Canon M) (h : L.length < M.length) : val9 L < val9 M := by
 have h1 := valB_lt hL
 have h2 : (1000000000 : Nat) ^ L.length ≤ 1000000000 ^ (M.length - 1) := Nat.pow_le_pow_right (by omega) (by omega)
 have h3 := valB_take_succ 1000000000 M (M.length - 1) (by omega)
 rw [show M.length - 1 + 1 = M.length by omega, List.take_of_length_le (Nat.le_refl _)] at h3
 have h4 := hM.top (by omega)
 have h5 : 1000000000 ^ (M.length - 1) * 1 ≤ 1000000000 ^ (M.length - 1) * nth M (M.length - 1) := Nat.mul_le_mul_left _ (by omega)
 unfold val9
 omega
theorem cmpDown_val {L M : List Nat} (hL : Lim L) (hM : Lim M) (n : Nat) (h1 : n ≤ L.length) (h2 : n ≤ M.length) : cmpDown L M n = cmpZ (val9 (L.take n)) (val9 (M.take n)) := by
 induction n with
 | zero => simp [cmpDown, cmpZ, valB]
 | succ n ih =>
  have e1 := valB_take_succ 1000000000 L n (by omega)
  have e2 := valB_take_succ 1000000000 M n (by omega)
  have b1 := valB_lt (hL.take n)
  have b2 := valB_lt (hM.take n)
  rw [List.length_take, Nat.min_eq_left (by omega)] at b1 b2
  unfold cmpDown val9
  rw [e1, e2]
  split
  ·rename_i h
   rw [ih (by omega) (by omega), h]
   unfold cmpZ val9
   simp
  ·rename_i h
   generalize valB 1000000000 (L.take n) = x at *
   generalize valB 1000000000 (M.take n) = y at *
   generalize (1000000000 : Nat) ^ n = p at *
   unfold cmpZ
   rcases Nat.lt_or_gt_of_ne h with h | h
   ·rw [if_pos h]
    have : p * (nth L n + 1) ≤ p * nth M n := Nat.mul_le_mul_left _ h
    rw [Nat.mul_add] at this
    rw [if_pos (by omega)]
   ·rw [if_neg (by omega), if_neg (by omega)]
    have : p * (nth M n + 1) ≤ p * nth L n := Nat.mul_le_mul_left _ h
    rw [Nat.mul_add] at this
    rw [if_neg (by omega), if_neg (by omega)]
theorem cmpL_val {L M : List Nat} (hL : Canon L) (hM : Canon M) : cmpL L M = cmpZ (val9 L) (val9 M) := by
 unfold cmpL
 split
 ·rename_i h
  rw [cmpDown_val hL.lim hM.lim _ (Nat.le_refl _) (by omega), List.take_of_length_le (Nat.le_refl _), List.take_of_length_le (by omega)]
 ·rename_i h
  rcases Nat.lt_or_gt_of_ne h with h | h
  ·have := canon_lt hL.lim hM h
   unfold cmpZ; rw [if_pos h, if_pos this]
  ·have := canon_lt hM.lim hL h
   unfold cmpZ; rw [if_neg (by omega), if_neg (by omega), if_neg (by omega), if_neg (by omega)]
theorem canon_len {L M : List Nat} (hL : Canon L) (hM : Canon M) (h : val9 M ≤ val9 L) : M.length ≤ L.length := by
 rcases Nat.lt_or_ge L.length M.length with hlt | hge
 ·have := canon_lt hL.lim hM hlt; omega
 ·exact hge
def zI (neg : Bool) (L : List Nat) : Int := if neg then -(val9 L : Int) else (val9 L : Int)
theorem zI_mul (n m : Bool) {L M R : List Nat} (h : val9 R = val9 L * val9 M) (h0 : R.length = 0 → val9 R = 0) : zI ((n != m) && decide (0 < R.length)) R = zI n L * zI m M := by
 have hc : ((val9 R : Nat) : Int) = (val9 L : Int) * (val9 M : Int) := by rw [h]; simp
 unfold zI
 generalize (val9 L : Int) = x at *
 generalize (val9 M : Int) = y at *
 rcases Nat.eq_zero_or_pos R.length with h1 | h1
 ·have h2 := h0 h1
  rw [h2] at hc ⊢
  have e : (decide (0 < R.length)) = false := by rw [decide_eq_false_iff_not]; omega
  rw [e, Bool.and_false]
  cases n <;> cases m <;> simp <;> grind
 ·have e : (decide (0 < R.length)) = true := by rw [decide_eq_true_iff]; omega
  rw [e, Bool.and_true, hc]
  cases n <;> cases m <;> simp <;> grind
theorem canon_pos {L : List Nat} (h : Canon L) (h0 : 0 < L.length) : val9 L ≠ 0 := by
 have h1 : Canon ([] : List Nat) := ⟨fun _ h => absurd h (List.not_mem_nil), fun h => absurd h (Nat.lt_irrefl 0)⟩
 have h2 := canon_lt h1.lim h (by simpa using h0)
 have h3 : val9 [] = 0 := rfl
 omega
theorem val9_nil {L : List Nat} (h : L.length = 0) : val9 L = 0 := by rw [List.eq_nil_of_length_eq_zero h]; rfl
theorem Row.up {k : IntKind} {w W : World} {A : Option Addr} {c : Nat} {L : List Nat} (h : Row k w w.heap.size A c L) (hb : Below w.heap.size w W) : Row k W W.heap.size A c L := (h.below hb).more hb.size
theorem below_drew {B : Nat} {a w : World} (h : Below B a w) : Below B a w.drew := ⟨h.os, h.tape, h.output, h.size, h.block⟩
theorem below_undrew {B : Nat} {a w : World} (h : Below B a.drew w) : Below B a w := ⟨h.os, h.tape, h.output, h.size, h.block⟩
theorem below_undrewN {B n : Nat} {a w : World} (h : Below B (a.drewN n) w) : Below B a w := ⟨h.os, h.tape, h.output, h.size, h.block⟩
theorem below_a2 (w : World) (a b : Obj) : Below w.heap.size w ((w.alloc a).alloc b) := (below_alloc_new _).alloc (by simp) _
theorem below_a3 (w : World) (a b c : Obj) : Below w.heap.size w (((w.alloc a).alloc b).alloc c) := (below_a2 w a b).alloc (by simp; omega) _
theorem two {w w1 : World} {x y x' y' : Value} {t t' : TypeId} (h : Below ((w.alloc (.cells #[x, y] t)).alloc (.cells #[x', y'] t')).heap.size ((w.alloc (.cells #[x, y] t)).alloc (.cells #[x', y'] t')) w1) :
  w1.cell? ⟨w.heap.size, 0, none⟩ = some x ∧ w1.cell? ⟨w.heap.size, 1, none⟩ = some y ∧ w1.cell? ⟨w.heap.size + 1, 0, none⟩ = some x' ∧ w1.cell? ⟨w.heap.size + 1, 1, none⟩ = some y' ∧
  w1.frozen? ⟨w.heap.size + 1, 0, none⟩ = false ∧ w1.frozen? ⟨w.heap.size + 1, 1, none⟩ = false ∧ w.heap.size + 2 ≤ w1.heap.size ∧ Below (w.heap.size + 2) ((w.alloc (.cells #[x, y] t)).alloc (.cells #[x', y'] t')) w1 := by
 have s1 : (w.alloc (.cells #[x, y] t)).heap.size = w.heap.size + 1 := by simp
 have s2 : ((w.alloc (.cells #[x, y] t)).alloc (.cells #[x', y'] t')).heap.size = w.heap.size + 2 := by simp
 rw [s2] at h
 have hA : Below (w.heap.size + 1) (w.alloc (.cells #[x, y] t)) w1 := by
  have := (below_alloc_new (w := w.alloc (.cells #[x, y] t)) (.cells #[x', y'] t')).trans (Below.less h (by simp))
  rwa [s1] at this
 have hB : Below ((w.alloc (.cells #[x, y] t)).heap.size + 1) ((w.alloc (.cells #[x, y] t)).alloc (.cells #[x', y'] t')) w1 := by rw [s1]; exact h
 have a1 := boxed2 hA
 have a2 := boxed2 hB
 have f0 := boxedF hB 0
 have f1 := boxedF hB 1
 rw [s1] at a2 f0 f1
 exact ⟨a1.1, a1.2, a2.1, a2.2, f0, f1, by have := h.size; omega, h⟩
theorem three {w w1 : World} {x y x' y' x2 y2 : Value} {t t' t2 : TypeId} (h : Below (((w.alloc (.cells #[x, y] t)).alloc (.cells #[x', y'] t')).alloc (.cells #[x2, y2] t2)).heap.size (((w.alloc (.cells #[x, y] t)).alloc (.cells #[x', y'] t')).alloc (.cells #[x2, y2] t2)) w1) :
  w1.cell? ⟨w.heap.size, 0, none⟩ = some x ∧ w1.cell? ⟨w.heap.size, 1, none⟩ = some y ∧ w1.cell? ⟨w.heap.size + 1, 0, none⟩ = some x' ∧ w1.cell? ⟨w.heap.size + 1, 1, none⟩ = some y' ∧
  w1.cell? ⟨w.heap.size + 2, 0, none⟩ = some x2 ∧ w1.cell? ⟨w.heap.size + 2, 1, none⟩ = some y2 ∧ w1.frozen? ⟨w.heap.size + 2, 0, none⟩ = false ∧ w1.frozen? ⟨w.heap.size + 2, 1, none⟩ = false ∧
  w.heap.size + 3 ≤ w1.heap.size ∧ Below (w.heap.size + 3) (((w.alloc (.cells #[x, y] t)).alloc (.cells #[x', y'] t')).alloc (.cells #[x2, y2] t2)) w1 := by
 have s1 : (w.alloc (.cells #[x, y] t)).heap.size = w.heap.size + 1 := by simp
 have s3 : (((w.alloc (.cells #[x, y] t)).alloc (.cells #[x', y'] t')).alloc (.cells #[x2, y2] t2)).heap.size = w.heap.size + 3 := by simp
 rw [s3] at h
 have hA : Below (w.heap.size + 1) (w.alloc (.cells #[x, y] t)) w1 := by
  have := (below_a2 (w.alloc (.cells #[x, y] t)) (.cells #[x', y'] t') (.cells #[x2, y2] t2)).trans (Below.less h (by simp))
  rwa [s1] at this
 have a1 := boxed2 hA
 have hh := two (w := w.alloc (.cells #[x, y] t)) (w1 := w1) (by simpa using h)
 rw [s1] at hh
 exact ⟨a1.1, a1.2, hh.1, hh.2.1, hh.2.2.1, hh.2.2.2.1, hh.2.2.2.2.1, hh.2.2.2.2.2.1, by have := h.size; omega, h⟩
theorem two' {w w1 : World} {x y x' y' : Value} {t t' : TypeId} (h : Below (w.heap.size + 2) ((w.alloc (.cells #[x, y] t)).alloc (.cells #[x', y'] t')) w1) :
  w1.cell? ⟨w.heap.size, 0, none⟩ = some x ∧ w1.cell? ⟨w.heap.size, 1, none⟩ = some y ∧ w1.cell? ⟨w.heap.size + 1, 0, none⟩ = some x' ∧ w1.cell? ⟨w.heap.size + 1, 1, none⟩ = some y' ∧
  w1.frozen? ⟨w.heap.size + 1, 0, none⟩ = false ∧ w1.frozen? ⟨w.heap.size + 1, 1, none⟩ = false ∧ w.heap.size + 2 ≤ w1.heap.size ∧ Below (w.heap.size + 2) ((w.alloc (.cells #[x, y] t)).alloc (.cells #[x', y'] t')) w1 := by
 have s2 : ((w.alloc (.cells #[x, y] t)).alloc (.cells #[x', y'] t')).heap.size = w.heap.size + 2 := by simp
 exact two (by rw [s2]; exact h)
theorem three' {w w1 : World} {x y x' y' x2 y2 : Value} {t t' t2 : TypeId} (h : Below (w.heap.size + 3) (((w.alloc (.cells #[x, y] t)).alloc (.cells #[x', y'] t')).alloc (.cells #[x2, y2] t2)) w1) :
  w1.cell? ⟨w.heap.size, 0, none⟩ = some x ∧ w1.cell? ⟨w.heap.size, 1, none⟩ = some y ∧ w1.cell? ⟨w.heap.size + 1, 0, none⟩ = some x' ∧ w1.cell? ⟨w.heap.size + 1, 1, none⟩ = some y' ∧
  w1.cell? ⟨w.heap.size + 2, 0, none⟩ = some x2 ∧ w1.cell? ⟨w.heap.size + 2, 1, none⟩ = some y2 ∧ w1.frozen? ⟨w.heap.size + 2, 0, none⟩ = false ∧ w1.frozen? ⟨w.heap.size + 2, 1, none⟩ = false ∧
  w.heap.size + 3 ≤ w1.heap.size ∧ Below (w.heap.size + 3) (((w.alloc (.cells #[x, y] t)).alloc (.cells #[x', y'] t')).alloc (.cells #[x2, y2] t2)) w1 := by
 have s3 : (((w.alloc (.cells #[x, y] t)).alloc (.cells #[x', y'] t')).alloc (.cells #[x2, y2] t2)).heap.size = w.heap.size + 3 := by simp
 exact three (by rw [s3]; exact h)
theorem Row.box3 {k : IntKind} {w w1 : World} {B : Nat} {A : Option Addr} {c : Nat} {L : List Nat} {a b : Obj} {x y : Value} {t : TypeId} (h : Row k w1 B A c L)
  (hb : Below (w.heap.size + 3) (((w.alloc a).alloc b).alloc (.cells #[x, y] t)) w1)
  (hx : ∀ n, x ≠ .int k n) (hy : ∀ n, y ≠ .int k n) (u v : Value) : Row k ((w1.setCell ⟨w.heap.size + 1 + 1, 0, none⟩ u).setCell ⟨w.heap.size + 1 + 1, 1, none⟩ v) B A c L := by
 have s2 : ((w.alloc a).alloc b).heap.size = w.heap.size + 1 + 1 := by simp
 have := Row.box (w := (w.alloc a).alloc b) h (by rw [s2]; exact hb) hx hy u v
 rwa [s2] at this
theorem Row.box2 {k : IntKind} {w w1 : World} {B : Nat} {A : Option Addr} {c : Nat} {L : List Nat} {a : Obj} {x y : Value} {t : TypeId} (h : Row k w1 B A c L)
  (hb : Below (w.heap.size + 2) ((w.alloc a).alloc (.cells #[x, y] t)) w1)
  (hx : ∀ n, x ≠ .int k n) (hy : ∀ n, y ≠ .int k n) (u v : Value) : Row k ((w1.setCell ⟨w.heap.size + 1, 0, none⟩ u).setCell ⟨w.heap.size + 1, 1, none⟩ v) B A c L := by
 have s2 : (w.alloc a).heap.size = w.heap.size + 1 := by simp
 have := Row.box (w := w.alloc a) h (by rw [s2]; exact hb) hx hy u v
 rwa [s2] at this
theorem below_then {B : Nat} {a w w' : World} (h : Below B a w) (hb : Below w.heap.size w w') (hB : B ≤ w.heap.size) : Below B a w' := h.trans (Below.less hb hB)
set_option maxRecDepth 20000 in
set_option maxHeartbeats 3200000 in
theorem mul_any (n m : Bool) (A A' : Option Addr) (c c' : Nat) (L M : List Nat) (w : World) (hl : L.length ≤ 500000) (hml : M.length ≤ 500000)
  (hL : IntR w w.heap.size n A c L) (hM : IntR w w.heap.size m A' c' M) :
  Calls Tryz.prog 31 #[.agg #[.bool n, .slice A L.length c], .agg #[.bool m, .slice A' M.length c']] w fun e w' => ∃ k A c R, e = .returned (.agg #[.bool k, .slice A R.length c]) ∧
   IntR w' w'.heap.size k A c R ∧ zI k R = zI n L * zI m M ∧ R.length ≤ L.length + M.length ∧ Below w.heap.size w w' := by
 have hM2 := fun W h1 h2 => mult2 A A' c c' L M W hl hml hL.canon.lim hM.canon.lim h1 h2
 have HM2 := Lib.hid hM2
 clear hM2
 generalize hl' : L.length = l at *
 generalize hm' : M.length = l2 at *
 have HLL := Lib.hid hl'
 have HML := Lib.hid hm'
 clear hl' hm'
 go_enter Tryz.func31, Tryz.ntmps31
 go_wp2
 have hne1 : ¬ w.heap.size = w.heap.size + 1 + 1 := by omega
 have hne2 : ¬ w.heap.size + 1 + 1 = w.heap.size := by omega
 go_region_held3 (fun w' => w'.cell? ⟨w.heap.size, 0, none⟩ = some (.bool n) ∧ w'.cell? ⟨w.heap.size, 1, none⟩ = some (.slice A l c) ∧
   w'.cell? ⟨w.heap.size + 1, 0, none⟩ = some (.bool m) ∧ w'.cell? ⟨w.heap.size + 1, 1, none⟩ = some (.slice A' l2 c')) (go_keep)
  (first
   | (go_at_call 55; refine (HM2.out _ (hL.row.up (below_drew (below_a3 _ _ _ _))) (hM.row.up (below_drew (below_a3 _ _ _ _)))).mono ?_; rintro e w1 ⟨g, c1, R, rfl, hr1, hcan1, hv1, hl1, hb1, _⟩; have HB1 := Lib.hid (three (below_undrew hb1)).2.2.2.2.2.2.2.2.2; have X := three (below_undrew hb1); have hq1 := X.1; have hq2 := X.2.1; have hq3 := X.2.2.1; have hq4 := X.2.2.2.1; have hq5 := X.2.2.2.2.1; have hq6 := X.2.2.2.2.2.1; have hq7 := X.2.2.2.2.2.2.1; have hq8 := X.2.2.2.2.2.2.2.1; have hq9 := X.2.2.2.2.2.2.2.2.1; clear X hb1)
   | (go_at_call 37; refine (signed_any _ _ _ _ _).mono ?_; rintro e w2 ⟨rfl, hb2⟩; have HB2 := Lib.hid (below_then HB1.out hb2 hq9); have HR2 := Lib.hid (hr1.below hb2); have hs2 := hb2.size; clear hq1 hq2 hq3 hq4 hq5 hq6 hq7 hq8 hr1 hb2; have X := three' HB2.out; have hq1 := X.1; have hq2 := X.2.1; have hq3 := X.2.2.1; have hq4 := X.2.2.2.1; have hq5 := X.2.2.2.2.1; have hq6 := X.2.2.2.2.2.1; have hq7 := X.2.2.2.2.2.2.1; have hq8 := X.2.2.2.2.2.2.2.1; clear X))
 all_goals
  go_wp2
  have hbw : Below w.heap.size w w2 := (below_a3 w _ _ _).trans (Below.less HB2.out (by omega))
  refine bodyPost_ret (v := .agg #[.bool (!(n == m) && decide (0 < R.length)), .slice (some ⟨g, 0, none⟩) R.length c1]) (by simp [results, Tryz.results31, go_sem, hq5, hq6]) rfl
   ⟨_, _, _, R, rfl, ?_, zI_mul n m hv1 val9_nil, hl1, (hbw.setCell (by simp; omega) _).setCell (by simp; omega) _⟩
  rw [setCell_size, setCell_size]
  refine ⟨(HR2.out.more hs2).box3 HB2.out (fun _ => by simp) (fun _ => by simp) _ _, hcan1, fun hk hR => ?_⟩
  rw [hR] at hk
  simp at hk
set_option maxHeartbeats 800000 in
theorem add_short (A A' : Option Addr) (c c' : Nat) (L M : List Nat) (w : World) (hl : L.length ≤ 1000000) (hml : M.length < L.length)
  (hL : Lim L) (hM : Lim M) (hR : Row .u32 w w.heap.size A c L) (hR' : Row .u32 w w.heap.size A' c' M) :
  Calls Tryz.prog 56 #[.slice A' M.length c', .slice A L.length c] w fun e w' =>
   let R := (addSt 0 M (L ++ [0]) (L.length + 1)).1
   e = .returned (.slice (some ⟨w.heap.size, 0, none⟩) (trimN R (L.length + 1)) (L.length + 1)) ∧ Blk .u32 86 w' w.heap.size R ∧ Below w.heap.size w w' := by
 obtain ⟨i0, hi, hz0, hz1, hz2⟩ := info_parts info68
 generalize hl' : L.length = l at *
 generalize hm' : M.length = m at *
 have HL := Lib.hid hl'
 have HM := Lib.hid hm'
 clear hl' hm'
 have hyes : m < l := by omega
 go_enter Tryz.func56, Tryz.ntmps56
 go_wp2_with (first
  | (refine wpList_make_zeros _ rfl (.tmp 15) (.tmp 15) 23 rfl 86 .u32 i0 4 Tryz.underlying23 hi hz0 hz1 hz2 .i64 .i64 _ _ (l + 1) rfl rfl (by omega) (by omega) (by omega) (by omega) ?_; intro w1 hb1 hB1 hs1)
  | (refine wpList_copy_row rfl (.tmp 17) (.tmp 18) 23 23 rfl 86 Tryz.underlying23 size68 .u32 86 w.heap.size (l + 1) (l + 1) c A (List.replicate (l + 1) 0) L rfl (by rw [HL.out]; rfl) hb1.out (hR.below hB1) (by rw [HL.out]; omega) (by simp) ?_; intro w2 hb2 hB2)
  | fail)
 have hb3 := hb2.out
 have e1 : splice (List.replicate (l + 1) 0) 0 L = L ++ [0] := by
  simp [splice, HL.out]
 rw [e1] at hb3
 have hlen : (L ++ [0]).length = l + 1 := by simp [HL.out]
 have hA := addTo_any w.heap.size 0 (l + 1) (l + 1) A' c' (L ++ [0]) M w2 (by omega) (by omega) (by rw [HM.out]; omega)
  (by intro d hd; rcases List.mem_append.1 hd with h | h; exact hL d h; simp at h; omega) hM hb3 ((hR'.below hB1).below hB2)
 rw [HM.out] at hA
 clear hlen e1 hb2 hb1 hb3
 refine hA.mono ?_
 rintro e w3 ⟨rfl, hb4, hg4⟩
 have hB4 : Below w.heap.size w w3 := grown_below (hB1.trans hB2) hg4 (Nat.le_refl _) (hB1.trans hB2).size
 have H4 := Lib.hid hb4
 have ok := addSt_ok (o := 0) hM (M := L ++ [0]) (by intro d hd; rcases List.mem_append.1 hd with h | h; exact hL d h; simp at h; omega) (l + 1)
 have hlen : (addSt 0 M (L ++ [0]) (l + 1)).1.length = l + 1 := by rw [ok.2.2]; simp [HL.out]
 have hT := trim_any (some ⟨w.heap.size, 0, none⟩) (l + 1) w.heap.size 0 (addSt 0 M (L ++ [0]) (l + 1)).1 w3 (by omega) (by omega) (fun _ => rfl) hb4.cells
 rw [hlen] at hT
 clear ok hlen hb4
 go_wp2_with fail
 refine hT.mono ?_
 rintro e w4 ⟨rfl, rfl⟩
 go_wp2_with fail
 go_ret
 exact ⟨rfl, H4.out, hB4⟩
set_option maxHeartbeats 3200000
set_option maxRecDepth 20000
theorem Row.apart {k : IntKind} {w : World} {B g o c : Nat} {L : List Nat} (h : Row k w B (some ⟨g, o, none⟩) c L) {p : Addr} (hp : p.block ≠ g) (u : Value) : Row k (w.setCell p u) B (some ⟨g, o, none⟩) c L :=
 ⟨h.len, fun h0 => by
  obtain ⟨b, o', e, hb, hc⟩ := h.spot h0
  have e2 := Option.some.inj e
  injection e2 with e3 e4 e5
  subst e3
  exact ⟨_, o', e, hb, hc.keep fun j => World.cell?_setCell_other _ _ _ _ (fun e => hp (congrArg Addr.block e))⟩⟩
theorem compare_row (A A' : Option Addr) (c c' : Nat) (L M : List Nat) (w : World) (hl : L.length ≤ 1000000) (hm : M.length ≤ 1000000) (hR : Row .u32 w w.heap.size A c L) (hR' : Row .u32 w w.heap.size A' c' M) (hL : Canon L) (hM : Canon M) :
  Calls Tryz.prog 49 #[.slice A L.length c, .slice A' M.length c'] w fun e w' => e = .returned (.int .i64 (cmpZ (val9 L) (val9 M))) ∧ ∃ n, w' = w.drewN n := by
 have H : ∃ b o, (0 < L.length → A = some ⟨b, o, none⟩) ∧ Cells .u32 w b o L := by
  rcases Nat.eq_zero_or_pos L.length with h | h
  ·exact ⟨0, 0, fun h1 => by omega, fun j hj => by omega⟩
  ·obtain ⟨b, o, e, _, hc⟩ := hR.spot h; exact ⟨b, o, fun _ => e, hc⟩
 have H' : ∃ b o, (0 < M.length → A' = some ⟨b, o, none⟩) ∧ Cells .u32 w b o M := by
  rcases Nat.eq_zero_or_pos M.length with h | h
  ·exact ⟨0, 0, fun h1 => by omega, fun j hj => by omega⟩
  ·obtain ⟨b, o, e, _, hc⟩ := hR'.spot h; exact ⟨b, o, fun _ => e, hc⟩
 obtain ⟨b, o, h1, h2⟩ := H
 obtain ⟨b', o', h3, h4⟩ := H'
 rw [← cmpL_val hL hM]
 exact compare_any A A' c b o c' b' o' L M w hl hm h1 h2 h3 h4
theorem zI_neg (n : Bool) {L R : List Nat} (h : val9 R = val9 L) (h0 : R.length = 0 → val9 R = 0) : zI ((!n) && decide (0 < R.length)) R = - zI n L := by
 unfold zI
 rcases Nat.eq_zero_or_pos R.length with h1 | h1
 ·have h2 := h0 h1
  have e : (decide (0 < R.length)) = false := by rw [decide_eq_false_iff_not]; omega
  rw [e, Bool.and_false]
  rw [h] at h2 ⊢
  rw [h2]
  cases n <;> simp
 ·have e : (decide (0 < R.length)) = true := by rw [decide_eq_true_iff]; omega
  rw [e, Bool.and_true, h]
  cases n <;> simp
theorem neg_any (n : Bool) (A : Option Addr) (c : Nat) (L : List Nat) (w : World) (hl : L.length ≤ 500000) (hL : IntR w w.heap.size n A c L) :
  Calls Tryz.prog 53 #[.agg #[.bool n, .slice A L.length c]] w fun e w' => ∃ k A c, e = .returned (.agg #[.bool k, .slice A L.length c]) ∧
   IntR w' w'.heap.size k A c L ∧ zI k L = - zI n L ∧ Below w.heap.size w w' := by
 have hM2 := fun W h1 => copied_any A c L W (by omega) h1
 have HM2 := Lib.hid hM2
 clear hM2
 have hz := zI_neg n (L := L) (R := L) rfl val9_nil
 have HZ := Lib.hid hz
 clear hz
 generalize hl' : L.length = l at *
 have HLL := Lib.hid hl'
 clear hl'
 go_enter Tryz.func53, Tryz.ntmps53
 go_wp2
 have hne1 : ¬ w.heap.size = w.heap.size + 1 := by omega
 have hne2 : ¬ w.heap.size + 1 = w.heap.size := by omega
 go_region_held3 (fun w' => w'.cell? ⟨w.heap.size, 0, none⟩ = some (.bool n) ∧ w'.cell? ⟨w.heap.size, 1, none⟩ = some (.slice A l c)) (go_keep)
  (first
   | (go_at_call 77; (with_reducible refine (HM2.out _ (hL.row.up (below_drew (below_a2 _ _ _)))).mono ?_); rintro e w1 ⟨rfl, hk1, hb1⟩; have X := two (below_undrew hb1); have hq1 := X.1; have hq2 := X.2.1; have hq3 := X.2.2.1; have hq4 := X.2.2.2.1; have hq5 := X.2.2.2.2.1; have hq6 := X.2.2.2.2.2.1; have hs1 := X.2.2.2.2.2.2.1; have HB1 := Lib.hid X.2.2.2.2.2.2.2; clear X hb1)
   | (go_at_call 37; refine (signed_any _ _ _ _ _).mono ?_; rintro e w2 ⟨rfl, hb2⟩; have HB2 := Lib.hid (below_then HB1.out hb2 hs1); have hk2 := hk1.below hb2 hk1.lt; have hs2 := hb2.size; clear hq1 hq2 hq3 hq4 hq5 hq6 hb2; have X := two' HB2.out; have hq1 := X.1; have hq2 := X.2.1; have hq3 := X.2.2.1; have hq4 := X.2.2.2.1; have hq5 := X.2.2.2.2.1; have hq6 := X.2.2.2.2.2.1; clear X))
 all_goals
  go_wp2
  have hbw : Below w.heap.size w w2 := (below_a2 w _ _).trans (Below.less HB2.out (by omega))
  refine bodyPost_ret (v := .agg #[.bool ((!n) && decide (0 < l)), .slice (some ⟨w.heap.size + 1 + 1, 0, none⟩) l l]) (by simp [results, Tryz.results53, go_sem, hq3, hq4]) rfl
   ⟨_, _, _, rfl, ?_, by rw [← HZ.out], (hbw.setCell (by simp) _).setCell (by simp) _⟩
  rw [setCell_size, setCell_size]
  have hk3 : Blk .u32 86 w2 (w.heap.size + 1 + 1) L := by simpa using hk2
  have hr : Row .u32 w2 w2.heap.size (some ⟨w.heap.size + 1 + 1, 0, none⟩) l L := Row.ofBlk hk3 hk3.lt (by rw [HLL.out]; exact Nat.le_refl _)
  refine ⟨(hr.apart (by simp) _).apart (by simp) _, hL.canon, fun hk hR => ?_⟩
  have h9 : l = 0 := by rw [← HLL.out, hR]; rfl
  rw [h9] at hk
  simp at hk
def cmpI (x y : Int) : Int := if x < y then -1 else if x = y then 0 else 1
theorem cmpZ_I (x y : Nat) : cmpZ x y = cmpI x y := by
 unfold cmpZ cmpI
 by_cases h1 : x < y
 ·rw [if_pos h1, if_pos (by omega)]
 ·rw [if_neg h1, if_neg (by omega : ¬ (x : Int) < (y : Int))]
  by_cases h2 : x = y
  ·rw [if_pos h2, if_pos (by omega)]
  ·rw [if_neg h2, if_neg (by omega : ¬ (x : Int) = (y : Int))]
theorem cmpZ_neg (x y : Nat) : cmpZ x y = cmpI (-(y : Int)) (-(x : Int)) := by
 unfold cmpZ cmpI
 by_cases h1 : x < y
 ·rw [if_pos h1, if_pos (by omega)]
 ·rw [if_neg h1, if_neg (by omega : ¬ -(y : Int) < -(x : Int))]
  by_cases h2 : x = y
  ·rw [if_pos h2, if_pos (by omega)]
  ·rw [if_neg h2, if_neg (by omega : ¬ -(y : Int) = -(x : Int))]
theorem cmp_any (n m : Bool) (A A' : Option Addr) (c c' : Nat) (L M : List Nat) (w : World) (hl : L.length ≤ 1000000) (hml : M.length ≤ 1000000)
  (hL : IntR w w.heap.size n A c L) (hM : IntR w w.heap.size m A' c' M) :
  Calls Tryz.prog 25 #[.agg #[.bool n, .slice A L.length c], .agg #[.bool m, .slice A' M.length c']] w fun e w' => e = .returned (.int .i64 (cmpI (zI n L) (zI m M))) ∧ Below w.heap.size w w' := by
 have hc0 := fun W (h1 : Row .u32 W W.heap.size A c L) (h2 : Row .u32 W W.heap.size A' c' M) => compare_row A A' c c' L M W hl hml h1 h2 hL.canon hM.canon
 have hc1 := fun W (h1 : Row .u32 W W.heap.size A c L) (h2 : Row .u32 W W.heap.size A' c' M) => compare_row A' A c' c M L W hml hl h2 h1 hM.canon hL.canon
 have HC0 := Lib.hid hc0
 have HC1 := Lib.hid hc1
 have hp1 : n = true → 0 < val9 L := fun h => Nat.pos_of_ne_zero (canon_pos hL.canon (List.length_pos_iff.2 (hL.sgn h)))
 have hp2 : m = true → 0 < val9 M := fun h => Nat.pos_of_ne_zero (canon_pos hM.canon (List.length_pos_iff.2 (hM.sgn h)))
 have HP1 := Lib.hid hp1
 have HP2 := Lib.hid hp2
 clear hc0 hc1 hp1 hp2
 generalize hl' : L.length = l at *
 generalize hm' : M.length = l2 at *
 have HLL := Lib.hid hl'
 have HML := Lib.hid hm'
 clear hl' hm'
 cases n
 ·cases m
  ·go_enter Tryz.func25, Tryz.ntmps25
   go_wp2_with fail
   refine (HC0.out _ (hL.row.up (below_a2 _ _ _)) (hM.row.up (below_a2 _ _ _))).mono ?_
   rintro e w1 ⟨rfl, nq, rfl⟩
   go_wp2_with fail
   go_ret
   exact ⟨ret_int (by rw [cmpZ_I]; rfl), below_drewN (below_a2 _ _ _) _⟩
  ·go_enter Tryz.func25, Tryz.ntmps25
   go_wp2_with fail
   go_ret
   have := HP2.out (by first | trivial | rfl)
   exact ⟨ret_int (by unfold cmpI zI; simp; omega), below_a2 _ _ _⟩
 ·cases m
  ·go_enter Tryz.func25, Tryz.ntmps25
   go_wp2_with fail
   go_ret
   have := HP1.out (by first | trivial | rfl)
   exact ⟨ret_int (by unfold cmpI zI; simp; omega), below_a2 _ _ _⟩
  ·go_enter Tryz.func25, Tryz.ntmps25
   go_wp2_with fail
   refine (HC1.out _ (hL.row.up (below_a2 _ _ _)) (hM.row.up (below_a2 _ _ _))).mono ?_
   rintro e w1 ⟨rfl, nq, rfl⟩
   go_wp2_with fail
   go_ret
   exact ⟨ret_int (by rw [cmpZ_neg]; rfl), below_drewN (below_a2 _ _ _) _⟩
theorem addZI (n : Bool) {L M R : List Nat} (h : val9 R = val9 L + val9 M) (h0 : R.length = 0 → val9 R = 0) : zI (n && decide (0 < R.length)) R = zI n L + zI n M := by
 unfold zI
 rcases Nat.eq_zero_or_pos R.length with h1 | h1
 ·have h2 := h0 h1
  have e : (decide (0 < R.length)) = false := by rw [decide_eq_false_iff_not]; omega
  rw [e, Bool.and_false]
  cases n <;> simp <;> omega
 ·have e : (decide (0 < R.length)) = true := by rw [decide_eq_true_iff]; omega
  rw [e, Bool.and_true]
  cases n <;> simp <;> omega
theorem subZI (n : Bool) {L M R : List Nat} (h : val9 R + val9 M = val9 L) (h0 : R.length = 0 → val9 R = 0) : zI (n && decide (0 < R.length)) R = zI n L + zI (!n) M := by
 unfold zI
 rcases Nat.eq_zero_or_pos R.length with h1 | h1
 ·have h2 := h0 h1
  have e : (decide (0 < R.length)) = false := by rw [decide_eq_false_iff_not]; omega
  rw [e, Bool.and_false]
  cases n <;> simp <;> omega
 ·have e : (decide (0 < R.length)) = true := by rw [decide_eq_true_iff]; omega
  rw [e, Bool.and_true]
  cases n <;> simp <;> omega
theorem adds2 (A A' : Option Addr) (c c' : Nat) (L M : List Nat) (w : World) (hl : L.length ≤ 500000) (hml : M.length < L.length)
  (hL : Lim L) (hM : Lim M) (hR : Row .u32 w w.heap.size A c L) (hR' : Row .u32 w w.heap.size A' c' M) :
  Calls Tryz.prog 56 #[.slice A' M.length c', .slice A L.length c] w fun e w' => ∃ g c R, e = .returned (.slice (some ⟨g, 0, none⟩) R.length c) ∧
   Row .u32 w' w'.heap.size (some ⟨g, 0, none⟩) c R ∧ Canon R ∧ val9 R = val9 L + val9 M ∧ R.length ≤ L.length + 1 ∧ Below w.heap.size w w' ∧ w.heap.size ≤ g := by
 refine (add_short A A' c c' L M w (by omega) hml hL hM hR hR').mono ?_
 rintro e w' ⟨rfl, hb, hbw⟩
 have hL0 : Lim (L ++ [0]) := by intro d hd; rcases List.mem_append.1 hd with h | h; exact hL d h; simp at h; omega
 have hok := addSt_ok (o := 0) hM hL0 (L.length + 1)
 have hv := addSt_val (o := 0) hM hL0 (L.length + 1) (by simp)
 rw [valB_take_over _ _ _ (by omega), valB_append] at hv
 have hlen : (addSt 0 M (L ++ [0]) (L.length + 1)).1.length = L.length + 1 := by rw [hok.2.2]; simp
 have h1 := valB_lt hL
 have h2 := valB_lt hM
 have h3 : (1000000000 : Nat) ^ M.length ≤ 1000000000 ^ L.length := Nat.pow_le_pow_right (by omega) (by omega)
 have hc0 : (addSt 0 M (L ++ [0]) (L.length + 1)).2 = 0 := by
  rcases Nat.eq_zero_or_pos (addSt 0 M (L ++ [0]) (L.length + 1)).2 with h | h
  ·exact h
  ·have h4 : (addSt 0 M (L ++ [0]) (L.length + 1)).2 = 1 := by have := hok.2.1; omega
   rw [h4] at hv
   have h5 : (1000000000 : Nat) ^ (0 + (L.length + 1)) = 1000000000 * 1000000000 ^ L.length := by rw [Nat.zero_add, Nat.pow_succ, Nat.mul_comm]
   rw [h5] at hv
   simp [valB] at hv
   omega
 rw [hc0] at hv
 obtain ⟨R, h1, h2, h3, h4⟩ := trim_pack (c := L.length + 1) hb hok.1 hb.lt (by omega)
 rw [hlen] at h1
 have htl := trimN_le (addSt 0 M (L ++ [0]) (L.length + 1)).1 (L.length + 1)
 refine ⟨_, _, R, by rw [h1], h2, h3, ?_, by omega, hbw, Nat.le_refl _⟩
 rw [h4]
 simp [valB] at hv
 exact hv
theorem adda2 (A A' : Option Addr) (c c' : Nat) (L M : List Nat) (w : World) (hl : L.length ≤ 500000) (hml : M.length ≤ 500000)
  (hL : Lim L) (hM : Lim M) (hR : Row .u32 w w.heap.size A c L) (hR' : Row .u32 w w.heap.size A' c' M) :
  Calls Tryz.prog 56 #[.slice A L.length c, .slice A' M.length c'] w fun e w' => ∃ g c R, e = .returned (.slice (some ⟨g, 0, none⟩) R.length c) ∧
   Row .u32 w' w'.heap.size (some ⟨g, 0, none⟩) c R ∧ Canon R ∧ val9 R = val9 L + val9 M ∧ R.length ≤ L.length + M.length + 1 ∧ Below w.heap.size w w' ∧ w.heap.size ≤ g := by
 rcases Nat.lt_or_ge L.length M.length with h | h
 ·refine (adds2 A' A c' c M L w hml h hM hL hR' hR).mono ?_
  rintro e w' ⟨g, c, R, h1, h2, h3, h4, h5, h6⟩
  exact ⟨g, c, R, h1, h2, h3, by rw [h4, Nat.add_comm], by omega, h6⟩
 ·refine (addl2 A A' c c' L M w hl h hL hM hR hR').mono ?_
  rintro e w' ⟨g, c, R, h1, h2, h3, h4, h5, h6⟩
  exact ⟨g, c, R, h1, h2, h3, h4, by omega, h6⟩
theorem add_same (n : Bool) (A A' : Option Addr) (c c' : Nat) (L M : List Nat) (w : World) (hl : L.length ≤ 500000) (hml : M.length ≤ 500000)
  (hL : IntR w w.heap.size n A c L) (hM : IntR w w.heap.size n A' c' M) :
  Calls Tryz.prog 32 #[.agg #[.bool n, .slice A L.length c], .agg #[.bool n, .slice A' M.length c']] w fun e w' => ∃ k A c R, e = .returned (.agg #[.bool k, .slice A R.length c]) ∧
   IntR w' w'.heap.size k A c R ∧ zI k R = zI n L + zI n M ∧ R.length ≤ L.length + M.length + 1 ∧ Below w.heap.size w w' := by
 have hM2 := fun W h1 h2 => adda2 A A' c c' L M W hl hml hL.canon.lim hM.canon.lim h1 h2
 have HM2 := Lib.hid hM2
 clear hM2
 generalize hl' : L.length = l at *
 generalize hm' : M.length = l2 at *
 have HLL := Lib.hid hl'
 have HML := Lib.hid hm'
 clear hl' hm'
 have hbb : (n == n) = true := by simp
 go_enter Tryz.func32, Tryz.ntmps32
 go_wp2
 have hne1 : ¬ w.heap.size = w.heap.size + 1 + 1 := by omega
 have hne2 : ¬ w.heap.size + 1 + 1 = w.heap.size := by omega
 go_region_held3 (fun w' => w'.cell? ⟨w.heap.size, 0, none⟩ = some (.bool n) ∧ w'.cell? ⟨w.heap.size, 1, none⟩ = some (.slice A l c) ∧
   w'.cell? ⟨w.heap.size + 1, 0, none⟩ = some (.bool n) ∧ w'.cell? ⟨w.heap.size + 1, 1, none⟩ = some (.slice A' l2 c')) (go_keep)
  (first
   | (go_at_call 56; (with_reducible refine (HM2.out _ (hL.row.up (below_drew (below_a3 _ _ _ _))) (hM.row.up (below_drew (below_a3 _ _ _ _)))).mono ?_); rintro e w1 ⟨g, c1, R, rfl, hr1, hcan1, hv1, hl1, hb1, hgg⟩; have HB1 := Lib.hid (three (below_undrew hb1)).2.2.2.2.2.2.2.2.2; have X := three (below_undrew hb1); have hq1 := X.1; have hq2 := X.2.1; have hq3 := X.2.2.1; have hq4 := X.2.2.2.1; have hq5 := X.2.2.2.2.1; have hq6 := X.2.2.2.2.2.1; have hq7 := X.2.2.2.2.2.2.1; have hq8 := X.2.2.2.2.2.2.2.1; have hq9 := X.2.2.2.2.2.2.2.2.1; clear X hb1)
   | (go_at_call 37; refine (signed_any _ _ _ _ _).mono ?_; rintro e w2 ⟨rfl, hb2⟩; have HB2 := Lib.hid (below_then HB1.out hb2 hq9); have HR2 := Lib.hid (hr1.below hb2); have hs2 := hb2.size; clear hq1 hq2 hq3 hq4 hq5 hq6 hq7 hq8 hr1 hb2; have X := three' HB2.out; have hq1 := X.1; have hq2 := X.2.1; have hq3 := X.2.2.1; have hq4 := X.2.2.2.1; have hq5 := X.2.2.2.2.1; have hq6 := X.2.2.2.2.2.1; have hq7 := X.2.2.2.2.2.2.1; have hq8 := X.2.2.2.2.2.2.2.1; clear X))
 all_goals
  go_wp2
  have hbw : Below w.heap.size w w2 := (below_a3 w _ _ _).trans (Below.less HB2.out (by omega))
  refine bodyPost_ret (v := .agg #[.bool (n && decide (0 < R.length)), .slice (some ⟨g, 0, none⟩) R.length c1]) (by simp [results, Tryz.results32, go_sem, hq5, hq6]) rfl
   ⟨_, _, _, R, rfl, ?_, addZI n hv1 val9_nil, hl1, (hbw.setCell (by simp; omega) _).setCell (by simp; omega) _⟩
  rw [setCell_size, setCell_size]
  refine ⟨(HR2.out.more hs2).box3 HB2.out (fun _ => by simp) (fun _ => by simp) _ _, hcan1, fun hk hR => ?_⟩
  rw [hR] at hk
  simp at hk
set_option maxHeartbeats 3200000
set_option maxRecDepth 20000
theorem cmp_lt {x y : Nat} (h : x < y) : cmpZ x y = -1 := by unfold cmpZ; rw [if_pos h]
theorem cmp_ge {x y : Nat} (h : y ≤ x) : 0 ≤ cmpZ x y := by unfold cmpZ; rw [if_neg (by omega)]; split <;> omega
theorem add_diff_ge (n : Bool) (A A' : Option Addr) (c c' : Nat) (L M : List Nat) (w : World) (hl : L.length ≤ 500000) (hml : M.length ≤ 500000) (hle : val9 M ≤ val9 L)
  (hL : IntR w w.heap.size n A c L) (hM : IntR w w.heap.size (!n) A' c' M) :
  Calls Tryz.prog 32 #[.agg #[.bool n, .slice A L.length c], .agg #[.bool (!n), .slice A' M.length c']] w fun e w' => ∃ k A c R, e = .returned (.agg #[.bool k, .slice A R.length c]) ∧
   IntR w' w'.heap.size k A c R ∧ zI k R = zI n L + zI (!n) M ∧ R.length ≤ L.length + M.length + 1 ∧ Below w.heap.size w w' := by
 have hM2 := fun W h1 h2 => subt2 A A' c c' L M W (by omega) (canon_len hL.canon hM.canon hle) hL.canon.lim hM.canon.lim hle h1 h2
 have HM2 := Lib.hid hM2
 have hC := fun W h1 h2 => compare_row A A' c c' L M W (by omega) (by omega) h1 h2 hL.canon hM.canon
 have hz := cmp_ge hle
 generalize cmpZ (val9 L) (val9 M) = z at *
 have HC := Lib.hid hC
 clear hM2 hC
 generalize hl' : L.length = l at *
 generalize hm' : M.length = l2 at *
 have HLL := Lib.hid hl'
 have HML := Lib.hid hm'
 clear hl' hm' hle
 have hbb : (n == !n) = false := by cases n <;> rfl
 go_enter Tryz.func32, Tryz.ntmps32
 go_wp2_with fail
 refine (HC.out _ (hL.row.up (below_a3 _ _ _ _)) (hM.row.up (below_a3 _ _ _ _))).mono ?_
 rintro e w9 ⟨rfl, nq, rfl⟩
 go_wp2_with fail
 have hne1 : ¬ w.heap.size = w.heap.size + 1 + 1 := by omega
 have hne2 : ¬ w.heap.size + 1 + 1 = w.heap.size := by omega
 have hup := below_drewN (below_a3 w (.cells #[.bool n, .slice A l c] 25) (.cells #[.bool (!n), .slice A' l2 c'] 25) (.cells #[.bool false, .slice none 0 0] 25)) (nq + 1)
 have HUP := Lib.hid hup
 clear hup
 go_region_held3 (fun w' => w'.cell? ⟨w.heap.size, 0, none⟩ = some (.bool n) ∧ w'.cell? ⟨w.heap.size, 1, none⟩ = some (.slice A l c) ∧
   w'.cell? ⟨w.heap.size + 1, 0, none⟩ = some (.bool (!n)) ∧ w'.cell? ⟨w.heap.size + 1, 1, none⟩ = some (.slice A' l2 c')) (go_keep)
  (first
   | (go_at_call 57; (with_reducible refine (HM2.out _ (hL.row.up HUP.out) (hM.row.up HUP.out)).mono ?_); rintro e w1 ⟨g, c1, R, rfl, hr1, hcan1, hv1, hl1, hb1, hgg⟩; have HB1 := Lib.hid (three (below_undrewN hb1)).2.2.2.2.2.2.2.2.2; have X := three (below_undrewN hb1); have hq1 := X.1; have hq2 := X.2.1; have hq3 := X.2.2.1; have hq4 := X.2.2.2.1; have hq5 := X.2.2.2.2.1; have hq6 := X.2.2.2.2.2.1; have hq7 := X.2.2.2.2.2.2.1; have hq8 := X.2.2.2.2.2.2.2.1; have hq9 := X.2.2.2.2.2.2.2.2.1; clear X hb1)
   | (go_at_call 37; refine (signed_any _ _ _ _ _).mono ?_; rintro e w2 ⟨rfl, hb2⟩; have HB2 := Lib.hid (below_then HB1.out hb2 hq9); have HR2 := Lib.hid (hr1.below hb2); have hs2 := hb2.size; clear hq1 hq2 hq3 hq4 hq5 hq6 hq7 hq8 hr1 hb2; have X := three' HB2.out; have hq1 := X.1; have hq2 := X.2.1; have hq3 := X.2.2.1; have hq4 := X.2.2.2.1; have hq5 := X.2.2.2.2.1; have hq6 := X.2.2.2.2.2.1; have hq7 := X.2.2.2.2.2.2.1; have hq8 := X.2.2.2.2.2.2.2.1; clear X))
 all_goals
  go_wp2
  have hbw : Below w.heap.size w w2 := (below_a3 w _ _ _).trans (Below.less HB2.out (by omega))
  refine bodyPost_ret (v := .agg #[.bool (n && decide (0 < R.length)), .slice (some ⟨g, 0, none⟩) R.length c1]) (by simp [results, Tryz.results32, go_sem, hq5, hq6]) rfl
   ⟨_, _, _, R, rfl, ?_, subZI n hv1 val9_nil, by omega, (hbw.setCell (by simp; omega) _).setCell (by simp; omega) _⟩
  rw [setCell_size, setCell_size]
  refine ⟨(HR2.out.more hs2).box3 HB2.out (fun _ => by simp) (fun _ => by simp) _ _, hcan1, fun hk hR => ?_⟩
  rw [hR] at hk
  simp at hk
def swapW (w : World) (x y x' y' : Value) (nq : Nat) : World :=
 ((((((((w.alloc (.cells #[x, y] 25)).alloc (.cells #[x', y'] 25)).alloc (.cells #[.bool false, .slice none 0 0] 25)).drewN nq).setCell ⟨w.heap.size, 0, none⟩ x').setCell ⟨w.heap.size, 1, none⟩ y').setCell ⟨w.heap.size + 1, 0, none⟩ x).setCell ⟨w.heap.size + 1, 1, none⟩ y)
theorem swapW_below (w : World) (x y x' y' : Value) (nq : Nat) : Below w.heap.size w (swapW w x y x' y' nq) :=
 (((((below_drewN (below_a3 w _ _ _) nq).setCell (by simp) _).setCell (by simp) _).setCell (by simp) _).setCell (by simp) _)
theorem swapW_size (w : World) (x y x' y' : Value) (nq : Nat) : (swapW w x y x' y' nq).heap.size = w.heap.size + 3 := by
 unfold swapW
 rw [setCell_size, setCell_size, setCell_size, setCell_size]
 simp [World.drewN]
theorem cell_set_same {w : World} {b i : Nat} {u v : Value} (h : w.cell? ⟨b, i, none⟩ = some v) : (w.setCell ⟨b, i, none⟩ u).cell? ⟨b, i, none⟩ = some u := by
 unfold World.cell? at h
 dsimp only at h
 unfold World.cell? World.setCell
 dsimp only
 rw [Array.getElem?_modify, if_pos rfl]
 cases hb : w.heap[b]? with
 | none => rw [hb] at h; cases h
 | some o =>
  rw [hb] at h
  cases o with
  | cells c e f =>
   simp only [Option.map_some, Option.isSome_none, Bool.false_eq_true, if_false] at h ⊢
   have hi : i < c.size := by
    rcases Nat.lt_or_ge i c.size with h1 | h1
    ·exact h1
    ·rw [Array.getElem?_eq_none h1] at h; cases h
   simp [hi]
  | _ => cases h
theorem cell_set_ne {w : World} {p q : Addr} {u : Value} (h : p ≠ q) : (w.setCell p u).cell? q = w.cell? q := World.cell?_setCell_other _ _ _ _ h
theorem frozen_set {w : World} {p q : Addr} {u : Value} : (w.setCell p u).frozen? q = w.frozen? q := by simp
theorem swapW_cells (w : World) (x y x' y' : Value) (nq : Nat) :
  (swapW w x y x' y' nq).cell? ⟨w.heap.size, 0, none⟩ = some x' ∧ (swapW w x y x' y' nq).cell? ⟨w.heap.size, 1, none⟩ = some y' ∧
  (swapW w x y x' y' nq).cell? ⟨w.heap.size + 1, 0, none⟩ = some x ∧ (swapW w x y x' y' nq).cell? ⟨w.heap.size + 1, 1, none⟩ = some y ∧
  (swapW w x y x' y' nq).cell? ⟨w.heap.size + 2, 0, none⟩ = some (.bool false) ∧ (swapW w x y x' y' nq).cell? ⟨w.heap.size + 2, 1, none⟩ = some (.slice none 0 0) ∧
  (swapW w x y x' y' nq).frozen? ⟨w.heap.size + 2, 0, none⟩ = false ∧ (swapW w x y x' y' nq).frozen? ⟨w.heap.size + 2, 1, none⟩ = false := by
 have X := three (Below.refl _ (((w.alloc (.cells #[x, y] 25)).alloc (.cells #[x', y'] 25)).alloc (.cells #[.bool false, .slice none 0 0] 25)))
 obtain ⟨h1, h2, h3, h4, h5, h6, h7, h8, _⟩ := X
 have d : ∀ p, ((((w.alloc (.cells #[x, y] 25)).alloc (.cells #[x', y'] 25)).alloc (.cells #[.bool false, .slice none 0 0] 25)).drewN nq).cell? p = (((w.alloc (.cells #[x, y] 25)).alloc (.cells #[x', y'] 25)).alloc (.cells #[.bool false, .slice none 0 0] 25)).cell? p := fun _ => rfl
 have df : ∀ p, ((((w.alloc (.cells #[x, y] 25)).alloc (.cells #[x', y'] 25)).alloc (.cells #[.bool false, .slice none 0 0] 25)).drewN nq).frozen? p = (((w.alloc (.cells #[x, y] 25)).alloc (.cells #[x', y'] 25)).alloc (.cells #[.bool false, .slice none 0 0] 25)).frozen? p := fun _ => rfl
 unfold swapW
 generalize (((w.alloc (.cells #[x, y] 25)).alloc (.cells #[x', y'] 25)).alloc (.cells #[.bool false, .slice none 0 0] 25)) = V at *
 generalize V.drewN nq = U at *
 generalize w.heap.size = g at *
 rw [← d] at h1 h2 h3 h4 h5 h6
 rw [← df] at h7 h8
 have n1 : (⟨g, 0, none⟩ : Addr) ≠ ⟨g, 1, none⟩ := by simp
 have n2 : (⟨g + 1, 0, none⟩ : Addr) ≠ ⟨g + 1, 1, none⟩ := by simp
 have m : ∀ i j : Nat, (⟨g, i, none⟩ : Addr) ≠ ⟨g + 1, j, none⟩ := by simp
 have k1 : ∀ i j : Nat, (⟨g, i, none⟩ : Addr) ≠ ⟨g + 2, j, none⟩ := by simp
 have k2 : ∀ i j : Nat, (⟨g + 1, i, none⟩ : Addr) ≠ ⟨g + 2, j, none⟩ := by simp
 refine ⟨?_, ?_, ?_, ?_, ?_, ?_, ?_, ?_⟩
 ·rw [cell_set_ne (m _ _).symm, cell_set_ne (m _ _).symm, cell_set_ne n1.symm]; exact cell_set_same h1
 ·rw [cell_set_ne (m _ _).symm, cell_set_ne (m _ _).symm]; exact cell_set_same (by rw [cell_set_ne n1]; exact h2)
 ·rw [cell_set_ne n2.symm]; exact cell_set_same (by rw [cell_set_ne (m _ _), cell_set_ne (m _ _)]; exact h3)
 ·exact cell_set_same (by rw [cell_set_ne n2, cell_set_ne (m _ _), cell_set_ne (m _ _)]; exact h4)
 ·rw [cell_set_ne (k2 _ _), cell_set_ne (k2 _ _), cell_set_ne (k1 _ _), cell_set_ne (k1 _ _)]; exact h5
 ·rw [cell_set_ne (k2 _ _), cell_set_ne (k2 _ _), cell_set_ne (k1 _ _), cell_set_ne (k1 _ _)]; exact h6
 ·rw [frozen_set, frozen_set, frozen_set, frozen_set]; exact h7
 ·rw [frozen_set, frozen_set, frozen_set, frozen_set]; exact h8
theorem add_diff_lt (n : Bool) (A A' : Option Addr) (c c' : Nat) (L M : List Nat) (w : World) (hl : L.length ≤ 500000) (hml : M.length ≤ 500000) (hlt : val9 L < val9 M)
  (hL : IntR w w.heap.size n A c L) (hM : IntR w w.heap.size (!n) A' c' M) :
  Calls Tryz.prog 32 #[.agg #[.bool n, .slice A L.length c], .agg #[.bool (!n), .slice A' M.length c']] w fun e w' => ∃ k A c R, e = .returned (.agg #[.bool k, .slice A R.length c]) ∧
   IntR w' w'.heap.size k A c R ∧ zI k R = zI n L + zI (!n) M ∧ R.length ≤ L.length + M.length + 1 ∧ Below w.heap.size w w' := by
 have hM2 := fun W h1 h2 => subt2 A' A c' c M L W (by omega) (canon_len hM.canon hL.canon (by omega)) hM.canon.lim hL.canon.lim (by omega) h1 h2
 have HM2 := Lib.hid hM2
 have hC := fun W h1 h2 => compare_row A A' c c' L M W (by omega) (by omega) h1 h2 hL.canon hM.canon
 rw [cmp_lt hlt] at hC
 have HC := Lib.hid hC
 clear hM2 hC
 generalize hl' : L.length = l at *
 generalize hm' : M.length = l2 at *
 have HLL := Lib.hid hl'
 have HML := Lib.hid hm'
 clear hl' hm' hlt
 have hbb : (n == !n) = false := by cases n <;> rfl
 go_enter Tryz.func32, Tryz.ntmps32
 go_wp2_with fail
 refine (HC.out _ (hL.row.up (below_a3 _ _ _ _)) (hM.row.up (below_a3 _ _ _ _))).mono ?_
 rintro e w9 ⟨rfl, nq, rfl⟩
 go_wp2_with fail
 have Y := swapW_cells w (.bool n) (.slice A l c) (.bool (!n)) (.slice A' l2 c') nq
 have hbS := swapW_below w (.bool n) (.slice A l c) (.bool (!n)) (.slice A' l2 c') nq
 have hsz := swapW_size w (.bool n) (.slice A l c) (.bool (!n)) (.slice A' l2 c') nq
 change Code.wp Tryz.prog _ _ _ (swapW w (.bool n) (.slice A l c) (.bool (!n)) (.slice A' l2 c') nq)
 generalize swapW w (.bool n) (.slice A l c) (.bool (!n)) (.slice A' l2 c') nq = W at *
 have hz1 : w.heap.size < W.drew.heap.size := by show _ < W.heap.size; omega
 have hz2 : w.heap.size + 1 < W.drew.heap.size := by show _ < W.heap.size; omega
 have hz3 : w.heap.size + 2 < W.drew.heap.size := by show _ < W.heap.size; omega
 have HSZ := Lib.hid hsz
 have HUP := Lib.hid (below_drew hbS)
 clear hsz hbS
 have hy1 := Y.1
 have hy2 := Y.2.1
 have hy3 := Y.2.2.1
 have hy4 := Y.2.2.2.1
 have hne1 : ¬ w.heap.size = w.heap.size + 1 + 1 := by omega
 have hne2 : ¬ w.heap.size + 1 + 1 = w.heap.size := by omega
 go_region_held3 (fun w' => w'.cell? ⟨w.heap.size, 0, none⟩ = some (.bool (!n)) ∧ w'.cell? ⟨w.heap.size, 1, none⟩ = some (.slice A' l2 c') ∧
   w'.cell? ⟨w.heap.size + 1, 0, none⟩ = some (.bool n) ∧ w'.cell? ⟨w.heap.size + 1, 1, none⟩ = some (.slice A l c)) (go_keep)
  (first
   | (go_at_call 57; (with_reducible refine (HM2.out _ (hM.row.up HUP.out) (hL.row.up HUP.out)).mono ?_); rintro e w1 ⟨g, c1, R, rfl, hr1, hcan1, hv1, hl1, hb1, hgg⟩; have hs9 := hb1.size; have HB1 := Lib.hid hb1; have hq1 := (hb1.cell (p := ⟨w.heap.size, 0, none⟩) hz1).trans Y.1; have hq2 := (hb1.cell (p := ⟨w.heap.size, 1, none⟩) hz1).trans Y.2.1; have hq3 := (hb1.cell (p := ⟨w.heap.size + 1, 0, none⟩) hz2).trans Y.2.2.1; have hq4 := (hb1.cell (p := ⟨w.heap.size + 1, 1, none⟩) hz2).trans Y.2.2.2.1; clear hb1)
   | (go_at_call 37; refine (signed_any _ _ _ _ _).mono ?_; rintro e w2 ⟨rfl, hb2⟩; have HB2 := Lib.hid (below_then HB1.out hb2 hs9); have HR2 := Lib.hid (hr1.below hb2); have hs2 := hb2.size; clear hq1 hq2 hq3 hq4 hr1 hb2; have hq1 := (HB2.out.cell (p := ⟨w.heap.size, 0, none⟩) hz1).trans Y.1; have hq2 := (HB2.out.cell (p := ⟨w.heap.size, 1, none⟩) hz1).trans Y.2.1; have hq3 := (HB2.out.cell (p := ⟨w.heap.size + 1, 0, none⟩) hz2).trans Y.2.2.1; have hq4 := (HB2.out.cell (p := ⟨w.heap.size + 1, 1, none⟩) hz2).trans Y.2.2.2.1; have hq5 := (HB2.out.cell (p := ⟨w.heap.size + 2, 0, none⟩) hz3).trans Y.2.2.2.2.1; have hq6 := (HB2.out.cell (p := ⟨w.heap.size + 2, 1, none⟩) hz3).trans Y.2.2.2.2.2.1; have hq7 := (HB2.out.frozen (p := ⟨w.heap.size + 2, 0, none⟩) hz3).trans Y.2.2.2.2.2.2.1; have hq8 := (HB2.out.frozen (p := ⟨w.heap.size + 2, 1, none⟩) hz3).trans Y.2.2.2.2.2.2.2))
 all_goals
  go_wp2
  have hbw : Below w.heap.size w w2 := HUP.out.trans (Below.less HB2.out (by omega))
  have hgg2 : w.heap.size + 3 ≤ g := by have h1 := HSZ.out; have h2 : W.heap.size ≤ g := hgg; omega
  refine bodyPost_ret (v := .agg #[.bool ((!n) && decide (0 < R.length)), .slice (some ⟨g, 0, none⟩) R.length c1]) (by simp [results, Tryz.results32, go_sem, hq5, hq6]) rfl
   ⟨_, _, _, R, rfl, ?_, ?_, by omega, (hbw.setCell (by simp; omega) _).setCell (by simp; omega) _⟩
  ·rw [setCell_size, setCell_size]
   refine ⟨((HR2.out.more hs2).apart (by simp; omega) _).apart (by simp; omega) _, hcan1, fun hk hR => ?_⟩
   rw [hR] at hk
   simp at hk
  ·rw [subZI (!n) hv1 val9_nil, Bool.not_not, Int.add_comm]
theorem add_any (n m : Bool) (A A' : Option Addr) (c c' : Nat) (L M : List Nat) (w : World) (hl : L.length ≤ 500000) (hml : M.length ≤ 500000)
  (hL : IntR w w.heap.size n A c L) (hM : IntR w w.heap.size m A' c' M) :
  Calls Tryz.prog 32 #[.agg #[.bool n, .slice A L.length c], .agg #[.bool m, .slice A' M.length c']] w fun e w' => ∃ k A c R, e = .returned (.agg #[.bool k, .slice A R.length c]) ∧
   IntR w' w'.heap.size k A c R ∧ zI k R = zI n L + zI m M ∧ R.length ≤ L.length + M.length + 1 ∧ Below w.heap.size w w' := by
 by_cases h : n = m
 ·subst h
  exact add_same n A A' c c' L M w hl hml hL hM
 ·obtain rfl : m = !n := by cases n <;> cases m <;> first | rfl | exact absurd rfl h
  rcases Nat.lt_or_ge (val9 L) (val9 M) with h1 | h1
  ·exact add_diff_lt n A A' c c' L M w hl hml h1 hL hM
  ·exact add_diff_ge n A A' c c' L M w hl hml h1 hL hM
theorem wpList_byte_str {P : Program} {w : World} {ops : Array Oper} {rest : List Oper} {o : Oper} {a : Act} {Q : Exit → Act → World → Prop} (hg : o.guard = none) (src dst : TypeId) (x : Operand) (hop : o.op = Op.convert src dst x)
  (e : TypeId) (hs : P.underlying src = some (.slice e)) (he : P.underlying e = some (.int .u8)) (hd : P.underlying dst = some .string)
  (X : Int) (b : UInt8) (hX : X = (b.toNat : Int)) (c : Nat) (hx : a.eval x = .slice (some ⟨w.heap.size, 0, none⟩) 1 c)
  (h : wpList P ops Q rest (a.put o.dst (.string ⟨#[b]⟩)) (w.alloc (.cells #[.int .u8 X] e))) : wpList P ops Q (o :: rest) a (w.alloc (.cells #[.int .u8 X] e)) := by
 refine wpList_plain hg fun K hK => ?_
 have hrun : (convert src dst (.slice (some ⟨w.heap.size, 0, none⟩) 1 c)).run P (w.alloc (.cells #[.int .u8 X] e)) = .ok (.string ⟨#[b]⟩) (w.alloc (.cells #[.int .u8 X] e)) := by
  rw [run_convert_bytes_string _ src dst e _ _ _ hs he hd]
  have hl := run_loadCells_list (P := P) (w := w.alloc (.cells #[.int .u8 X] e)) ⟨w.heap.size, 0, none⟩ [.int .u8 X] (fun j v hj => by
   match j, hj with
   | 0, hj =>
    simp at hj
    subst hj
    unfold World.cell? Addr.add
    rw [if_pos rfl]
    dsimp only
    rw [heap_alloc_new]
    simp)
  rw [run_bytesToString (P := P) (w.alloc (.cells #[.int .u8 X] e)) ⟨w.heap.size, 0, none⟩ 1 c [X] (by simpa using hl)]
  subst hX
  simp [ByteArray.empty, ByteArray.emptyWithCapacity, ByteArray.push]
  rfl
 unfold Oper.wp
 simp [execOp, hop, hx, hrun, Result.andThen]
 exact hK _ _ h
theorem str_cons (b : UInt8) (l : List UInt8) : (⟨#[b]⟩ : ByteArray) ++ ⟨l.toArray⟩ = ⟨(b :: l).toArray⟩ := by
 apply WideShapes.bytes_inj
 simp
set_option maxHeartbeats 800000
def lenOf : Value → Nat
 | .slice _ k _ => k
 | _ => 0
theorem rtrim_any (A : Option Addr) (c : Nat) (L : List Nat) (w : World) (B : Nat) (hl : L.length ≤ 4000000) (hR : Row .i64 w B A c L) :
  Calls Tryz.prog 67 #[.slice A L.length c] w fun e w' => e = .returned (.slice A (trimN L L.length) c) ∧ w = w' := by
 have hlc := hR.len
 generalize hn : L.length = n at *
 have HN := Lib.hid hn
 clear hn
 go_enter Tryz.func67, Tryz.ntmps67
 go_wp2
 go_loop [0] (fun v => ∃ k : Nat, k ≤ n ∧ v = .slice A k c ∧ Hid (trimN L k = trimN L n)) lenOf
 case atStart => exact ⟨n, Nat.le_refl _, rfl, rfl⟩
 case round =>
  obtain ⟨k, hk, rfl, ht⟩ := hrel
  rcases Nat.eq_zero_or_pos k with rfl | hpos
  ·have hd : decide ((0 : Int) < ((0 : Nat) : Int)) = false := by simp
   go_wp2
   go_ret
   exact ⟨by rw [← ht.out]; rfl, rfl⟩
  ·obtain ⟨b, o, rfl, hb, hcell⟩ := hR.spot (by rw [HN.out]; omega)
   obtain ⟨m, rfl⟩ : ∃ m, k = m + 1 := ⟨k - 1, by omega⟩
   have h1 : ((0 : Int) < ((m + 1 : Nat) : Int)) := by omega
   have hc := hcell m (by rw [HN.out]; omega)
   clear hcell
   by_cases hz : nth L m = 0
   ·go_wp2
    go_round
    case rel => exact ⟨m, by omega, rfl, by have := ht.out; rw [trimN, if_pos hz] at this; exact this⟩
    case measure => simp [lenOf]
   ·go_wp2
    go_ret
    exact ⟨by have := ht.out; rw [trimN, if_neg hz] at this; rw [← this]; rfl, rfl⟩
theorem rsigned_any (neg : Bool) (A : Option Addr) (c : Nat) (L : List Nat) (w : World) (hl : L.length ≤ 4000000) (hR : Row .i64 w w.heap.size A c L) :
  Calls Tryz.prog 43 #[.bool neg, .slice A L.length c] w fun e w' => e = .returned (.agg #[.bool (neg && decide (0 < trimN L L.length)), .slice A (trimN L L.length) c]) ∧ Below w.heap.size w w' := by
 have hT := fun W h => rtrim_any A c L W w.heap.size hl h
 have htl := trimN_le L L.length
 have HT := Lib.hid hT
 clear hT
 generalize hm : trimN L L.length = m at *
 have HM := Lib.hid hm
 clear hm
 rcases Nat.eq_zero_or_pos m with rfl | hn
 ·have hd : decide ((0 : Int) < ((0 : Nat) : Int)) = false := by simp
  cases neg
  all_goals
   go_enter Tryz.func43, Tryz.ntmps43
   go_wp2_with fail
   refine (HT.out _ (hR.alloc (Nat.le_refl _) _)).mono ?_
   rintro e w1 ⟨rfl, rfl⟩
   go_wp2_with fail
   exact bodyPost_ret (v := .agg #[.bool false, .slice A 0 c]) (by simp [results, Tryz.results43, go_sem]) rfl ⟨rfl, ((Below.refl _ _).alloc (Nat.le_refl _) _)⟩
 ·have hd : decide ((0 : Int) < (m : Int)) = true := by simp; omega
  have hd2 : decide (0 < m) = true := by simp; omega
  rw [hd2]
  clear hd2
  cases neg
  ·go_enter Tryz.func43, Tryz.ntmps43
   go_wp2_with fail
   refine (HT.out _ (hR.alloc (Nat.le_refl _) _)).mono ?_
   rintro e w1 ⟨rfl, rfl⟩
   go_wp2_with fail
   exact bodyPost_ret (v := .agg #[.bool false, .slice A m c]) (by simp [results, Tryz.results43, go_sem]) rfl ⟨rfl, ((Below.refl _ _).alloc (Nat.le_refl _) _)⟩
  ·go_enter Tryz.func43, Tryz.ntmps43
   go_wp2_with fail
   refine (HT.out _ (hR.alloc (Nat.le_refl _) _)).mono ?_
   rintro e w1 ⟨rfl, rfl⟩
   go_wp2_with fail
   exact bodyPost_ret (v := .agg #[.bool true, .slice A m c]) (by simp [results, Tryz.results43, go_sem]) rfl ⟨rfl, ((Below.refl _ _).alloc (Nat.le_refl _) _)⟩
structure RefR (w : World) (B : Nat) (neg : Bool) (A : Option Addr) (c : Nat) (L : List Nat) : Prop where
 row : Row .i64 w B A c L
 lim : ∀ d ∈ L, d < 10000
 top : 0 < L.length → nth L (L.length - 1) ≠ 0
 sgn : neg = true → L ≠ []
theorem RefR.below {w w' : World} {B : Nat} {neg : Bool} {A : Option Addr} {c : Nat} {L : List Nat} (h : RefR w B neg A c L) (hb : Below B w w') : RefR w' B neg A c L := ⟨h.row.below hb, h.lim, h.top, h.sgn⟩
theorem RefR.zero (w : World) (B : Nat) (A : Option Addr) (c : Nat) : RefR w B false A c [] := ⟨Row.nil _ _ _ _ _, fun _ h => absurd h (List.not_mem_nil), fun h => absurd h (Nat.lt_irrefl 0), fun h => absurd h Bool.false_ne_true⟩
def sgnI (neg : Bool) (L : List Nat) : Int := if neg then -1 else if L.length = 0 then 0 else 1
theorem rsign_any (neg : Bool) (A : Option Addr) (c : Nat) (L : List Nat) (w : World) (hs : neg = true → L ≠ []) :
  Calls Tryz.prog 19 #[.agg #[.bool neg, .slice A L.length c]] w fun e w' => e = .returned (.int .i64 (sgnI neg L)) ∧ Below w.heap.size w w' := by
 generalize hn : L.length = n at *
 have hk : sgnI neg L = if neg then -1 else if n = 0 then 0 else 1 := by rw [sgnI, hn]
 rw [hk]
 have hs2 : neg = true → 0 < n := fun h => by rw [← hn]; exact List.length_pos_iff.2 (hs h)
 clear hk hs hn
 rcases Nat.eq_zero_or_pos n with rfl | hpos
 ·cases neg
  ·go_enter Tryz.func19, Tryz.ntmps19
   go_wp2
   go_ret
   exact ⟨rfl, below_alloc_new _⟩
  ·exact absurd (hs2 rfl) (by omega)
 ·have h0 : ((n : Int) == 0) = false := by simp; omega
  have hn0 : ¬ n = 0 := by omega
  cases neg
  ·go_enter Tryz.func19, Tryz.ntmps19
   go_wp2
   go_ret
   exact ⟨rfl, below_alloc_new _⟩
  ·go_enter Tryz.func19, Tryz.ntmps19
   go_wp2
   go_ret
   exact ⟨rfl, below_alloc_new _⟩
theorem sign_any (neg : Bool) (A : Option Addr) (c : Nat) (L : List Nat) (w : World) :
  Calls Tryz.prog 23 #[.agg #[.bool neg, .slice A L.length c]] w fun e w' => e = .returned (.int .i64 (sgnI neg L)) ∧ Below w.heap.size w w' := by
 generalize hn : L.length = n at *
 have hk : sgnI neg L = if neg then -1 else if n = 0 then 0 else 1 := by rw [sgnI, hn]
 rw [hk]
 clear hk hn
 rcases Nat.eq_zero_or_pos n with rfl | hpos
 ·have hd : decide ((0 : Int) < ((0 : Nat) : Int)) = false := by simp
  cases neg
  ·go_enter Tryz.func23, Tryz.ntmps23
   go_wp2
   go_ret
   exact ⟨rfl, below_alloc_new _⟩
  ·go_enter Tryz.func23, Tryz.ntmps23
   go_wp2
   go_ret
   exact ⟨rfl, below_alloc_new _⟩
 ·have h0 : decide ((0 : Int) < (n : Int)) = true := by simp; omega
  have hn0 : ¬ n = 0 := by omega
  cases neg
  ·go_enter Tryz.func23, Tryz.ntmps23
   go_wp2
   go_ret
   exact ⟨rfl, below_alloc_new _⟩
  ·go_enter Tryz.func23, Tryz.ntmps23
   go_wp2
   go_ret
   exact ⟨rfl, below_alloc_new _⟩
open Go.Lib (decDigits)
theorem padk_front (k d : Nat) : padk (k + 1) d = UInt8.ofNat (48 + d / 10 ^ k % 10) :: padk k d := by
 induction k generalizing d with
 | zero => simp [padk]
 | succ k ih =>
  rw [padk, ih (d / 10)]
  have e : d / 10 / 10 ^ k = d / 10 ^ (k + 1) := by rw [Nat.div_div_eq_div_mul, Nat.pow_succ, Nat.mul_comm]
  rw [e, List.cons_append]
  rfl
theorem padk_mod (k d : Nat) : padk k (d % 10 ^ k) = padk k d := by
 induction k generalizing d with
 | zero => rfl
 | succ k ih =>
  rw [padk, padk]
  have e1 : d % 10 ^ (k + 1) / 10 = (d / 10) % 10 ^ k := by
   rw [Nat.pow_succ, Nat.mul_comm, Nat.mod_mul_right_div_self]
  have e2 : d % 10 ^ (k + 1) % 10 = d % 10 := by
   rw [Nat.pow_succ, Nat.mul_comm, Nat.mod_mul_right_mod]
  rw [e1, e2, ih]
def topTxt (d k : Nat) : List UInt8 := if d < 10 ^ k then decDigits d else padk k d
theorem topTxt_step {d k : Nat} (h : 10 ^ k ≤ d) : topTxt d (k + 1) = UInt8.ofNat (48 + d / 10 ^ k % 10) :: topTxt d k := by
 unfold topTxt
 rw [if_neg (by omega : ¬ d < 10 ^ k)]
 split
 ·rename_i h2
  have hp : 0 < 10 ^ k := Nat.pow_pos (by omega)
  have hq : d / 10 ^ k < 10 := by rw [Nat.div_lt_iff_lt_mul hp]; rw [Nat.pow_succ] at h2; omega
  have hq0 : 0 < d / 10 ^ k := Nat.div_pos h hp
  have := dec_pad k (d / 10 ^ k) (d % 10 ^ k) hq0 (Nat.mod_lt _ hp)
  rw [Nat.div_add_mod', padk_mod, dec_small hq] at this
  rw [this, Nat.mod_eq_of_lt hq]
  rfl
 ·exact padk_front k d
theorem topTxt_same {d k : Nat} (h : d < 10 ^ k) : topTxt d (k + 1) = topTxt d k := by
 unfold topTxt
 rw [if_pos h, if_pos (by rw [Nat.pow_succ]; omega)]
theorem topTxt_zero {d : Nat} (h : 0 < d) : topTxt d 0 = [] := by unfold topTxt; rw [if_neg (by simp; omega)]; rfl
def rtx (L : List Nat) (i : Nat) : List UInt8 := if i < L.length then lowPads 4 (L.take i) else decDigits (valB 10000 L)
theorem rtx_low {L : List Nat} {i : Nat} (h : i + 1 < L.length) : rtx L (i + 1) = padk 4 (nth L i) ++ rtx L i := by
 unfold rtx
 rw [if_pos h, if_pos (by omega), List.take_succ_eq_append_getElem (by omega), ← nth_lt (by omega)]
 generalize L.take i = M
 have key : ∀ M : List Nat, lowPads 4 (M ++ [nth L i]) = padk 4 (nth L i) ++ lowPads 4 M := by
  intro M
  induction M with
  | nil => simp [lowPads]
  | cons x r ih => simp only [List.cons_append, lowPads, ih, List.append_assoc]
 exact key M
theorem rtx_top {L : List Nat} {i : Nat} (h : i + 1 = L.length) (hl : ∀ d ∈ L, d < 10000) (ht : nth L i ≠ 0) : rtx L (i + 1) = topTxt (nth L i) 4 ++ rtx L i := by
 unfold rtx
 rw [if_neg (by omega), if_pos (by omega)]
 have hd : nth L i < 10000 := nth_all hl (by omega) i
 have := dec_limbs 4 (L.take i) (nth L i) (by omega) (fun d hd => hl d (List.mem_of_mem_take hd))
 have e2 : L.take i ++ [nth L i] = L := by
  rw [nth_lt (by omega), List.take_append_getElem]
  exact List.take_of_length_le (by omega)
 rw [e2] at this
 rw [show (10000 : Nat) = 10 ^ 4 from rfl, this]
 unfold topTxt
 rw [if_pos (by omega)]
theorem rtx_len {L : List Nat} {i : Nat} (hi : i ≤ L.length) (h0 : L.length ≠ 0) (hl : ∀ d ∈ L, d < 10000) (ht : nth L (L.length - 1) ≠ 0) : (rtx L i).length ≤ 4 * i + 10 := by
 unfold rtx
 split
 ·rw [lowPads_length, List.length_take]; omega
 ·have hii : i = L.length := by omega
  have h1 := dec_limbs 4 (L.take (L.length - 1)) (nth L (L.length - 1)) (by omega) (fun d hd => hl d (List.mem_of_mem_take hd))
  have e2 : L.take (L.length - 1) ++ [nth L (L.length - 1)] = L := by
   rw [nth_lt (by omega), List.take_append_getElem]
   exact List.take_of_length_le (by omega)
  rw [e2] at h1
  rw [show (10000 : Nat) = 10 ^ 4 from rfl, h1, List.length_append, lowPads_length, List.length_take]
  have h2 : nth L (L.length - 1) < 10000 := nth_all hl (by omega) _
  have := dec_len (nth L (L.length - 1)) (by omega)
  omega
theorem sizeList (s : ByteArray) : s.data.toList.length = s.size := by simp
theorem digit_byte (q : Nat) : ∃ b : UInt8, b.toNat = 48 + q % 10 ∧ b = UInt8.ofNat (48 + q % 10) := ⟨_, digit_code q, rfl⟩
theorem div_step (d k : Nat) : d / 10 ^ (k + 1) = d / 10 ^ k / 10 := by rw [Nat.div_div_eq_div_mul, Nat.pow_succ]
set_option maxRecDepth 20000 in
set_option maxHeartbeats 3200000 in
theorem rtext_any (neg : Bool) (A : Option Addr) (c : Nat) (L : List Nat) (w : World) (hl : L.length ≤ 1000000) (hR : RefR w w.heap.size neg A c L) :
  Calls Tryz.prog 44 #[.agg #[.bool neg, .slice A L.length c]] w fun e w' => e = .returned (.string ⟨(decI neg (valB 10000 L)).toArray⟩) ∧ Below w.heap.size w w' := by
 obtain ⟨hrow, hlim, htop, hsgn⟩ := hR
 generalize hn : L.length = n at *
 have HN := Lib.hid hn
 clear hn
 have HS := Lib.hid hsgn
 have HT := Lib.hid htop
 clear hsgn htop
 go_enter Tryz.func44, Tryz.ntmps44
 go_wp2
 go_loopw [3, 4] (fun ov iv wr => ∃ (i : Nat) (O : ByteArray), i ≤ n ∧ iv = .int .i64 i ∧ ov = .string O ∧ Hid (O = ⟨(if n = 0 then [] else rtx L i).toArray⟩) ∧
  Below (w.heap.size + 1) (w.alloc (.cells #[.bool neg, .slice A n c] 33)) wr) (fun _ iv _ => n - (intOf iv).toNat)
 case atStart =>
  refine ⟨0, ⟨#[]⟩, Nat.zero_le _, rfl, rfl, ?_, by have := Below.refl (w.heap.size + 1) (w.alloc (.cells #[.bool neg, .slice A n c] 33)); exact this⟩
  show _ = _
  split
  ·rfl
  ·rw [rtx, if_pos (by rw [HN.out]; omega)]; rfl
 case round =>
  obtain ⟨i, O, hi, rfl, rfl, hO, hbr⟩ := hrel
  have hx1 := (boxed2 hbr).2
  by_cases hlt : i < n
  ·obtain ⟨b, o, rfl, hb, hcell⟩ := hrow.spot (by rw [HN.out]; omega)
   have hm := (hcell.below (Below.trans (below_alloc_new _) (Below.less hbr (Nat.le_succ _))) hb) i (by rw [HN.out]; omega)
   have hd := nth_all hlim (by omega) i
   clear hcell
   generalize hdd : nth L i = d at *
   have HDD := Lib.hid hdd
   clear hdd
   go_wp2
   have ⟨T, hT⟩ : ∃ T, Hid (O = ⟨T.toArray⟩ ∧ T = rtx L i) := ⟨_, by rw [hO.out, if_neg (by omega)], rfl⟩
   have hTl : T.length ≤ 4000010 := by
    rw [hT.out.2]
    have := rtx_len (L := L) (i := i) (by rw [HN.out]; omega) (by rw [HN.out]; omega) hlim (by rw [HN.out]; exact HT.out (by omega))
    omega
   by_cases hlow : i < n - 1
   ·go_loopw [3, 5, 6] (fun ov nv kv wq => ∃ (k : Nat) (O' : ByteArray) (q : Nat), k ≤ 4 ∧ kv = .int .i64 k ∧ ov = .string O' ∧ nv = .int .i64 q ∧ q ≤ 9999 ∧ Hid (O' = ⟨(padk k d ++ T).toArray⟩) ∧ Hid (q = d / 10 ^ k) ∧
     Below (w.heap.size + 1) (w.alloc (.cells #[.bool neg, .slice (some ⟨b, o, none⟩) n c] 33)) wq) (fun _ _ kv _ => 4 - (intOf kv).toNat)
    case atStart => exact ⟨0, O, d, by omega, rfl, rfl, rfl, by omega, by rw [hT.out.1]; rfl, by show _ = _; simp, hbr⟩
    case round =>
     clear hx1 hm
     obtain ⟨k, O', q, hk, rfl, rfl, rfl, hq, hO', hqd, hbq⟩ := hrel
     have hx1 := (boxed2 hbq).2
     by_cases hk4 : k < 4
     ·have hlow' : (i : Int) < (n : Int) - 1 := by omega
      have hsz : O'.size ≤ 5000000 := by
       rw [hO'.out, ← sizeList]
       simp only [List.length_append, padk_length]
       omega
      obtain ⟨bt, hbt, hbt2⟩ := digit_byte q
      have HBT := Lib.hid hbt
      have HBT2 := Lib.hid hbt2
      clear hbt hbt2
      go_wp2_with (refine wpList_byte_str rfl 84 9 (.tmp 37) rfl 5 Tryz.underlying84 Tryz.underlying5 Tryz.underlying9 _ bt ?_ 1 rfl ?_; (rw [HBT.out]; simp))
      go_roundw
      case rel =>
       refine ⟨k + 1, (⟨#[bt]⟩ : ByteArray) ++ O', q / 10, by omega, by go_num, rfl, by simp, by omega, ?_, ?_, ?_⟩
       ·show _ = _
        rw [hO'.out, str_cons, padk_front, HBT2.out, hqd.out]
        rfl
       ·show _ = _
        rw [hqd.out, div_step]
       ·have hs2 : w.heap.size + 1 ≤ wr.heap.size := by have := hbq.size; simpa using this
        exact hbq.alloc hs2 _
      case measure => simp [intOf]; omega
     ·obtain rfl : k = 4 := by omega
      have hd4 : decide (((4 : Nat) : Int) < 4) = false := by decide
      go_wp2
      go_roundw
      case rel =>
       refine ⟨i + 1, O', by omega, by go_num, rfl, ?_, hbq⟩
       show _ = _
       rw [if_neg (by omega), hO'.out, hT.out.2, rtx_low (by rw [HN.out]; omega), HDD.out]
      case measure => simp [intOf]; omega
   ·have hd0 : 0 < d := by
     have h9 := HT.out (by omega)
     have : n - 1 = i := by omega
     rw [this, HDD.out] at h9; omega
    have hlow' : ¬ (i : Int) < (n : Int) - 1 := by omega
    go_loopw [3, 5, 6] (fun ov nv kv wq => ∃ (k : Nat) (O' : ByteArray) (q : Nat), k ≤ 4 ∧ kv = .int .i64 k ∧ ov = .string O' ∧ nv = .int .i64 q ∧ q ≤ 9999 ∧ Hid (O' = ⟨(topTxt d k ++ T).toArray⟩) ∧ Hid (q = d / 10 ^ k) ∧
     Below (w.heap.size + 1) (w.alloc (.cells #[.bool neg, .slice (some ⟨b, o, none⟩) n c] 33)) wq) (fun _ _ kv _ => 4 - (intOf kv).toNat)
    case atStart => exact ⟨0, O, d, by omega, rfl, rfl, rfl, by omega, by rw [hT.out.1, topTxt_zero hd0]; rfl, by show _ = _; simp, hbr⟩
    case round =>
     clear hx1 hm
     obtain ⟨k, O', q, hk, rfl, rfl, rfl, hq, hO', hqd, hbq⟩ := hrel
     have hx1 := (boxed2 hbq).2
     by_cases hk4 : k < 4
     ·have hp10 : 0 < 10 ^ k := Nat.pow_pos (by omega)
      by_cases hbig : 10 ^ k ≤ d
      ·have hq0 : (0 : Int) < (q : Int) := by
        have := Nat.div_pos hbig hp10
        rw [← hqd.out] at this; omega
       have htl : (topTxt d k).length ≤ 20 := by
        unfold topTxt; rw [if_neg (by omega), padk_length]; omega
       have HBIG := Lib.hid hbig
       clear hbig hp10
       have hsz : O'.size ≤ 5000000 := by
        rw [hO'.out, ← sizeList]
        simp only [List.length_append]
        omega
       obtain ⟨bt, hbt, hbt2⟩ := digit_byte q
       have HBT := Lib.hid hbt
       have HBT2 := Lib.hid hbt2
       clear hbt hbt2
       go_wp2_with (refine wpList_byte_str rfl 84 9 (.tmp 37) rfl 5 Tryz.underlying84 Tryz.underlying5 Tryz.underlying9 _ bt ?_ 1 rfl ?_; (rw [HBT.out]; simp))
       go_roundw
       case rel =>
        refine ⟨k + 1, (⟨#[bt]⟩ : ByteArray) ++ O', q / 10, by omega, by go_num, rfl, by simp, by omega, ?_, ?_, ?_⟩
        ·show _ = _
         rw [hO'.out, str_cons, topTxt_step HBIG.out, HBT2.out, hqd.out]
         rfl
        ·show _ = _
         rw [hqd.out, div_step]
        ·have hs2 : w.heap.size + 1 ≤ wr.heap.size := by have := hbq.size; simpa using this
         exact hbq.alloc hs2 _
       case measure => simp [intOf]; omega
      ·have hq0 : ¬ (0 : Int) < (q : Int) := by
        have := hqd.out
        rw [Nat.div_eq_of_lt (by omega)] at this; omega
       have HBIG := Lib.hid hbig
       clear hbig hp10
       go_wp2
       go_roundw
       case rel =>
        refine ⟨k + 1, O', q / 10, by omega, by go_num, rfl, by simp, by omega, ?_, ?_, hbq⟩
        ·show _ = _
         rw [hO'.out, topTxt_same (by have := HBIG.out; omega)]
        ·show _ = _
         rw [hqd.out, div_step]
       case measure => simp [intOf]; omega
     ·obtain rfl : k = 4 := by omega
      have hd4 : decide (((4 : Nat) : Int) < 4) = false := by decide
      go_wp2
      go_roundw
      case rel =>
       refine ⟨i + 1, O', by omega, by go_num, rfl, ?_, hbq⟩
       show _ = _
       rw [if_neg (by omega), hO'.out, hT.out.2, rtx_top (by rw [HN.out]; omega) hlim (by rw [HDD.out]; omega), HDD.out]
      case measure => simp [intOf]; omega
  ·obtain rfl : i = n := by omega
   have hx0 := (boxed2 hbr).1
   have hbw : Below w.heap.size w wr := (below_alloc_new _).trans (Below.less hbr (Nat.le_succ _))
   have HX := Lib.hid hbw
   rcases Nat.eq_zero_or_pos i with rfl | hpos
   ·obtain rfl : L = [] := List.eq_nil_of_length_eq_zero HN.out
    have hne : O.toList.isEmpty = true := by rw [hO.out, if_pos rfl, ByteArray.toList_eq]; rfl
    obtain rfl : neg = false := by cases neg; rfl; exact absurd rfl (HS.out rfl)
    clear hbw hbr
    go_wp2
    go_ret
    exact ⟨by rw [show decI false (valB 10000 []) = [48] from by show [] ++ decDigits 0 = _; rw [dec_small (by omega)]; rfl]; rfl, HX.out⟩
   ·have hOo := hO.out
    have hrl := rtx_len (L := L) (i := i) (by rw [HN.out]; omega) (by rw [HN.out]; omega) hlim (by rw [HN.out]; exact HT.out (by omega))
    rw [if_neg (by omega)] at hOo
    have hrx : rtx L i = decDigits (valB 10000 L) := by rw [rtx, if_neg (by rw [HN.out]; omega)]
    rw [hrx] at hOo hrl
    have hne : O.toList.isEmpty = false := by
     rw [ByteArray.toList_eq, hOo, List.isEmpty_eq_false_iff]; exact dec_ne _
    have hsz : O.size ≤ 5000000 := by rw [hOo, ← sizeList]; simp only []; omega
    have HOO := Lib.hid hOo
    clear hOo hrx hrl hbw hbr
    cases neg
    ·go_wp2
     go_ret
     exact ⟨by rw [HOO.out]; rfl, HX.out⟩
    ·go_wp2
     go_ret
     exact ⟨by rw [HOO.out]; show Ending.returned (.string ((⟨#[45]⟩ : ByteArray) ++ _)) = _; rw [str_cons]; rfl, HX.out⟩
theorem tab_up {w W : World} (h : Tab w.heap.size w) (hb : Below w.heap.size w W) : Tab W.heap.size W := Tab.more (h.on hb) hb.size
theorem IntR.up {w W : World} {n : Bool} {A : Option Addr} {c : Nat} {L : List Nat} (h : IntR w w.heap.size n A c L) (hb : Below w.heap.size w W) : IntR W W.heap.size n A c L := ⟨h.row.up hb, h.canon, h.sgn⟩
theorem RefR.up {w W : World} {n : Bool} {A : Option Addr} {c : Nat} {L : List Nat} (h : RefR w w.heap.size n A c L) (hb : Below w.heap.size w W) : RefR W W.heap.size n A c L := ⟨h.row.up hb, h.lim, h.top, h.sgn⟩
theorem parse_any (s : ByteArray) (w : World) (hs : s.size ≤ 1000000) :
  Calls Tryz.prog 15 #[.string s] w fun e w' => ∃ k A c L, e = .returned (.tuple #[.agg #[.bool k, .slice A L.length c], .int .i64 (errOf s.data.toList)]) ∧ IntR w' w'.heap.size k A c L ∧ L.length ≤ 223 ∧
   Hid (errOf s.data.toList = 0 → k = negOf s.data.toList ∧ val9 L = numOf (restOf s.data.toList)) ∧ Hid (errOf s.data.toList ≠ 0 → k = false ∧ L = []) ∧ Below w.heap.size w w' := by
 unfold errOf
 by_cases hb : badNum s.data.toList = true
 ·rw [if_pos hb]
  refine (parse_bad s w hs hb).mono ?_
  rintro e w' ⟨rfl, hbw⟩
  exact ⟨false, none, 0, [], rfl, IntR.zero _ _ _ _, by simp, fun h => absurd h (by decide), fun _ => ⟨rfl, rfl⟩, hbw⟩
 ·rw [if_neg hb]
  rw [Bool.not_eq_true] at hb
  by_cases hl : 2000 < (restOf s.data.toList).length
  ·rw [if_pos hl]
   refine (parse_long s w hs hb hl).mono ?_
   rintro e w' ⟨rfl, hbw⟩
   exact ⟨false, none, 0, [], rfl, IntR.zero _ _ _ _, by simp, fun h => absurd h (by decide), fun _ => ⟨rfl, rfl⟩, hbw⟩
  ·rw [if_neg hl]
   refine (parse_ok s w hs hb (by omega)).mono ?_
   rintro e w' ⟨A, c, L, rfl, hi, hv, hn, hbw⟩
   exact ⟨_, A, c, L, rfl, hi, hn, fun _ => ⟨rfl, hv⟩, fun h => absurd rfl h, hbw⟩
theorem upa2 {w wk : World} {a b : Obj} (h : Below (w.heap.size + 2) ((w.alloc a).alloc b) wk) : Below w.heap.size w wk := (below_a2 w a b).trans (Below.less h (by omega))
theorem below_atB {B b i : Nat} {W wk : World} (h : Below B W wk) (hb : b < B) : wk.cell? ⟨b, i, none⟩ = W.cell? ⟨b, i, none⟩ := h.cell hb
theorem snoc_rec {P : List UInt8 → Prop} (h0 : P []) (h1 : ∀ i c, P i → P (i ++ [c])) (l : List UInt8) : P l := by
 suffices H : ∀ n (l : List UInt8), l.length = n → P l from H _ l rfl
 intro n
 induction n with
 | zero => intro l hl; rw [List.eq_nil_of_length_eq_zero hl]; exact h0
 | succ n ih =>
  intro l hl
  have hne : l ≠ [] := by rintro rfl; simp at hl
  rw [← List.dropLast_concat_getLast hne]
  exact h1 _ _ (ih _ (by simp [hl]))
theorem numOf_append (a b : List UInt8) : numOf (a ++ b) = numOf a * 10 ^ b.length + numOf b := by
 refine snoc_rec (P := fun b => numOf (a ++ b) = numOf a * 10 ^ b.length + numOf b) (by simp [numOf]) (fun i c ih => ?_) b
 ·rw [← List.append_assoc, numOf_snoc, numOf_snoc, ih, List.length_append, List.length_singleton, Nat.pow_succ, Nat.mul_add, ← Nat.mul_assoc (numOf a), Nat.mul_comm 10 (numOf a * _)]
  omega
theorem numOf_lt {l : List UInt8} (hd : ∀ c ∈ l, isDig c = true) : numOf l < 10 ^ l.length := by
 revert hd
 refine snoc_rec (P := fun l => (∀ c ∈ l, isDig c = true) → numOf l < 10 ^ l.length) (fun _ => by simp [numOf]) (fun i c ih hd => ?_) l
 ·have h1 := ih fun x hx => hd x (by simp [hx])
  have h2 := isDig_iff.1 (hd c (by simp))
  rw [numOf_snoc, List.length_append, List.length_singleton, Nat.pow_succ]
  omega
def seg (D : List UInt8) (a b : Nat) : List UInt8 := (D.take b).drop a
theorem seg_succ {D : List UInt8} {a k : Nat} (ha : a ≤ k) (hk : k < D.length) : numOf (seg D a (k + 1)) = 10 * numOf (seg D a k) + digAt D k := by
 unfold seg
 rw [List.take_succ_eq_append_getElem hk, List.drop_append_of_le_length (by rw [List.length_take]; omega), numOf_snoc]
 simp [digAt, hk]
theorem seg_self (D : List UInt8) (a : Nat) : numOf (seg D a a) = 0 := by
 unfold seg
 rw [List.drop_of_length_le (by rw [List.length_take]; omega)]; rfl
theorem seg_dig {D : List UInt8} (hd : ∀ c ∈ D, isDig c = true) (a b : Nat) : ∀ c ∈ seg D a b, isDig c = true := fun c hc => hd c (List.mem_of_mem_take (List.mem_of_mem_drop hc))
theorem seg_lt {D : List UInt8} (hd : ∀ c ∈ D, isDig c = true) {a b : Nat} (h : b ≤ a + 4) : numOf (seg D a b) < 10000 := by
 have h1 := numOf_lt (seg_dig hd a b)
 have h2 : (seg D a b).length ≤ 4 := by unfold seg; rw [List.length_drop, List.length_take]; omega
 have h3 : (10 : Nat) ^ (seg D a b).length ≤ 10 ^ 4 := Nat.pow_le_pow_right (by omega) h2
 omega
def chunks (D : List UInt8) : Nat → List Nat
 | 0 => []
 | j + 1 => chunks D j ++ [numOf (seg D (D.length - 4 * j - 4) (D.length - 4 * j))]
theorem chunks_len (D : List UInt8) (j : Nat) : (chunks D j).length = j := by
 induction j with
 | zero => rfl
 | succ j ih => simp [chunks, ih]
theorem chunks_lim {D : List UInt8} (hd : ∀ c ∈ D, isDig c = true) (j : Nat) : ∀ d ∈ chunks D j, d < 10000 := by
 induction j with
 | zero => intro d h; cases h
 | succ j ih =>
  intro d h
  rcases List.mem_append.1 h with h | h
  ·exact ih d h
  ·rw [List.mem_singleton] at h; subst h; exact seg_lt hd (by omega)
theorem chunks_val (D : List UInt8) (j : Nat) : numOf D = valB 10000 (chunks D j) + 10000 ^ j * numOf (D.take (D.length - 4 * j)) := by
 induction j with
 | zero => simp [chunks, valB]
 | succ j ih =>
  rw [ih, chunks, valB_append, chunks_len, Nat.pow_succ]
  have h4 : D.length - 4 * (j + 1) = D.length - 4 * j - 4 := by omega
  rw [h4]
  have hnl : D.length - 4 * j ≤ D.length := by omega
  generalize D.length - 4 * j = n at *
  have hs : numOf (D.take n) = numOf (D.take (n - 4)) * 10000 + numOf (seg D (n - 4) n) := by
   have e : D.take n = D.take (n - 4) ++ seg D (n - 4) n := by
    unfold seg
    have := (List.take_append_drop (n - 4) (D.take n)).symm
    rw [List.take_take, Nat.min_eq_left (by omega)] at this
    exact this
   rw [e, numOf_append]
   by_cases hn : 4 ≤ n
   ·have : (seg D (n - 4) n).length = 4 := by unfold seg; rw [List.length_drop, List.length_take]; omega
    rw [this]
   ·have h0 : n - 4 = 0 := by omega
    rw [h0]; simp [numOf]
  rw [hs]
  simp only [valB, Nat.mul_zero, Nat.add_zero, Nat.mul_add]
  rw [Nat.mul_comm (numOf (List.take (n - 4) D)) 10000, ← Nat.mul_assoc]
  omega
theorem size_list (s : ByteArray) : s.data.toList.length = s.size := by simp
theorem neg_cases (s : ByteArray) : (negOf s.data.toList = false ∧ restOf s.data.toList = s.data.toList ∧ (∀ h : 0 < s.size, (s[0]'h).toNat ≠ 45)) ∨
  (negOf s.data.toList = true ∧ restOf s.data.toList = (s.extract 1 s.size).data.toList ∧ ∃ h : 0 < s.size, (s[0]'h).toNat = 45) := by
 have hl := size_list s
 have hg := toList_get s 0
 have he : (s.extract 1 s.size).data.toList = s.data.toList.drop 1 := Lib.extract_to_end s 1
 unfold negOf restOf Lib.trimPrefix
 rcases hs : s.data.toList with _ | ⟨c, r⟩
 ·left
  refine ⟨rfl, rfl, fun h => ?_⟩
  rw [hs] at hl; simp at hl; omega
 ·have h0 : 0 < s.size := by rw [hs] at hl; simp at hl; omega
  have hc : c = s[0] := by rw [← hg h0]; simp [hs]
  by_cases h45 : c = 45
  ·right
   subst h45
   refine ⟨by simp [Lib.hasPrefix], ?_, h0, by rw [← hc]; rfl⟩
   rw [he, hs]
   simp [Lib.hasPrefix]
  ·left
   have hp : Lib.hasPrefix (c :: r) [45] = false := by
    simp only [Lib.hasPrefix, List.isPrefixOf, Bool.and_true]; rw [beq_eq_false_iff_ne]; exact fun h => h45 h.symm
   rw [hp]
   refine ⟨rfl, rfl, fun _ => ?_⟩
   rw [← hc]
   intro e
   exact h45 (by apply UInt8.toNat_inj.1; rw [e]; rfl)
theorem good_facts {l : List UInt8} (h : badNum l = false) : (∀ c ∈ restOf l, isDig c = true) ∧ restOf l ≠ [] ∧ ((restOf l).head? = some 48 → negOf l = false ∧ restOf l = [48]) ∧ (negOf l = true → 0 < numOf (restOf l)) := by
 have hok : okNum (restOf l) = true := by unfold badNum at h; revert h; cases okNum (restOf l) <;> simp
 obtain ⟨h1, h2, h3⟩ := okNum_parts hok
 have h4 : negOf l = true → restOf l ≠ [48] := by
  intro hn e
  unfold badNum at h
  rw [hok, hn, e] at h
  simp at h
 have h5 : negOf l = true → (restOf l).head? ≠ some 48 := by
  intro hn
  rcases h3 with h3 | h3
  ·exact absurd h3 (h4 hn)
  ·exact h3
 refine ⟨h1, h2, fun hh => ?_, fun hn => numOf_pos h1 h2 (h5 hn)⟩
 rcases h3 with h3 | h3
 ·refine ⟨?_, h3⟩
  cases hn : negOf l
  ·rfl
  ·exact absurd h3 (h4 hn)
 ·exact absurd hh h3
theorem head_byte {s : ByteArray} (h : 0 < s.size) : s.data.toList.head? = some (s[0]'h) := by
 have hg := toList_get s 0 h
 rcases hs : s.data.toList with _ | ⟨c, r⟩
 ·have := size_list s; rw [hs] at this; simp at this; omega
 ·rw [← hg]; simp [hs]
theorem byte_dig (D : ByteArray) (hd : ∀ c ∈ D.data.toList, isDig c = true) (i : Nat) (h : i < D.size) : 48 ≤ (D[i]'h).toNat ∧ (D[i]'h).toNat ≤ 57 ∧ (D[i]'h).toNat - 48 = digAt D.data.toList i := by
 have e := toList_get D i h
 have h1 := isDig_iff.1 (hd _ (List.getElem_mem (by simpa using h : i < D.data.toList.length)))
 rw [e] at h1
 refine ⟨h1.1, h1.2, ?_⟩
 simp only [digAt, List.getD_eq_getElem?_getD, List.getElem?_eq_getElem (by simpa using h : i < D.data.toList.length), Option.getD_some]
 rw [e]
theorem bad_of_digits {l : List UInt8} (h : badNum l = true) (hd : ∀ c ∈ restOf l, isDig c = true) (h0 : restOf l ≠ []) (h48 : (restOf l).head? ≠ some 48) : False := by
 have h1 : (restOf l).all isDig = true := List.all_eq_true.2 hd
 have h2 : (restOf l == [48]) = false := by
  rw [beq_eq_false_iff_ne]; intro e; rw [e] at h48; exact h48 rfl
 have h3 : (restOf l).length ≠ 0 := fun e => h0 (List.eq_nil_of_length_eq_zero e)
 have h4 : ((restOf l).head? != some 48) = true := by rw [bne_iff_ne]; exact h48
 unfold badNum okNum at h
 rw [h1, h2, h4] at h
 have h5 : ((restOf l).length != 0) = true := by rw [bne_iff_ne]; exact h3
 rw [h5] at h
 cases hn : negOf l <;> rw [hn] at h <;> exact absurd h (by decide)
theorem all_dig' (D : ByteArray) (h : ∀ j (h2 : j < D.size), isDig (D[j]'h2) = true) : ∀ c ∈ D.data.toList, isDig c = true := List.all_eq_true.1 (all_dig D fun j _ h2 => h j h2)
set_option maxRecDepth 20000 in
set_option maxHeartbeats 1600000 in
theorem rparse_bad (s : ByteArray) (w : World) (hs : s.size ≤ 1000000) (hbad : badNum s.data.toList = true) :
  Calls Tryz.prog 18 #[.string s] w fun e w' => e = .returned (.tuple #[.agg #[.bool false, .slice none 0 0], .int .i64 3]) ∧ Below w.heap.size w w' := by
 rcases neg_cases s with ⟨hn, hr, h0⟩ | ⟨hn, hr, h0, h1⟩
 ·rcases Nat.eq_zero_or_pos s.size with hz | hp
  ·have hd : decide ((0 : Int) < (s.size : Int)) = false := by rw [decide_eq_false_iff_not]; omega
   have he : ((s.size : Int) == 0) = true := by rw [beq_iff_eq]; omega
   clear hz hr hn h0 hbad
   go_enter Tryz.func18, Tryz.ntmps18
   go_wp2
   exact bodyPost_ret (v := .tuple #[.agg #[.bool false, .slice none 0 0], .int .i64 3]) (by simp [results, Tryz.results18, go_sem]) rfl ⟨rfl, below_alloc_new _⟩
  ·have h45 := h0 hp
   have hq : (((s[0]'hp).toNat : Int) == 45) = false := by rw [beq_eq_false_iff_ne]; omega
   have hd : decide ((0 : Int) < (s.size : Int)) = true := by rw [decide_eq_true_iff]; omega
   have he : ((s.size : Int) == 0) = false := by rw [beq_eq_false_iff_ne]; omega
   by_cases h48 : (s[0]'hp).toNat = 48
   ·have hb1 : (s.toList == [48]) = false := by
     rw [ByteArray.toList_eq, beq_eq_false_iff_ne]; intro e; rw [e] at hbad; revert hbad; decide
    have hb2 : (((s[0]'hp).toNat : Int) == 48) = true := by rw [beq_iff_eq]; omega
    clear h48 h45 hr hn h0 hbad
    go_enter Tryz.func18, Tryz.ntmps18
    go_wp2
    exact bodyPost_ret (v := .tuple #[.agg #[.bool false, .slice none 0 0], .int .i64 3]) (by simp [results, Tryz.results18, go_sem]) rfl ⟨rfl, below_alloc_new _⟩
   ·have hb2 : (((s[0]'hp).toNat : Int) == 48) = false := by rw [beq_eq_false_iff_ne]; omega
    have HBAD : Hid ((∀ c ∈ s.data.toList, isDig c = true) → False) := fun hdg =>
     bad_of_digits hbad (by rw [hr]; exact hdg) (by rw [hr]; intro e; have := size_list s; rw [e] at this; simp at this; omega)
      (by rw [hr, head_byte hp]; intro e; apply h48; have := congrArg (fun (o : Option UInt8) => (o.getD 0).toNat) e; exact this)
    have HSZ : Hid (s.size = s.size) := rfl
    clear h48 h45 hr hn h0 hbad
    go_enter Tryz.func18, Tryz.ntmps18
    go_wp2
    go_loop [5] (fun v => ∃ k : Nat, k ≤ s.size ∧ v = .int .i64 k ∧ Hid (∀ j, j < k → ∀ (h2 : j < s.size), isDig (s[j]'h2) = true)) (fun v => s.size - (intOf v).toNat)
    case atStart => exact ⟨0, Nat.zero_le _, rfl, fun j h => absurd h (by omega)⟩
    case round =>
     obtain ⟨k, hk, rfl, hall⟩ := hrel
     by_cases hlz : k < s.size
     ·have hlt : k < s.size := hlz
      by_cases hdg : isDig (s[k]'hlt) = true
      ·obtain ⟨b1, b2⟩ := isDig_iff.1 hdg
       have hdq : decide ((((s[k]'hlt).toNat : Nat) : Int) < 48) = false := by rw [decide_eq_false_iff_not]; omega
       have HDG := Lib.hid hdg
       clear hdg
       go_wp2
       go_round
       case rel => exact ⟨k + 1, by omega, by go_num, fun j hj h2 => by
        rcases Nat.lt_succ_iff_lt_or_eq.1 hj with h3 | rfl
        ·exact hall.out j h3 h2
        ·exact HDG.out⟩
       case measure => simp [intOf]; omega
      ·by_cases hl48 : (s[k]'hlt).toNat < 48
       ·have hdq : decide ((((s[k]'hlt).toNat : Nat) : Int) < 48) = true := by rw [decide_eq_true_iff]; omega
        clear hdg
        go_wp2
        exact bodyPost_ret (v := .tuple #[.agg #[.bool false, .slice none 0 0], .int .i64 3]) (by simp [results, Tryz.results18, go_sem]) rfl ⟨rfl, below_alloc_new _⟩
       ·have hdq : decide ((((s[k]'hlt).toNat : Nat) : Int) < 48) = false := by rw [decide_eq_false_iff_not]; omega
        have h57 : ¬ (s[k]'hlt).toNat ≤ 57 := fun h => hdg (isDig_iff.2 ⟨by omega, h⟩)
        clear hdg
        go_wp2
        exact bodyPost_ret (v := .tuple #[.agg #[.bool false, .slice none 0 0], .int .i64 3]) (by simp [results, Tryz.results18, go_sem]) rfl ⟨rfl, below_alloc_new _⟩
     ·exact absurd (HBAD.out (all_dig' s fun j h2 => hall.out j (by have := HSZ.out; omega) h2)) id
 ·have hes : (s.extract 1 s.size).size = s.size - 1 := by
   rw [← size_list, Lib.extract_to_end, List.length_drop, size_list]
  have hq : (((s[0]'h0).toNat : Int) == 45) = true := by rw [beq_iff_eq]; omega
  have hd : decide ((0 : Int) < (s.size : Int)) = true := by rw [decide_eq_true_iff]; omega
  rcases Nat.eq_zero_or_pos (s.size - 1) with hz | hp1
  ·have he : (((s.size - 1 : Nat) : Int) == 0) = true := by rw [beq_iff_eq]; omega
   clear hz hr hn h1 hbad hes
   go_enter Tryz.func18, Tryz.ntmps18
   go_wp2
   exact bodyPost_ret (v := .tuple #[.agg #[.bool false, .slice none 0 0], .int .i64 3]) (by simp [results, Tryz.results18, go_sem]) rfl ⟨rfl, below_alloc_new _⟩
  ·have he : (((s.size - 1 : Nat) : Int) == 0) = false := by rw [beq_eq_false_iff_ne]; omega
   have hps : 0 < (s.extract 1 s.size).size := by omega
   by_cases h48 : ((s.extract 1 s.size)[0]'hps).toNat = 48
   ·have hb1 : (s.toList == [48]) = false := by
     rw [ByteArray.toList_eq, beq_eq_false_iff_ne]; intro e
     have := size_list s; rw [e] at this; simp at this; omega
    have hb2 : ((((s.extract 1 s.size)[0]'hps).toNat : Int) == 48) = true := by rw [beq_iff_eq]; omega
    clear h48 h1 hr hn hbad hes
    go_enter Tryz.func18, Tryz.ntmps18
    go_wp2
    exact bodyPost_ret (v := .tuple #[.agg #[.bool false, .slice none 0 0], .int .i64 3]) (by simp [results, Tryz.results18, go_sem]) rfl ⟨rfl, below_alloc_new _⟩
   ·have hb2 : ((((s.extract 1 s.size)[0]'hps).toNat : Int) == 48) = false := by rw [beq_eq_false_iff_ne]; omega
    have HBAD : Hid ((∀ c ∈ (s.extract 1 s.size).data.toList, isDig c = true) → False) := fun hdg =>
     bad_of_digits hbad (by rw [hr]; exact hdg) (by rw [hr]; intro e; have := size_list (s.extract 1 s.size); rw [e] at this; simp at this; omega)
      (by rw [hr, head_byte hps]; intro e; apply h48; have := congrArg (fun (o : Option UInt8) => (o.getD 0).toNat) e; exact this)
    have HSZ : Hid ((s.extract 1 s.size).size = s.size - 1) := hes
    clear h48 h1 hr hn hbad hes
    go_enter Tryz.func18, Tryz.ntmps18
    go_wp2
    go_loop [5] (fun v => ∃ k : Nat, k ≤ s.size - 1 ∧ v = .int .i64 k ∧ Hid (∀ j, j < k → ∀ (h2 : j < (s.extract 1 s.size).size), isDig ((s.extract 1 s.size)[j]'h2) = true)) (fun v => (s.size - 1) - (intOf v).toNat)
    case atStart => exact ⟨0, Nat.zero_le _, rfl, fun j h => absurd h (by omega)⟩
    case round =>
     obtain ⟨k, hk, rfl, hall⟩ := hrel
     by_cases hlz : k < s.size - 1
     ·have hlt : k < (s.extract 1 s.size).size := (by rw [HSZ.out]; exact hlz)
      by_cases hdg : isDig ((s.extract 1 s.size)[k]'hlt) = true
      ·obtain ⟨b1, b2⟩ := isDig_iff.1 hdg
       have hdq : decide (((((s.extract 1 s.size)[k]'hlt).toNat : Nat) : Int) < 48) = false := by rw [decide_eq_false_iff_not]; omega
       have HDG := Lib.hid hdg
       clear hdg
       go_wp2
       go_round
       case rel => exact ⟨k + 1, by omega, by go_num, fun j hj h2 => by
        rcases Nat.lt_succ_iff_lt_or_eq.1 hj with h3 | rfl
        ·exact hall.out j h3 h2
        ·exact HDG.out⟩
       case measure => simp [intOf]; omega
      ·by_cases hl48 : ((s.extract 1 s.size)[k]'hlt).toNat < 48
       ·have hdq : decide (((((s.extract 1 s.size)[k]'hlt).toNat : Nat) : Int) < 48) = true := by rw [decide_eq_true_iff]; omega
        clear hdg
        go_wp2
        exact bodyPost_ret (v := .tuple #[.agg #[.bool false, .slice none 0 0], .int .i64 3]) (by simp [results, Tryz.results18, go_sem]) rfl ⟨rfl, below_alloc_new _⟩
       ·have hdq : decide (((((s.extract 1 s.size)[k]'hlt).toNat : Nat) : Int) < 48) = false := by rw [decide_eq_false_iff_not]; omega
        have h57 : ¬ ((s.extract 1 s.size)[k]'hlt).toNat ≤ 57 := fun h => hdg (isDig_iff.2 ⟨by omega, h⟩)
        clear hdg
        go_wp2
        exact bodyPost_ret (v := .tuple #[.agg #[.bool false, .slice none 0 0], .int .i64 3]) (by simp [results, Tryz.results18, go_sem]) rfl ⟨rfl, below_alloc_new _⟩
     ·exact absurd (HBAD.out (all_dig' (s.extract 1 s.size) fun j h2 => hall.out j (by have := HSZ.out; omega) h2)) id
set_option maxRecDepth 20000 in
set_option maxHeartbeats 1600000 in
theorem rparse_long (s : ByteArray) (w : World) (hs : s.size ≤ 1000000) (hbad : badNum s.data.toList = false) (hlong : 2000 < (restOf s.data.toList).length) :
    Calls Tryz.prog 18 #[.string s] w fun e w' => e = .returned (.tuple #[.agg #[.bool false, .slice none 0 0], .int .i64 6]) ∧ Below w.heap.size w w' := by
  obtain ⟨hdig, hne, hhead, _⟩ := good_facts hbad
  have HV := hlong
  clear hlong hbad
  rcases neg_cases s with ⟨hn, hr, h0⟩ | ⟨hn, hr, h0, h1⟩
  · have hp : 0 < s.size := by
      have := List.length_pos_iff.2 hne; rw [hr] at this; simpa using this
    have h45 := h0 hp
    have hq : (((s[0]'hp).toNat : Int) == 45) = false := by rw [beq_eq_false_iff_ne]; omega
    have hd : decide ((0 : Int) < (s.size : Int)) = true := by rw [decide_eq_true_iff]; omega
    have he : ((s.size : Int) == 0) = false := by rw [beq_eq_false_iff_ne]; omega
    have hsl := size_list s
    rw [hr] at hdig hhead HV
    rw [hn] at *
    have hby := byte_dig s hdig
    have HB := Lib.hid hby
    have HDIG := Lib.hid hdig
    have hDs : s.size ≤ s.size := Nat.le_refl _
    have hlt0 : decide ((s.size : Int) < (s.size : Int)) = false := by simp
    rw [size_list] at HV
    clear h45 h0 hby
    by_cases h48 : (s[0]'hp).toNat = 48
    · have hs48 : s.data.toList = [48] := by
        have := (hhead (by rw [head_byte hp]; congr 1; apply UInt8.toNat_inj.1; rw [h48]; rfl)).2
        exact this
      have hb1 : (s.toList == [48]) = true := by rw [ByteArray.toList_eq, hs48]; rfl
      have hb2 : (((s[0]'hp).toNat : Int) == 48) = true := by rw [beq_iff_eq]; omega
      clear hs48 h48 hr hn hdig hhead hne hsl
      go_enter Tryz.func18, Tryz.ntmps18
      go_wp2
      go_loop [5] (fun v => ∃ k : Nat, k ≤ s.size ∧ v = .int .i64 k) (fun v => s.size - (intOf v).toNat)
      case atStart => exact ⟨0, Nat.zero_le _, rfl⟩
      case round =>
        obtain ⟨k, hk, rfl⟩ := hrel
        by_cases hlz : k < s.size
        · have hlt : k < s.size := hlz
          obtain ⟨b1, b2, _⟩ := HB.out k hlt
          have hdq : decide ((((s[k]'hlt).toNat : Nat) : Int) < 48) = false := by rw [decide_eq_false_iff_not]; omega
          go_wp2
          go_round
          case rel => exact ⟨k + 1, by omega, by go_num⟩
          case measure => simp [intOf]; omega
        · obtain rfl : k = s.size := by omega
          go_wp2
          refine bodyPost_ret (v := .tuple #[.agg #[.bool false, .slice none 0 0], .int .i64 6]) (by simp [results, Tryz.results18, go_sem]) rfl ⟨rfl, ?_⟩
          exact below_alloc_new _
    · have hb2 : (((s[0]'hp).toNat : Int) == 48) = false := by rw [beq_eq_false_iff_ne]; omega
      clear h48 hr hn hdig hhead hne hsl
      go_enter Tryz.func18, Tryz.ntmps18
      go_wp2
      go_loop [5] (fun v => ∃ k : Nat, k ≤ s.size ∧ v = .int .i64 k) (fun v => s.size - (intOf v).toNat)
      case atStart => exact ⟨0, Nat.zero_le _, rfl⟩
      case round =>
        obtain ⟨k, hk, rfl⟩ := hrel
        by_cases hlz : k < s.size
        · have hlt : k < s.size := hlz
          obtain ⟨b1, b2, _⟩ := HB.out k hlt
          have hdq : decide ((((s[k]'hlt).toNat : Nat) : Int) < 48) = false := by rw [decide_eq_false_iff_not]; omega
          go_wp2
          go_round
          case rel => exact ⟨k + 1, by omega, by go_num⟩
          case measure => simp [intOf]; omega
        · obtain rfl : k = s.size := by omega
          go_wp2
          refine bodyPost_ret (v := .tuple #[.agg #[.bool false, .slice none 0 0], .int .i64 6]) (by simp [results, Tryz.results18, go_sem]) rfl ⟨rfl, ?_⟩
          exact below_alloc_new _
  · have hes : (s.extract 1 s.size).size = s.size - 1 := by
      rw [← size_list, Lib.extract_to_end, List.length_drop, size_list]
    have hps : 0 < (s.extract 1 s.size).size := by
      have := List.length_pos_iff.2 hne; rw [hr] at this; simpa using this
    have hq : (((s[0]'h0).toNat : Int) == 45) = true := by rw [beq_iff_eq]; omega
    have hd : decide ((0 : Int) < (s.size : Int)) = true := by rw [decide_eq_true_iff]; omega
    have hp1 : 0 < s.size - 1 := by omega
    have he : (((s.size - 1 : Nat) : Int) == 0) = false := by rw [beq_eq_false_iff_ne]; omega
    have hb2 : ((((s.extract 1 s.size)[0]'hps).toNat : Int) == 48) = false := by
      rw [beq_eq_false_iff_ne]
      intro e
      have := (hhead (by rw [hr, head_byte hps]; congr 1; apply UInt8.toNat_inj.1; have : ((s.extract 1 s.size)[0]'hps).toNat = 48 := by omega
                         rw [this]; rfl)).1
      rw [this] at hn; cases hn
    rw [hr] at hdig HV
    rw [hn] at *
    have hby := byte_dig (s.extract 1 s.size) hdig
    have HB := Lib.hid hby
    have HDIG := Lib.hid hdig
    have HES := Lib.hid hes
    rw [size_list, hes] at HV
    have hlt0 : decide (((s.size - 1 : Nat) : Int) < (s.size : Int)) = true := by rw [decide_eq_true_iff]; omega
    clear h1 hby hr hn hdig hhead hne hes
    go_enter Tryz.func18, Tryz.ntmps18
    go_wp2
    go_loop [5] (fun v => ∃ k : Nat, k ≤ (s.size - 1) ∧ v = .int .i64 k) (fun v => (s.size - 1) - (intOf v).toNat)
    case atStart => exact ⟨0, Nat.zero_le _, rfl⟩
    case round =>
      obtain ⟨k, hk, rfl⟩ := hrel
      by_cases hlz : k < (s.size - 1)
      · have hlt : k < (s.extract 1 s.size).size := (by rw [HES.out]; exact hlz)
        obtain ⟨b1, b2, _⟩ := HB.out k hlt
        have hdq : decide (((((s.extract 1 s.size)[k]'hlt).toNat : Nat) : Int) < 48) = false := by rw [decide_eq_false_iff_not]; omega
        go_wp2
        go_round
        case rel => exact ⟨k + 1, by omega, by go_num⟩
        case measure => simp [intOf]; omega
      · obtain rfl : k = (s.size - 1) := by omega
        go_wp2
        refine bodyPost_ret (v := .tuple #[.agg #[.bool false, .slice none 0 0], .int .i64 6]) (by simp [results, Tryz.results18, go_sem]) rfl ⟨rfl, ?_⟩
        exact below_alloc_new _
end Go.Proofs.YtodapfhnbgoanaaGreatDoor
