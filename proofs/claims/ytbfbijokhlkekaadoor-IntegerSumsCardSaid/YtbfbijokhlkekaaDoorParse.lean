/- 'Parse': the integer with a decimal text, or why there is none. -/
import Derived.Test.YtbfbijokhlkekaaDoorReadDigits
import Derived.Test.YtbfbijokhlkekaaDoorSigned
namespace Go.Proofs.YtbfbijokhlkekaaDoor
open Go.RowKit

/-- A text without its sign, and whether it has one. -/
def restOf (l : List UInt8) : List UInt8 := Lib.trimPrefix l [45]
def negOf (l : List UInt8) : Bool := Lib.hasPrefix l [45]
def badNum (l : List UInt8) : Bool := !okNum (restOf l) || (negOf l && restOf l == [48])
theorem restOf_le (l : List UInt8) : (restOf l).length ≤ l.length := by
  unfold restOf Lib.trimPrefix
  split <;> simp
/-- The error of a text, as a number. -/
def errOf (l : List UInt8) : Int := if badNum l then 3 else if 2000 < (restOf l).length then 6 else 0

/-- A value that is an integer: its sign and limbs. -/
structure IntR (w : World) (B : Nat) (neg : Bool) (A : Option Addr) (c : Nat) (L : List Nat) : Prop where
  row : Row .u32 w B A c L
  canon : Canon L
  sgn : neg = true → L ≠ []
theorem IntR.zero (w : World) (B : Nat) (A : Option Addr) (c : Nat) : IntR w B false A c [] := ⟨Row.nil _ _ _ _ _, ⟨fun _ h => absurd h (List.not_mem_nil), fun h => absurd h (Nat.lt_irrefl 0)⟩, fun h => absurd h Bool.false_ne_true⟩
theorem IntR.below {w w' : World} {B : Nat} {neg : Bool} {A : Option Addr} {c : Nat} {L : List Nat} (h : IntR w B neg A c L) (hb : Below B w w') : IntR w' B neg A c L := ⟨h.row.below hb, h.canon, h.sgn⟩
theorem IntR.more {w : World} {B B' : Nat} {neg : Bool} {A : Option Addr} {c : Nat} {L : List Nat} (h : IntR w B neg A c L) (hb : B ≤ B') : IntR w B' neg A c L := ⟨h.row.more hb, h.canon, h.sgn⟩

/-- A row of numbers lies in another block than the box of a struct that holds none: storing into the box leaves it. -/
theorem Row.box {k : IntKind} {w w1 : World} {B : Nat} {A : Option Addr} {c : Nat} {L : List Nat} {x y : Value} {t : TypeId} (h : Row k w1 B A c L) (hb : Below (w.heap.size + 1) (w.alloc (.cells #[x, y] t)) w1)
    (hx : ∀ n, x ≠ .int k n) (hy : ∀ n, y ≠ .int k n) (u v : Value) : Row k ((w1.setCell ⟨w.heap.size, 0, none⟩ u).setCell ⟨w.heap.size, 1, none⟩ v) B A c L := by
  refine ⟨h.len, fun hp => ?_⟩
  obtain ⟨b, o, e, hbB, hc⟩ := h.spot hp
  have hne : b ≠ w.heap.size := by
    rintro rfl
    have h0 := hc 0 hp
    rw [hb.cell (by show w.heap.size < _; omega)] at h0
    unfold World.cell? at h0
    dsimp only at h0
    rw [heap_alloc_new] at h0
    match o, h0 with
    | 0, h0 => exact hx _ (Option.some.inj h0)
    | 1, h0 => exact hy _ (Option.some.inj h0)
    | o + 2, h0 => simp at h0
  refine ⟨b, o, e, hbB, hc.keep fun j => ?_⟩
  rw [World.cell?_setCell_other _ _ _ _ (fun e => hne (congrArg Addr.block e).symm), World.cell?_setCell_other _ _ _ _ (fun e => hne (congrArg Addr.block e).symm)]
theorem setCell_size (w : World) (p : Addr) (u : Value) : (w.setCell p u).heap.size = w.heap.size := by simp [World.setCell]

set_option maxRecDepth 20000 in
set_option maxHeartbeats 1600000 in
theorem parse_bad (s : ByteArray) (w : World) (hs : s.size ≤ 1000000) (hbad : badNum s.data.toList = true) :
    Calls Tryd.prog 13 #[.string s] w fun e w' => e = .returned (.tuple #[.agg #[.bool false, .slice none 0 0], .int .i64 3]) ∧ Below w.heap.size w w' := by
  have hcp := fun W => Tryd.strings_CutPrefix s ⟨#[45]⟩ W
  have HCP := Lib.hid hcp
  clear hcp
  go_enter Tryd.func13, Tryd.ntmps13
  go_wp2_with fail
  refine (HCP.out _).mono ?_
  rintro e w1 ⟨rfl, rfl⟩
  go_wp2_with fail
  have hD : (⟨(Lib.trimPrefix s.data.toList (#[45] : Array UInt8).toList).toArray⟩ : ByteArray).data.toList = restOf s.data.toList := rfl
  generalize (⟨(Lib.trimPrefix s.data.toList (#[45] : Array UInt8).toList).toArray⟩ : ByteArray) = D at *
  have hDs : D.size ≤ 1000000 := by
    have h1 : D.size = (restOf s.data.toList).length := by rw [← hD]; simp
    have h2 := restOf_le s.data.toList
    have h3 : s.data.toList.length = s.size := by simp
    omega
  have HN := Lib.hid (isNumber_any D (w.alloc (Obj.cells #[Value.bool false, Value.slice none 0 0] 25)) hDs)
  have HX : badNum s.data.toList = (!okNum D.data.toList || (Lib.hasPrefix s.data.toList [45] && D.data.toList == [48])) := by rw [hD]; rfl
  rw [hbad] at HX
  clear hD
  refine HN.out.mono ?_
  rintro e w2 ⟨rfl, hb2⟩
  have X := boxed hb2
  have hx0 := X.1
  have hx1 := X.2.1
  have hs2 := X.2.2.1
  have hbx := X.2.2.2
  have hf0 := hb2.frozen (p := ⟨w.heap.size, 0, none⟩) (by simp)
  have hf1 := hb2.frozen (p := ⟨w.heap.size, 1, none⟩) (by simp)
  have hfw : ∀ i, (w.alloc (Obj.cells #[Value.bool false, Value.slice none 0 0] 25)).frozen? ⟨w.heap.size, i, none⟩ = false := fun i => by unfold World.frozen?; dsimp only; rw [heap_alloc_new]; simp
  rw [hfw] at hf0 hf1
  have hbw : Below w.heap.size w w2 := (below_alloc_new _).trans (Below.less hbx (Nat.le_succ _))
  clear X hb2 hbx hfw
  by_cases hok : okNum D.data.toList = false
  · clear HX
    go_wp2
    exact bodyPost_ret (v := .tuple #[.agg #[.bool false, .slice none 0 0], .int .i64 3]) (by simp [results, Tryd.results13, go_sem, hx0, hx1]) rfl ⟨rfl, (hbw.setCell (by simp) _).setCell (by simp) _⟩
  · simp only [Bool.not_eq_false] at hok
    rw [hok] at HX
    have hneg : Lib.hasPrefix s.data.toList [45] = true := by
      revert HX; cases Lib.hasPrefix s.data.toList [45] <;> simp
    have h48 : (D.toList == [48]) = true := by
      rw [ByteArray.toList_eq]; revert HX; rw [hneg]; simp
    clear HX
    go_wp2
    exact bodyPost_ret (v := .tuple #[.agg #[.bool false, .slice none 0 0], .int .i64 3]) (by simp [results, Tryd.results13, go_sem, hx0, hx1]) rfl ⟨rfl, (hbw.setCell (by simp) _).setCell (by simp) _⟩
set_option maxRecDepth 20000 in
set_option maxHeartbeats 1600000 in
theorem parse_long (s : ByteArray) (w : World) (hs : s.size ≤ 1000000) (hbad : badNum s.data.toList = false) (hlong : 2000 < (restOf s.data.toList).length) :
    Calls Tryd.prog 13 #[.string s] w fun e w' => e = .returned (.tuple #[.agg #[.bool false, .slice none 0 0], .int .i64 6]) ∧ Below w.heap.size w w' := by
  have hcp := fun W => Tryd.strings_CutPrefix s ⟨#[45]⟩ W
  have HCP := Lib.hid hcp
  clear hcp
  go_enter Tryd.func13, Tryd.ntmps13
  go_wp2_with fail
  refine (HCP.out _).mono ?_
  rintro e w1 ⟨rfl, rfl⟩
  go_wp2_with fail
  have hD : (⟨(Lib.trimPrefix s.data.toList (#[45] : Array UInt8).toList).toArray⟩ : ByteArray).data.toList = restOf s.data.toList := rfl
  generalize (⟨(Lib.trimPrefix s.data.toList (#[45] : Array UInt8).toList).toArray⟩ : ByteArray) = D at *
  have hDs : D.size ≤ 1000000 := by
    have h1 : D.size = (restOf s.data.toList).length := by rw [← hD]; simp
    have h2 := restOf_le s.data.toList
    have h3 : s.data.toList.length = s.size := by simp
    omega
  have HN := Lib.hid (isNumber_any D (w.alloc (Obj.cells #[Value.bool false, Value.slice none 0 0] 25)) hDs)
  have HX : badNum s.data.toList = (!okNum D.data.toList || (Lib.hasPrefix s.data.toList [45] && D.data.toList == [48])) := by rw [hD]; rfl
  rw [hbad] at HX
  have hlo : 2000 < D.size := by have h1 : D.size = (restOf s.data.toList).length := by rw [← hD]; simp
                                 omega
  clear hD hlong
  refine HN.out.mono ?_
  rintro e w2 ⟨rfl, hb2⟩
  have X := boxed hb2
  have hx0 := X.1
  have hx1 := X.2.1
  have hs2 := X.2.2.1
  have hbx := X.2.2.2
  have hf0 := hb2.frozen (p := ⟨w.heap.size, 0, none⟩) (by simp)
  have hf1 := hb2.frozen (p := ⟨w.heap.size, 1, none⟩) (by simp)
  have hfw : ∀ i, (w.alloc (Obj.cells #[Value.bool false, Value.slice none 0 0] 25)).frozen? ⟨w.heap.size, i, none⟩ = false := fun i => by unfold World.frozen?; dsimp only; rw [heap_alloc_new]; simp
  rw [hfw] at hf0 hf1
  have hbw : Below w.heap.size w w2 := (below_alloc_new _).trans (Below.less hbx (Nat.le_succ _))
  clear X hb2 hbx hfw
  have hok : okNum D.data.toList = true := by revert HX; cases okNum D.data.toList <;> simp
  rw [hok] at HX
  by_cases hneg : Lib.hasPrefix s.data.toList [45] = true
  · have h48 : (D.toList == [48]) = false := by
      rw [ByteArray.toList_eq]; revert HX; rw [hneg]; simp
    clear HX
    go_wp2
    exact bodyPost_ret (v := .tuple #[.agg #[.bool false, .slice none 0 0], .int .i64 6]) (by simp [results, Tryd.results13, go_sem, hx0, hx1]) rfl ⟨rfl, (hbw.setCell (by simp) _).setCell (by simp) _⟩
  · simp only [Bool.not_eq_true] at hneg
    clear HX
    go_wp2
    exact bodyPost_ret (v := .tuple #[.agg #[.bool false, .slice none 0 0], .int .i64 6]) (by simp [results, Tryd.results13, go_sem, hx0, hx1]) rfl ⟨rfl, (hbw.setCell (by simp) _).setCell (by simp) _⟩

theorem okNum_parts {l : List UInt8} (h : okNum l = true) : (∀ c ∈ l, isDig c = true) ∧ l ≠ [] ∧ (l = [48] ∨ l.head? ≠ some 48) := by
  unfold okNum at h
  rw [Bool.and_eq_true, Bool.or_eq_true, Bool.and_eq_true, List.all_eq_true] at h
  obtain ⟨h1, h2⟩ := h
  refine ⟨h1, ?_, ?_⟩
  · rintro rfl; simp at h2
  · rcases h2 with h2 | h2
    · left; simpa using h2
    · right; simpa using h2.2

set_option maxRecDepth 20000 in
set_option maxHeartbeats 1600000 in
theorem parse_ok (s : ByteArray) (w : World) (hs : s.size ≤ 1000000) (hbad : badNum s.data.toList = false) (hshort : (restOf s.data.toList).length ≤ 2000) :
    Calls Tryd.prog 13 #[.string s] w fun e w' => ∃ A c L, e = .returned (.tuple #[.agg #[.bool (negOf s.data.toList), .slice A L.length c], .int .i64 0]) ∧ IntR w' w'.heap.size (negOf s.data.toList) A c L ∧ valB 1000000000 L = numOf (restOf s.data.toList) ∧ L.length ≤ 223 ∧ Below w.heap.size w w' := by
  have hcp := fun W => Tryd.strings_CutPrefix s ⟨#[45]⟩ W
  have HCP := Lib.hid hcp
  clear hcp
  go_enter Tryd.func13, Tryd.ntmps13
  go_wp2_with fail
  refine (HCP.out _).mono ?_
  rintro e w1 ⟨rfl, rfl⟩
  go_wp2_with fail
  have hD : (⟨(Lib.trimPrefix s.data.toList (#[45] : Array UInt8).toList).toArray⟩ : ByteArray).data.toList = restOf s.data.toList := rfl
  generalize (⟨(Lib.trimPrefix s.data.toList (#[45] : Array UInt8).toList).toArray⟩ : ByteArray) = D at *
  have hDs : D.size ≤ 1000000 := by
    have h1 : D.size = (restOf s.data.toList).length := by rw [← hD]; simp
    have h2 := restOf_le s.data.toList
    have h3 : s.data.toList.length = s.size := by simp
    omega
  have HN := Lib.hid (isNumber_any D (w.alloc (Obj.cells #[Value.bool false, Value.slice none 0 0] 25)) hDs)
  have HX : badNum s.data.toList = (!okNum D.data.toList || (Lib.hasPrefix s.data.toList [45] && D.data.toList == [48])) := by rw [hD]; rfl
  rw [hbad] at HX
  have hlo : D.size ≤ 2000 := by have h1 : D.size = (restOf s.data.toList).length := by rw [← hD]; simp
                                 omega
  have HD := Lib.hid hD
  clear hD hshort
  refine HN.out.mono ?_
  rintro e w2 ⟨rfl, hb2⟩
  have X := boxed hb2
  have hx0 := X.1
  have hx1 := X.2.1
  have hs2 := X.2.2.1
  have hbx := X.2.2.2
  have hf0 := hb2.frozen (p := ⟨w.heap.size, 0, none⟩) (by simp)
  have hf1 := hb2.frozen (p := ⟨w.heap.size, 1, none⟩) (by simp)
  have hfw : ∀ i, (w.alloc (Obj.cells #[Value.bool false, Value.slice none 0 0] 25)).frozen? ⟨w.heap.size, i, none⟩ = false := fun i => by unfold World.frozen?; dsimp only; rw [heap_alloc_new]; simp
  rw [hfw] at hf0 hf1
  have hbw : Below w.heap.size w w2 := (below_alloc_new _).trans (Below.less hbx (Nat.le_succ _))
  have hbx' := hbx
  clear X hb2 hbx hfw
  have hok : okNum D.data.toList = true := by revert HX; cases okNum D.data.toList <;> simp
  rw [hok] at HX
  obtain ⟨k1, k2, k3⟩ := okNum_parts hok
  have hpos : 0 < D.size := by have := List.length_pos_iff.2 k2; simpa using this
  by_cases hneg : Lib.hasPrefix s.data.toList [45] = true
  · have h48 : (D.toList == [48]) = false := by
      rw [ByteArray.toList_eq]; revert HX; rw [hneg]; simp
    have hp : 0 < numOf D.data.toList := numOf_pos k1 k2 (by rcases k3 with h | h; rw [ByteArray.toList_eq, h] at h48; exact absurd h48 (by decide); exact h)
    clear HX
    go_wp2_with fail
    refine (readDigits_any D _ hpos (by omega) k1).mono ?_
    rintro e w3 ⟨A, c, L, rfl, hr, hcan, hv, hl, hb3⟩
    rw [← hv] at hp
    have hL : 0 < L.length := by
      rcases L with _ | ⟨x, r⟩
      · simp [valB] at hp
      · simp
    have HV := Lib.hid hv
    clear hv
    go_wp2_with fail
    refine (signed_any true A c L.length w3).mono ?_
    rintro e w4 ⟨rfl, hb4⟩
    have hd : (true && decide (0 < L.length)) = true := by simpa using hL
    rw [hd]
    have hby : Below (w.heap.size + 1) (w.alloc (Obj.cells #[Value.bool false, Value.slice none 0 0] 25)) w4 := hbx'.trans (Below.less (hb3.trans (Below.less hb4 hb3.size)) hs2)
    have hrow4 : IntR w4 w3.heap.size true A c L := IntR.below ⟨hr, hcan, fun _ h => by rw [h] at hL; simp at hL⟩ hb4
    have hy0 := (boxed2 hby).1
    have hy1 := (boxed2 hby).2
    have gy0 := boxedF hby 0
    have gy1 := boxedF hby 1
    have hbw4 : Below w.heap.size w w4 := (below_alloc_new _).trans (Below.less hby (Nat.le_succ _))
    have hw34 := hb4.size
    have hw23 := hb3.size
    have HBY := Lib.hid hby
    clear hx0 hx1 hf0 hf1 hbx' hby hb3 hb4 hr hcan
    go_wp2_with fail
    refine bodyPost_ret (v := .tuple #[.agg #[.bool true, .slice A L.length c], .int .i64 0]) (by simp [results, Tryd.results13, go_sem, hy0, hy1]) rfl ⟨A, c, L, by rw [show negOf s.data.toList = true from hneg], ?_, by rw [HV.out, HD.out], by omega, (hbw4.setCell (by simp) _).setCell (by simp) _⟩
    rw [show negOf s.data.toList = true from hneg, setCell_size, setCell_size]
    exact ⟨(hrow4.row.more hw34).box HBY.out (fun _ => by simp) (fun _ => by simp) _ _, hrow4.canon, hrow4.sgn⟩
  · simp only [Bool.not_eq_true] at hneg
    clear HX
    go_wp2_with fail
    refine (readDigits_any D _ hpos (by omega) k1).mono ?_
    rintro e w3 ⟨A, c, L, rfl, hr, hcan, hv, hl, hb3⟩
    have HV := Lib.hid hv
    clear hv
    go_wp2_with fail
    refine (signed_any false A c L.length w3).mono ?_
    rintro e w4 ⟨rfl, hb4⟩
    have hd : (false && decide (0 < L.length)) = false := rfl
    rw [hd]
    have hby : Below (w.heap.size + 1) (w.alloc (Obj.cells #[Value.bool false, Value.slice none 0 0] 25)) w4 := hbx'.trans (Below.less (hb3.trans (Below.less hb4 hb3.size)) hs2)
    have hrow4 : IntR w4 w3.heap.size false A c L := IntR.below ⟨hr, hcan, fun h => absurd h Bool.false_ne_true⟩ hb4
    have hy0 := (boxed2 hby).1
    have hy1 := (boxed2 hby).2
    have gy0 := boxedF hby 0
    have gy1 := boxedF hby 1
    have hbw4 : Below w.heap.size w w4 := (below_alloc_new _).trans (Below.less hby (Nat.le_succ _))
    have hw34 := hb4.size
    have hw23 := hb3.size
    have HBY := Lib.hid hby
    clear hx0 hx1 hf0 hf1 hbx' hby hb3 hb4 hr hcan
    go_wp2_with fail
    refine bodyPost_ret (v := .tuple #[.agg #[.bool false, .slice A L.length c], .int .i64 0]) (by simp [results, Tryd.results13, go_sem, hy0, hy1]) rfl ⟨A, c, L, by rw [show negOf s.data.toList = false from hneg], ?_, by rw [HV.out, HD.out], by omega, (hbw4.setCell (by simp) _).setCell (by simp) _⟩
    rw [show negOf s.data.toList = false from hneg, setCell_size, setCell_size]
    exact ⟨(hrow4.row.more hw34).box HBY.out (fun _ => by simp) (fun _ => by simp) _ _, hrow4.canon, hrow4.sgn⟩
end Go.Proofs.YtbfbijokhlkekaaDoor
