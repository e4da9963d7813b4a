/- The statement about 'Parse' holds at every text. -/
import Derived.Test.YtbfbijokhlkekaaDoorLaw1
import Derived.Test.YtbfbijokhlkekaaDoorRefPBad
import Derived.Test.YtbfbijokhlkekaaDoorRefPLong
import Derived.Test.YtbfbijokhlkekaaDoorRefPOk1
namespace Go.Proofs.YtbfbijokhlkekaaDoor
open Go.RowKit

/-- Any text: what the reference's 'Parse' returns. -/
theorem rparse_any (s : ByteArray) (w : World) (hs : s.size ≤ 1000000) :
    Calls Tryd.prog 14 #[.string s] w fun e w' => ∃ k A c L, e = .returned (.tuple #[.agg #[.bool k, .slice A L.length c], .int .i64 (errOf s.data.toList)]) ∧ RefR w' w'.heap.size k A c L ∧ L.length ≤ 500 ∧
      Hid (errOf s.data.toList = 0 → k = negOf s.data.toList ∧ valB 10000 L = numOf (restOf s.data.toList)) ∧ Hid (errOf s.data.toList ≠ 0 → k = false ∧ L = []) ∧ Below w.heap.size w w' := by
  unfold errOf
  by_cases hb : badNum s.data.toList = true
  · rw [if_pos hb]
    refine (rparse_bad s w hs hb).mono ?_
    rintro e w' ⟨rfl, hbw⟩
    exact ⟨false, none, 0, [], rfl, RefR.zero _ _ _ _, by simp, fun h => absurd h (by decide), fun _ => ⟨rfl, rfl⟩, hbw⟩
  · rw [if_neg hb]
    rw [Bool.not_eq_true] at hb
    by_cases hl : 2000 < (restOf s.data.toList).length
    · rw [if_pos hl]
      refine (rparse_long s w hs hb hl).mono ?_
      rintro e w' ⟨rfl, hbw⟩
      exact ⟨false, none, 0, [], rfl, RefR.zero _ _ _ _, by simp, fun h => absurd h (by decide), fun _ => ⟨rfl, rfl⟩, hbw⟩
    · rw [if_neg hl]
      have hc : Calls Tryd.prog 14 #[.string s] w fun e w' => ∃ A c L, e = .returned (.tuple #[.agg #[.bool (negOf s.data.toList), .slice A L.length c], .int .i64 0]) ∧ RefR w' w'.heap.size (negOf s.data.toList) A c L ∧
          valB 10000 L = numOf (restOf s.data.toList) ∧ L.length ≤ 500 ∧ Below w.heap.size w w' := by
        rcases neg_cases s with ⟨h1, h2, h3⟩ | ⟨h1, h2, h3, h4⟩
        · exact rparse_ok_plain s w h1 h2 h3 hb (by omega)
        · exact rparse_ok_neg s w h1 h2 h3 h4 hb (by omega)
      refine hc.mono ?_
      rintro e w' ⟨A, c, L, rfl, hi, hv, hn, hbw⟩
      exact ⟨_, A, c, L, rfl, hi, hn, fun _ => ⟨rfl, hv⟩, fun h => absurd rfl h, hbw⟩

theorem errOf_good {l : List UInt8} (h : errOf l = 0) : badNum l = false := by
  unfold errOf at h
  split at h
  · cases h
  · rename_i h1; simpa using h1
theorem text_back {l : List UInt8} (h : errOf l = 0) : decI (negOf l) (numOf (restOf l)) = l := by
  obtain ⟨h1, h2, h3, _⟩ := good_facts (errOf_good h)
  unfold decI
  rw [dec_numOf _ h1 h2 (by
    by_cases hh : (restOf l).head? = some 48
    · exact .inl (h3 hh).2
    · exact .inr hh)]
  unfold negOf restOf Lib.trimPrefix
  cases hp : Lib.hasPrefix l [45]
  · simp
  · simp only [if_true]
    rcases l with _ | ⟨c, r⟩
    · simp [Lib.hasPrefix] at hp
    · simp [Lib.hasPrefix] at hp
      simp [← hp]

theorem up4 {w wk : World} {o : Obj} (h : Below (w.heap.size + 1) (w.alloc o) wk) : Below w.heap.size w wk := (below_alloc_new _).trans (Below.less h (Nat.le_succ _))
theorem below_sz {w wk : World} {o : Obj} (h : Below (w.heap.size + 1) (w.alloc o) wk) : w.heap.size + 1 ≤ wk.heap.size := by have := h.size; simpa using this
theorem below_at {B b i : Nat} {W wk : World} (h : Below B W wk) (hb : b < B) : wk.cell? ⟨b, i, none⟩ = W.cell? ⟨b, i, none⟩ := h.cell hb
theorem ref_pos {w : World} {B : Nat} {n : Bool} {A : Option Addr} {c : Nat} {M : List Nat} (h : RefR w B n A c M) (h0 : 0 < M.length) : valB 10000 M ≠ 0 := by
  have h1 := valB_take_succ 10000 M (M.length - 1) (by omega)
  rw [show M.length - 1 + 1 = M.length by omega, List.take_of_length_le (Nat.le_refl _)] at h1
  have h2 := h.top h0
  have h3 : 10000 ^ (M.length - 1) * 1 ≤ 10000 ^ (M.length - 1) * nth M (M.length - 1) := Nat.mul_le_mul_left _ (by omega)
  have h4 : 0 < 10000 ^ (M.length - 1) := Nat.pow_pos (by omega)
  omega

set_option maxRecDepth 20000 in
set_option maxHeartbeats 6400000 in
theorem law_parse (s : ByteArray) (w : World) (ht : Tab w.heap.size w) :
    Calls Tryd.prog 3 #[.string s] w fun e w' => e = .returned (.bool true) ∧ Below w.heap.size w w' := by
  have HT := Lib.hid ht
  clear ht
  by_cases hs : 2500 < s.size
  · go_enter Tryd.func3, Tryd.ntmps3
    go_wp2_with fail
    refine (awake_any w HT.out).mono ?_
    rintro e w1 ⟨rfl, hb1⟩
    go_wp2_with fail
    go_ret
    exact ⟨rfl, hb1⟩
  · have hP := fun W => parse_any s W (by omega)
    have hQ := fun W => rparse_any s W (by omega)
    have HP := Lib.hid hP
    have HQ := Lib.hid hQ
    clear hP hQ
    generalize he : errOf s.data.toList = er at *
    have HE := Lib.hid he
    clear he
    go_enter Tryd.func3, Tryd.ntmps3
    go_wp2_with fail
    refine (awake_any w HT.out).mono ?_
    rintro e w1 ⟨rfl, hb1⟩
    go_wp2_with fail
    refine (HP.out _).mono ?_
    rintro e w2 ⟨k, A, c, L, rfl, hi, hl, hok, hno, hb2⟩
    go_wp2_with fail
    refine (HQ.out _).mono ?_
    rintro e w3 ⟨k2, A2, c2, M, rfl, hi2, hl2, hok2, hno2, hb3⟩
    have X := boxed hb3
    have hx0 := X.1
    have hx1 := X.2.1
    have hs3 := X.2.2.1
    have hbA := X.2.2.2
    clear X
    have hb12 := hb1.trans (Below.less hb2 hb1.size)
    have hb13 : Below w.heap.size w w3 := hb12.trans (Below.less ((below_alloc_new _).trans (Below.less hb3 (by simp))) hb12.size)
    have HB13 := Lib.hid hb13
    have hnext : Below w3.heap.size w3 (w3.alloc (.cells #[.bool k2, .slice A2 M.length c2] 31)) := below_alloc_new _
    have hy0 := (hnext.cell (p := ⟨w2.heap.size, 0, none⟩) (by show w2.heap.size < _; omega)).trans hx0
    have hy1 := (hnext.cell (p := ⟨w2.heap.size, 1, none⟩) (by show w2.heap.size < _; omega)).trans hx1
    have hi3 := (hi.row.up ((below_alloc_new (.cells #[.bool k, .slice A L.length c] 25)).trans (Below.less hb3 (by simp))))
    have HI3 := Lib.hid (show IntR w3 w3.heap.size k A c L from ⟨hi3, hi.canon, hi.sgn⟩)
    have HI2 := Lib.hid hi2
    clear hx0 hx1 hnext hi hi3 hi2 hb1 hb2 hb12 hb13 hb3
    by_cases h0 : er = 0
    · subst h0
      obtain ⟨rfl, hv⟩ := hok.out rfl
      obtain ⟨rfl, hv2⟩ := hok2.out rfl
      have hbk : decI (negOf s.data.toList) (val9 L) = s.data.toList := by rw [hv]; exact text_back HE.out
      have hbk2 : decI (negOf s.data.toList) (valB 10000 M) = s.data.toList := by rw [hv2]; exact text_back HE.out
      have HTT := Lib.hid (tab_up HT.out HB13.out)
      have HTX := Lib.hid (fun (W : World) (hW : Below w3.heap.size w3 W) => text_any _ A c L W (by omega) HI3.out.canon HI3.out.sgn (HI3.out.row.up hW) (tab_up HTT.out hW))
      have HSM := Lib.hid (fun (W : World) (hW : Below w3.heap.size w3 W) => same_any _ _ A A2 c c2 L M W (by omega) (by omega) (HI3.out.up hW) (HI2.out.up hW) (tab_up HTT.out hW))
      have hsg : sgnI (negOf s.data.toList) M = sgnI (negOf s.data.toList) L := by
        unfold sgnI
        have h1 : L.length = 0 ↔ val9 L = 0 := ⟨val9_nil, fun h => by
          rcases Nat.eq_zero_or_pos L.length with h1 | h1
          · exact h1
          · exact absurd h (canon_pos HI3.out.canon h1)⟩
        have h2 : M.length = 0 ↔ valB 10000 M = 0 := ⟨fun h => by rw [List.eq_nil_of_length_eq_zero h]; rfl, fun h => by
          rcases Nat.eq_zero_or_pos M.length with h1 | h1
          · exact h1
          · exact absurd h (ref_pos HI2.out h1)⟩
        have h3 : val9 L = valB 10000 M := by rw [hv, hv2]
        simp only [h1, h2, h3]
      have HS1 := Lib.hid (fun (W : World) => sign_any (negOf s.data.toList) A c L W)
      have HS2 := Lib.hid (fun (W : World) => rsign_any (negOf s.data.toList) A2 c2 M W HI2.out.sgn)
      rw [hbk] at HTX HSM
      rw [hbk2] at HSM
      rw [hsg] at HS2
      rw [show (s.data.toList == s.data.toList) = true by simp] at HSM
      generalize sgnI (negOf s.data.toList) L = sg at *
      clear hbk hbk2 hsg hv hv2
      generalize negOf s.data.toList = ng at *
      have hes : (⟨s.data.toList.toArray⟩ : ByteArray) = s := by simp
      rw [hes] at HTX
      clear hes
      have X2 := boxed (w := w3) (x := .bool ng) (y := .slice A2 M.length c2) (t := 31) (Below.refl _ _)
      have hz0 := X2.1
      have hz1 := X2.2.1
      clear X2
      have hlt2 : w2.heap.size < w3.heap.size + 1 := by omega
      have HC := Lib.hid (below_drew (Below.refl (w3.heap.size + 1) (w3.alloc (.cells #[.bool ng, .slice A2 M.length c2] 31))))
      have hf0 := hy0
      have hf1 := hy1
      have hf2 := hz0
      have hf3 := hz1
      go_wp2_with fail
      go_region_held3 (fun w' => w'.cell? ⟨w2.heap.size, 0, none⟩ = some (.bool ng) ∧ w'.cell? ⟨w2.heap.size, 1, none⟩ = some (.slice A L.length c) ∧
        w'.cell? ⟨w3.heap.size, 0, none⟩ = some (.bool ng) ∧ w'.cell? ⟨w3.heap.size, 1, none⟩ = some (.slice A2 M.length c2)) (go_keep)
        (first
          | (go_at_call 16; (with_reducible refine (HTX.out _ (up4 HC.out)).mono ?_); rintro e w4 ⟨rfl, hb4⟩; have HC9 := Lib.hid (below_then HC.out hb4 (below_sz HC.out)); clear HC hf0 hf1 hf2 hf3; have HC := HC9; clear HC9 hb4; have hf0 := (below_at (i := 0) HC.out hlt2).trans hy0; have hf1 := (below_at (i := 1) HC.out hlt2).trans hy1; have hf2 := (below_at (i := 0) HC.out (Nat.lt_succ_self _)).trans hz0; have hf3 := (below_at (i := 1) HC.out (Nat.lt_succ_self _)).trans hz1)
          | (go_at_call 17; (with_reducible refine (HSM.out _ (up4 HC.out)).mono ?_); rintro e w4 ⟨rfl, hb4⟩; have HC9 := Lib.hid (below_then HC.out hb4 (below_sz HC.out)); clear HC hf0 hf1 hf2 hf3; have HC := HC9; clear HC9 hb4; have hf0 := (below_at (i := 0) HC.out hlt2).trans hy0; have hf1 := (below_at (i := 1) HC.out hlt2).trans hy1; have hf2 := (below_at (i := 0) HC.out (Nat.lt_succ_self _)).trans hz0; have hf3 := (below_at (i := 1) HC.out (Nat.lt_succ_self _)).trans hz1)
          | (go_at_call 15; (with_reducible refine (HS1.out _).mono ?_); rintro e w4 ⟨rfl, hb4⟩; have HC9 := Lib.hid (below_then HC.out hb4 (below_sz HC.out)); clear HC hf0 hf1 hf2 hf3; have HC := HC9; clear HC9 hb4; have hf0 := (below_at (i := 0) HC.out hlt2).trans hy0; have hf1 := (below_at (i := 1) HC.out hlt2).trans hy1; have hf2 := (below_at (i := 0) HC.out (Nat.lt_succ_self _)).trans hz0; have hf3 := (below_at (i := 1) HC.out (Nat.lt_succ_self _)).trans hz1)
          | (go_at_call 18; (with_reducible refine (HS2.out _).mono ?_); rintro e w4 ⟨rfl, hb4⟩; have HC9 := Lib.hid (below_then HC.out hb4 (below_sz HC.out)); clear HC hf0 hf1 hf2 hf3; have HC := HC9; clear HC9 hb4; have hf0 := (below_at (i := 0) HC.out hlt2).trans hy0; have hf1 := (below_at (i := 1) HC.out hlt2).trans hy1; have hf2 := (below_at (i := 0) HC.out (Nat.lt_succ_self _)).trans hz0; have hf3 := (below_at (i := 1) HC.out (Nat.lt_succ_self _)).trans hz1))
      all_goals
        go_wp2
        go_ret
        exact ⟨rfl, HB13.out.trans (Below.less (up4 HC.out) HB13.out.size)⟩
    · have hd : ((er : Int) != 0) = true := by rw [bne_iff_ne]; exact h0
      obtain ⟨rfl, rfl⟩ := hno.out h0
      go_wp2_with fail
      refine (sign_any false A c [] _).mono ?_
      rintro e w4 ⟨rfl, hb4⟩
      go_wp2_with fail
      go_ret
      exact ⟨rfl, HB13.out.trans (Below.less ((below_alloc_new _).trans (Below.less hb4 (by simp))) HB13.out.size)⟩
end Go.Proofs.YtbfbijokhlkekaaDoor
