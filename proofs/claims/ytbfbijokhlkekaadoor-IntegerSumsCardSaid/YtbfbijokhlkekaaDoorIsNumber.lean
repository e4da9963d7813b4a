/- 'isNumber': a text of digits, of which the first one is 0 only if it is the only one. -/
import Derived.Test.YtbfbijokhlkekaaDoorDec
import Derived.Laws.RangeAny
namespace Go.Proofs.YtbfbijokhlkekaaDoor
open Go.RowKit

theorem decode_high (s : ByteArray) (pos : Nat) (h : pos < s.size) (ha : 128 ≤ (s[pos]'h).toNat) : 128 ≤ (Utf8.decode s pos).1 := by
  have e : s.get! (pos + 0) = s[pos]'h := by
    show s.get! pos = _
    simp [ByteArray.get!, getElem!_pos, h]
    rfl
  have hr : 128 ≤ Utf8.runeError := by decide
  unfold Utf8.decode
  simp only [e]
  rw [if_neg (by omega)]
  repeat' split
  all_goals first | (rename_i hc; simp at hc; omega) | exact hr

theorem toList_get (s : ByteArray) (k : Nat) (h : k < s.size) : s.data.toList[k]'(by simpa using h) = s[k] := by simp; rfl
theorem no_num (s : ByteArray) (k : Nat) (h : k < s.size) (hd : ¬ isDig (s[k]'h) = true) : okNum s.data.toList = false := by
  have : s.data.toList.all isDig = false := by
    rw [List.all_eq_false]
    refine ⟨s[k], ?_, by simpa using hd⟩
    rw [← toList_get s k h]
    exact List.getElem_mem _
  simp [okNum, this]

theorem all_dig (s : ByteArray) (h : ∀ j, j < s.size → ∀ (h2 : j < s.size), isDig (s[j]'h2) = true) : s.data.toList.all isDig = true := by
  rw [List.all_eq_true]
  intro x hx
  obtain ⟨j, hj, rfl⟩ := List.getElem_of_mem hx
  have hj' : j < s.size := by simpa using hj
  rw [toList_get s j hj']
  exact h j hj' hj'
theorem okNum_head (s : ByteArray) (h : 0 < s.size) (ha : s.data.toList.all isDig = true) (hn : (s.data.toList == [48]) = false) : okNum s.data.toList = ((((s[0]'h).toNat : Nat) : Int) != 48) := by
  have e := toList_get s 0 h
  have hl : s.data.toList.length = s.size := by simp
  unfold okNum
  rw [ha, hn]
  rcases hs : s.data.toList with _ | ⟨c, r⟩
  · rw [hs] at hl; simp at hl; omega
  · have e : c = s[0] := by
      rw [← e]; simp [hs]
    rw [← e]
    by_cases hc : c = 48
    · subst hc; rfl
    · have hc' : ¬ c.toNat = 48 := fun e => hc (by apply UInt8.toNat_inj.1; rw [e]; rfl)
      have : ((c.toNat : Int) != 48) = true := by simp; omega
      rw [this]
      simpa using hc

set_option maxHeartbeats 800000 in
theorem isNumber_any (s : ByteArray) (w : World) (_hs : s.size ≤ 1000000) :
    Calls Tryd.prog 41 #[.string s] w fun e w' => e = .returned (.bool (okNum s.data.toList)) ∧ Below w.heap.size w w' := by
  go_enter Tryd.func41, Tryd.ntmps41
  go_wp2
  go_loopw [] (fun wr => ∃ k : Nat, k ≤ s.size ∧ wr = w.iter s k ∧ Hid (∀ j (h : j < k) (h2 : j < s.size), isDig (s[j]'h2) = true)) (fun wr => s.size - wr.iterPos w.heap.size)
  case atStart => exact ⟨0, Nat.zero_le _, rfl, fun j h _ => absurd h (by omega)⟩
  case round =>
    obtain ⟨k, hk, rfl, hd⟩ := hrel
    by_cases hlt : k < s.size
    · by_cases ha : (s[k]'hlt).toNat < 128
      · have hnx := fun ty => run_next_ascii (P := Tryd.prog) w s k ty hlt ha
        by_cases hdig : isDig (s[k]'hlt) = true
        · have h1 := (isDig_iff.1 hdig).1
          have h2 := (isDig_iff.1 hdig).2
          have hq : decide ((((s[k]'hlt).toNat : Nat) : Int) < 48) = false := by simp; omega
          go_wp2
          go_roundw
          case rel => exact ⟨k + 1, by omega, rfl, fun j hj h2 => by
            rcases Nat.lt_succ_iff_lt_or_eq.1 hj with h3 | rfl
            · exact hd.out j h3 h2
            · exact hdig⟩
          case measure => simp; omega
        · have hno : okNum s.data.toList = false := no_num s k hlt hdig
          have hno' := Lib.hid hno
          clear hno
          by_cases h48 : (s[k]'hlt).toNat < 48
          · have hq : decide ((((s[k]'hlt).toNat : Nat) : Int) < 48) = true := by simp; omega
            go_wp2
            go_ret
            exact ⟨by rw [hno'.out]; rfl, (Below.refl _ _).alloc (Nat.le_refl _) _⟩
          · have hq : decide ((((s[k]'hlt).toNat : Nat) : Int) < 48) = false := by simp; omega
            have h57 : ¬ (s[k]'hlt).toNat ≤ 57 := fun h => hdig (isDig_iff.2 ⟨by omega, h⟩)
            go_wp2
            go_ret
            exact ⟨by rw [hno'.out]; rfl, (Below.refl _ _).alloc (Nat.le_refl _) _⟩
      · have hnx := fun ty => run_next_any (P := Tryd.prog) w s k ty hlt
        have hhi := decode_high s k hlt (by omega)
        have hno : okNum s.data.toList = false := no_num s k hlt (fun h => by have := isDig_iff.1 h; omega)
        have hno' := Lib.hid hno
        clear hno
        have hq : decide ((((Utf8.decode s k).1 : Nat) : Int) < 48) = false := by simp; omega
        go_wp2
        go_ret
        exact ⟨by rw [hno'.out]; rfl, (Below.refl _ _).alloc (Nat.le_refl _) _⟩
    · obtain rfl : k = s.size := by omega
      have hnx := fun ty => run_next_end (P := Tryd.prog) w s s.size ty hlt
      have hall : s.data.toList.all isDig = true := all_dig s hd.out
      have Hall := Lib.hid hall
      clear hall
      by_cases h1 : s.data.toList = [48]
      · have b1 : (s.toList == [48]) = true := by rw [ByteArray.toList_eq, h1]; rfl
        go_wp2
        go_ret
        exact ⟨by unfold okNum; rw [Hall.out, h1]; rfl, (Below.refl _ _).alloc (Nat.le_refl _) _⟩
      · have b1 : (s.toList == [48]) = false := by rw [ByteArray.toList_eq]; simpa using h1
        have B1 : Hid ((s.data.toList == [48]) = false) := by show _ = _; simpa using h1
        rcases Nat.eq_zero_or_pos s.size with h0 | h0
        · have b2 : s.toList.isEmpty = true := by rw [ByteArray.toList_eq]; simp at h0; simp [h0]
          have B2 : Hid (s.data.toList.length = 0) := by show _ = _; simpa using h0
          clear h0 h1
          go_wp2
          go_ret
          exact ⟨by unfold okNum; rw [Hall.out, B1.out, B2.out]; rfl, (Below.refl _ _).alloc (Nat.le_refl _) _⟩
        · have b2 : s.toList.isEmpty = false := by rw [ByteArray.toList_eq, List.isEmpty_eq_false_iff, ← List.length_pos_iff]; simpa using h0
          have hb : okNum s.data.toList = ((((s[0]'h0).toNat : Nat) : Int) != 48) := okNum_head s h0 Hall.out B1.out
          have HB := Lib.hid hb
          clear hb h1 B1
          go_wp2
          go_ret
          exact ⟨by rw [HB.out]; rfl, (Below.refl _ _).alloc (Nat.le_refl _) _⟩
end Go.Proofs.YtbfbijokhlkekaaDoor
