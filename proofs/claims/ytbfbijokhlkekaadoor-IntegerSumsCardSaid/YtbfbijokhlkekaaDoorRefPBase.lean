/- The reference's 'Parse'. -/
import Derived.Test.YtbfbijokhlkekaaDoorRefNat
import Derived.Test.YtbfbijokhlkekaaDoorRefTrim
import Derived.Lib.IndexBytes
namespace Go.Proofs.YtbfbijokhlkekaaDoor
open Go.RowKit

theorem size_list (s : ByteArray) : s.data.toList.length = s.size := by simp
theorem neg_cases (s : ByteArray) : (negOf s.data.toList = false ∧ restOf s.data.toList = s.data.toList ∧ (∀ h : 0 < s.size, (s[0]'h).toNat ≠ 45)) ∨
    (negOf s.data.toList = true ∧ restOf s.data.toList = (s.extract 1 s.size).data.toList ∧ ∃ h : 0 < s.size, (s[0]'h).toNat = 45) := by
  have hl := size_list s
  have hg := toList_get s 0
  have he : (s.extract 1 s.size).data.toList = s.data.toList.drop 1 := Lib.extract_to_end s 1
  unfold negOf restOf Lib.trimPrefix
  rcases hs : s.data.toList with _ | ⟨c, r⟩
  · left
    refine ⟨rfl, rfl, fun h => ?_⟩
    rw [hs] at hl; simp at hl; omega
  · have h0 : 0 < s.size := by rw [hs] at hl; simp at hl; omega
    have hc : c = s[0] := by rw [← hg h0]; simp [hs]
    by_cases h45 : c = 45
    · right
      subst h45
      refine ⟨by simp [Lib.hasPrefix], ?_, h0, by rw [← hc]; rfl⟩
      rw [he, hs]
      simp [Lib.hasPrefix]
    · left
      have hp : Lib.hasPrefix (c :: r) [45] = false := by
        simp only [Lib.hasPrefix, List.isPrefixOf, Bool.and_true]; rw [beq_eq_false_iff_ne]; exact fun h => h45 h.symm
      rw [hp]
      refine ⟨rfl, rfl, fun _ => ?_⟩
      rw [← hc]
      intro e
      exact h45 (by apply UInt8.toNat_inj.1; rw [e]; rfl)

/-- What a good text is like. -/
theorem good_facts {l : List UInt8} (h : badNum l = false) : (∀ c ∈ restOf l, isDig c = true) ∧ restOf l ≠ [] ∧ ((restOf l).head? = some 48 → negOf l = false ∧ restOf l = [48]) ∧ (negOf l = true → 0 < numOf (restOf l)) := by
  have hok : okNum (restOf l) = true := by unfold badNum at h; revert h; cases okNum (restOf l) <;> simp
  obtain ⟨h1, h2, h3⟩ := okNum_parts hok
  have h4 : negOf l = true → restOf l ≠ [48] := by
    intro hn e
    unfold badNum at h
    rw [hok, hn, e] at h
    simp at h
  have h5 : negOf l = true → (restOf l).head? ≠ some 48 := by
    intro hn
    rcases h3 with h3 | h3
    · exact absurd h3 (h4 hn)
    · exact h3
  refine ⟨h1, h2, fun hh => ?_, fun hn => numOf_pos h1 h2 (h5 hn)⟩
  rcases h3 with h3 | h3
  · refine ⟨?_, h3⟩
    cases hn : negOf l
    · rfl
    · exact absurd h3 (h4 hn)
  · exact absurd hh h3
theorem head_byte {s : ByteArray} (h : 0 < s.size) : s.data.toList.head? = some (s[0]'h) := by
  have hg := toList_get s 0 h
  rcases hs : s.data.toList with _ | ⟨c, r⟩
  · have := size_list s; rw [hs] at this; simp at this; omega
  · rw [← hg]; simp [hs]
theorem byte_dig (D : ByteArray) (hd : ∀ c ∈ D.data.toList, isDig c = true) (i : Nat) (h : i < D.size) : 48 ≤ (D[i]'h).toNat ∧ (D[i]'h).toNat ≤ 57 ∧ (D[i]'h).toNat - 48 = digAt D.data.toList i := by
  have e := toList_get D i h
  have h1 := isDig_iff.1 (hd _ (List.getElem_mem (by simpa using h : i < D.data.toList.length)))
  rw [e] at h1
  refine ⟨h1.1, h1.2, ?_⟩
  simp only [digAt, List.getD_eq_getElem?_getD, List.getElem?_eq_getElem (by simpa using h : i < D.data.toList.length), Option.getD_some]
  rw [e]

theorem bad_of_digits {l : List UInt8} (h : badNum l = true) (hd : ∀ c ∈ restOf l, isDig c = true) (h0 : restOf l ≠ []) (h48 : (restOf l).head? ≠ some 48) : False := by
  have h1 : (restOf l).all isDig = true := List.all_eq_true.2 hd
  have h2 : (restOf l == [48]) = false := by
    rw [beq_eq_false_iff_ne]; intro e; rw [e] at h48; exact h48 rfl
  have h3 : (restOf l).length ≠ 0 := fun e => h0 (List.eq_nil_of_length_eq_zero e)
  have h4 : ((restOf l).head? != some 48) = true := by rw [bne_iff_ne]; exact h48
  unfold badNum okNum at h
  rw [h1, h2, h4] at h
  have h5 : ((restOf l).length != 0) = true := by rw [bne_iff_ne]; exact h3
  rw [h5] at h
  cases hn : negOf l <;> rw [hn] at h <;> exact absurd h (by decide)
theorem all_dig' (D : ByteArray) (h : ∀ j (h2 : j < D.size), isDig (D[j]'h2) = true) : ∀ c ∈ D.data.toList, isDig c = true := List.all_eq_true.1 (all_dig D fun j _ h2 => h j h2)
end Go.Proofs.YtbfbijokhlkekaaDoor
