/- Contracts of the functions that the statements reach, part 2: what was proved of each, callees first. -/
import Derived.Test.YtfombohomebokaaEK1
namespace Go.Proofs.Ytfombohomebokaa
open Go.ChangeShapes Go.WideShapes Go.ChangeAt Go.WideMaps Go.WideElems Go.RowKit Go.Deep Go.Joins
theorem okL_of {l : Lnk} (h : WfL l) : okL l := ⟨⟨h.frm, h.since⟩, h.tgt⟩
theorem open_wlineC {H : Type} {enc : TypeId × Value → H} {W : World} {fuel : Nat} {cs : List Value} {x : DataW H × List MemPlace} (hf : DataW.trod enc Try.prog W 0 (fun _ => true) true fuel 22 cs = some x) :
  ∃ A len cap K, cs = [.slice A len cap] ∧ K.length = len ∧ len ≤ 9223372036854775807 ∧ len ≤ cap ∧ LnkAt W A K ∧ ∀ l ∈ K, okL l := by
 obtain ⟨A, len, cap, K, hcs, hlen, hmax, hz, hw⟩ := open_wlnks Try.underlying22 Try.underlying29 (by kernel_rfl) (by kernel_rfl) (by kernel_rfl) Try.underlying3 hf
 refine ⟨A, len, cap, K, hcs, hlen, hmax, ?_, hz, fun l hl => okL_of (hw l hl)⟩
 subst hcs
 rcases Go.Deep.open_slice Try.underlying22 hf with ⟨hcs, -⟩ | ⟨a, len', cap', m, n, D, Pl, hcs, -, hl, hm, hmm, -, hx⟩
 ·simp at hcs
  omega
 ·simp at hcs
  omega
theorem open_wlineV {H : Type} {enc : TypeId × Value → H} {W : World} {b0 : Nat} {v : Value} {d : DataW H} {p : List MemPlace} (hval : Value.okWide Try.prog W .any b0 22 v) (h : DataW.Trod enc Try.prog W 0 (fun _ => true) true 22 v d p) :
  ∃ A len cap K, v = .slice A len cap ∧ K.length = len ∧ len ≤ 9223372036854775807 ∧ len ≤ cap ∧ LnkAt W A K ∧ ∀ l ∈ K, okL l := by
 obtain ⟨a0, len, cap, rfl⟩ := okWide_slice Try.underlying22 hval
 obtain ⟨fuel, hf⟩ := h
 obtain ⟨A, len', cap', K, hcs, hlen, hmax, hcap, hz, hw⟩ := open_wlineC hf
 simp [Value.cells] at hcs
 obtain ⟨rfl, rfl, rfl⟩ := hcs
 exact ⟨_, _, _, K, rfl, hlen, hmax, hcap, hz, hw⟩
end Go.Proofs.Ytfombohomebokaa
