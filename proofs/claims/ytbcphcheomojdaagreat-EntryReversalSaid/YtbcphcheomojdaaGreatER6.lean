/- Contracts of the functions that the statements reach, part 6: what was proved of each, callees first. -/
import Derived.Test.YtbcphcheomojdaaGreatER5
namespace Go.Proofs.YtbcphcheomojdaaGreat
open Go.ChangeShapes Go.WideShapes Go.ChangeAt Go.WideMaps Go.WideElems Go.RowKit Go.Deep Go.Joins
theorem open_wlineK {H : Type} {enc : TypeId × Value → H} {W : World} {fuel : Nat} {cs : List Value} {x : DataW H × List MemPlace} (hf : DataW.trod enc Tryz.prog W 0 (fun _ => true) true fuel 30 cs = some x) :
  ∃ A len cap K, cs = [.slice A len cap] ∧ K.length = len ∧ len ≤ 9223372036854775807 ∧ LnkAt W A K ∧ ∀ l ∈ K, okK (kOf l) ∧ (Lit.int .i64 l.tgt).wf = true := by
 obtain ⟨A, len, cap, K, hcs, hlen, hmax, hz, hw⟩ := open_wlnks Tryz.underlying30 Tryz.underlying66 (by kernel_rfl) (by kernel_rfl) (by kernel_rfl) Tryz.underlying3 hf
 exact ⟨A, len, cap, K, hcs, hlen, hmax, hz, fun l hl => ⟨⟨(hw l hl).frm, (hw l hl).since⟩, (hw l hl).tgt⟩⟩
theorem cellsE7 {cs : List Value} (h : cs.length = 7) : ∃ c0 c1 c2 c3 c4 c5 c6, cs = [c0, c1, c2, c3, c4, c5, c6] := by
 match cs, h with
 | [c0, c1, c2, c3, c4, c5, c6], _ => exact ⟨c0, c1, c2, c3, c4, c5, c6, rfl⟩
section
variable {H : Type} {enc : TypeId × Value → H} {W : World}
set_option maxRecDepth 100000 in
theorem open_iety {b0 : Nat} {v : Value} {d : DataW H} {p : List MemPlace} (hval : Value.okWide Tryz.prog W .any b0 32 v) (h : DataW.Trod enc Tryz.prog W 0 (fun _ => true) true 32 v d p) :
  ∃ x X, v = etyV x ∧ EtyK W x X ∧ x.n ≤ 9223372036854775807 ∧ x.txt.size ≤ maxLen := by
 obtain ⟨cs, rfl, hsz⟩ := okWide_struct Tryz.underlying32 hval
 obtain ⟨fuel, hf⟩ := h
 have hcs : (Value.agg cs).cells.toList = cs.toList := by simp [Value.cells]
 rw [hcs] at hf
 obtain ⟨xs, n', -, -, hlen, hxl, hff⟩ := DataW.trod_struct Tryz.underlying32 hf
 have hC : Tryz.prog.cellsOf 32 = 7 := by kernel_rfl
 rw [hC] at hlen
 obtain ⟨c0, c1, c2, c3, c4, c5, c6, e7⟩ := cellsE7 hlen
 have k9 : Tryz.prog.cellsOf 9 = 1 := by kernel_rfl
 have ki : Tryz.prog.cellsOf 3 = 1 := by kernel_rfl
 have kl : Tryz.prog.cellsOf 30 = 1 := by kernel_rfl
 have hxl' : xs.length = 7 := hxl
 have hget : ∀ i, i < 7 → ∃ y, xs[i]? = some y := fun i hi => ⟨_, List.getElem?_eq_getElem (by omega)⟩
 have h0 : DataW.trod enc Tryz.prog W 0 (fun _ => true) true n' 3 ((cs.toList.drop 0).take (Tryz.prog.cellsOf 3)) = xs[0]? := hff 0 _ rfl
 have h1 : DataW.trod enc Tryz.prog W 0 (fun _ => true) true n' 3 ((cs.toList.drop 1).take (Tryz.prog.cellsOf 3)) = xs[1]? := hff 1 _ rfl
 have h2 : DataW.trod enc Tryz.prog W 0 (fun _ => true) true n' 3 ((cs.toList.drop 2).take (Tryz.prog.cellsOf 3)) = xs[2]? := hff 2 _ rfl
 have h3 : DataW.trod enc Tryz.prog W 0 (fun _ => true) true n' 3 ((cs.toList.drop 3).take (Tryz.prog.cellsOf 3)) = xs[3]? := hff 3 _ rfl
 have h4 : DataW.trod enc Tryz.prog W 0 (fun _ => true) true n' 3 ((cs.toList.drop 4).take (Tryz.prog.cellsOf 3)) = xs[4]? := hff 4 _ rfl
 have h5 : DataW.trod enc Tryz.prog W 0 (fun _ => true) true n' 9 ((cs.toList.drop 5).take (Tryz.prog.cellsOf 9)) = xs[5]? := hff 5 _ rfl
 have h6 : DataW.trod enc Tryz.prog W 0 (fun _ => true) true n' 30 ((cs.toList.drop 6).take (Tryz.prog.cellsOf 30)) = xs[6]? := hff 6 _ rfl
 obtain ⟨y0, e0⟩ := hget 0 (by omega)
 obtain ⟨y1, e1⟩ := hget 1 (by omega)
 obtain ⟨y2, e2⟩ := hget 2 (by omega)
 obtain ⟨y3, e3⟩ := hget 3 (by omega)
 obtain ⟨y4, e4⟩ := hget 4 (by omega)
 obtain ⟨y5, e5⟩ := hget 5 (by omega)
 obtain ⟨y6, e6⟩ := hget 6 (by omega)
 rw [e0, ki, e7] at h0
 rw [e1, ki, e7] at h1
 rw [e2, ki, e7] at h2
 rw [e3, ki, e7] at h3
 rw [e4, ki, e7] at h4
 rw [e5, k9, e7] at h5
 rw [e6, kl, e7] at h6
 obtain ⟨z0, q0, -, -⟩ := DataW.trod_int Tryz.underlying3 h0
 obtain ⟨z1, q1, -, -⟩ := DataW.trod_int Tryz.underlying3 h1
 obtain ⟨z2, q2, -, -⟩ := DataW.trod_int Tryz.underlying3 h2
 obtain ⟨z3, q3, -, -⟩ := DataW.trod_int Tryz.underlying3 h3
 obtain ⟨z4, q4, -, -⟩ := DataW.trod_int Tryz.underlying3 h4
 obtain ⟨tx, q5, -, bt⟩ := DataW.trod_string Tryz.underlying9 h5
 obtain ⟨A, n, c, X, q6, lx, hmx, hz, ok⟩ := open_wlineK h6
 have a0 : c0 = .int .i64 z0 := by simpa using q0
 have a1 : c1 = .int .i64 z1 := by simpa using q1
 have a2 : c2 = .int .i64 z2 := by simpa using q2
 have a3 : c3 = .int .i64 z3 := by simpa using q3
 have a4 : c4 = .int .i64 z4 := by simpa using q4
 have a5 : c5 = .string tx := by simpa using q5
 have a6 : c6 = .slice A n c := by simpa using q6
 subst a0 a1 a2 a3 a4 a5 a6
 refine ⟨⟨z0, z1, z2, z3, z4, tx, A, n, c⟩, X, ?_, ⟨lx, hz, ok⟩, hmx, bt⟩
 rw [← Array.toArray_toList (xs := cs), e7]
end
open Go.ChangeShapes Go.WideShapes Go.ChangeAt Go.WideMaps Go.WideElems Go.RowKit
theorem two_ofA {α : Type} (l : List α) (h : (⟨l⟩ : Array α).size = 2) : ∃ a b, l = [a, b] := by
 match l, h with
 | [a, b], _ => exact ⟨a, b, rfl⟩
section
variable {H : Type} {enc : TypeId × Value → H} {P : Program} {w : World} {r : Reach} {b0 base : Nat} {t e : TypeId} {k : IntKind} {spare : Nat → Bool} {held : Bool} {v : Value} {d : DataW H} {ps : List MemPlace}
theorem open_iarr (ht : P.underlying t = some (.array 2 e)) (he : P.underlying e = some (.int k)) (hce : P.cellsOf e = 1) (hct : P.cellsOf t = 2) (hval : Value.okWide P w r b0 t v) (hd : DataW.Trod enc P w base spare held t v d ps) :
  ∃ x y, v = .agg #[.int k x, .int k y] ∧ d = .agg [.lit (.int k x), .lit (.int k y)] ∧ ps = [] ∧ (Lit.int k x).wf = true ∧ (Lit.int k y).wf = true := by
 obtain ⟨cs, rfl, hsz, _⟩ : ∃ cs, v = .agg cs ∧ cs.size = P.cellsOf t ∧ Row.okWide P w r b0 t cs := by
  simpa [Value.okWide, ht] using hval
 rw [hct] at hsz
 obtain ⟨l⟩ := cs
 obtain ⟨c0, c1, rfl⟩ := two_ofA l hsz
 obtain ⟨fuel, hf⟩ := hd
 obtain ⟨xs, m, _, hx, _, hl, hel⟩ := DataW.trod_array ht hf
 match xs, hl, hx, hel with
 | [q0, q1], _, hx, hel =>
  have e0 := hel 0 (by omega)
  have e1 := hel 1 (by omega)
  rw [hce] at e0 e1
  obtain ⟨x, h0, h0', w0⟩ := DataW.trod_int he (by simpa [Value.cells] using e0 : DataW.trod enc P w base spare held m e [c0] = some q0)
  obtain ⟨y, h1, h1', w1⟩ := DataW.trod_int he (by simpa [Value.cells] using e1 : DataW.trod enc P w base spare held m e [c1] = some q1)
  simp at h0 h1
  subst h0 h1 h0' h1'
  simp only [List.map_cons, List.map_nil, List.flatMap_cons, List.flatMap_nil, List.append_nil, Prod.mk.injEq] at hx
  exact ⟨x, y, rfl, hx.1, hx.2, w0, w1⟩
end
end Go.Proofs.YtbcphcheomojdaaGreat
