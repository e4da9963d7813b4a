/- 'string(b)' of a row of bytes. -/
import Derived.Test.YtbfbijokhlkekaaDoorAppLimb
import Derived.Laws.BytesString
import Derived.Laws.Cells
namespace Go.Proofs.YtbfbijokhlkekaaDoor
open Go.RowKit

theorem fold_push (l : List UInt8) (acc : ByteArray) : (codes l).foldl (fun (r : ByteArray) (n : Nat) => r.push (UInt8.ofNat (n : Int).toNat)) acc = ⟨acc.data ++ l.toArray⟩ := by
  induction l generalizing acc with
  | nil => simp [codes]
  | cons c r ih =>
    show (codes r).foldl _ (acc.push (UInt8.ofNat (c.toNat : Int).toNat)) = _
    rw [ih]
    have : UInt8.ofNat (c.toNat : Int).toNat = c := by simp
    rw [this]
    simp [ByteArray.push]

theorem run_bytes_str {P : Program} {w : World} {e : TypeId} {base : Nat} {v : Value} {T : List UInt8} (src dst : TypeId) (hs : P.underlying src = some (.slice e)) (he : P.underlying e = some (.int .u8)) (hd : P.underlying dst = some .string)
    (hown : Own .u8 e w base v (codes T)) (hT : T ≠ []) : (convert src dst v).run P w = .ok (.string ⟨T.toArray⟩) w := by
  obtain ⟨A, c, rfl, hrow⟩ := hown.row
  obtain ⟨b, o, rfl, _, hc⟩ := hrow.spot (by rw [codes_length]; exact List.length_pos_iff.2 hT)
  rw [run_convert_bytes_string w src dst e _ _ _ hs he hd]
  have hl : (loadCells ⟨b, o, none⟩ (codes T).length).run P w = .ok (((codes T).map fun (n : Nat) => (n : Int)).map (Value.int .u8)).toArray w := by
    have := run_loadCells_list (P := P) (w := w) ⟨b, o, none⟩ (((codes T).map fun (n : Nat) => (n : Int)).map (Value.int .u8)) (fun j v hj => by
      have hjl : j < (codes T).length := by
        rcases Nat.lt_or_ge j (codes T).length with h | h
        · exact h
        · rw [List.getElem?_eq_none (by simpa using h)] at hj; cases hj
      have h2 := hc j hjl
      have h3 : v = .int .u8 (nth (codes T) j) := by
        rw [List.getElem?_map, List.getElem?_map, List.getElem?_eq_getElem hjl] at hj
        simp at hj
        rw [← hj, nth_lt hjl]
      rw [h3, ← h2]
      unfold Addr.add
      split
      · rename_i h0; subst h0; simp
      · rfl)
    simpa using this
  rw [run_bytesToString w _ _ _ _ hl, List.foldl_map, fold_push]
  simp [ByteArray.empty, ByteArray.emptyWithCapacity]
  rfl

/-- The operation 'string(b)'. -/
theorem wpList_bytes_str {P : Program} {w : World} {ops : Array Oper} {rest : List Oper} {o : Oper} {a : Act} {Q : Exit → Act → World → Prop} (hg : o.guard = none) (src dst : TypeId) (x : Operand) (hop : o.op = Op.convert src dst x)
    (e : TypeId) (hs : P.underlying src = some (.slice e)) (he : P.underlying e = some (.int .u8)) (hd : P.underlying dst = some .string)
    (base : Nat) (v : Value) (T : List UInt8) (hx : a.eval x = v) (hown : Own .u8 e w base v (codes T)) (hT : T ≠ [])
    (h : wpList P ops Q rest (a.put o.dst (.string ⟨T.toArray⟩)) w) : wpList P ops Q (o :: rest) a w := by
  refine wpList_plain hg fun K hK => ?_
  have hrun := run_bytes_str src dst hs he hd hown hT
  unfold Oper.wp
  simp [execOp, hop, hx, hrun, Result.andThen]
  exact hK _ _ h
end Go.Proofs.YtbfbijokhlkekaaDoor
