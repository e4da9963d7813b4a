/- Contracts of the functions that the statements reach, part 5: what was proved of each, callees first. -/
import Derived.Carry
import Derived.BigRegion
import Derived.Test.YtacmccijnkojeaaGreatJC4
namespace Go.Proofs.YtacmccijnkojeaaGreat
open Go.RowKit
structure Lay (α : Type) where
 cel : α → List Value
 s : Nat
 len : ∀ a, (cel a).length = s
 one : ∀ a, ∀ v ∈ cel a, v.oneCell' = true
 pos : 0 < s
section
variable {α : Type} {R : Lay α} {w w' : World} {A : Option Addr} {L : List α} {e : TypeId} {base : Nat} {v : Value}
def Lay.all (R : Lay α) (L : List α) : List Value := L.flatMap R.cel
theorem Lay.all_len (R : Lay α) : ∀ L : List α, (R.all L).length = L.length * R.s
 | [] => by simp [Lay.all]
 | a :: L => by
  have h := Lay.all_len R L
  unfold Lay.all at h ⊢
  rw [List.flatMap_cons, List.length_append, h, R.len, List.length_cons, Nat.add_mul]
  omega
theorem Lay.get (R : Lay α) : ∀ (L : List α) (i : Nat) (a : α), L[i]? = some a → ∀ j, j < R.s → (R.all L)[i * R.s + j]? = (R.cel a)[j]?
 | [], i, a, h, _, _ => by simp at h
 | b :: L, 0, a, h, j, hj => by
  simp at h; subst h
  unfold Lay.all
  rw [List.flatMap_cons, Nat.zero_mul, Nat.zero_add, List.getElem?_append_left (by rw [R.len]; exact hj)]
 | b :: L, i + 1, a, h, j, hj => by
  have h1 := Lay.get R L i a (by simpa using h) j hj
  unfold Lay.all at h1 ⊢
  rw [List.flatMap_cons, List.getElem?_append_right (by rw [R.len, Nat.add_mul]; omega), R.len, ← h1]
  congr 1
  rw [Nat.add_mul]; omega
theorem Lay.set (R : Lay α) : ∀ (L : List α) (i j : Nat) (a a' : α) (v : Value), L[i]? = some a → (R.cel a).set j v = R.cel a' → j < R.s → (R.all L).set (i * R.s + j) v = R.all (L.set i a')
 | [], i, j, a, a', v, h, _, _ => by simp at h
 | b :: L, 0, j, a, a', v, h, h2, hj => by
  simp at h; subst h
  unfold Lay.all
  rw [List.set_cons_zero, List.flatMap_cons, List.flatMap_cons, Nat.zero_mul, Nat.zero_add, List.set_append_left _ _ (by rw [R.len]; exact hj), h2]
 | b :: L, i + 1, j, a, a', v, h, h2, hj => by
  have h1 := Lay.set R L i j a a' v (by simpa using h) h2 hj
  unfold Lay.all at h1 ⊢
  rw [List.set_cons_succ, List.flatMap_cons, List.flatMap_cons, List.set_append_right _ _ (by rw [R.len, Nat.add_mul]; omega), R.len, ← h1]
  congr 2
  rw [Nat.add_mul]; omega
theorem Lay.all_append (R : Lay α) (L M : List α) : R.all (L ++ M) = R.all L ++ R.all M := List.flatMap_append
theorem Lay.all_one (R : Lay α) (L : List α) : ∀ v ∈ R.all L, v.oneCell' = true := by
 intro v hv
 obtain ⟨a, _, ha⟩ := List.mem_flatMap.1 hv
 exact R.one a v ha
def RowAt (R : Lay α) (w : World) (A : Option Addr) (L : List α) : Prop := 0 < L.length → ∃ b off, A = some ⟨b, off, none⟩ ∧ b < w.heap.size ∧ w.rangeAt b off (R.all L)
theorem RowAt.nil : RowAt R w A [] := fun h => absurd h (by simp)
theorem RowAt.at (h : RowAt R w A L) {i : Nat} {a : α} (hi : L[i]? = some a) : ∃ b off, A = some ⟨b, off, none⟩ ∧ b < w.heap.size ∧ w.rangeAt b (off + i * R.s) (R.cel a) := by
 have hil : i < L.length := (List.getElem?_eq_some_iff.1 hi).1
 obtain ⟨b, off, e, hlt, hc⟩ := h (by omega)
 refine ⟨b, off, e, hlt, fun j v hj => ?_⟩
 have hjs : j < R.s := by
  rw [← R.len a]
  exact (List.getElem?_eq_some_iff.1 hj).1
 rw [Nat.add_assoc]
 exact hc _ _ ((R.get L i a hi j hjs).trans hj)
theorem RowAt.same (h : RowAt R w A L) (hk : ∀ g o, A = some ⟨g, o, none⟩ → w'.heap[g]? = w.heap[g]?) : RowAt R w' A L := fun h0 => by
 obtain ⟨b, off, e, hlt, hc⟩ := h h0
 have h1 := hk b off e
 refine ⟨b, off, e, ?_, fun j v hj => (World.cell?_of_block (w := w) h1).trans (hc j v hj)⟩
 rcases Nat.lt_or_ge b w'.heap.size with h2 | h2
 ·exact h2
 ·rw [Array.getElem?_eq_none h2, Array.getElem?_eq_getElem hlt] at h1; cases h1
theorem RowAt.up (h : RowAt R w A L) (hb : Below w.heap.size w w') : RowAt R w' A L := fun h0 => by
 obtain ⟨b, off, e, hlt, hc⟩ := h h0
 exact ⟨b, off, e, Nat.lt_of_lt_of_le hlt hb.size, fun j v hj => (hb.cell (p := ⟨b, off + j, none⟩) hlt).trans (hc j v hj)⟩
def OwnR (R : Lay α) (e : TypeId) (w : World) (base : Nat) (v : Value) (L : List α) : Prop := w.ownsRow base e R.s v L.length (R.all L)
theorem OwnR.nil : OwnR R e w base (.slice none 0 0) ([] : List α) := World.ownsRow_nil _ _ _ _
theorem OwnR.blk (h : OwnR R e w base v L) (hk : ∀ g, v.ownBlock = some g → w'.heap[g]? = w.heap[g]?) : OwnR R e w' base v L := by
 obtain ⟨h1, h2⟩ := h
 refine ⟨h1, ?_⟩
 rcases h2 with h2 | ⟨g, cap, cur, rfl, hbg, hg, rest⟩
 ·exact .inl h2
 ·exact .inr ⟨g, cap, cur, rfl, hbg, (hk g rfl).trans hg, rest⟩
theorem OwnR.lt (h : OwnR R e w base v L) {g : Nat} (hg : v.ownBlock = some g) : base ≤ g ∧ g < w.heap.size := World.ownsRow.lt h g hg
theorem OwnR.up (h : OwnR R e w base v L) (hb : Below w.heap.size w w') : OwnR R e w' base v L := h.blk fun g hg => hb.block g (h.lt hg).2
theorem OwnR.low {b2 : Nat} (h : OwnR R e w base v L) (hb : b2 ≤ base) : OwnR R e w b2 v L := by
 obtain ⟨h1, h2⟩ := h
 rcases h2 with h2 | ⟨g, cap, cur, rfl, hbg, hg⟩
 ·exact ⟨h1, .inl h2⟩
 ·exact ⟨h1, .inr ⟨g, cap, cur, rfl, Nat.le_trans hb hbg, hg⟩⟩
theorem OwnR.empty (hb : base ≤ w.heap.size) : OwnR R e (w.alloc (.cells #[] e)) base (.slice (some ⟨w.heap.size, 0, none⟩) 0 0) ([] : List α) :=
 ⟨by simp [Lay.all], .inr ⟨w.heap.size, 0, #[], rfl, hb, heap_alloc_new _ _, Nat.le_refl _, Nat.zero_le _, by simp, by simp [Lay.all]⟩⟩
theorem OwnR.reads (h : OwnR R e w base v L) : ∃ A c, v = .slice A L.length c ∧ RowAt R w A L ∧ (∀ g o, A = some ⟨g, o, none⟩ → v.ownBlock = some g ∧ o = 0) := by
 obtain ⟨h1, h2⟩ := h
 rcases h2 with ⟨rfl, h0⟩ | ⟨g, cap, cur, rfl, hbg, hg, hn, hcap, hsz, hcur⟩
 ·obtain rfl : L = [] := List.eq_nil_of_length_eq_zero h0
  exact ⟨none, 0, rfl, RowAt.nil, fun g o h => by cases h⟩
 ·refine ⟨_, cap, rfl, fun _ => ⟨g, 0, rfl, ?_, fun j u hj => ?_⟩, fun g' o h => by cases h; exact ⟨rfl, rfl⟩⟩
  ·rcases Nat.lt_or_ge g w.heap.size with hlt | hge
   ·exact hlt
   ·rw [Array.getElem?_eq_none hge] at hg; cases hg
  ·have hjl : j < L.length * R.s := by rw [← R.all_len]; exact (List.getElem?_eq_some_iff.1 hj).1
   rw [Nat.zero_add, ← hj, ← hcur, List.getElem?_take, if_pos hjl]
   simp only [World.cell?, hg]
   simp
theorem OwnR.setf {g n c : Nat} (h : OwnR R e w base (.slice (some ⟨g, 0, none⟩) n c) L) {i j : Nat} {a a' : α} (hi : L[i]? = some a) (hj : j < R.s) (u : Value) (hc : (R.cel a).set j u = R.cel a') : OwnR R e (w.setCell ⟨g, i * R.s + j, none⟩ u) base (.slice (some ⟨g, 0, none⟩) n c) (L.set i a') := by
 obtain ⟨h1, h2⟩ := h
 have hM := R.set L i j a a' u hi hc hj
 rcases h2 with ⟨h9, _⟩ | ⟨g', cap, cur, h9, hbg, hg, hn, hcap, hsz, hcur⟩
 ·cases h9
 ·injection h9 with h8 h7 h6
  injection h8 with h8
  injection h8 with h8 _ _
  subst h8 h7 h6
  refine ⟨R.all_len _, .inr ⟨g, c, cur.set! (i * R.s + j) u, by rw [List.length_set], hbg, ?_, by rw [List.length_set]; exact hn, hcap, by simpa using hsz, ?_⟩⟩
  ·simp [World.setCell, Array.getElem?_modify, hg]
  ·rw [List.length_set, ← hM, ← hcur]
   simp [List.take_set]
theorem row_one {x : α} {g : Nat} {t : TypeId} (h : Wh t w g (R.cel x)) : RowAt R w (some ⟨g, 0, none⟩) [x] := fun _ => ⟨g, 0, rfl, h.lt, by
 have : R.all [x] = R.cel x := by simp [Lay.all]
 rw [this]
 exact h.range⟩
theorem wp_app_row {P : Program} {o : Oper} {a : Act} {K : Act → World → Prop} {Q : Exit → Act → World → Prop} (s x : Operand) (t : TypeId)
  (ho : o.op = .call { callee := .builtin .append, args := #[s, x], argTypes := #[t, t] })
  (i : TypeInfo) (z : Value) (bytes : Nat) (ht : P.underlying t = some (.slice e)) (hi : P.info? e = some i) (hz : i.zero = some z) (hsize : i.size = R.s) (hby : i.bytes = bytes) (hb8 : bytes ≤ 1000) (hzs : z.cells.size = R.s)
  (hs : a.eval s = v) (hown : OwnR R e w base v L) (X : Option Addr) (m c : Nat) (M : List α) (hm : M.length = m) (hx : a.eval x = .slice X m c) (hX : RowAt R w X M)
  (hlen : L.length + m ≤ 100000000) (hbase : base ≤ w.heap.size)
  (h : ∀ v' w', Hid (OwnR R e w' base v' (L ++ M)) → Hid (w.grownBy w' v.ownBlock) → Hid (v'.ownBlock = v.ownBlock ∨ v'.ownBlock = some w.heap.size) → K (a.put o.dst v') w') : Oper.wp P o a w K Q := by
 subst hm
 have hbb : (L.length + M.length) * bytes ≤ (L.length + M.length) * 1000 := Nat.mul_le_mul_left _ hb8
 rcases Nat.eq_zero_or_pos M.length with h0 | h0
 ·obtain rfl : M = [] := List.eq_nil_of_length_eq_zero h0
  have hrun : (Builtin.append_ #[t, t] o.type #[v, .slice X 0 c]).run P w = .ok v w := by
   rcases hown.2 with ⟨rfl, h9⟩ | ⟨g, cap, cur, rfl, hb, hg, hn, hcap, hcs, hcur⟩
   ·cases X <;> simp [Builtin.append_, run_underlying ht, sizeOf, typeInfo, hi, Builtin.lenOf, Builtin.firstCells, loadCells, loadCellsFrom]
   ·cases X <;> simp [Builtin.append_, run_underlying ht, sizeOf, typeInfo, hi, Builtin.lenOf, Builtin.firstCells, storeCells, loadCells, loadCellsFrom, hn]
  unfold Oper.wp
  simp [execOp, ho, resolve, invoke, builtin, hs, hx, hrun, Result.andThen]
  exact h v w (Lib.hid (by simpa using hown)) (Lib.hid ⟨rfl, rfl, rfl, Nat.le_refl _, fun _ _ _ => rfl⟩) (Lib.hid (.inl rfl))
 ·obtain ⟨b, off, rfl, hlt, hc⟩ := hX h0
  obtain ⟨v', w', hr, h2, h3, h4, h5⟩ := run_append_own_at (P := P) w base t o.type e i z R.s bytes ht hi hz hsize hby hzs R.pos v L.length (R.all L) hown ⟨b, off, none⟩ M.length c (R.all M) (R.all_len M)
   (fun j u hj => by
    have hadd : (⟨b, off, none⟩ : Addr).add j = ⟨b, off + j, none⟩ := by unfold Addr.add; split <;> simp_all
    rw [hadd]
    exact hc j u hj) (R.all_one M) (by unfold maxLen; omega) (by omega) hbase
  unfold Oper.wp execOp
  simp only [ho, resolve, invoke, builtin, Sem.run_bind, Sem.run_pure, Result.andThen_ok, List.map_toArray, List.map_cons, List.map_nil, hs, hx, hr]
  refine h v' w' (Lib.hid ?_) (Lib.hid h3) (Lib.hid h5)
  unfold OwnR
  rw [List.length_append, R.all_append]
  exact h2
theorem wpList_app_row {P : Program} {ops : Array Oper} {rest : List Oper} {o : Oper} {a : Act} {Q : Exit → Act → World → Prop} (hg : o.guard = none) (s x : Operand) (t : TypeId)
  (ho : o.op = .call { callee := .builtin .append, args := #[s, x], argTypes := #[t, t] })
  (i : TypeInfo) (z : Value) (bytes : Nat) (ht : P.underlying t = some (.slice e)) (hi : P.info? e = some i) (hz : i.zero = some z) (hsize : i.size = R.s) (hby : i.bytes = bytes) (hb8 : bytes ≤ 1000) (hzs : z.cells.size = R.s)
  (hs : a.eval s = v) (hown : OwnR R e w base v L) (X : Option Addr) (m c : Nat) (M : List α) (hm : M.length = m) (hx : a.eval x = .slice X m c) (hX : RowAt R w X M)
  (hlen : L.length + m ≤ 100000000) (hbase : base ≤ w.heap.size)
  (h : ∀ v' w', Hid (OwnR R e w' base v' (L ++ M)) → Hid (w.grownBy w' v.ownBlock) → Hid (v'.ownBlock = v.ownBlock ∨ v'.ownBlock = some w.heap.size) → wpList P ops Q rest (a.put o.dst v') w') : wpList P ops Q (o :: rest) a w :=
 wpList_plain hg fun _ hK => wp_app_row s x t ho i z bytes ht hi hz hsize hby hb8 hzs hs hown X m c M hm hx hX hlen hbase fun v' w' h1 h2 h3 => hK _ _ (h v' w' h1 h2 h3)
end
theorem own_apart {α β : Type} {R : Lay α} {R' : Lay β} {w : World} {e e' : TypeId} {b b' : Nat} {v v' : Value} {L : List α} {L' : List β} (h : OwnR R e w b v L) (h2 : OwnR R' e' w b' v' L') (hne : e ≠ e') {g : Nat} (hg : v.ownBlock = some g) (hg2 : v'.ownBlock = some g) : False := by
 rcases h.2 with ⟨rfl, _⟩ | ⟨g1, _, c1, rfl, _, k1, _⟩
 ·cases hg
 rcases h2.2 with ⟨rfl, _⟩ | ⟨g2, _, c2, rfl, _, k2, _⟩
 ·cases hg2
 cases hg; cases hg2
 rw [k1] at k2
 injection k2 with k2
 injection k2 with _ k3
 exact hne k3
def lyL : Lay Lnk := ⟨celL, 3, fun _ => rfl, fun a v hv => by simp [celL] at hv; rcases hv with rfl | rfl | rfl <;> rfl, by decide⟩
def lyA : Lay Acc := ⟨celA, 4, fun _ => rfl, fun a v hv => by simp [celA] at hv; rcases hv with rfl | rfl | rfl | rfl <;> rfl, by decide⟩
def lyE : Lay Ent := ⟨entC, 5, fun _ => rfl, fun a v hv => by simp [entC] at hv; rcases hv with rfl | rfl | rfl | rfl | rfl <;> rfl, by decide⟩
def lyX : Lay Ety := ⟨etyC, 7, fun _ => rfl, fun a v hv => by simp [etyC] at hv; rcases hv with rfl | rfl | rfl | rfl | rfl | rfl | rfl <;> rfl, by decide⟩
theorem lnk_row {w : World} {A : Option Addr} {L : List Lnk} : RowAt lyL w A L ↔ LnkAt w A L := by
 constructor
 ·intro h h0
  obtain ⟨b, off, e, hlt, hc⟩ := h h0
  refine ⟨b, off, e, hlt, fun i hi => ?_⟩
  obtain ⟨k0, k1, k2⟩ := celL_get L i hi
  exact ⟨hc _ _ k0, by rw [Nat.add_assoc]; exact hc _ _ k1, by rw [Nat.add_assoc]; exact hc _ _ k2⟩
 ·intro h h0
  obtain ⟨b, off, e, hlt, hc⟩ := h h0
  refine ⟨b, off, e, hlt, fun j v hj => ?_⟩
  have hjl : j < L.length * 3 := by
   have := lyL.all_len L
   rw [show lyL.s = 3 from rfl] at this
   rw [← this]
   exact (List.getElem?_eq_some_iff.1 hj).1
  have h3 : j % 3 = 0 ∨ j % 3 = 1 ∨ j % 3 = 2 := by omega
  rw [show lyL.all L = L.flatMap celL from rfl] at hj
  rcases h3 with h2 | h2 | h2
  ·obtain ⟨q, rfl⟩ : ∃ q, j = q * 3 := ⟨j / 3, by omega⟩
   rw [(celL_get L q (by omega)).1] at hj; injection hj with hj; subst hj
   exact (hc q (by omega)).c0
  ·obtain ⟨q, rfl⟩ : ∃ q, j = q * 3 + 1 := ⟨j / 3, by omega⟩
   rw [(celL_get L q (by omega)).2.1] at hj; injection hj with hj; subst hj
   rw [← Nat.add_assoc]
   exact (hc q (by omega)).c1
  ·obtain ⟨q, rfl⟩ : ∃ q, j = q * 3 + 2 := ⟨j / 3, by omega⟩
   rw [(celL_get L q (by omega)).2.2] at hj; injection hj with hj; subst hj
   rw [← Nat.add_assoc]
   exact (hc q (by omega)).c2
def Im (S : Nat → Prop) (P : World → Prop) (w : World) : Prop := ∀ w', Only S w w' → P w'
section
variable {S T : Nat → Prop} {P P' : World → Prop} {w w' : World}
theorem Im.now (h : Im S P w) : P w := h w (Only.refl w)
theorem Im.step (h : Im S P w) (hb : Only S w w') (hST : ∀ k, k < w.heap.size → T k → S k) : Im T P w' := fun w2 h2 => by
 refine h w2 ⟨h2.os.trans hb.os, h2.tape.trans hb.tape, h2.output.trans hb.output, Nat.le_trans hb.size h2.size, fun k hk hs => ?_⟩
 exact (h2.blk k (Nat.lt_of_lt_of_le hk hb.size) (fun ht => hs (hST k hk ht))).trans (hb.blk k hk hs)
theorem Im.on (h : Im S P w) (hb : Only S w w') : Im S P w' := h.step hb fun _ _ h => h
theorem Im.imp (h : Im S P w) (hp : ∀ w', P w' → P' w') : Im S P' w := fun w' hb => hp w' (h w' hb)
theorem Im.both (h : Im S P w) (h2 : Im S P' w) : Im S (fun w => P w ∧ P' w) w := fun w' hb => ⟨h w' hb, h2 w' hb⟩
theorem Im.of {B : Nat} (hP : ∀ w', Below B w w' → P w') (hS : ∀ k, S k → B ≤ k) (hB : B ≤ w.heap.size) : Im S P w := fun w' hb => hP w' (hb.below hS hB)
end
open Go Go.RowKit
section
variable {α : Type} {R : Lay α} {w : World} {L : List α} {e : TypeId} {base : Nat} {v : Value}
theorem all_take (R : Lay α) (M : List α) (k : Nat) (hk : k ≤ M.length) : R.all (M.take k) = (R.all M).take (k * R.s) := by
 have h1 := R.all_append (M.take k) (M.drop k)
 rw [List.take_append_drop] at h1
 rw [h1, List.take_left' (by rw [R.all_len, List.length_take]; congr 1; omega)]
theorem addr_add (b off k : Nat) : (⟨b, off, none⟩ : Addr).add k = ⟨b, off + k, none⟩ := by unfold Addr.add; split <;> simp_all
theorem row_take {W : World} {A : Option Addr} {M : List α} (k c : Nat) (h : RowAt R W A M) (hk : k ≤ M.length) : RowAt R W (if c = 0 then A else A.map (·.add (0 * R.s))) (M.take k) := by
 intro h0
 rw [List.length_take] at h0
 obtain ⟨b, off, e, hlt, hr⟩ := h (by omega)
 subst e
 refine ⟨b, off, ?_, hlt, fun j v hj => ?_⟩
 ·split
  ·rfl
  ·simp [addr_add]
 ·rw [all_take R M k hk, List.getElem?_take] at hj
  split at hj
  ·exact hr j v hj
  ·cases hj
theorem wp_slc_h {P : Program} {o : Oper} {a : Act} {K : Act → World → Prop} {Q : Exit → Act → World → Prop} (t : TypeId) (x y : Operand) (hop : o.op = .slice t x none (some y) none) (ht : P.underlying t = some (.slice (P.elem t))) (i : TypeInfo) (hi : P.info? (P.elem t) = some i) (hsz : i.size = R.s)
  (A : Option Addr) (n c k : Nat) (M : List α) (hm : M.length = n) (hx : a.eval x = .slice A n c) (hy : a.eval y = .int .i64 (k : Int)) (hk : k ≤ n) (hc : n ≤ c)
  (h : ∀ A2 c2, (∀ W, RowAt R W A M → RowAt R W A2 (M.take k)) → K (a.put o.dst (.slice A2 k c2)) w) : Oper.wp P o a w K Q := by
 have hr := run_slice_h (P := P) (w := w) t A n c ht .i64 (k : Int) (by omega) (by omega)
 have hz : (sizeOf (P.elem t)).run P w = .ok R.s w := by simp [sizeOf, typeInfo, hi, hsz]
 unfold Oper.wp execOp
 simp only [hop, hx, hy, Option.map_some, Option.map_none, run_sliceAt_slice w t _ _ _ _ ht, hr, hz, Sem.run_bind, Sem.run_pure, Result.andThen_ok, sliced, Int.toNat_natCast, Nat.sub_zero]
 exact h _ _ fun W hW => row_take k c hW (by omega)
end
open Go.RowKit Go.Maps Go.ChangeMaps
def okK (k : Int × Int) : Prop := (Lit.int .i64 k.1).wf = true ∧ (Lit.int .i64 k.2).wf = true
section
variable {w w' : World} {b n m : Nat} {f : Int × Int → Option Int}
end
open Go.RowKit
theorem sumT_snoc (L : List Lnk) (x : Lnk) : sumT (L ++ [x]) = sumT L + x.tgt := by simp [sumT]
set_option maxRecDepth 20000 in
set_option maxHeartbeats 1600000 in
theorem esum_any (A : Option Addr) (cp : Nat) (L : List Lnk) (w : World) (hz : LnkAt w A L) (hl : L.length ≤ 1000) :
  Calls Tryz.prog 129 #[.slice A L.length cp] w fun e w' => e = .returned (.int .i64 (wr (sumT L))) ∧ Below w.heap.size w w' := by
 have hB := Below.refl w.heap.size w
 obtain ⟨n, hn⟩ : ∃ n, L.length = n := ⟨_, rfl⟩
 rw [hn] at hl ⊢
 have HN := Lib.hid hn
 have HZ := Lib.hid hz
 clear hn hz
 go_enter Tryz.func129, Tryz.ntmps129
 go_wp2_with fail
 go_loopg [3, 8] n (fun kx s3 s8 wr => ∃ k : Nat, s3 = .int .i64 (Go.Proofs.YtacmccijnkojeaaGreat.wr (sumT (L.take k))) ∧ s8 = .int .i64 k ∧ k ≤ n ∧ n - k ≤ kx ∧ Below w.heap.size w wr)
 case atStart => exact ⟨0, by rw [List.take_zero]; exact congrArg _ wr_zero.symm, rfl, by omega, by omega, hB⟩
 case round =>
  clear hB
  obtain ⟨k, rfl, rfl, hk, hkx, hB⟩ := hrel
  by_cases hlt : k < n
  ·have hltz : (k : Int) < (n : Int) := by omega
   obtain ⟨bb, off, rfl, hbw, hcs⟩ := HZ.out (by rw [HN.out]; omega)
   obtain ⟨c0, c1, c2⟩ := (hcs k (by rw [HN.out]; exact hlt)).up hB hbw
   have hst : wrap64 (Go.Proofs.YtacmccijnkojeaaGreat.wr (sumT (L.take k)) + (L.getD k lnk0).tgt) = Go.Proofs.YtacmccijnkojeaaGreat.wr (sumT (L.take (k + 1))) := by
    rw [take_succ_getD (d := lnk0) (show k < L.length by rw [HN.out]; exact hlt), sumT_snoc]
    exact wr_add _ _
   generalize L.getD k lnk0 = x at *
   have HST := Lib.hid hst
   have HB1 := Lib.hid (below_new hB (.cells #[.int .i64 x.frm, .int .i64 x.tgt, .int .i64 x.since] 46))
   obtain ⟨⟨d0, d1, d2⟩, dlt⟩ := lb_new wr 46 x
   simp only [Nat.zero_add] at d0 d1 d2
   clear hcs hst
   generalize Go.Proofs.YtacmccijnkojeaaGreat.wr (sumT (L.take k)) = s at *
   go_wp2_with fail
   go_roundg (n - (k + 1))
   case measure => omega
   case rel => exact ⟨k + 1, by rw [← HST.out], by go_num, by omega, by omega, HB1.out⟩
  ·obtain rfl : k = n := by omega
   have hltz : ¬ (k : Int) < (k : Int) := by omega
   have E : Hid (Go.Proofs.YtacmccijnkojeaaGreat.wr (sumT (L.take k)) = Go.Proofs.YtacmccijnkojeaaGreat.wr (sumT L)) := Lib.hid (by rw [← HN.out, List.take_length])
   generalize Go.Proofs.YtacmccijnkojeaaGreat.wr (sumT (L.take k)) = z at *
   go_wp2_with fail
   go_ret
   exact ⟨by rw [E.out]; rfl, hB⟩
set_option maxRecDepth 20000 in
set_option maxHeartbeats 1600000 in
theorem rsum11_any (A : Option Addr) (cp : Nat) (L : List Lnk) (w : World) (hz : LnkAt w A L) (hl : L.length ≤ 1000) :
  Calls Tryz.prog 54 #[.slice A L.length cp] w fun e w' => e = .returned (.int .i64 (wr (sumT L))) ∧ Below w.heap.size w w' := by
 have hB := Below.refl w.heap.size w
 obtain ⟨n, hn⟩ : ∃ n, L.length = n := ⟨_, rfl⟩
 rw [hn] at hl ⊢
 have HN := Lib.hid hn
 have HZ := Lib.hid hz
 clear hn hz
 go_enter Tryz.func54, Tryz.ntmps54
 go_wp2_with fail
 go_loopg [3, 4] n (fun kx s3 s4 wr => ∃ k : Nat, s3 = .int .i64 (Go.Proofs.YtacmccijnkojeaaGreat.wr (sumT (L.take k))) ∧ s4 = .int .i64 k ∧ k ≤ n ∧ n - k ≤ kx ∧ Below w.heap.size w wr)
 case atStart => exact ⟨0, by rw [List.take_zero]; exact congrArg _ wr_zero.symm, rfl, by omega, by omega, hB⟩
 case round =>
  clear hB
  obtain ⟨k, rfl, rfl, hk, hkx, hB⟩ := hrel
  by_cases hlt : k < n
  ·have hltz : (k : Int) < (n : Int) := by omega
   obtain ⟨bb, off, rfl, hbw, hcs⟩ := HZ.out (by rw [HN.out]; omega)
   obtain ⟨c0, c1, c2⟩ := (hcs k (by rw [HN.out]; exact hlt)).up hB hbw
   have hst : wrap64 (Go.Proofs.YtacmccijnkojeaaGreat.wr (sumT (L.take k)) + (L.getD k lnk0).tgt) = Go.Proofs.YtacmccijnkojeaaGreat.wr (sumT (L.take (k + 1))) := by
    rw [take_succ_getD (d := lnk0) (show k < L.length by rw [HN.out]; exact hlt), sumT_snoc]
    exact wr_add _ _
   generalize L.getD k lnk0 = x at *
   have HST := Lib.hid hst
   clear hcs hst
   generalize Go.Proofs.YtacmccijnkojeaaGreat.wr (sumT (L.take k)) = s at *
   go_wp2_with fail
   go_roundg (n - (k + 1))
   case measure => omega
   case rel => exact ⟨k + 1, by rw [← HST.out], by go_num, by omega, by omega, hB⟩
  ·obtain rfl : k = n := by omega
   have hltz : ¬ (k : Int) < (k : Int) := by omega
   have E : Hid (Go.Proofs.YtacmccijnkojeaaGreat.wr (sumT (L.take k)) = Go.Proofs.YtacmccijnkojeaaGreat.wr (sumT L)) := Lib.hid (by rw [← HN.out, List.take_length])
   generalize Go.Proofs.YtacmccijnkojeaaGreat.wr (sumT (L.take k)) = z at *
   go_wp2_with fail
   go_ret
   exact ⟨by rw [E.out]; rfl, hB⟩
theorem fiE_b (y m p : Int) : (fiE y m p == 0) = fiB y m p := by
 unfold fiE
 cases fiB y m p <;> rfl
theorem pd_in {y m k p : Int} (h : clV y m k = true) (hp : 0 ≤ p ∧ p < k) : clE y m k p = 0 ∧ pdF y m k p = mfst (mno y m + p) ∧ pdL y m k p = mfst (mno y m + p + 1) - 1 ∧ pdY y m k p = p / 12 ∧ pdB y m k p = mfst (mno y m + p - p % 12) := by
 unfold pdF pdL pdY pdB
 rw [clE_in h hp]
 exact ⟨rfl, rfl, rfl, rfl, rfl⟩
theorem pd_out {y m k p : Int} (h : clE y m k p ≠ 0) : pdF y m k p = 0 ∧ pdL y m k p = 0 ∧ pdY y m k p = 0 ∧ pdB y m k p = 0 ∧ pdP y m k p = 0 ∧ pdPE y m k p = clE y m k p ∧ pdT y m k p = ⟨#[]⟩ := by
 unfold pdF pdL pdY pdB pdP pdPE pdT
 simp [h]
theorem pr_bad {y m k : Int} (n : Int) (h : clV y m k = false) : prN y m k n = 0 ∧ prE y m k n = 1 := by
 unfold prN prE
 rw [h]
 exact ⟨rfl, rfl⟩
theorem pr_no {y m k n : Int} (h : clV y m k = true) (hi : inP y m k n = false) : prN y m k n = 0 ∧ prE y m k n = 2 := by
 unfold prN prE
 rw [h, hi]
 exact ⟨rfl, rfl⟩
theorem pr_yes {y m k n : Int} (h : clV y m k = true) (hi : inP y m k n = true) : prN y m k n = mth n - mno y m ∧ prE y m k n = 0 := by
 unfold prN prE
 rw [h, hi]
 exact ⟨rfl, rfl⟩
theorem clE_yes {y m k p : Int} (he : clE y m k p = 0) : clV y m k = true ∧ (0 ≤ p ∧ p < k) := by
 rcases clE_three y m k p with ⟨hv, h⟩ | ⟨hv, hp, h⟩ | ⟨hv, hp, h⟩
 ·rw [he] at h; exact absurd h (by decide)
 ·rw [he] at h; exact absurd h (by decide)
 ·exact ⟨hv, hp⟩
theorem cl_k {y m k : Int} (h : clV y m k = true) : 1 ≤ k ∧ k ≤ 120 := (clV_iff.1 h).1
theorem rfi_any (y m k p : Int) (w : World) : Calls Tryz.prog 86 #[calV y m k, .int .i64 p] w fun e w' => e = .returned (.tuple #[.int .i64 (fiN y m p), .int .i64 (fiE y m p)]) ∧ Below w.heap.size w w' := by
 obtain ⟨tn, bn⟩ := tri_new w 23 y m k
 have HT := Lib.hid tn
 obtain ⟨c0, c1, c2, lt⟩ := tn
 cases hi : inYM y m
 ·obtain ⟨e1, e2, e3, e4⟩ := fi_none p hi
  rw [e3, e4]
  have h1 := fun w => dtrof_any y m 1 w
  rw [e1, e2] at h1
  have H1 := Lib.hid h1
  clear h1 hi e1 e2 e3 e4
  go_enter Tryz.func86, Tryz.ntmps86
  go_wp2_with (go_at_call 109; refine (H1.out _).mono ?_; rintro e w' ⟨rfl, rfl⟩)
  go_ret2
  exact ⟨rfl, bn⟩
 ·obtain ⟨e1, e2, e3, e4⟩ := fi_some p hi
  have h1 := fun w => dtrof_any y m 1 w
  rw [e1, e2] at h1
  have h2 := fun w => dtradd_any (mfst (mno y m)) p w
  rw [e3, e4] at h2
  have H1 := Lib.hid h1
  have H2 := Lib.hid h2
  clear h1 h2 hi e1 e2 e3 e4
  go_enter Tryz.func86, Tryz.ntmps86
  go_wp2_with (first | (go_at_call 109; refine (H1.out _).mono ?_; rintro e w' ⟨rfl, rfl⟩) | (go_at_call 110; refine (H2.out _).mono ?_; rintro e w' ⟨rfl, rfl⟩))
  go_ret2
  exact ⟨rfl, bn⟩
theorem rvalid7_any (y m k : Int) (w : World) : Calls Tryz.prog 63 #[calV y m k] w fun e w' => e = .returned (.bool (clV y m k)) ∧ Below w.heap.size w w' := by
 obtain ⟨tn, bn⟩ := tri_new w 23 y m k
 have HT := Lib.hid tn
 obtain ⟨c0, c1, c2, lt⟩ := tn
 unfold clV
 by_cases h1 : 1 ≤ k
 ·by_cases h2 : k ≤ 120
  ·have h3 := fun w => rfi_any y m k (k - 1) w
   rw [decide_eq_true h1, decide_eq_true h2, ← fiE_b]
   have h1' : decide (k < 1) = false := decide_eq_false (by omega)
   have h2' : decide (120 < k) = false := decide_eq_false (by omega)
   generalize fiN y m (k - 1) = a at *
   generalize fiE y m (k - 1) = b at *
   have H3 := Lib.hid h3
   clear h3
   go_enter Tryz.func63, Tryz.ntmps63
   go_wp2_with (go_at_call 86; refine (H3.out _).mono ?_; rintro e w' ⟨rfl, hb⟩; replace bn := below_more bn hb; replace HT := Lib.hid (HT.out.up hb); clear c0 c1 c2 lt hb; obtain ⟨c0, c1, c2, lt⟩ := HT.out)
   go_ret
   exact ⟨dret_bool (by simp), bn⟩
  ·rw [decide_eq_true h1, decide_eq_false h2]
   have h1' : decide (k < 1) = false := decide_eq_false (by omega)
   have h2' : 120 < k := by omega
   clear h2
   go_enter Tryz.func63, Tryz.ntmps63
   go_wp2_with fail
   go_ret
   exact ⟨rfl, bn⟩
 ·rw [decide_eq_false h1]
  have h1' : k < 1 := by omega
  clear h1
  go_enter Tryz.func63, Tryz.ntmps63
  go_wp2_with fail
  go_ret
  exact ⟨rfl, bn⟩
theorem rcheck7_any (y m k p : Int) (w : World) : Calls Tryz.prog 96 #[calV y m k, .int .i64 p] w fun e w' => e = .returned (.int .i64 (clE y m k p)) ∧ Below w.heap.size w w' := by
 obtain ⟨tn, bn⟩ := tri_new w 23 y m k
 have HT := Lib.hid tn
 obtain ⟨c0, c1, c2, lt⟩ := tn
 have h1 := fun w => rvalid7_any y m k w
 rcases clE_three y m k p with ⟨hv, he⟩ | ⟨hv, hp, he⟩ | ⟨hv, hp, he⟩
 ·rw [he]
  rw [hv] at h1
  have H1 := Lib.hid h1
  clear h1 hv he
  go_enter Tryz.func96, Tryz.ntmps96
  go_wp2_with (go_at_call 63; refine (H1.out _).mono ?_; rintro e w' ⟨rfl, hb⟩; replace bn := below_more bn hb; replace HT := Lib.hid (HT.out.up hb); clear c0 c1 c2 lt hb; obtain ⟨c0, c1, c2, lt⟩ := HT.out)
  go_ret
  exact ⟨rfl, bn⟩
 ·rw [he]
  rw [hv] at h1
  have H1 := Lib.hid h1
  clear h1 hv he
  by_cases h0 : p < 0
  ·skip
   go_enter Tryz.func96, Tryz.ntmps96
   go_wp2_with (go_at_call 63; refine (H1.out _).mono ?_; rintro e w' ⟨rfl, hb⟩; replace bn := below_more bn hb; replace HT := Lib.hid (HT.out.up hb); clear c0 c1 c2 lt hb; obtain ⟨c0, c1, c2, lt⟩ := HT.out)
   go_ret
   exact ⟨rfl, bn⟩
  ·have h0' : decide (p < 0) = false := decide_eq_false h0
   have h0'' : k ≤ p := by omega
   clear h0 hp
   go_enter Tryz.func96, Tryz.ntmps96
   go_wp2_with (go_at_call 63; refine (H1.out _).mono ?_; rintro e w' ⟨rfl, hb⟩; replace bn := below_more bn hb; replace HT := Lib.hid (HT.out.up hb); clear c0 c1 c2 lt hb; obtain ⟨c0, c1, c2, lt⟩ := HT.out)
   go_ret
   exact ⟨rfl, bn⟩
 ·rw [he]
  rw [hv] at h1
  have H1 := Lib.hid h1
  obtain ⟨p0, p1⟩ := hp
  have h0' : decide (p < 0) = false := decide_eq_false (by omega)
  have h0'' : decide (k ≤ p) = false := decide_eq_false (by omega)
  clear h1 hv he
  go_enter Tryz.func96, Tryz.ntmps96
  go_wp2_with (go_at_call 63; refine (H1.out _).mono ?_; rintro e w' ⟨rfl, hb⟩; replace bn := below_more bn hb; replace HT := Lib.hid (HT.out.up hb); clear c0 c1 c2 lt hb; obtain ⟨c0, c1, c2, lt⟩ := HT.out)
  go_ret
  exact ⟨rfl, bn⟩
theorem rfirst7_any (y m k p : Int) (w : World) : Calls Tryz.prog 74 #[calV y m k, .int .i64 p] w fun e w' => e = .returned (.tuple #[.int .i64 (pdF y m k p), .int .i64 (clE y m k p)]) ∧ Below w.heap.size w w' := by
 obtain ⟨tn, bn⟩ := tri_new w 23 y m k
 have HT := Lib.hid tn
 obtain ⟨c0, c1, c2, lt⟩ := tn
 have h1 := fun w => rcheck7_any y m k p w
 by_cases he : clE y m k p = 0
 ·obtain ⟨hv, hp⟩ := clE_yes he
  obtain ⟨-, e1, -⟩ := pd_in hv hp
  obtain ⟨a0, a1, a2⟩ := cl_month hv hp
  have h2 := fun w => rfi_any y m k p w
  unfold fiN fiE at h2
  rw [a2, if_pos rfl, if_pos rfl] at h2
  rw [e1, he]
  have H2 := Lib.hid h2
  clear h2 e1 a2
  rw [he] at h1
  have H1 := Lib.hid h1
  obtain ⟨p0, p1⟩ := hp
  obtain ⟨k0, k1⟩ := cl_k hv
  clear h1 he hv
  go_enter Tryz.func74, Tryz.ntmps74
  go_wp2_with (first | (go_at_call 96; refine (H1.out _).mono ?_; rintro e w' ⟨rfl, hb⟩; replace bn := below_more bn hb; replace HT := Lib.hid (HT.out.up hb); clear c0 c1 c2 lt hb; obtain ⟨c0, c1, c2, lt⟩ := HT.out) | (go_at_call 86; refine (H2.out _).mono ?_; rintro e w' ⟨rfl, hb⟩; replace bn := below_more bn hb; replace HT := Lib.hid (HT.out.up hb); clear c0 c1 c2 lt hb; obtain ⟨c0, c1, c2, lt⟩ := HT.out))
  go_ret2
  exact ⟨rfl, bn⟩
 ·obtain ⟨z1, z2, z3, z4, z5, z6, z7⟩ := pd_out he
  rw [z1]
  have hne : (clE y m k p != 0) = true := by simpa using he
  generalize clE y m k p = er at *
  have H1 := Lib.hid h1
  clear h1 he z1 z2 z3 z4 z5 z6 z7
  go_enter Tryz.func74, Tryz.ntmps74
  go_wp2_with (go_at_call 96; refine (H1.out _).mono ?_; rintro e w' ⟨rfl, hb⟩; replace bn := below_more bn hb; replace HT := Lib.hid (HT.out.up hb); clear c0 c1 c2 lt hb; obtain ⟨c0, c1, c2, lt⟩ := HT.out)
  go_ret2
  exact ⟨rfl, bn⟩
theorem rlast7_any (y m k p : Int) (w : World) : Calls Tryz.prog 75 #[calV y m k, .int .i64 p] w fun e w' => e = .returned (.tuple #[.int .i64 (pdL y m k p), .int .i64 (clE y m k p)]) ∧ Below w.heap.size w w' := by
 obtain ⟨tn, bn⟩ := tri_new w 23 y m k
 have HT := Lib.hid tn
 obtain ⟨c0, c1, c2, lt⟩ := tn
 have h1 := fun w => rfirst7_any y m k p w
 by_cases he : clE y m k p = 0
 ·obtain ⟨hv, hp⟩ := clE_yes he
  obtain ⟨-, e1, e2, -⟩ := pd_in hv hp
  obtain ⟨a0, a1, -⟩ := cl_month hv hp
  have hc := mfst_one a0 a1
  have h2 := fun w => rciv_yes _ _ _ _ w hc
  have h3 := fun w => rdays_any ((mno y m + p) / 12) ((mno y m + p) % 12 + 1) w
  rw [dys_in (inYM_iff.2 ⟨hc.y0, hc.y1, hc.m0, hc.m1⟩), show mdy ((mno y m + p) / 12) ((mno y m + p) % 12 + 1) = mln (mno y m + p) from rfl] at h3
  have b0 := mfst_bd (T := mno y m + p) a0 (by omega)
  have b1 := mln_bd (mno y m + p)
  rw [e2, he, mfst_succ _ a0]
  rw [e1, he] at h1
  have H1 := Lib.hid h1
  have H2 := Lib.hid h2
  have H3 := Lib.hid h3
  clear h1 h2 h3 he e1 e2 hc hv
  go_enter Tryz.func75, Tryz.ntmps75
  go_wp2_with (first | (go_at_call 74; refine (H1.out _).mono ?_; rintro e w' ⟨rfl, hb⟩; replace bn := below_more bn hb; replace HT := Lib.hid (HT.out.up hb); clear c0 c1 c2 lt hb; obtain ⟨c0, c1, c2, lt⟩ := HT.out) | (go_at_call 97; refine (H2.out _).mono ?_; rintro e w' ⟨rfl, rfl⟩) | (go_at_call 98; refine (H3.out _).mono ?_; rintro e w' ⟨rfl, rfl⟩))
  go_ret2
  exact ⟨rfl, bn⟩
 ·obtain ⟨z1, z2, -⟩ := pd_out he
  rw [z2]
  have hne : (clE y m k p != 0) = true := by simpa using he
  generalize clE y m k p = er at *
  have H1 := Lib.hid h1
  clear h1 he z1 z2
  go_enter Tryz.func75, Tryz.ntmps75
  go_wp2_with (go_at_call 74; refine (H1.out _).mono ?_; rintro e w' ⟨rfl, hb⟩; replace bn := below_more bn hb; replace HT := Lib.hid (HT.out.up hb); clear c0 c1 c2 lt hb; obtain ⟨c0, c1, c2, lt⟩ := HT.out)
  go_ret2
  exact ⟨rfl, bn⟩
theorem cnum7_any (y m : Int) (w : World) (hy : 1900 ≤ y ∧ y ≤ 2199 ∧ 1 ≤ m ∧ m ≤ 12) : Calls Tryz.prog 100 #[.int .i64 y, .int .i64 m] w fun e w' => e = .returned (.int .i64 (mno y m)) ∧ w = w' := by
 obtain ⟨y0, y1, m0, m1⟩ := hy
 unfold mno
 go_enter Tryz.func100, Tryz.ntmps100
 go_wp2_with fail
 go_ret
 exact ⟨rfl, rfl⟩
theorem cciv7_any (T : Int) (w : World) (h : 0 ≤ T ∧ T ≤ 100000) : Calls Tryz.prog 78 #[.int .i64 T] w fun e w' => e = .returned (.tuple #[.int .i64 (T / 12), .int .i64 (T % 12 + 1)]) ∧ w = w' := by
 obtain ⟨h0, h1⟩ := h
 go_enter Tryz.func78, Tryz.ntmps78
 go_wp2_with fail
 go_ret2
 exact ⟨rfl, rfl⟩
theorem cmon7_any (y m k p : Int) (w : World) (hy : 1900 ≤ y ∧ y ≤ 2199 ∧ 1 ≤ m ∧ m ≤ 12) (hp : -1000 ≤ p ∧ p ≤ 1000) : Calls Tryz.prog 79 #[calV y m k, .int .i64 p] w fun e w' => e = .returned (.int .i64 (mno y m + p)) ∧ Below w.heap.size w w' := by
 obtain ⟨tn, bn⟩ := tri_new w 23 y m k
 have HT := Lib.hid tn
 obtain ⟨c0, c1, c2, lt⟩ := tn
 have h1 := fun w => cnum7_any y m w hy
 have hb : 22800 ≤ mno y m ∧ mno y m ≤ 26399 := by unfold mno; omega
 have H1 := Lib.hid h1
 generalize mno y m = N at *
 obtain ⟨b0, b1⟩ := hb
 obtain ⟨p0, p1⟩ := hp
 clear h1 hy
 go_enter Tryz.func79, Tryz.ntmps79
 go_wp2_with (go_at_call 100; refine (H1.out _).mono ?_; rintro e w' ⟨rfl, rfl⟩)
 go_ret
 exact ⟨rfl, bn⟩
theorem cisp7_any (y m k p : Int) (w : World) : Calls Tryz.prog 135 #[calV y m k, .int .i64 p] w fun e w' => e = .returned (.bool (decide (0 ≤ p) && decide (p < k))) ∧ Below w.heap.size w w' := by
 obtain ⟨tn, bn⟩ := tri_new w 23 y m k
 have HT := Lib.hid tn
 obtain ⟨c0, c1, c2, lt⟩ := tn
 by_cases h0 : 0 ≤ p
 ·rw [decide_eq_true h0]
  go_enter Tryz.func135, Tryz.ntmps135
  go_wp2_with fail
  go_ret
  exact ⟨rfl, bn⟩
 ·rw [decide_eq_false h0]
  have h0' : p < 0 := by omega
  clear h0
  go_enter Tryz.func135, Tryz.ntmps135
  go_wp2_with fail
  go_ret
  exact ⟨rfl, bn⟩
theorem cmof7_no (n : Int) (w : World) (h : vdB n = false) : Calls Tryz.prog 134 #[.int .i64 n] w fun e w' => e = .returned (.tuple #[.int .i64 0, .int .i64 2]) ∧ Below w.heap.size w w' := by
 have bn := Below.refl w.heap.size w
 have h1 := fun w => civ_no n w h
 have H1 := Lib.hid h1
 clear h1
 go_enter Tryz.func134, Tryz.ntmps134
 go_wp2_with (go_at_call 137; refine (H1.out _).mono ?_; rintro e w' ⟨rfl, rfl⟩)
 go_ret2
 exact ⟨rfl, bn⟩
theorem cmof7_yes (n : Int) (w : World) (h : vdB n = true) : Calls Tryz.prog 134 #[.int .i64 n] w fun e w' => e = .returned (.tuple #[.int .i64 (mth n), .int .i64 0]) ∧ Below w.heap.size w w' := by
 have bn := Below.refl w.heap.size w
 have h1 := fun w => civ_any n w h
 have hc := civ_is h
 have h2 := fun w => cnum7_any (civY n) (civM n) w ⟨hc.y0, hc.y1, hc.m0, hc.m1⟩
 unfold mth
 have H1 := Lib.hid h1
 have H2 := Lib.hid h2
 clear h1 h2 hc
 go_enter Tryz.func134, Tryz.ntmps134
 go_wp2_with (first | (go_at_call 137; refine (H1.out _).mono ?_; rintro e w' ⟨rfl, hb⟩; replace bn := below_more bn hb; clear hb) | (go_at_call 100; refine (H2.out _).mono ?_; rintro e w' ⟨rfl, rfl⟩))
 go_ret2
 exact ⟨rfl, bn⟩
theorem cvalid7_any (y m k : Int) (w : World) : Calls Tryz.prog 56 #[calV y m k] w fun e w' => e = .returned (.bool (clV y m k)) ∧ Below w.heap.size w w' := by
 obtain ⟨tn, bn⟩ := tri_new w 23 y m k
 have HT := Lib.hid tn
 obtain ⟨c0, c1, c2, lt⟩ := tn
 have h1 := fun w => days_any y m w
 unfold clV fiB
 cases hi : inYM y m
 ·rw [dys_out hi] at h1
  rw [Bool.false_and, Bool.and_false, Bool.and_false]
  have H1 := Lib.hid h1
  clear h1 hi
  go_enter Tryz.func56, Tryz.ntmps56
  go_wp2_with (go_at_call 77; refine (H1.out _).mono ?_; rintro e w' ⟨rfl, hb⟩; replace bn := below_more bn hb; replace HT := Lib.hid (HT.out.up hb); clear c0 c1 c2 lt hb; obtain ⟨c0, c1, c2, lt⟩ := HT.out)
  go_ret
  exact ⟨rfl, bn⟩
 ·obtain ⟨y0, y1, m0, m1⟩ := inYM_iff.1 hi
  have hd := mdy_bd y m
  rw [dys_in hi] at h1
  have hne : (mdy y m == 0) = false := by rw [beq_eq_false_iff_ne]; omega
  generalize mdy y m = dd at *
  have H1 := Lib.hid h1
  clear h1
  by_cases k0 : 1 ≤ k
  ·by_cases k1 : k ≤ 120
   ·have h2 := fun w => cmon7_any y m k (k - 1) w ⟨y0, y1, m0, m1⟩ (by omega)
    have e0 : mno y m = 12 * y + m - 1 := rfl
    have h3 := fun w => cciv7_any (mno y m + (k - 1)) w (by omega)
    have h4 := fun w => days_any ((mno y m + (k - 1)) / 12) ((mno y m + (k - 1)) % 12 + 1) w
    rw [decide_eq_true k0, decide_eq_true k1, Bool.true_and, Bool.true_and, Bool.true_and, decide_eq_true (show 22800 ≤ mno y m + (k - 1) by omega), Bool.true_and]
    have k0' : decide (k < 1) = false := decide_eq_false (by omega)
    have k1' : decide (120 < k) = false := decide_eq_false (by omega)
    have ht : decide (0 < dys ((mno y m + (k - 1)) / 12) ((mno y m + (k - 1)) % 12 + 1)) = decide (mno y m + (k - 1) ≤ 26399) := by
     cases hj : inYM ((mno y m + (k - 1)) / 12) ((mno y m + (k - 1)) % 12 + 1)
     ·rw [dys_out hj]
      have : ¬ (mno y m + (k - 1) ≤ 26399) := fun hc => by rw [inYM_iff.2 ⟨by omega, by omega, by omega, by omega⟩] at hj; cases hj
      rw [decide_eq_false this]; rfl
     ·have h5 := inYM_iff.1 hj
      have h6 := mdy_bd ((mno y m + (k - 1)) / 12) ((mno y m + (k - 1)) % 12 + 1)
      rw [dys_in hj, decide_eq_true (show mno y m + (k - 1) ≤ 26399 by omega), decide_eq_true (by omega)]
    rw [← ht]
    clear ht e0
    generalize dys ((mno y m + (k - 1)) / 12) ((mno y m + (k - 1)) % 12 + 1) = d2 at *
    generalize mno y m + (k - 1) = T at *
    have H2 := Lib.hid h2
    have H3 := Lib.hid h3
    have H4 := Lib.hid h4
    generalize T % 12 + 1 = b2 at *
    generalize T / 12 = a2 at *
    clear h2 h3 h4 hi y0 y1 m0 m1
    go_enter Tryz.func56, Tryz.ntmps56
    go_wp2_with (first | (go_at_call 77; first | (with_reducible refine (H1.out _).mono ?_; rintro e w' ⟨rfl, hb⟩; replace bn := below_more bn hb; replace HT := Lib.hid (HT.out.up hb); clear c0 c1 c2 lt hb; obtain ⟨c0, c1, c2, lt⟩ := HT.out) | (with_reducible refine (H4.out _).mono ?_; rintro e w' ⟨rfl, hb⟩; replace bn := below_more bn hb; replace HT := Lib.hid (HT.out.up hb); clear c0 c1 c2 lt hb; obtain ⟨c0, c1, c2, lt⟩ := HT.out)) | (go_at_call 79; refine (H2.out _).mono ?_; rintro e w' ⟨rfl, hb⟩; replace bn := below_more bn hb; replace HT := Lib.hid (HT.out.up hb); clear c0 c1 c2 lt hb; obtain ⟨c0, c1, c2, lt⟩ := HT.out) | (go_at_call 78; refine (H3.out _).mono ?_; rintro e w' ⟨rfl, rfl⟩))
    go_ret
    exact ⟨rfl, bn⟩
   ·rw [decide_eq_true k0, decide_eq_false k1]
    have k0' : decide (k < 1) = false := decide_eq_false (by omega)
    have k1' : 120 < k := by omega
    clear k1 hi y0 y1 m0 m1
    go_enter Tryz.func56, Tryz.ntmps56
    go_wp2_with (go_at_call 77; refine (H1.out _).mono ?_; rintro e w' ⟨rfl, hb⟩; replace bn := below_more bn hb; replace HT := Lib.hid (HT.out.up hb); clear c0 c1 c2 lt hb; obtain ⟨c0, c1, c2, lt⟩ := HT.out)
    go_ret
    exact ⟨rfl, bn⟩
  ·rw [decide_eq_false k0]
   have k0' : k < 1 := by omega
   clear k0 hi y0 y1 m0 m1
   go_enter Tryz.func56, Tryz.ntmps56
   go_wp2_with (go_at_call 77; refine (H1.out _).mono ?_; rintro e w' ⟨rfl, hb⟩; replace bn := below_more bn hb; replace HT := Lib.hid (HT.out.up hb); clear c0 c1 c2 lt hb; obtain ⟨c0, c1, c2, lt⟩ := HT.out)
   go_ret
   exact ⟨rfl, bn⟩
theorem cperiod7_any (y m k n : Int) (w : World) : Calls Tryz.prog 128 #[calV y m k, .int .i64 n] w fun e w' => e = .returned (.tuple #[.int .i64 (prN y m k n), .int .i64 (prE y m k n)]) ∧ Below w.heap.size w w' := by
 obtain ⟨tn, bn⟩ := tri_new w 23 y m k
 have HT := Lib.hid tn
 obtain ⟨c0, c1, c2, lt⟩ := tn
 have h1 := fun w => cvalid7_any y m k w
 cases hv : clV y m k
 ·rw [(pr_bad n hv).1, (pr_bad n hv).2]
  rw [hv] at h1
  have H1 := Lib.hid h1
  clear h1 hv
  go_enter Tryz.func128, Tryz.ntmps128
  go_wp2_with (go_at_call 56; refine (H1.out _).mono ?_; rintro e w' ⟨rfl, hb⟩; replace bn := below_more bn hb; replace HT := Lib.hid (HT.out.up hb); clear c0 c1 c2 lt hb; obtain ⟨c0, c1, c2, lt⟩ := HT.out)
  go_ret2
  exact ⟨rfl, bn⟩
 ·rw [hv] at h1
  have H1 := Lib.hid h1
  clear h1
  cases hd : vdB n
  ·have h2 := fun w => cmof7_no n w hd
   obtain ⟨e1, e2⟩ := pr_no (n := n) hv (by unfold inP; rw [hd]; rfl)
   rw [e1, e2]
   have H2 := Lib.hid h2
   clear h2 hd hv e1 e2
   go_enter Tryz.func128, Tryz.ntmps128
   go_wp2_with (first | (go_at_call 56; refine (H1.out _).mono ?_; rintro e w' ⟨rfl, hb⟩; replace bn := below_more bn hb; replace HT := Lib.hid (HT.out.up hb); clear c0 c1 c2 lt hb; obtain ⟨c0, c1, c2, lt⟩ := HT.out) | (go_at_call 134; refine (H2.out _).mono ?_; rintro e w' ⟨rfl, hb⟩; replace bn := below_more bn hb; replace HT := Lib.hid (HT.out.up hb); clear c0 c1 c2 lt hb; obtain ⟨c0, c1, c2, lt⟩ := HT.out))
   go_ret2
   exact ⟨rfl, bn⟩
  ·have h2 := fun w => cmof7_yes n w hd
   obtain ⟨ym, -⟩ := (clV_iff.1 hv).2
   have h3 := fun w => cmon7_any y m k 0 w ym (by omega)
   have h4 := fun w => cisp7_any y m k (mth n - mno y m) w
   rw [Int.add_zero] at h3
   obtain ⟨t0, t1, -⟩ := mth_is hd
   have e0 : mno y m = 12 * y + m - 1 := rfl
   have hb : 22800 ≤ mno y m ∧ mno y m ≤ 26399 := by omega
   cases hi : inP y m k n
   ·obtain ⟨e1, e2⟩ := pr_no hv hi
    rw [e1, e2]
    unfold inP at hi
    rw [hd, Bool.true_and] at hi
    rw [hi] at h4
    have H2 := Lib.hid h2
    have H3 := Lib.hid h3
    have H4 := Lib.hid h4
    clear h2 h3 h4 hd hv e1 e2 hi e0 ym
    generalize mth n = t at *
    generalize mno y m = N at *
    obtain ⟨b0, b1⟩ := hb
    go_enter Tryz.func128, Tryz.ntmps128
    go_wp2_with (first | (go_at_call 56; refine (H1.out _).mono ?_; rintro e w' ⟨rfl, hb⟩; replace bn := below_more bn hb; replace HT := Lib.hid (HT.out.up hb); clear c0 c1 c2 lt hb; obtain ⟨c0, c1, c2, lt⟩ := HT.out) | (go_at_call 134; refine (H2.out _).mono ?_; rintro e w' ⟨rfl, hb⟩; replace bn := below_more bn hb; replace HT := Lib.hid (HT.out.up hb); clear c0 c1 c2 lt hb; obtain ⟨c0, c1, c2, lt⟩ := HT.out) | (go_at_call 79; refine (H3.out _).mono ?_; rintro e w' ⟨rfl, hb⟩; replace bn := below_more bn hb; replace HT := Lib.hid (HT.out.up hb); clear c0 c1 c2 lt hb; obtain ⟨c0, c1, c2, lt⟩ := HT.out) | (go_at_call 135; refine (H4.out _).mono ?_; rintro e w' ⟨rfl, hb⟩; replace bn := below_more bn hb; replace HT := Lib.hid (HT.out.up hb); clear c0 c1 c2 lt hb; obtain ⟨c0, c1, c2, lt⟩ := HT.out))
    go_ret2
    exact ⟨rfl, bn⟩
   ·obtain ⟨e1, e2⟩ := pr_yes hv hi
    rw [e1, e2]
    unfold inP at hi
    rw [hd, Bool.true_and] at hi
    rw [hi] at h4
    have H2 := Lib.hid h2
    have H3 := Lib.hid h3
    have H4 := Lib.hid h4
    clear h2 h3 h4 hd hv e1 e2 hi e0 ym
    generalize mth n = t at *
    generalize mno y m = N at *
    obtain ⟨b0, b1⟩ := hb
    go_enter Tryz.func128, Tryz.ntmps128
    go_wp2_with (first | (go_at_call 56; refine (H1.out _).mono ?_; rintro e w' ⟨rfl, hb⟩; replace bn := below_more bn hb; replace HT := Lib.hid (HT.out.up hb); clear c0 c1 c2 lt hb; obtain ⟨c0, c1, c2, lt⟩ := HT.out) | (go_at_call 134; refine (H2.out _).mono ?_; rintro e w' ⟨rfl, hb⟩; replace bn := below_more bn hb; replace HT := Lib.hid (HT.out.up hb); clear c0 c1 c2 lt hb; obtain ⟨c0, c1, c2, lt⟩ := HT.out) | (go_at_call 79; refine (H3.out _).mono ?_; rintro e w' ⟨rfl, hb⟩; replace bn := below_more bn hb; replace HT := Lib.hid (HT.out.up hb); clear c0 c1 c2 lt hb; obtain ⟨c0, c1, c2, lt⟩ := HT.out) | (go_at_call 135; refine (H4.out _).mono ?_; rintro e w' ⟨rfl, hb⟩; replace bn := below_more bn hb; replace HT := Lib.hid (HT.out.up hb); clear c0 c1 c2 lt hb; obtain ⟨c0, c1, c2, lt⟩ := HT.out))
    go_ret2
    exact ⟨rfl, bn⟩
def grpP (g : Grp) (L : List Acc) (G : List Ent) : Bool := curB g.cur && (clV g.cy g.cm g.cp && (chaB L && (rlsB L g.R && ensP L g.R G)))
set_option maxRecDepth 20000 in
set_option maxHeartbeats 3200000 in
theorem gvalid_any (g : Grp) (L : List Acc) (G : List Ent) (w : World) (hk : GrK w g L G) (hs : Sm g G) (hw : GrW g L G) :
  Calls Tryz.prog 38 #[grpV g] w fun e' w' => e' = .returned (.bool (grpP g L G)) ∧ Below w.heap.size w w' := by
 have hB := below_alloc_new (w := w) (.cells #[.string g.cur, .int .i64 g.cy, .int .i64 g.cm, .int .i64 g.cp, .slice g.A g.n g.c, .int .i64 g.r0, .int .i64 g.r1, .int .i64 g.r2, .int .i64 g.r3, .int .i64 g.r4, .int .i64 g.r5, .int .i64 g.r6, .int .i64 g.r7, .int .i64 g.r8, .int .i64 g.r9, .int .i64 g.r10, .int .i64 g.r11, .int .i64 g.r12, .int .i64 g.r13, .int .i64 g.r14, .slice g.E g.m g.d] 29)
 have hG := gb_new w 29 g
 have hk2 := hk.up hB
 have hn := hs.n
 have h1 := fun w => gcur_any g.cur w
 have h2 := fun w => cvalid7_any g.cy g.cm g.cp w
 have h3 : ∀ w, AccAt w g.A L → Calls Tryz.prog 57 #[.slice g.A g.n g.c] w fun e' w' => e' = .returned (.bool (chaB L)) ∧ Below w.heap.size w w' := fun w h => by
  have h9 := gcha_any g.A g.c L w h (by have := hk.ln; omega)
  rw [hk.ln] at h9
  exact h9
 have h4 := fun w h => groles_any g L w h hk.ln (by omega) hw.rol
 have h5 := fun w h => gents_any g L G w h hs hw
 have hv : grpP g L G = (curB g.cur && (clV g.cy g.cm g.cp && (chaB L && (rlsB L g.R && ensP L g.R G)))) := rfl
 obtain ⟨X, hX⟩ : ∃ X : Value, X = grpV g := ⟨_, rfl⟩
 rw [← hX] at h4 h5
 generalize grpP g L G = r at *
 generalize curB g.cur = q1 at *
 generalize clV g.cy g.cm g.cp = q2 at *
 generalize chaB L = q3 at *
 generalize rlsB L g.R = q4 at *
 generalize ensP L g.R G = q5 at *
 obtain ⟨s0, hs0⟩ : ∃ s0, w.heap.size = s0 := ⟨_, rfl⟩
 have hs1 : s0 ≤ (w.alloc (.cells #[.string g.cur, .int .i64 g.cy, .int .i64 g.cm, .int .i64 g.cp, .slice g.A g.n g.c, .int .i64 g.r0, .int .i64 g.r1, .int .i64 g.r2, .int .i64 g.r3, .int .i64 g.r4, .int .i64 g.r5, .int .i64 g.r6, .int .i64 g.r7, .int .i64 g.r8, .int .i64 g.r9, .int .i64 g.r10, .int .i64 g.r11, .int .i64 g.r12, .int .i64 g.r13, .int .i64 g.r14, .slice g.E g.m g.d] 29)).heap.size := by simp; omega
 rw [hs0] at hB hG ⊢
 have HX := Lib.hid hX
 have HG := Lib.hid hG
 have HK := Lib.hid hk2
 have HSZ := Lib.hid hs1
 have HCU := Lib.hid h1
 have HCL := Lib.hid h2
 have HCH := Lib.hid h3
 have HRO := Lib.hid h4
 have HEN := Lib.hid h5
 have HV := Lib.hid hv
 have c0 := hG.c0
 have c1 := hG.c1
 have c2 := hG.c2
 have c3 := hG.c3
 have c4 := hG.c4
 clear hk hs hw hG hk2 hn h1 h2 h3 h4 h5 hv hX hs1
 cases q1
 ·go_enter Tryz.func38, Tryz.ntmps38
  go_wp2_with (first | (go_at_call 55; refine (HCU.out _).mono ?_; rintro e1 w1 ⟨rfl, rfl⟩))
  go_ret
  exact ⟨by rw [HV.out]; rfl, hB⟩
 cases q2
 ·go_enter Tryz.func38, Tryz.ntmps38
  go_wp2_with (first | (go_at_call 55; refine (HCU.out _).mono ?_; rintro e1 w1 ⟨rfl, rfl⟩) | (go_at_call 56; refine (HCL.out _).mono ?_; rintro e1 w1 ⟨rfl, hb⟩; have hB9 := hB.trans (hb.mono HSZ.out); have HSZ9 := Lib.hid (Nat.le_trans HSZ.out hb.size); have HG9 := Lib.hid (HG.out.up hb); have HK9 := Lib.hid (HK.out.up hb); clear hb hB HSZ HG HK c0 c1 c2 c3 c4; have hB := hB9; have HSZ := HSZ9; have HG := HG9; have HK := HK9; clear hB9 HSZ9 HG9 HK9; have c0 := HG.out.c0; have c1 := HG.out.c1; have c2 := HG.out.c2; have c3 := HG.out.c3; have c4 := HG.out.c4))
  go_ret
  exact ⟨by rw [HV.out]; rfl, hB⟩
 cases q3
 ·go_enter Tryz.func38, Tryz.ntmps38
  go_wp2_with (first | (go_at_call 55; refine (HCU.out _).mono ?_; rintro e1 w1 ⟨rfl, rfl⟩) | (go_at_call 56; refine (HCL.out _).mono ?_; rintro e1 w1 ⟨rfl, hb⟩; have hB9 := hB.trans (hb.mono HSZ.out); have HSZ9 := Lib.hid (Nat.le_trans HSZ.out hb.size); have HG9 := Lib.hid (HG.out.up hb); have HK9 := Lib.hid (HK.out.up hb); clear hb hB HSZ HG HK c0 c1 c2 c3 c4; have hB := hB9; have HSZ := HSZ9; have HG := HG9; have HK := HK9; clear hB9 HSZ9 HG9 HK9; have c0 := HG.out.c0; have c1 := HG.out.c1; have c2 := HG.out.c2; have c3 := HG.out.c3; have c4 := HG.out.c4) | (go_at_call 57; (with_reducible refine (HCH.out _ HK.out.hz).mono ?_); rintro e1 w2 ⟨rfl, hb⟩; have hB9 := hB.trans (hb.mono HSZ.out); have HSZ9 := Lib.hid (Nat.le_trans HSZ.out hb.size); have HG9 := Lib.hid (HG.out.up hb); have HK9 := Lib.hid (HK.out.up hb); clear hb hB HSZ HG HK c0 c1 c2 c3 c4; have hB := hB9; have HSZ := HSZ9; have HG := HG9; have HK := HK9; clear hB9 HSZ9 HG9 HK9; have c0 := HG.out.c0; have c1 := HG.out.c1; have c2 := HG.out.c2; have c3 := HG.out.c3; have c4 := HG.out.c4))
  go_ret
  exact ⟨by rw [HV.out]; rfl, hB⟩
 cases q4
 ·go_enter Tryz.func38, Tryz.ntmps38
  go_wp2_with (first | (go_at_call 55; refine (HCU.out _).mono ?_; rintro e1 w1 ⟨rfl, rfl⟩) | (go_at_call 56; refine (HCL.out _).mono ?_; rintro e1 w1 ⟨rfl, hb⟩; have hB9 := hB.trans (hb.mono HSZ.out); have HSZ9 := Lib.hid (Nat.le_trans HSZ.out hb.size); have HG9 := Lib.hid (HG.out.up hb); have HK9 := Lib.hid (HK.out.up hb); clear hb hB HSZ HG HK c0 c1 c2 c3 c4; have hB := hB9; have HSZ := HSZ9; have HG := HG9; have HK := HK9; clear hB9 HSZ9 HG9 HK9; have c0 := HG.out.c0; have c1 := HG.out.c1; have c2 := HG.out.c2; have c3 := HG.out.c3; have c4 := HG.out.c4) | (go_at_call 57; (with_reducible refine (HCH.out _ HK.out.hz).mono ?_); rintro e1 w2 ⟨rfl, hb⟩; have hB9 := hB.trans (hb.mono HSZ.out); have HSZ9 := Lib.hid (Nat.le_trans HSZ.out hb.size); have HG9 := Lib.hid (HG.out.up hb); have HK9 := Lib.hid (HK.out.up hb); clear hb hB HSZ HG HK c0 c1 c2 c3 c4; have hB := hB9; have HSZ := HSZ9; have HG := HG9; have HK := HK9; clear hB9 HSZ9 HG9 HK9; have c0 := HG.out.c0; have c1 := HG.out.c1; have c2 := HG.out.c2; have c3 := HG.out.c3; have c4 := HG.out.c4) | (refine wpList_load_is rfl 29 _ rfl (.pointer (some ⟨s0, 0, none⟩)) rfl X (gb_lV HG.out HX.out) ?_) | (refine wpList_load_if rfl 29 _ rfl (.pointer (some ⟨s0, 0, none⟩)) rfl X (gb_lV HG.out HX.out) ?_) | (refine wp_load_is 29 _ rfl (.pointer (some ⟨s0, 0, none⟩)) rfl X (gb_lV HG.out HX.out) ?_) | (go_at_call 58; (with_reducible refine (HRO.out _ HK.out.hz).mono ?_); rintro e1 w3 ⟨rfl, hb⟩; have hB9 := hB.trans (hb.mono HSZ.out); have HSZ9 := Lib.hid (Nat.le_trans HSZ.out hb.size); have HG9 := Lib.hid (HG.out.up hb); have HK9 := Lib.hid (HK.out.up hb); clear hb hB HSZ HG HK c0 c1 c2 c3 c4; have hB := hB9; have HSZ := HSZ9; have HG := HG9; have HK := HK9; clear hB9 HSZ9 HG9 HK9; have c0 := HG.out.c0; have c1 := HG.out.c1; have c2 := HG.out.c2; have c3 := HG.out.c3; have c4 := HG.out.c4))
  go_ret
  exact ⟨by rw [HV.out]; rfl, hB⟩
 go_enter Tryz.func38, Tryz.ntmps38
 go_wp2_with (first | (go_at_call 55; refine (HCU.out _).mono ?_; rintro e1 w1 ⟨rfl, rfl⟩) | (go_at_call 56; refine (HCL.out _).mono ?_; rintro e1 w1 ⟨rfl, hb⟩; have hB9 := hB.trans (hb.mono HSZ.out); have HSZ9 := Lib.hid (Nat.le_trans HSZ.out hb.size); have HG9 := Lib.hid (HG.out.up hb); have HK9 := Lib.hid (HK.out.up hb); clear hb hB HSZ HG HK c0 c1 c2 c3 c4; have hB := hB9; have HSZ := HSZ9; have HG := HG9; have HK := HK9; clear hB9 HSZ9 HG9 HK9; have c0 := HG.out.c0; have c1 := HG.out.c1; have c2 := HG.out.c2; have c3 := HG.out.c3; have c4 := HG.out.c4) | (go_at_call 57; (with_reducible refine (HCH.out _ HK.out.hz).mono ?_); rintro e1 w2 ⟨rfl, hb⟩; have hB9 := hB.trans (hb.mono HSZ.out); have HSZ9 := Lib.hid (Nat.le_trans HSZ.out hb.size); have HG9 := Lib.hid (HG.out.up hb); have HK9 := Lib.hid (HK.out.up hb); clear hb hB HSZ HG HK c0 c1 c2 c3 c4; have hB := hB9; have HSZ := HSZ9; have HG := HG9; have HK := HK9; clear hB9 HSZ9 HG9 HK9; have c0 := HG.out.c0; have c1 := HG.out.c1; have c2 := HG.out.c2; have c3 := HG.out.c3; have c4 := HG.out.c4) | (refine wpList_load_is rfl 29 _ rfl (.pointer (some ⟨s0, 0, none⟩)) rfl X (gb_lV HG.out HX.out) ?_) | (refine wpList_load_if rfl 29 _ rfl (.pointer (some ⟨s0, 0, none⟩)) rfl X (gb_lV HG.out HX.out) ?_) | (refine wp_load_is 29 _ rfl (.pointer (some ⟨s0, 0, none⟩)) rfl X (gb_lV HG.out HX.out) ?_) | (go_at_call 58; (with_reducible refine (HRO.out _ HK.out.hz).mono ?_); rintro e1 w3 ⟨rfl, hb⟩; have hB9 := hB.trans (hb.mono HSZ.out); have HSZ9 := Lib.hid (Nat.le_trans HSZ.out hb.size); have HG9 := Lib.hid (HG.out.up hb); have HK9 := Lib.hid (HK.out.up hb); clear hb hB HSZ HG HK c0 c1 c2 c3 c4; have hB := hB9; have HSZ := HSZ9; have HG := HG9; have HK := HK9; clear hB9 HSZ9 HG9 HK9; have c0 := HG.out.c0; have c1 := HG.out.c1; have c2 := HG.out.c2; have c3 := HG.out.c3; have c4 := HG.out.c4) | (go_at_call 59; (with_reducible refine (HEN.out _ HK.out).mono ?_); rintro e1 w4 ⟨rfl, hb⟩; have hB9 := hB.trans (hb.mono HSZ.out); have HSZ9 := Lib.hid (Nat.le_trans HSZ.out hb.size); have HG9 := Lib.hid (HG.out.up hb); have HK9 := Lib.hid (HK.out.up hb); clear hb hB HSZ HG HK c0 c1 c2 c3 c4; have hB := hB9; have HSZ := HSZ9; have HG := HG9; have HK := HK9; clear hB9 HSZ9 HG9 HK9; have c0 := HG.out.c0; have c1 := HG.out.c1; have c2 := HG.out.c2; have c3 := HG.out.c3; have c4 := HG.out.c4))
 go_ret
 exact ⟨by rw [HV.out]; rfl, hB⟩
def entIn (g : Grp) (i : Int) : Bool := decide (0 ≤ i) && decide (i < g.m)
def orgB (kind of_ : Int) : Bool := if kind = 1 ∨ kind = 2 then decide (of_ = 0) else if kind = 3 then decide (1 ≤ of_) else false
def ptB (g : Grp) (e p : Int) : Bool := decide (p = -1) || (entIn g p && !decide (p = e))
set_option maxRecDepth 100000 in
set_option maxHeartbeats 1600000 in
theorem gisent_any (g : Grp) (x : Ety) (V : Value) (hV : V = cdV g x) (i : Int) (w : World) : Calls Tryz.prog 124 #[V, .int .i64 i] w fun e w' => e = .returned (.bool (entIn g i)) ∧ Below w.heap.size w w' := by
 have HV := Lib.hid hV
 have c20e : (cdC g x)[20]? = some (.slice g.E g.m g.d) := rfl
 have HC := Lib.hid c20e
 clear hV c20e
 unfold entIn
 rcases Int.lt_or_le i 0 with h1 | h1
 ·have e1 : decide (0 ≤ i) = false := decide_eq_false (by omega)
  rw [e1, Bool.false_and]
  go_enter Tryz.func124, Tryz.ntmps124
  go_wp2_with (refine wpList_box_rg rfl 136 (.tmp 0) rfl V rfl (cdC g x) HV.out ?_; intro b W hR hB; have c20 := hR.out.cell 20 _ HC.out)
  go_ret
  exact ⟨by first | rfl | simp, hB.out⟩
 ·have e1 : decide (0 ≤ i) = true := decide_eq_true h1
  rcases Int.lt_or_le i g.m with h2 | h2
  ·have e2 : decide (i < g.m) = true := decide_eq_true h2
   rw [e1, e2, Bool.true_and]
   go_enter Tryz.func124, Tryz.ntmps124
   go_wp2_with (refine wpList_box_rg rfl 136 (.tmp 0) rfl V rfl (cdC g x) HV.out ?_; intro b W hR hB; have c20 := hR.out.cell 20 _ HC.out)
   go_ret
   exact ⟨by first | rfl | simp, hB.out⟩
  ·have e2 : decide (i < g.m) = false := decide_eq_false (by omega)
   have e3 : ¬ i < g.m := by omega
   rw [e1, e2, Bool.true_and]
   go_enter Tryz.func124, Tryz.ntmps124
   go_wp2_with (refine wpList_box_rg rfl 136 (.tmp 0) rfl V rfl (cdC g x) HV.out ?_; intro b W hR hB; have c20 := hR.out.cell 20 _ HC.out)
   go_ret
   exact ⟨by first | rfl | simp, hB.out⟩
theorem cd_load {w : World} {b : Nat} {g : Grp} {x : Ety} {V : Value} (h : Rg w b (cdC g x)) (hV : V = cdV g x) : (Instr.loadAt 136 (.pointer (some ⟨b, 0, none⟩))).run Tryz.prog w = .ok V w := by
 rw [hV]
 exact h.load 0 136 (cdC g x) rfl _ Tryz.underlying136 rfl (by kernel_rfl)
theorem cd_grp {w : World} {b : Nat} {g : Grp} {x : Ety} {V : Value} (h : Rg w b (cdC g x)) (hV : V = grpV g) : (Instr.loadAt 29 (.pointer (some ⟨b, 0, none⟩))).run Tryz.prog w = .ok V w := by
 rw [hV, grpV_is]
 exact h.load 0 29 (grpC g) rfl _ Tryz.underlying29 rfl (by kernel_rfl)
theorem cd_cal {w : World} {b : Nat} {g : Grp} {x : Ety} (h : Rg w b (cdC g x)) : (Instr.loadAt 23 (.pointer (some ⟨b, 1, none⟩))).run Tryz.prog w = .ok (.agg #[.int .i64 g.cy, .int .i64 g.cm, .int .i64 g.cp]) w :=
 h.load 1 23 [.int .i64 g.cy, .int .i64 g.cm, .int .i64 g.cp] rfl _ Tryz.underlying23 rfl (by kernel_rfl)
theorem cd_ety {w : World} {b : Nat} {g : Grp} {x : Ety} (h : Rg w b (cdC g x)) : (Instr.loadAt 42 (.pointer (some ⟨b, 21, none⟩))).run Tryz.prog w = .ok (etyV x) w :=
 h.load 21 42 (etyC x) rfl _ Tryz.underlying42 rfl (by kernel_rfl)
theorem cd_open (g : Grp) (x : Ety) (w : World) : ∃ cs : Array Value, cdV g x = .agg cs ∧ (cdC g x).toArray = cs ∧ Hid (Rg (w.alloc (.cells cs 136)) w.heap.size (cdC g x)) ∧ Hid (Below w.heap.size w (w.alloc (.cells cs 136))) :=
 ⟨_, rfl, rfl, Lib.hid (rg_new w _ _), Lib.hid (below_alloc_new _)⟩
set_option maxRecDepth 100000 in
set_option maxHeartbeats 1600000 in
theorem gispart_any (g : Grp) (x : Ety) (V : Value) (hV : V = cdV g x) (p : Int) (w : World) : Calls Tryz.prog 127 #[V, .int .i64 p] w fun e w' => e = .returned (.bool (ptB g x.ent p)) ∧ Below w.heap.size w w' := by
 have HQ := Lib.hid (fun W => gisent_any g x V hV p W)
 obtain ⟨cs, h1, -, hR, hB⟩ := cd_open g x w
 rw [h1] at hV
 have c22 := hR.out.cell 22 _ rfl
 have HL := Lib.hid (cd_load hR.out h1.symm)
 subst hV
 clear h1
 unfold ptB
 by_cases h1 : p = -1
 ·subst h1
  have e1 : decide ((-1 : Int) = -1) = true := by decide
  rw [e1, Bool.true_or]
  go_enter Tryz.func127, Tryz.ntmps127
  go_wp2_with fail
  go_ret
  exact ⟨by first | rfl | simp, hB.out⟩
 ·have e1 : decide (p = -1) = false := decide_eq_false h1
  have e2 : (p == -1) = false := by simp [h1]
  rw [e1, Bool.false_or]
  clear h1 e1
  generalize entIn g p = q at *
  cases q
  ·rw [Bool.false_and]
   go_enter Tryz.func127, Tryz.ntmps127
   go_wp2_with (first | (refine wpList_load_if (by rfl) 136 _ rfl (.pointer (some ⟨w.heap.size, 0, none⟩)) rfl (.agg cs) HL.out ?_) | (go_at_call 124; refine (HQ.out _).mono ?_; rintro e w5 ⟨rfl, hb5⟩; have c22b := (hb5.cell (p := ⟨w.heap.size, 22, none⟩) hR.out.lt).trans c22))
   go_ret
   exact ⟨by first | rfl | simp, below_more hB.out hb5⟩
  ·rw [Bool.true_and]
   by_cases h3 : p = x.ent
   ·have e3 : (p == x.ent) = true := by simp [h3]
    have e4 : decide (p = x.ent) = true := decide_eq_true h3
    rw [e4]
    have H3 := Lib.hid h3
    clear h3 e4
    go_enter Tryz.func127, Tryz.ntmps127
    go_wp2_with (first | (refine wpList_load_if (by rfl) 136 _ rfl (.pointer (some ⟨w.heap.size, 0, none⟩)) rfl (.agg cs) HL.out ?_) | (go_at_call 124; refine (HQ.out _).mono ?_; rintro e w5 ⟨rfl, hb5⟩; have c22b := (hb5.cell (p := ⟨w.heap.size, 22, none⟩) hR.out.lt).trans c22))
    go_ret
    exact ⟨by first | rfl | simp [H3.out], below_more hB.out hb5⟩
   ·have e3 : (p == x.ent) = false := by simp [h3]
    have e4 : decide (p = x.ent) = false := decide_eq_false h3
    rw [e4]
    have H3 := Lib.hid h3
    clear h3 e4
    go_enter Tryz.func127, Tryz.ntmps127
    go_wp2_with (first | (refine wpList_load_if (by rfl) 136 _ rfl (.pointer (some ⟨w.heap.size, 0, none⟩)) rfl (.agg cs) HL.out ?_) | (go_at_call 124; refine (HQ.out _).mono ?_; rintro e w5 ⟨rfl, hb5⟩; have c22b := (hb5.cell (p := ⟨w.heap.size, 22, none⟩) hR.out.lt).trans c22))
    go_ret
    exact ⟨by first | rfl | simp [H3.out], below_more hB.out hb5⟩
set_option maxRecDepth 20000 in
set_option maxHeartbeats 1600000 in
theorem gisorg_any (kind of_ : Int) (w : World) : Calls Tryz.prog 125 #[.int .i64 kind, .int .i64 of_] w fun e w' => e = .returned (.bool (orgB kind of_)) ∧ w = w' := by
 unfold orgB
 by_cases h1 : kind = 1
 ·subst h1
  rw [if_pos (.inl rfl)]
  have e9 : (of_ == 0) = decide (of_ = 0) := rfl
  go_enter Tryz.func125, Tryz.ntmps125
  go_wp2_with fail
  go_ret
  exact ⟨by first | rfl | simp [e9], rfl⟩
 ·have e1 : (kind == 1) = false := by simp [h1]
  by_cases h2 : kind = 2
  ·subst h2
   rw [if_pos (.inr rfl)]
   have e9 : (of_ == 0) = decide (of_ = 0) := rfl
   go_enter Tryz.func125, Tryz.ntmps125
   go_wp2_with fail
   go_ret
   exact ⟨by first | rfl | simp [e9], rfl⟩
  ·have e2 : (kind == 2) = false := by simp [h2]
   rw [if_neg (by omega)]
   by_cases h3 : kind = 3
   ·subst h3
    rw [if_pos rfl]
    go_enter Tryz.func125, Tryz.ntmps125
    go_wp2_with fail
    go_ret
    exact ⟨by first | rfl | simp, rfl⟩
   ·have e3 : (kind == 3) = false := by simp [h3]
    rw [if_neg h3]
    go_enter Tryz.func125, Tryz.ntmps125
    go_wp2_with fail
    go_ret
    exact ⟨by first | rfl | simp, rfl⟩
set_option maxRecDepth 100000 in
set_option maxHeartbeats 3200000 in
theorem ghead_any (g : Grp) (x : Ety) (L : List Acc) (G : List Ent) (V : Value) (hV : V = cdV g x) (w : World) (hk : GrK w g L G) (hs : Sm g G) (hw : GrW g L G) : Calls Tryz.prog 111 #[V] w fun e w' => e = .returned (.int .i64 (if (grpP g L G && (decide (1 ≤ x.id) && (entIn g x.ent && orgB x.kind x.of_))) = true then 0 else 1)) ∧ Below w.heap.size w w' := by
 have HQ := Lib.hid (fun W => gisent_any g x V hV x.ent W)
 have HOG := Lib.hid (fun W => gisorg_any x.kind x.of_ W)
 obtain ⟨GV, hGV⟩ : ∃ GV, GV = grpV g := ⟨_, rfl⟩
 have HGV := Lib.hid (fun W (h : GrK W g L G) => gvalid_any g L G W h hs hw)
 rw [← hGV] at HGV
 obtain ⟨cs, h1, -, hR, hB⟩ := cd_open g x w
 rw [h1] at hV
 have HV := Lib.hid h1
 have HLE := Lib.hid (cd_ety hR.out)
 have hR2 := Lib.hid (hR.out.up (below_alloc_new (.cells #[.int .i64 x.id, .int .i64 x.ent, .int .i64 x.day, .int .i64 x.kind, .int .i64 x.of_, .string x.txt, .slice x.A x.n x.c] 42)))
 have hB2 := Lib.hid (below_new hB.out (.cells #[.int .i64 x.id, .int .i64 x.ent, .int .i64 x.day, .int .i64 x.kind, .int .i64 x.of_, .string x.txt, .slice x.A x.n x.c] 42))
 have hS2 : Hid (Rg ((w.alloc (.cells cs 136)).alloc (.cells #[.int .i64 x.id, .int .i64 x.ent, .int .i64 x.day, .int .i64 x.kind, .int .i64 x.of_, .string x.txt, .slice x.A x.n x.c] 42)) (w.heap.size + 1) (etyC x)) := Lib.hid (by
  have h9 := rg_new (w.alloc (.cells cs 136)) 42 (etyC x)
  rw [World.size_alloc] at h9
  exact h9)
 have HLG := Lib.hid (cd_grp hR2.out hGV)
 have HK2 := Lib.hid (hk.up hB2.out)
 subst hV
 clear h1 hGV hk hs hw
 generalize grpP g L G = gp at *
 generalize entIn g x.ent = en at *
 generalize orgB x.kind x.of_ = og at *
 cases gp
 ·rw [Bool.false_and]
  go_enter Tryz.func111, Tryz.ntmps111
  go_wp2_with (first
   | (refine wpList_load_is rfl 42 _ rfl (.pointer (some ⟨w.heap.size, 21, none⟩)) rfl (etyV x) HLE.out ?_)
   | (refine wpList_load_is rfl 29 _ rfl (.pointer (some ⟨w.heap.size, 0, none⟩)) rfl GV HLG.out ?_)
   | (refine wpList_load_if (by rfl) 136 _ rfl (.pointer (some ⟨w.heap.size, 0, none⟩)) rfl (.agg cs) HL5.out ?_)
   | (go_at_call 38; refine (HGV.out _ HK2.out).mono ?_; rintro e w5 ⟨rfl, hb5⟩; have hR5 := hR2.out.up hb5; have hS5 := hS2.out.up hb5; have HB5 := Lib.hid (hB2.out.trans (hb5.mono hB2.out.size)); have HL5 := Lib.hid (cd_load hR5 HV.out.symm); have d0 := hS5.cell 0 _ rfl; have d1 := hS5.cell 1 _ rfl; have d3 := hS5.cell 3 _ rfl; have d4 := hS5.cell 4 _ rfl; have HS5 := Lib.hid hS5; clear hb5 hR5 hS5)
   | (go_at_call 124; refine (HQ.out _).mono ?_; rintro e w6 ⟨rfl, hb6⟩; have hS6 := HS5.out.up hb6; have d3b := hS6.cell 3 _ rfl; have d4b := hS6.cell 4 _ rfl; have HB6 := Lib.hid (below_more HB5.out hb6); clear hb6 hS6)
   | (go_at_call 125; refine (HOG.out _).mono ?_; rintro e w7 ⟨rfl, rfl⟩))
  go_ret
  exact ⟨by first | rfl | simp, HB5.out⟩
 rw [Bool.true_and]
 rcases Int.lt_or_le x.id 1 with h2 | h2
 ·have e2 : decide (1 ≤ x.id) = false := decide_eq_false (by omega)
  have e3 : decide (x.id < 1) = true := decide_eq_true h2
  rw [e2, Bool.false_and]
  go_enter Tryz.func111, Tryz.ntmps111
  go_wp2_with (first
   | (refine wpList_load_is rfl 42 _ rfl (.pointer (some ⟨w.heap.size, 21, none⟩)) rfl (etyV x) HLE.out ?_)
   | (refine wpList_load_is rfl 29 _ rfl (.pointer (some ⟨w.heap.size, 0, none⟩)) rfl GV HLG.out ?_)
   | (refine wpList_load_if (by rfl) 136 _ rfl (.pointer (some ⟨w.heap.size, 0, none⟩)) rfl (.agg cs) HL5.out ?_)
   | (go_at_call 38; refine (HGV.out _ HK2.out).mono ?_; rintro e w5 ⟨rfl, hb5⟩; have hR5 := hR2.out.up hb5; have hS5 := hS2.out.up hb5; have HB5 := Lib.hid (hB2.out.trans (hb5.mono hB2.out.size)); have HL5 := Lib.hid (cd_load hR5 HV.out.symm); have d0 := hS5.cell 0 _ rfl; have d1 := hS5.cell 1 _ rfl; have d3 := hS5.cell 3 _ rfl; have d4 := hS5.cell 4 _ rfl; have HS5 := Lib.hid hS5; clear hb5 hR5 hS5)
   | (go_at_call 124; refine (HQ.out _).mono ?_; rintro e w6 ⟨rfl, hb6⟩; have hS6 := HS5.out.up hb6; have d3b := hS6.cell 3 _ rfl; have d4b := hS6.cell 4 _ rfl; have HB6 := Lib.hid (below_more HB5.out hb6); clear hb6 hS6)
   | (go_at_call 125; refine (HOG.out _).mono ?_; rintro e w7 ⟨rfl, rfl⟩))
  go_ret
  exact ⟨by first | rfl | simp, HB5.out⟩
 have e2 : decide (1 ≤ x.id) = true := decide_eq_true h2
 have e3 : decide (x.id < 1) = false := decide_eq_false (by omega)
 rw [e2, Bool.true_and]
 cases en
 ·rw [Bool.false_and]
  go_enter Tryz.func111, Tryz.ntmps111
  go_wp2_with (first
   | (refine wpList_load_is rfl 42 _ rfl (.pointer (some ⟨w.heap.size, 21, none⟩)) rfl (etyV x) HLE.out ?_)
   | (refine wpList_load_is rfl 29 _ rfl (.pointer (some ⟨w.heap.size, 0, none⟩)) rfl GV HLG.out ?_)
   | (refine wpList_load_if (by rfl) 136 _ rfl (.pointer (some ⟨w.heap.size, 0, none⟩)) rfl (.agg cs) HL5.out ?_)
   | (go_at_call 38; refine (HGV.out _ HK2.out).mono ?_; rintro e w5 ⟨rfl, hb5⟩; have hR5 := hR2.out.up hb5; have hS5 := hS2.out.up hb5; have HB5 := Lib.hid (hB2.out.trans (hb5.mono hB2.out.size)); have HL5 := Lib.hid (cd_load hR5 HV.out.symm); have d0 := hS5.cell 0 _ rfl; have d1 := hS5.cell 1 _ rfl; have d3 := hS5.cell 3 _ rfl; have d4 := hS5.cell 4 _ rfl; have HS5 := Lib.hid hS5; clear hb5 hR5 hS5)
   | (go_at_call 124; refine (HQ.out _).mono ?_; rintro e w6 ⟨rfl, hb6⟩; have hS6 := HS5.out.up hb6; have d3b := hS6.cell 3 _ rfl; have d4b := hS6.cell 4 _ rfl; have HB6 := Lib.hid (below_more HB5.out hb6); clear hb6 hS6)
   | (go_at_call 125; refine (HOG.out _).mono ?_; rintro e w7 ⟨rfl, rfl⟩))
  go_ret
  exact ⟨by first | rfl | simp, HB6.out⟩
 rw [Bool.true_and]
 cases og
 ·go_enter Tryz.func111, Tryz.ntmps111
  go_wp2_with (first
   | (refine wpList_load_is rfl 42 _ rfl (.pointer (some ⟨w.heap.size, 21, none⟩)) rfl (etyV x) HLE.out ?_)
   | (refine wpList_load_is rfl 29 _ rfl (.pointer (some ⟨w.heap.size, 0, none⟩)) rfl GV HLG.out ?_)
   | (refine wpList_load_if (by rfl) 136 _ rfl (.pointer (some ⟨w.heap.size, 0, none⟩)) rfl (.agg cs) HL5.out ?_)
   | (go_at_call 38; refine (HGV.out _ HK2.out).mono ?_; rintro e w5 ⟨rfl, hb5⟩; have hR5 := hR2.out.up hb5; have hS5 := hS2.out.up hb5; have HB5 := Lib.hid (hB2.out.trans (hb5.mono hB2.out.size)); have HL5 := Lib.hid (cd_load hR5 HV.out.symm); have d0 := hS5.cell 0 _ rfl; have d1 := hS5.cell 1 _ rfl; have d3 := hS5.cell 3 _ rfl; have d4 := hS5.cell 4 _ rfl; have HS5 := Lib.hid hS5; clear hb5 hR5 hS5)
   | (go_at_call 124; refine (HQ.out _).mono ?_; rintro e w6 ⟨rfl, hb6⟩; have hS6 := HS5.out.up hb6; have d3b := hS6.cell 3 _ rfl; have d4b := hS6.cell 4 _ rfl; have HB6 := Lib.hid (below_more HB5.out hb6); clear hb6 hS6)
   | (go_at_call 125; refine (HOG.out _).mono ?_; rintro e w7 ⟨rfl, rfl⟩))
  go_ret
  exact ⟨by first | rfl | simp, HB6.out⟩
 ·go_enter Tryz.func111, Tryz.ntmps111
  go_wp2_with (first
   | (refine wpList_load_is rfl 42 _ rfl (.pointer (some ⟨w.heap.size, 21, none⟩)) rfl (etyV x) HLE.out ?_)
   | (refine wpList_load_is rfl 29 _ rfl (.pointer (some ⟨w.heap.size, 0, none⟩)) rfl GV HLG.out ?_)
   | (refine wpList_load_if (by rfl) 136 _ rfl (.pointer (some ⟨w.heap.size, 0, none⟩)) rfl (.agg cs) HL5.out ?_)
   | (go_at_call 38; refine (HGV.out _ HK2.out).mono ?_; rintro e w5 ⟨rfl, hb5⟩; have hR5 := hR2.out.up hb5; have hS5 := hS2.out.up hb5; have HB5 := Lib.hid (hB2.out.trans (hb5.mono hB2.out.size)); have HL5 := Lib.hid (cd_load hR5 HV.out.symm); have d0 := hS5.cell 0 _ rfl; have d1 := hS5.cell 1 _ rfl; have d3 := hS5.cell 3 _ rfl; have d4 := hS5.cell 4 _ rfl; have HS5 := Lib.hid hS5; clear hb5 hR5 hS5)
   | (go_at_call 124; refine (HQ.out _).mono ?_; rintro e w6 ⟨rfl, hb6⟩; have hS6 := HS5.out.up hb6; have d3b := hS6.cell 3 _ rfl; have d4b := hS6.cell 4 _ rfl; have HB6 := Lib.hid (below_more HB5.out hb6); clear hb6 hS6)
   | (go_at_call 125; refine (HOG.out _).mono ?_; rintro e w7 ⟨rfl, rfl⟩))
  go_ret
  exact ⟨by first | rfl | simp, HB6.out⟩
theorem emvalid_any (n : Int) (w : World) : Calls Tryz.prog 126 #[.int .i64 n] w fun e w' => e = .returned (.bool (amtB n)) ∧ w = w' := by
 unfold amtB
 by_cases h1 : (-1000000000000 : Int) ≤ n
 ·by_cases h2 : n ≤ 1000000000000
  ·rw [decide_eq_true h1, decide_eq_true h2]
   go_enter Tryz.func126, Tryz.ntmps126
   go_wp2
   go_ret
   exact ⟨rfl, rfl⟩
  ·rw [decide_eq_true h1, decide_eq_false h2]
   have h3 : decide (n ≤ 1000000000000) = false := decide_eq_false h2
   clear h2
   go_enter Tryz.func126, Tryz.ntmps126
   go_wp2
   go_ret
   exact ⟨rfl, rfl⟩
 ·rw [decide_eq_false h1]
  have h3 : decide ((-1000000000000 : Int) ≤ n) = false := decide_eq_false h1
  clear h1
  go_enter Tryz.func126, Tryz.ntmps126
  go_wp2
  go_ret
  exact ⟨rfl, rfl⟩
theorem ermvalid_any (n : Int) (w : World) : Calls Tryz.prog 95 #[.int .i64 n] w fun e w' => e = .returned (.bool (amtB n)) ∧ w = w' := by
 unfold amtB
 by_cases h1 : (-1000000000000 : Int) ≤ n
 ·by_cases h2 : n ≤ 1000000000000
  ·rw [decide_eq_true h1, decide_eq_true h2]
   go_enter Tryz.func95, Tryz.ntmps95
   go_wp2
   go_ret
   exact ⟨rfl, rfl⟩
  ·rw [decide_eq_true h1, decide_eq_false h2]
   have h3 : decide (n ≤ 1000000000000) = false := decide_eq_false h2
   clear h2
   go_enter Tryz.func95, Tryz.ntmps95
   go_wp2
   go_ret
   exact ⟨rfl, rfl⟩
 ·rw [decide_eq_false h1]
  have h3 : decide ((-1000000000000 : Int) ≤ n) = false := decide_eq_false h1
  clear h1
  go_enter Tryz.func95, Tryz.ntmps95
  go_wp2
  go_ret
  exact ⟨rfl, rfl⟩
def erB (b : Bool) : Int := if b = true then 0 else 1
def prtB (b : UInt8) : Bool := decide (32 ≤ b.toNat) && decide (b.toNat ≤ 126)
def txtB (s : ByteArray) : Bool := decide (s.size ≤ 80) && allC prtB s
theorem txtB_no {s : ByteArray} {k : Nat} (h : k < s.size) (hd : prtB (s[k]'h) = false) : txtB s = false := by
 unfold txtB
 rw [allC_no h hd, Bool.and_false]
set_option maxRecDepth 100000 in
set_option maxHeartbeats 1600000 in
theorem gtext_any (g : Grp) (x : Ety) (V : Value) (hV : V = cdV g x) (w : World) : Calls Tryz.prog 112 #[V] w fun e w' => e = .returned (.int .i64 (erB (txtB x.txt))) ∧ Below w.heap.size w w' := by
 obtain ⟨cs, h1, -, hR, hB⟩ := cd_open g x w
 rw [h1] at hV
 have c26 := hR.out.cell 26 _ rfl
 have hB1 := hB.out
 subst hV
 clear h1 hR hB
 generalize x.txt = s at *
 rcases Nat.lt_or_ge 80 s.size with h80 | h80
 ·have e0 : decide ((80 : Int) < (s.size : Int)) = true := decide_eq_true (by omega)
  have E : Hid (txtB s = false) := Lib.hid (by unfold txtB; rw [decide_eq_false (by omega)]; rfl)
  go_enter Tryz.func112, Tryz.ntmps112
  go_wp2_with fail
  go_ret
  exact ⟨by rw [E.out]; rfl, hB1⟩
 ·have e0 : decide ((80 : Int) < (s.size : Int)) = false := decide_eq_false (by omega)
  go_enter Tryz.func112, Tryz.ntmps112
  go_wp2_with fail
  go_loopg [13] s.size (fun kx sI wr => ∃ i : Nat, sI = .int .i64 i ∧ i ≤ s.size ∧ s.size - i ≤ kx ∧ Hid (∀ j, j < i → (h2 : j < s.size) → prtB (s[j]'h2) = true) ∧ Below w.heap.size w wr)
  case atStart => exact ⟨0, rfl, by omega, by omega, Lib.hid (fun j h => absurd h (by omega)), hB1⟩
  case round =>
   obtain ⟨i, rfl, hi, hix, hd, hBi⟩ := hrel
   by_cases hlt : i < s.size
   ·have hlt' : (i : Int) < (s.size : Int) := by omega
    have hno := fun h => txtB_no (s := s) hlt h
    obtain ⟨b, hb⟩ : ∃ b, s[i]'hlt = b := ⟨_, rfl⟩
    have hcb : ∀ h, s[i]'h = b := fun h => hb
    have hnx : prtB b = true → Hid (∀ j, j < i + 1 → (h2 : j < s.size) → prtB (s[j]'h2) = true) := fun hq => Lib.hid (fun j hj h2 => by
     rcases Nat.lt_or_ge j i with h4 | h4
     ·exact hd.out j h4 h2
     ·obtain rfl : j = i := by omega
      rw [hb]; exact hq)
    rw [hb] at hno
    have hpb : prtB b = (decide (32 ≤ b.toNat) && decide (b.toNat ≤ 126)) := rfl
    clear hb
    rcases Nat.lt_or_ge b.toNat 32 with g1 | g1
    ·have E : Hid (txtB s = false) := Lib.hid (hno (by rw [hpb, decide_eq_false (by omega)]; rfl))
     have e1 : decide ((b.toNat : Int) < 32) = true := decide_eq_true (by omega)
     clear hno hnx hpb g1
     go_wp2_with fail
     go_ret
     exact ⟨by rw [E.out]; rfl, hBi⟩
    ·have e1 : decide ((b.toNat : Int) < 32) = false := decide_eq_false (by omega)
     rcases Nat.lt_or_ge 126 b.toNat with g2 | g2
     ·have E : Hid (txtB s = false) := Lib.hid (hno (by rw [hpb, decide_eq_false (show ¬ b.toNat ≤ 126 by omega), Bool.and_false]))
      have e2 : decide ((126 : Int) < (b.toNat : Int)) = true := decide_eq_true (by omega)
      clear hno hnx hpb g1 g2
      go_wp2_with fail
      go_ret
      exact ⟨by rw [E.out]; rfl, hBi⟩
     ·have e2 : decide ((126 : Int) < (b.toNat : Int)) = false := decide_eq_false (by omega)
      have hd2 := hnx (by rw [hpb, decide_eq_true g1, decide_eq_true g2]; rfl)
      clear hno hnx hpb g1 g2 hd
      go_wp2_with fail
      go_roundg (s.size - (i + 1))
      case measure => omega
      case rel => exact ⟨i + 1, by go_num, by omega, by omega, hd2, hBi⟩
   ·obtain rfl : i = s.size := by omega
    have hlt' : ¬ (s.size : Int) < (s.size : Int) := by omega
    have hall : allC prtB s = true := allC_yes (fun j h2 => hd.out j h2 h2)
    have E : Hid (txtB s = true) := Lib.hid (by unfold txtB; rw [hall, decide_eq_true h80]; rfl)
    clear hall
    go_wp2_with fail
    go_ret
    exact ⟨by rw [E.out]; rfl, hBi⟩
set_option maxRecDepth 20000 in
set_option maxHeartbeats 1600000 in
theorem rprint_any (s : ByteArray) (w : World) (hs : s.size ≤ maxLen) : Calls Tryz.prog 72 #[.string s] w fun e w' => e = .returned (.bool (txtB s)) ∧ Below w.heap.size w w' := by
 have hs2 : s.size ≤ 9223372036854775807 := hs
 have hB1 := Below.refl w.heap.size w
 clear hs
 go_enter Tryz.func72, Tryz.ntmps72
 go_wp2_with fail
 go_loopg [3] s.size (fun kx sI wr => ∃ i : Nat, sI = .int .i64 i ∧ i ≤ s.size ∧ s.size - i ≤ kx ∧ Hid (∀ j, j < i → (h2 : j < s.size) → prtB (s[j]'h2) = true) ∧ Below w.heap.size w wr)
 case atStart => exact ⟨0, rfl, by omega, by omega, Lib.hid (fun j h => absurd h (by omega)), hB1⟩
 case round =>
  obtain ⟨i, rfl, hi, hix, hd, hBi⟩ := hrel
  by_cases hlt : i < s.size
  ·have hlt' : (i : Int) < (s.size : Int) := by omega
   have hno := fun h => txtB_no (s := s) hlt h
   obtain ⟨b, hb⟩ : ∃ b, s[i]'hlt = b := ⟨_, rfl⟩
   have hcb : ∀ h, s[i]'h = b := fun h => hb
   have hnx : prtB b = true → Hid (∀ j, j < i + 1 → (h2 : j < s.size) → prtB (s[j]'h2) = true) := fun hq => Lib.hid (fun j hj h2 => by
    rcases Nat.lt_or_ge j i with h4 | h4
    ·exact hd.out j h4 h2
    ·obtain rfl : j = i := by omega
     rw [hb]; exact hq)
   rw [hb] at hno
   have hpb : prtB b = (decide (32 ≤ b.toNat) && decide (b.toNat ≤ 126)) := rfl
   clear hb
   rcases Nat.lt_or_ge b.toNat 32 with g1 | g1
   ·have E : Hid (txtB s = false) := Lib.hid (hno (by rw [hpb, decide_eq_false (by omega)]; rfl))
    have e1 : decide ((b.toNat : Int) < 32) = true := decide_eq_true (by omega)
    clear hno hnx hpb g1
    go_wp2_with fail
    go_ret
    exact ⟨by rw [E.out]; rfl, hBi⟩
   ·have e1 : decide ((b.toNat : Int) < 32) = false := decide_eq_false (by omega)
    rcases Nat.lt_or_ge 126 b.toNat with g2 | g2
    ·have E : Hid (txtB s = false) := Lib.hid (hno (by rw [hpb, decide_eq_false (show ¬ b.toNat ≤ 126 by omega), Bool.and_false]))
     have e2 : decide ((126 : Int) < (b.toNat : Int)) = true := decide_eq_true (by omega)
     clear hno hnx hpb g1 g2
     go_wp2_with fail
     go_ret
     exact ⟨by rw [E.out]; rfl, hBi⟩
    ·have e2 : decide ((126 : Int) < (b.toNat : Int)) = false := decide_eq_false (by omega)
     have hd2 := hnx (by rw [hpb, decide_eq_true g1, decide_eq_true g2]; rfl)
     clear hno hnx hpb g1 g2 hd
     go_wp2_with fail
     go_roundg (s.size - (i + 1))
     case measure => omega
     case rel => exact ⟨i + 1, by go_num, by omega, by omega, hd2, hBi⟩
  ·obtain rfl : i = s.size := by omega
   have hlt' : ¬ (s.size : Int) < (s.size : Int) := by omega
   have hall : allC prtB s = true := allC_yes (fun j h2 => hd.out j h2 h2)
   have E : Hid (txtB s = decide ((s.size : Int) ≤ 80)) := Lib.hid (by unfold txtB; rw [hall, Bool.and_true]; exact decide_eq_decide.2 (by omega))
   clear hall
   go_wp2_with fail
   go_ret
   exact ⟨by rw [E.out]; rfl, hBi⟩
structure EtyK (w : World) (x : Ety) (X : List Lnk) : Prop where
 ln : X.length = x.n
 hz : LnkAt w x.A X
 ok : ∀ l ∈ X, okK (kOf l) ∧ (Lit.int .i64 l.tgt).wf = true
theorem EtyK.up {w w' : World} {x : Ety} {X : List Lnk} (h : EtyK w x X) (hb : Below w.heap.size w w') : EtyK w' x X := ⟨h.ln, h.hz.up hb, h.ok⟩
set_option maxRecDepth 100000 in
set_option maxHeartbeats 1600000 in
theorem gbal_any (g : Grp) (x : Ety) (X : List Lnk) (V : Value) (hV : V = cdV g x) (w : World) (hx : EtyK w x X) (hn : x.n ≤ 1000) : Calls Tryz.prog 116 #[V] w fun e w' => e = .returned (.int .i64 (if wr (sumT X) = 0 then 0 else 11)) ∧ Below w.heap.size w w' := by
 obtain ⟨cs, h1, -, hR, hB⟩ := cd_open g x w
 rw [h1] at hV
 have c27 := hR.out.cell 27 _ rfl
 have HS := Lib.hid (esum_any x.A x.c X _ (hx.hz.up hB.out) (by rw [hx.ln]; exact hn))
 rw [hx.ln] at HS
 subst hV
 clear h1 hR
 generalize wr (sumT X) = s at *
 by_cases h2 : s = 0
 ·subst h2
  rw [if_pos rfl]
  go_enter Tryz.func116, Tryz.ntmps116
  go_wp2_with (go_at_call 129; refine HS.out.mono ?_; rintro e w5 ⟨rfl, hb5⟩)
  go_ret
  exact ⟨by first | rfl | simp, below_more hB.out hb5⟩
 ·have e1 : (s != 0) = true := by simp [h2]
  rw [if_neg h2]
  go_enter Tryz.func116, Tryz.ntmps116
  go_wp2_with (go_at_call 129; refine HS.out.mono ?_; rintro e w5 ⟨rfl, hb5⟩)
  go_ret
  exact ⟨by first | rfl | simp, below_more hB.out hb5⟩
set_option maxRecDepth 100000 in
set_option maxHeartbeats 1600000 in
theorem gdate_any (g : Grp) (x : Ety) (V : Value) (hV : V = cdV g x) (w : World) : Calls Tryz.prog 115 #[V] w fun e w' => e = .returned (.int .i64 (prE g.cy g.cm g.cp x.day)) ∧ Below w.heap.size w w' := by
 obtain ⟨cs, h1, -, hR, hB⟩ := cd_open g x w
 rw [h1] at hV
 have c23 := hR.out.cell 23 _ rfl
 have HL := Lib.hid (cd_cal hR.out)
 have HS := Lib.hid (fun W => cperiod7_any g.cy g.cm g.cp x.day W)
 subst hV
 clear h1 hR
 generalize prE g.cy g.cm g.cp x.day = s at *
 generalize prN g.cy g.cm g.cp x.day = t at *
 go_enter Tryz.func115, Tryz.ntmps115
 go_wp2_with (first
  | (refine wpList_load_is rfl 23 _ rfl (.pointer (some ⟨w.heap.size, 1, none⟩)) rfl (.agg #[.int .i64 g.cy, .int .i64 g.cm, .int .i64 g.cp]) HL.out ?_)
  | (go_at_call 128; refine (HS.out _).mono ?_; rintro e w5 ⟨rfl, hb5⟩))
 go_ret
 exact ⟨by first | rfl | simp, below_more hB.out hb5⟩
def lnB (g : Grp) (e : Int) (l : Lnk) : Bool := !decide (l.tgt = 0) && (amtB l.tgt && ptB g e l.since)
def lsB (g : Grp) (e : Int) (X : List Lnk) : Bool := decide (2 ≤ X.length) && (decide (X.length ≤ 40) && X.all (lnB g e))
def acB (L : List Acc) (X : List Lnk) : Bool := X.all fun l => (fnd L l.frm).isSome
def er17 (b : Bool) : Int := if b = true then 0 else 17
theorem all_no {p : Lnk → Bool} {X : List Lnk} {k : Nat} (h : k < X.length) (hd : p (X.getD k lnk0) = false) : X.all p = false := by
 rw [List.all_eq_false]
 exact ⟨_, getD_mem_acc h, by rw [hd]; simp⟩
set_option maxRecDepth 100000 in
set_option maxHeartbeats 3200000 in
theorem glines_any (g : Grp) (x : Ety) (X : List Lnk) (V : Value) (hV : V = cdV g x) (w : World) (hx : EtyK w x X) (hn : x.n ≤ 1000) : Calls Tryz.prog 113 #[V] w fun e w' => e = .returned (.int .i64 (erB (lsB g x.ent X))) ∧ Below w.heap.size w w' := by
 have HQ := Lib.hid (fun p W => gispart_any g x V hV p W)
 obtain ⟨cs, h1, -, hR, hB⟩ := cd_open g x w
 rw [h1] at hV
 have HV := Lib.hid h1
 have c27 := hR.out.cell 27 _ rfl
 have HZ := Lib.hid (hx.hz.up hB.out)
 have HN := Lib.hid hx.ln
 generalize x.A = XA at c27 HZ
 subst hV
 clear h1 hx
 have hls : lsB g x.ent X = (decide (2 ≤ x.n) && (decide (x.n ≤ 40) && X.all (lnB g x.ent))) := by unfold lsB; rw [HN.out]
 have HLS := Lib.hid hls
 clear hls
 rcases Nat.lt_or_ge x.n 2 with h2 | h2
 ·have e1 : decide ((x.n : Int) < 2) = true := decide_eq_true (by omega)
  have E : Hid (lsB g x.ent X = false) := Lib.hid (by rw [HLS.out, decide_eq_false (by omega)]; rfl)
  generalize lsB g x.ent X = q at *
  go_enter Tryz.func113, Tryz.ntmps113
  go_wp2_with fail
  go_ret
  exact ⟨by rw [E.out]; rfl, hB.out⟩
 have e1 : decide ((x.n : Int) < 2) = false := decide_eq_false (by omega)
 rcases Nat.lt_or_ge 40 x.n with h4 | h4
 ·have e2 : decide ((40 : Int) < (x.n : Int)) = true := decide_eq_true (by omega)
  have E : Hid (lsB g x.ent X = false) := Lib.hid (by rw [HLS.out, decide_eq_true h2, decide_eq_false (by omega)]; rfl)
  generalize lsB g x.ent X = q at *
  go_enter Tryz.func113, Tryz.ntmps113
  go_wp2_with fail
  go_ret
  exact ⟨by rw [E.out]; rfl, hB.out⟩
 have e2 : decide ((40 : Int) < (x.n : Int)) = false := decide_eq_false (by omega)
 have HL2 : Hid (lsB g x.ent X = X.all (lnB g x.ent)) := Lib.hid (by rw [HLS.out, decide_eq_true h2, decide_eq_true h4]; rfl)
 clear HLS
 generalize lsB g x.ent X = q at *
 generalize hW : w.alloc (.cells cs 136) = W0 at *
 have hsW : W0.heap.size = w.heap.size + 1 := by rw [← hW]; simp
 have HSW := Lib.hid hsW
 clear hsW
 go_enter Tryz.func113, Tryz.ntmps113
 go_wp2_with fail
 go_loopg [19] x.n (fun kx s19 wr => ∃ k : Nat, s19 = .int .i64 k ∧ k ≤ x.n ∧ x.n - k ≤ kx ∧ Hid ((X.take k).all (lnB g x.ent) = true) ∧ Below W0.heap.size W0 wr)
 case atStart => exact ⟨0, rfl, by omega, by omega, Lib.hid rfl, Below.refl _ _⟩
 case round =>
  obtain ⟨k, rfl, hk, hkx, HT, hBi⟩ := hrel
  by_cases hlt : k < x.n
  ·have hltz : (k : Int) < (x.n : Int) := by omega
   obtain ⟨bb, off, rfl, hbw, hcs⟩ := HZ.out (by rw [HN.out]; omega)
   have hkl : k < X.length := by rw [HN.out]; exact hlt
   obtain ⟨c0, c1, c2⟩ := (hcs k hkl).up hBi hbw
   have hst : (X.take (k + 1)).all (lnB g x.ent) = lnB g x.ent (X.getD k lnk0) := by
    rw [take_succ_getD (d := lnk0) hkl, List.all_append, HT.out, List.all_cons, List.all_nil, Bool.true_and, Bool.and_true]
   have hno := fun h => all_no (p := lnB g x.ent) hkl h
   generalize X.getD k lnk0 = l at *
   have hln : lnB g x.ent l = (!decide (l.tgt = 0) && (amtB l.tgt && ptB g x.ent l.since)) := rfl
   have HPT := Lib.hid (fun W => HQ.out l.since W)
   have HMV := Lib.hid (fun W => emvalid_any l.tgt W)
   obtain ⟨W1, hW1⟩ : ∃ W1, wr.alloc (.cells #[.int .i64 l.frm, .int .i64 l.tgt, .int .i64 l.since] 46) = W1 := ⟨_, rfl⟩
   have hB1 : Below W0.heap.size W0 W1 := by rw [← hW1]; exact below_new hBi _
   obtain ⟨⟨d0, d1, d2⟩, dlt⟩ : LB W1 wr.heap.size l := by rw [← hW1]; exact lb_new wr _ l
   simp only [Nat.zero_add] at d0 d1 d2
   have HB1 := Lib.hid hB1
   have HL1 := Lib.hid (cd_load (hR.out.up hB1) HV.out.symm)
   have HST := Lib.hid hst
   have HNO := Lib.hid hno
   clear hst hno hcs hBi hB1
   generalize ptB g x.ent l.since = pt at *
   generalize amtB l.tgt = am at *
   by_cases h0 : l.tgt = 0
   ·have e3 : (l.tgt == 0) = true := by simp [h0]
    have E : Hid (q = false) := Lib.hid (by rw [HL2.out]; exact HNO.out (by rw [hln, decide_eq_true h0]; rfl))
    clear h0 hln
    go_wp2_with fail
    go_ret
    exact ⟨by rw [E.out]; rfl, hB.out.trans (HB1.out.mono (by have := HSW.out; omega))⟩
   have e3 : (l.tgt == 0) = false := by simp [h0]
   rw [decide_eq_false h0, Bool.not_false, Bool.true_and] at hln
   clear h0
   cases am
   ·have E : Hid (q = false) := Lib.hid (by rw [HL2.out]; exact HNO.out (by rw [hln]; rfl))
    clear hln
    go_wp2_with (first | (refine wpList_load_if (by rfl) 136 _ rfl (.pointer (some ⟨w.heap.size, 0, none⟩)) rfl (.agg cs) HL1.out ?_) | (go_at_call 126; refine (HMV.out _).mono ?_; rintro e w4 ⟨rfl, rfl⟩) | (go_at_call 127; refine (HPT.out _).mono ?_; rintro e w5 ⟨rfl, hb5⟩; have HB5 := Lib.hid (HB1.out.trans (hb5.mono HB1.out.size)); clear hb5))
    go_ret
    exact ⟨by rw [E.out]; rfl, hB.out.trans (HB1.out.mono (by have := HSW.out; omega))⟩
   rw [Bool.true_and] at hln
   cases pt
   ·have E : Hid (q = false) := Lib.hid (by rw [HL2.out]; exact HNO.out hln)
    clear hln
    go_wp2_with (first | (refine wpList_load_if (by rfl) 136 _ rfl (.pointer (some ⟨w.heap.size, 0, none⟩)) rfl (.agg cs) HL1.out ?_) | (go_at_call 126; refine (HMV.out _).mono ?_; rintro e w4 ⟨rfl, rfl⟩) | (go_at_call 127; refine (HPT.out _).mono ?_; rintro e w5 ⟨rfl, hb5⟩; have HB5 := Lib.hid (HB1.out.trans (hb5.mono HB1.out.size)); clear hb5))
    go_ret
    exact ⟨by rw [E.out]; rfl, hB.out.trans (HB5.out.mono (by have := HSW.out; omega))⟩
   ·have HT2 : Hid ((X.take (k + 1)).all (lnB g x.ent) = true) := Lib.hid (by rw [HST.out]; exact hln)
    clear hln
    go_wp2_with (first | (refine wpList_load_if (by rfl) 136 _ rfl (.pointer (some ⟨w.heap.size, 0, none⟩)) rfl (.agg cs) HL1.out ?_) | (go_at_call 126; refine (HMV.out _).mono ?_; rintro e w4 ⟨rfl, rfl⟩) | (go_at_call 127; refine (HPT.out _).mono ?_; rintro e w5 ⟨rfl, hb5⟩; have HB5 := Lib.hid (HB1.out.trans (hb5.mono HB1.out.size)); clear hb5))
    go_roundg (x.n - (k + 1))
    case measure => omega
    case rel => exact ⟨k + 1, by go_num, by omega, by omega, HT2, HB5.out⟩
  ·obtain rfl : k = x.n := by omega
   have hltz : ¬ (x.n : Int) < (x.n : Int) := by omega
   have E : Hid (q = true) := Lib.hid (by rw [HL2.out]; have h9 := HT.out; rwa [show X.take x.n = X by rw [← HN.out, List.take_length]] at h9)
   go_wp2_with fail
   go_ret
   exact ⟨by rw [E.out]; rfl, hB.out.trans (hBi.mono (by have := HSW.out; omega))⟩
set_option maxRecDepth 100000 in
set_option maxHeartbeats 3200000 in
theorem gaccs_any (g : Grp) (x : Ety) (X : List Lnk) (L : List Acc) (G : List Ent) (V : Value) (hV : V = cdV g x) (w : World) (hk : GrK w g L G) (hs : Sm g G) (hx : EtyK w x X) (hn : x.n ≤ 1000) (he : entIn g x.ent = true) : Calls Tryz.prog 114 #[V] w fun e w' => e = .returned (.int .i64 (er17 (acB (G.getD x.ent.toNat ent0).L X))) ∧ Below w.heap.size w w' := by
 obtain ⟨j, hj⟩ : ∃ j : Nat, x.ent = (j : Int) := ⟨x.ent.toNat, by unfold entIn at he; simp at he; omega⟩
 have hjm : j < g.m := by unfold entIn at he; simp at he; omega
 rw [hj, Int.toNat_natCast]
 obtain ⟨cs, h1, -, hR, hB⟩ := cd_open g x w
 rw [h1] at hV
 have c27 := hR.out.cell 27 _ rfl
 have c22 := hR.out.cell 22 _ rfl
 have c20 := hR.out.cell 20 _ rfl
 rw [hj] at c22
 have hjG : j < G.length := by rw [hk.lg]; exact hjm
 obtain ⟨eb, eoff, hE, hew, he5⟩ := ent_at (hk.he.up hB.out) hjG
 have hmem : G.getD j ent0 ∈ G := getD_mem_acc hjG
 have hek := (hk.hk _ hmem).up hB.out
 have hen := (hs.e _ hmem).1
 generalize G.getD j ent0 = ey at *
 have f2 := he5.c2
 have HZ := Lib.hid (hx.hz.up hB.out)
 have HN := Lib.hid hx.ln
 generalize x.A = XA at c27 HZ
 have HF := Lib.hid (fun c W (h : AccAt W ey.A ey.L) => cfind_any ey.A ey.c ey.L c W h (by rw [hek.ln]; omega))
 rw [hek.ln] at HF
 have HEZ := Lib.hid hek.hz
 subst hV
 have hjz : (j : Int) < (g.m : Int) := by omega
 have hj0 : (0 : Int) ≤ (j : Int) := by omega
 clear h1 hx hR he5 hek hen hmem he hk hs
 rw [hE] at c20
 generalize hW : w.alloc (.cells cs 136) = W0 at *
 have hsW : W0.heap.size = w.heap.size + 1 := by rw [← hW]; simp
 have HSW := Lib.hid hsW
 clear hsW
 go_enter Tryz.func114, Tryz.ntmps114
 go_wp2_with fail
 go_loopg [21] x.n (fun kx s21 wr => ∃ k : Nat, s21 = .int .i64 k ∧ k ≤ x.n ∧ x.n - k ≤ kx ∧ Hid ((X.take k).all (fun l => (fnd ey.L l.frm).isSome) = true) ∧ Below W0.heap.size W0 wr)
 case atStart => exact ⟨0, rfl, by omega, by omega, Lib.hid rfl, Below.refl _ _⟩
 case round =>
  obtain ⟨k, rfl, hk, hkx, HT, hBi⟩ := hrel
  by_cases hlt : k < x.n
  ·have hltz : (k : Int) < (x.n : Int) := by omega
   obtain ⟨bb, off, rfl, hbw, hcs⟩ := HZ.out (by rw [HN.out]; omega)
   have hkl : k < X.length := by rw [HN.out]; exact hlt
   obtain ⟨c0, c1, c2⟩ := (hcs k hkl).up hBi hbw
   have hst : (X.take (k + 1)).all (fun l => (fnd ey.L l.frm).isSome) = (fnd ey.L (X.getD k lnk0).frm).isSome := by
    rw [take_succ_getD (d := lnk0) hkl, List.all_append, HT.out, List.all_cons, List.all_nil, Bool.true_and, Bool.and_true]
   have hno := fun h => all_no (p := fun l => (fnd ey.L l.frm).isSome) hkl h
   generalize X.getD k lnk0 = l at *
   have HFD := Lib.hid (fun W h => HF.out l.frm W h)
   obtain ⟨W1, hW1⟩ : ∃ W1, wr.alloc (.cells #[.int .i64 l.frm, .int .i64 l.tgt, .int .i64 l.since] 46) = W1 := ⟨_, rfl⟩
   have hB1 : Below W0.heap.size W0 W1 := by rw [← hW1]; exact below_new hBi _
   obtain ⟨⟨d0, d1, d2⟩, dlt⟩ : LB W1 wr.heap.size l := by rw [← hW1]; exact lb_new wr _ l
   simp only [Nat.zero_add] at d0 d1 d2
   have HB1 := Lib.hid hB1
   have HEZ1 := Lib.hid (HEZ.out.up hB1)
   have HST := Lib.hid hst
   have HNO := Lib.hid hno
   clear hst hno hcs hBi hB1
   generalize fndA ey.L l.frm = ac at *
   generalize (fnd ey.L l.frm).isSome = fb at *
   cases fb
   ·have E : Hid (acB ey.L X = false) := Lib.hid (HNO.out rfl)
    go_wp2_with (go_at_call 105; refine (HFD.out _ HEZ1.out).mono ?_; rintro e w5 ⟨rfl, hb5⟩; have HB5 := Lib.hid (below_new (HB1.out.trans (hb5.mono HB1.out.size)) (.cells #[.int .i64 ac.code, .int .i64 ac.kind, .int .i64 ac.basis, .int .i64 ac.par] 91)); clear hb5)
    go_ret
    exact ⟨by rw [E.out]; rfl, hB.out.trans (HB5.out.mono (by have := HSW.out; omega))⟩
   ·have HT2 : Hid ((X.take (k + 1)).all (fun l => (fnd ey.L l.frm).isSome) = true) := Lib.hid HST.out
    go_wp2_with (go_at_call 105; refine (HFD.out _ HEZ1.out).mono ?_; rintro e w5 ⟨rfl, hb5⟩; have HB5 := Lib.hid (below_new (HB1.out.trans (hb5.mono HB1.out.size)) (.cells #[.int .i64 ac.code, .int .i64 ac.kind, .int .i64 ac.basis, .int .i64 ac.par] 91)); clear hb5)
    go_roundg (x.n - (k + 1))
    case measure => omega
    case rel => exact ⟨k + 1, by go_num, by omega, by omega, HT2, HB5.out⟩
  ·obtain rfl : k = x.n := by omega
   have hltz : ¬ (x.n : Int) < (x.n : Int) := by omega
   have E : Hid (acB ey.L X = true) := Lib.hid (by have h9 := HT.out; rwa [show X.take x.n = X by rw [← HN.out, List.take_length]] at h9)
   go_wp2_with fail
   go_ret
   exact ⟨by rw [E.out]; rfl, hB.out.trans (hBi.mono (by have := HSW.out; omega))⟩
structure V9 (w : World) (s0 : Nat) (nm cur : ByteArray) (A : Option Addr) (n cp : Nat) (B : Option Addr) (m d : Nat) (jt : Bool) (L : List Acc) (K : List Lnk) (C : Option Addr) (c : List Acc) : Prop where
 eb : EB w s0 nm cur A n cp B m d jt
 hz : AccAt w A L
 hy : LnkAt w B K
 hx : AccAt w C c
theorem V9.up {w w2 : World} {s0 : Nat} {nm cur : ByteArray} {A : Option Addr} {n cp : Nat} {B : Option Addr} {m d : Nat} {jt : Bool} {L : List Acc} {K : List Lnk} {C : Option Addr} {c : List Acc} (h : V9 w s0 nm cur A n cp B m d jt L K C c) (hb : Below w.heap.size w w2) : V9 w2 s0 nm cur A n cp B m d jt L K C c :=
 ⟨h.eb.up hb, h.hz.up hb, h.hy.up hb, h.hx.up hb⟩
theorem mvB_no5 {L : List Acc} {K : List Lnk} {c : List Acc} {k : Nat} (hk : k < K.length) (h : dfB K k = false) : mvB L K c = false := by
 unfold mvB
 rw [allTo_no (p := dfB K) hk h]; simp
theorem dfB_no {K : List Lnk} {k j : Nat} (hj : j < k) (h : smB K k j = true) : dfB K k = false := by
 unfold dfB
 exact allTo_no (k := j) hj (by rw [h]; rfl)
set_option maxRecDepth 20000 in
set_option maxHeartbeats 6400000 in
theorem rval9_any (nm cur : ByteArray) (A : Option Addr) (cp : Nat) (L : List Acc) (B : Option Addr) (d : Nat) (K : List Lnk) (jt : Bool) (C : Option Addr) (cc : Nat) (c : List Acc) (w : World) (hz : AccAt w A L) (hy : LnkAt w B K) (hx : AccAt w C c) (hl : L.length ≤ 1000) (hm : K.length ≤ 1000) (hc : c.length ≤ 1000) :
  Calls Tryz.prog 69 #[entV nm cur A L.length cp B K.length d jt, .slice C c.length cc] w fun e w' => e = .returned (.bool (mvB L K c)) ∧ Below w.heap.size w w' := by
 have hB := below_alloc_new (w := w) (.cells #[.string nm, .string cur, .slice A L.length cp, .slice B K.length d, .bool jt] 82)
 have hV9 : V9 (w.alloc (.cells #[.string nm, .string cur, .slice A L.length cp, .slice B K.length d, .bool jt] 82)) w.heap.size nm cur A L.length cp B K.length d jt L K C c := ⟨eb_new _ _ _ _ _ _ _ _ _ _ _, hz.up hB, hy.up hB, hx.up hB⟩
 have h1 : ∀ w, AccAt w C c → Calls Tryz.prog 64 #[.slice C c.length cc, .bool true] w fun e w' => e = .returned (.bool (vB c true)) ∧ Below w.heap.size w w' := fun w h => by rw [vB_eq]; exact rvalid8_any C cc c true w h hc
 have h2 : ∀ w, AccAt w A L → Calls Tryz.prog 64 #[.slice A L.length cp, .bool false] w fun e w' => e = .returned (.bool (vB L false)) ∧ Below w.heap.size w w' := fun w h => by rw [vB_eq]; exact rvalid8_any A cp L false w h hl
 have h3 := fun x w h => rfind_any A cp L x w h hl
 have h4 := fun x w h => rfind_any C cc c x w h hc
 have h5 := fun x w => rvd_any x w
 have N1 := mvB_no1 (L := L) (K := K) (c := c)
 have N2 := mvB_no2 (L := L) (K := K) (c := c)
 have N3 := mvB_no3 (L := L) (K := K) (c := c)
 have N4 := fun k => mvB_no4 (L := L) (K := K) (c := c) (k := k)
 have N5 := fun k j (hk : k < K.length) (hj : j < k) h => mvB_no5 (L := L) (c := c) hk (dfB_no (K := K) hj h)
 have NE := fun h1 h2 h3 h4 (h5 : allTo (dfB K) K.length = true) => (mvB_end (L := L) (K := K) (c := c) h1 h2 h3 h4).trans h5
 have hD : ∀ i, dfB K i = allTo (fun k => !smB K i k) i := fun _ => rfl
 have hS : ∀ i k, smB K i k = (decide ((K.getD k lnk0).frm = (K.getD i lnk0).frm) && decide ((K.getD k lnk0).since = (K.getD i lnk0).since)) := fun _ _ => rfl
 have hP : ∀ k, lnkB L c (K.getD k lnk0) = ((fnd L (K.getD k lnk0).frm).isSome && ((fnd c (K.getD k lnk0).tgt).isSome && (decide ((fndA L (K.getD k lnk0).frm).kind = (fndA c (K.getD k lnk0).tgt).kind) && vdB (K.getD k lnk0).since))) := fun _ => rfl
 generalize mvB L K c = r at *
 obtain ⟨P, hPe⟩ : ∃ P : Nat → Bool, (fun i => lnkB L c (K.getD i lnk0)) = P := ⟨_, rfl⟩
 have hPk : ∀ k, lnkB L c (K.getD k lnk0) = P k := fun k => by rw [← hPe]
 rw [hPe] at NE
 simp only [hPk] at N4 hP
 obtain ⟨D9, hD9⟩ : ∃ D9 : Nat → Bool, dfB K = D9 := ⟨_, rfl⟩
 rw [hD9] at NE
 simp only [hD9] at hD
 obtain ⟨S9, hS9⟩ : ∃ S9 : Nat → Nat → Bool, smB K = S9 := ⟨_, rfl⟩
 simp only [hS9] at hD hS N5
 obtain ⟨b1, hb1⟩ : ∃ b, vB c true = b := ⟨_, rfl⟩
 rw [hb1] at h1 N1 NE
 obtain ⟨b2, hb2⟩ : ∃ b, vB L false = b := ⟨_, rfl⟩
 rw [hb2] at h2 N2 NE
 obtain ⟨n, hn2⟩ : ∃ n, L.length = n := ⟨_, rfl⟩
 obtain ⟨k0, hk0⟩ : ∃ k0, c.length = k0 := ⟨_, rfl⟩
 obtain ⟨m, hm2⟩ : ∃ m, K.length = m := ⟨_, rfl⟩
 obtain ⟨s0, hs0⟩ : ∃ s0, w.heap.size = s0 := ⟨_, rfl⟩
 rw [hn2, hm2] at hV9 hB
 rw [hs0] at hV9 hB
 rw [hn2] at h2 h3
 rw [hk0] at h1 h4
 rw [hm2] at N3 N4 N5 NE hm
 rw [hn2, hm2, hk0]
 have HN1 := Lib.hid N1
 have HN2 := Lib.hid N2
 have HN3 := Lib.hid N3
 have HN4 := Lib.hid N4
 have HN5 := Lib.hid N5
 have HNE := Lib.hid NE
 have HD := Lib.hid hD
 have HS := Lib.hid hS
 have HP := Lib.hid hP
 have HM := Lib.hid hm2
 have H1 := Lib.hid h1
 have H2 := Lib.hid h2
 have H3 := Lib.hid h3
 have H4 := Lib.hid h4
 have H5 := Lib.hid h5
 have HS0 := Lib.hid hs0
 have HV := Lib.hid hV9
 obtain ⟨c0, c1, c2, c3, c4, lt⟩ := HV.out.eb
 rw [← HS0.out] at c0 c1 c2 c3 c4 lt
 clear hz hy hx h1 h2 h3 h4 h5 N1 N2 N3 N4 N5 NE hD hS hP hPe hPk hD9 hS9 hb1 hb2 hn2 hk0 hm2 hs0 hl hc hV9
 cases b1
 ·have HR := Lib.hid (HN1.out rfl)
  clear HN1 HN2 HN3 HN4 HN5 HNE
  go_enter Tryz.func69, Tryz.ntmps69
  go_wp2_with (go_at_call 64; first
   | ((with_reducible refine (H1.out _ HV.out.hx).mono ?_); rintro e w1 ⟨rfl, hb⟩; have hsq := hB.size; rw [HS0.out] at hsq; replace HV := Lib.hid (HV.out.up hb); replace hB := hB.trans (hb.mono hsq); clear hb hsq c0 c1 c2 c3 c4 lt; obtain ⟨c0, c1, c2, c3, c4, lt⟩ := HV.out.eb; rw [← HS0.out] at c0 c1 c2 c3 c4 lt))
  go_ret
  exact ⟨by rw [HR.out]; rfl, by first | exact hB | (rw [HS0.out]; exact hB)⟩
 cases b2
 ·have HR := Lib.hid (HN2.out rfl)
  clear HN1 HN2 HN3 HN4 HN5 HNE
  go_enter Tryz.func69, Tryz.ntmps69
  go_wp2_with (go_at_call 64; first
   | ((with_reducible refine (H1.out _ HV.out.hx).mono ?_); rintro e w1 ⟨rfl, hb⟩; have hsq := hB.size; rw [HS0.out] at hsq; replace HV := Lib.hid (HV.out.up hb); replace hB := hB.trans (hb.mono hsq); clear hb hsq c0 c1 c2 c3 c4 lt; obtain ⟨c0, c1, c2, c3, c4, lt⟩ := HV.out.eb; rw [← HS0.out] at c0 c1 c2 c3 c4 lt)
   | ((with_reducible refine (H2.out _ HV.out.hz).mono ?_); rintro e w2 ⟨rfl, hb⟩; have hsq := hB.size; rw [HS0.out] at hsq; replace HV := Lib.hid (HV.out.up hb); replace hB := hB.trans (hb.mono hsq); clear hb hsq c0 c1 c2 c3 c4 lt; obtain ⟨c0, c1, c2, c3, c4, lt⟩ := HV.out.eb; rw [← HS0.out] at c0 c1 c2 c3 c4 lt))
  go_ret
  exact ⟨by rw [HR.out]; rfl, by first | exact hB | (rw [HS0.out]; exact hB)⟩
 rcases Nat.lt_or_ge 400 m with hm4 | hm4
 ·have HR := Lib.hid (HN3.out hm4)
  have e4 : decide ((400 : Int) < (m : Int)) = true := decide_eq_true (by omega)
  clear HN1 HN2 HN3 HN4 HN5 HNE hm4
  go_enter Tryz.func69, Tryz.ntmps69
  go_wp2_with (go_at_call 64; first
   | ((with_reducible refine (H1.out _ HV.out.hx).mono ?_); rintro e w1 ⟨rfl, hb⟩; have hsq := hB.size; rw [HS0.out] at hsq; replace HV := Lib.hid (HV.out.up hb); replace hB := hB.trans (hb.mono hsq); clear hb hsq c0 c1 c2 c3 c4 lt; obtain ⟨c0, c1, c2, c3, c4, lt⟩ := HV.out.eb; rw [← HS0.out] at c0 c1 c2 c3 c4 lt)
   | ((with_reducible refine (H2.out _ HV.out.hz).mono ?_); rintro e w2 ⟨rfl, hb⟩; have hsq := hB.size; rw [HS0.out] at hsq; replace HV := Lib.hid (HV.out.up hb); replace hB := hB.trans (hb.mono hsq); clear hb hsq c0 c1 c2 c3 c4 lt; obtain ⟨c0, c1, c2, c3, c4, lt⟩ := HV.out.eb; rw [← HS0.out] at c0 c1 c2 c3 c4 lt))
  go_ret
  exact ⟨by rw [HR.out]; rfl, by first | exact hB | (rw [HS0.out]; exact hB)⟩
 have e4 : decide ((400 : Int) < (m : Int)) = false := decide_eq_false (by omega)
 have HNE2 := Lib.hid (HNE.out rfl rfl hm4)
 clear HN1 HN2 HN3 HNE hm4
 go_enter Tryz.func69, Tryz.ntmps69
 go_wp2_with (go_at_call 64; first
  | ((with_reducible refine (H1.out _ HV.out.hx).mono ?_); rintro e w1 ⟨rfl, hb⟩; have hsq := hB.size; rw [HS0.out] at hsq; replace HV := Lib.hid (HV.out.up hb); replace hB := hB.trans (hb.mono hsq); clear hb hsq c0 c1 c2 c3 c4 lt; obtain ⟨c0, c1, c2, c3, c4, lt⟩ := HV.out.eb; rw [← HS0.out] at c0 c1 c2 c3 c4 lt)
  | ((with_reducible refine (H2.out _ HV.out.hz).mono ?_); rintro e w2 ⟨rfl, hb⟩; have hsq := hB.size; rw [HS0.out] at hsq; replace HV := Lib.hid (HV.out.up hb); replace hB := hB.trans (hb.mono hsq); clear hb hsq c0 c1 c2 c3 c4 lt; obtain ⟨c0, c1, c2, c3, c4, lt⟩ := HV.out.eb; rw [← HS0.out] at c0 c1 c2 c3 c4 lt))
 clear c0 c1 c2 c3 c4 lt
 rw [HS0.out]
 go_loopg [5] m (fun kx s5 wr => ∃ k : Nat, s5 = .int .i64 k ∧ k ≤ m ∧ m - k ≤ kx ∧ Hid (allTo P k = true) ∧ Hid (allTo D9 k = true) ∧ Hid (V9 wr s0 nm cur A n cp B m d jt L K C c) ∧ Below s0 w wr)
 case atStart => exact ⟨0, rfl, by omega, by omega, Lib.hid rfl, Lib.hid rfl, HV, hB⟩
 case round =>
  clear HV hB
  try clear HV
  try clear hB
  obtain ⟨k, rfl, hk, hkx, HA, HA9, HV, hB⟩ := hrel
  have hsz : s0 ≤ wr.heap.size := by have := hB.size; have := HS0.out; omega
  obtain ⟨c0, c1, c2, c3, c4, lt⟩ := HV.out.eb
  by_cases hlt : k < m
  ·have hltz : (k : Int) < (m : Int) := by omega
   obtain ⟨b, off, eB, hbw, hcs⟩ := HV.out.hy (by rw [HM.out]; omega)
   subst eB
   have l3 := hcs k (by rw [HM.out]; exact hlt)
   have hp := HP.out k
   have hno := HN4.out k hlt
   have hs9 := fun j => HS.out k j
   obtain ⟨x, hx⟩ : ∃ x, K.getD k lnk0 = x := ⟨_, rfl⟩
   rw [hx] at l3 hp
   simp only [hx] at hs9
   have hb6 := below_alloc_new (w := wr) (.cells #[.int .i64 x.frm, .int .i64 x.tgt, .int .i64 x.since] 101)
   have HV1 := Lib.hid (HV.out.up hb6)
   have HL1 := Lib.hid (lb_new wr 101 x)
   have HB1 : Hid (Below s0 w (wr.alloc (.cells #[.int .i64 x.frm, .int .i64 x.tgt, .int .i64 x.since] 101))) := Lib.hid (hB.alloc hsz _)
   have HSZ1 : Hid (s0 ≤ (wr.alloc (.cells #[.int .i64 x.frm, .int .i64 x.tgt, .int .i64 x.since] 101)).heap.size) := Lib.hid (by simp; omega)
   have h3 := fun w h => H3.out x.frm w h
   have h4 := fun w h => H4.out x.tgt w h
   have h5 := fun w => H5.out x.since w
   generalize (fnd L x.frm).isSome = q1 at *
   generalize (fnd c x.tgt).isSome = q2 at *
   generalize fndA L x.frm = fa at *
   generalize fndA c x.tgt = fb at *
   generalize vdB x.since = q4 at *
   obtain ⟨q3, hq3⟩ : ∃ q3, decide (fa.kind = fb.kind) = q3 := ⟨_, rfl⟩
   have e3 : (fa.kind != fb.kind) = !q3 := by rw [← hq3]; by_cases h : fa.kind = fb.kind <;> simp [h]
   rw [hq3] at hp
   obtain ⟨d0, d1, d2⟩ := l3
   obtain ⟨⟨v0, v1, v2⟩, vlt⟩ := HL1.out
   simp only [Nat.zero_add] at v1 v2
   obtain ⟨y0, y1, y2, y3, y4, ylt⟩ := HV1.out.eb
   have H3x := Lib.hid h3
   have H4x := Lib.hid h4
   have H5x := Lib.hid h5
   have HS9 := Lib.hid hs9
   have HNo := Lib.hid hno
   have HPx := Lib.hid hp
   have HXE := Lib.hid hx
   clear hcs hx hb6 h3 h4 h5 hq3 hp hno hs9
   rcases (show q1 = false ∨ (q1 = true ∧ q2 = false) ∨ (q1 = true ∧ q2 = true ∧ q3 = false) ∨ (q1 = true ∧ q2 = true ∧ q3 = true ∧ q4 = false) ∨ (q1 = true ∧ q2 = true ∧ q3 = true ∧ q4 = true) from by cases q1 <;> cases q2 <;> cases q3 <;> cases q4 <;> simp) with rfl | ⟨rfl, rfl⟩ | ⟨rfl, rfl, rfl⟩ | ⟨rfl, rfl, rfl, rfl⟩ | ⟨rfl, rfl, rfl, rfl⟩
   ·have HR := Lib.hid (HNo.out (by rw [HPx.out]; rfl))
    clear HNo HPx
    go_wp2_with (first
     | (go_at_call 52; first
     | ((with_reducible refine (H3x.out _ HV1.out.hz).mono ?_); rintro e w2 ⟨rfl, hb⟩; have HA3 := Lib.hid (ab_new w2 91 fa); have HV2 := Lib.hid ((HV1.out.up hb).up (below_alloc_new (.cells #[.int .i64 fa.code, .int .i64 fa.kind, .int .i64 fa.basis, .int .i64 fa.par] 91))); have HL2 := Lib.hid ((HL1.out.up hb).up (below_alloc_new (.cells #[.int .i64 fa.code, .int .i64 fa.kind, .int .i64 fa.basis, .int .i64 fa.par] 91))); have HB2 := Lib.hid ((HB1.out.trans (hb.mono HSZ1.out)).alloc (Nat.le_trans HSZ1.out hb.size) (.cells #[.int .i64 fa.code, .int .i64 fa.kind, .int .i64 fa.basis, .int .i64 fa.par] 91)); have HSZ2 : Hid (s0 ≤ (w2.alloc (.cells #[.int .i64 fa.code, .int .i64 fa.kind, .int .i64 fa.basis, .int .i64 fa.par] 91)).heap.size) := Lib.hid (Nat.le_trans (Nat.le_trans HSZ1.out hb.size) (by (simp))); clear hb v0 v1 v2 vlt y0 y1 y2 y3 y4 ylt; obtain ⟨⟨v0, v1, v2⟩, vlt⟩ := HL2.out; simp only [Nat.zero_add] at v1 v2; obtain ⟨y0, y1, y2, y3, y4, ylt⟩ := HV2.out.eb)
     | ((with_reducible refine (H4x.out _ HV2.out.hx).mono ?_); rintro e w3 ⟨rfl, hb⟩; have HA4 := Lib.hid ((HA3.out.up hb).up (below_alloc_new (.cells #[.int .i64 fb.code, .int .i64 fb.kind, .int .i64 fb.basis, .int .i64 fb.par] 91))); have HA5 := Lib.hid (ab_new w3 91 fb); have HV3 := Lib.hid ((HV2.out.up hb).up (below_alloc_new (.cells #[.int .i64 fb.code, .int .i64 fb.kind, .int .i64 fb.basis, .int .i64 fb.par] 91))); have HL3 := Lib.hid ((HL2.out.up hb).up (below_alloc_new (.cells #[.int .i64 fb.code, .int .i64 fb.kind, .int .i64 fb.basis, .int .i64 fb.par] 91))); have HB3 := Lib.hid ((HB2.out.trans (hb.mono HSZ2.out)).alloc (Nat.le_trans HSZ2.out hb.size) (.cells #[.int .i64 fb.code, .int .i64 fb.kind, .int .i64 fb.basis, .int .i64 fb.par] 91)); clear hb v0 v1 v2 vlt y0 y1 y2 y3 y4 ylt; obtain ⟨⟨v0, v1, v2⟩, vlt⟩ := HL3.out; simp only [Nat.zero_add] at v1 v2; obtain ⟨y0, y1, y2, y3, y4, ylt⟩ := HV3.out.eb; obtain ⟨⟨x0, x1, x2, x3⟩, xlt⟩ := HA4.out; obtain ⟨⟨z0, z1, z2, z3⟩, zlt⟩ := HA5.out; simp only [Nat.zero_add] at x1 x2 x3 z1 z2 z3))
     | (go_at_call 90; (with_reducible refine (H5x.out _).mono ?_); rintro e w4 ⟨rfl, rfl⟩))
    go_ret
    exact ⟨by rw [HR.out]; rfl, by first | exact HB3.out | (rw [HS0.out]; exact HB3.out)⟩
   ·have HR := Lib.hid (HNo.out (by rw [HPx.out]; rfl))
    clear HNo HPx
    go_wp2_with (first
     | (go_at_call 52; first
     | ((with_reducible refine (H3x.out _ HV1.out.hz).mono ?_); rintro e w2 ⟨rfl, hb⟩; have HA3 := Lib.hid (ab_new w2 91 fa); have HV2 := Lib.hid ((HV1.out.up hb).up (below_alloc_new (.cells #[.int .i64 fa.code, .int .i64 fa.kind, .int .i64 fa.basis, .int .i64 fa.par] 91))); have HL2 := Lib.hid ((HL1.out.up hb).up (below_alloc_new (.cells #[.int .i64 fa.code, .int .i64 fa.kind, .int .i64 fa.basis, .int .i64 fa.par] 91))); have HB2 := Lib.hid ((HB1.out.trans (hb.mono HSZ1.out)).alloc (Nat.le_trans HSZ1.out hb.size) (.cells #[.int .i64 fa.code, .int .i64 fa.kind, .int .i64 fa.basis, .int .i64 fa.par] 91)); have HSZ2 : Hid (s0 ≤ (w2.alloc (.cells #[.int .i64 fa.code, .int .i64 fa.kind, .int .i64 fa.basis, .int .i64 fa.par] 91)).heap.size) := Lib.hid (Nat.le_trans (Nat.le_trans HSZ1.out hb.size) (by (simp))); clear hb v0 v1 v2 vlt y0 y1 y2 y3 y4 ylt; obtain ⟨⟨v0, v1, v2⟩, vlt⟩ := HL2.out; simp only [Nat.zero_add] at v1 v2; obtain ⟨y0, y1, y2, y3, y4, ylt⟩ := HV2.out.eb)
     | ((with_reducible refine (H4x.out _ HV2.out.hx).mono ?_); rintro e w3 ⟨rfl, hb⟩; have HA4 := Lib.hid ((HA3.out.up hb).up (below_alloc_new (.cells #[.int .i64 fb.code, .int .i64 fb.kind, .int .i64 fb.basis, .int .i64 fb.par] 91))); have HA5 := Lib.hid (ab_new w3 91 fb); have HV3 := Lib.hid ((HV2.out.up hb).up (below_alloc_new (.cells #[.int .i64 fb.code, .int .i64 fb.kind, .int .i64 fb.basis, .int .i64 fb.par] 91))); have HL3 := Lib.hid ((HL2.out.up hb).up (below_alloc_new (.cells #[.int .i64 fb.code, .int .i64 fb.kind, .int .i64 fb.basis, .int .i64 fb.par] 91))); have HB3 := Lib.hid ((HB2.out.trans (hb.mono HSZ2.out)).alloc (Nat.le_trans HSZ2.out hb.size) (.cells #[.int .i64 fb.code, .int .i64 fb.kind, .int .i64 fb.basis, .int .i64 fb.par] 91)); clear hb v0 v1 v2 vlt y0 y1 y2 y3 y4 ylt; obtain ⟨⟨v0, v1, v2⟩, vlt⟩ := HL3.out; simp only [Nat.zero_add] at v1 v2; obtain ⟨y0, y1, y2, y3, y4, ylt⟩ := HV3.out.eb; obtain ⟨⟨x0, x1, x2, x3⟩, xlt⟩ := HA4.out; obtain ⟨⟨z0, z1, z2, z3⟩, zlt⟩ := HA5.out; simp only [Nat.zero_add] at x1 x2 x3 z1 z2 z3))
     | (go_at_call 90; (with_reducible refine (H5x.out _).mono ?_); rintro e w4 ⟨rfl, rfl⟩))
    go_ret
    exact ⟨by rw [HR.out]; rfl, by first | exact HB3.out | (rw [HS0.out]; exact HB3.out)⟩
   ·have HR := Lib.hid (HNo.out (by rw [HPx.out]; rfl))
    clear HNo HPx
    go_wp2_with (first
     | (go_at_call 52; first
     | ((with_reducible refine (H3x.out _ HV1.out.hz).mono ?_); rintro e w2 ⟨rfl, hb⟩; have HA3 := Lib.hid (ab_new w2 91 fa); have HV2 := Lib.hid ((HV1.out.up hb).up (below_alloc_new (.cells #[.int .i64 fa.code, .int .i64 fa.kind, .int .i64 fa.basis, .int .i64 fa.par] 91))); have HL2 := Lib.hid ((HL1.out.up hb).up (below_alloc_new (.cells #[.int .i64 fa.code, .int .i64 fa.kind, .int .i64 fa.basis, .int .i64 fa.par] 91))); have HB2 := Lib.hid ((HB1.out.trans (hb.mono HSZ1.out)).alloc (Nat.le_trans HSZ1.out hb.size) (.cells #[.int .i64 fa.code, .int .i64 fa.kind, .int .i64 fa.basis, .int .i64 fa.par] 91)); have HSZ2 : Hid (s0 ≤ (w2.alloc (.cells #[.int .i64 fa.code, .int .i64 fa.kind, .int .i64 fa.basis, .int .i64 fa.par] 91)).heap.size) := Lib.hid (Nat.le_trans (Nat.le_trans HSZ1.out hb.size) (by (simp))); clear hb v0 v1 v2 vlt y0 y1 y2 y3 y4 ylt; obtain ⟨⟨v0, v1, v2⟩, vlt⟩ := HL2.out; simp only [Nat.zero_add] at v1 v2; obtain ⟨y0, y1, y2, y3, y4, ylt⟩ := HV2.out.eb)
     | ((with_reducible refine (H4x.out _ HV2.out.hx).mono ?_); rintro e w3 ⟨rfl, hb⟩; have HA4 := Lib.hid ((HA3.out.up hb).up (below_alloc_new (.cells #[.int .i64 fb.code, .int .i64 fb.kind, .int .i64 fb.basis, .int .i64 fb.par] 91))); have HA5 := Lib.hid (ab_new w3 91 fb); have HV3 := Lib.hid ((HV2.out.up hb).up (below_alloc_new (.cells #[.int .i64 fb.code, .int .i64 fb.kind, .int .i64 fb.basis, .int .i64 fb.par] 91))); have HL3 := Lib.hid ((HL2.out.up hb).up (below_alloc_new (.cells #[.int .i64 fb.code, .int .i64 fb.kind, .int .i64 fb.basis, .int .i64 fb.par] 91))); have HB3 := Lib.hid ((HB2.out.trans (hb.mono HSZ2.out)).alloc (Nat.le_trans HSZ2.out hb.size) (.cells #[.int .i64 fb.code, .int .i64 fb.kind, .int .i64 fb.basis, .int .i64 fb.par] 91)); clear hb v0 v1 v2 vlt y0 y1 y2 y3 y4 ylt; obtain ⟨⟨v0, v1, v2⟩, vlt⟩ := HL3.out; simp only [Nat.zero_add] at v1 v2; obtain ⟨y0, y1, y2, y3, y4, ylt⟩ := HV3.out.eb; obtain ⟨⟨x0, x1, x2, x3⟩, xlt⟩ := HA4.out; obtain ⟨⟨z0, z1, z2, z3⟩, zlt⟩ := HA5.out; simp only [Nat.zero_add] at x1 x2 x3 z1 z2 z3))
     | (go_at_call 90; (with_reducible refine (H5x.out _).mono ?_); rintro e w4 ⟨rfl, rfl⟩))
    go_ret
    exact ⟨by rw [HR.out]; rfl, by first | exact HB3.out | (rw [HS0.out]; exact HB3.out)⟩
   ·have HR := Lib.hid (HNo.out (by rw [HPx.out]; rfl))
    clear HNo HPx
    go_wp2_with (first
     | (go_at_call 52; first
     | ((with_reducible refine (H3x.out _ HV1.out.hz).mono ?_); rintro e w2 ⟨rfl, hb⟩; have HA3 := Lib.hid (ab_new w2 91 fa); have HV2 := Lib.hid ((HV1.out.up hb).up (below_alloc_new (.cells #[.int .i64 fa.code, .int .i64 fa.kind, .int .i64 fa.basis, .int .i64 fa.par] 91))); have HL2 := Lib.hid ((HL1.out.up hb).up (below_alloc_new (.cells #[.int .i64 fa.code, .int .i64 fa.kind, .int .i64 fa.basis, .int .i64 fa.par] 91))); have HB2 := Lib.hid ((HB1.out.trans (hb.mono HSZ1.out)).alloc (Nat.le_trans HSZ1.out hb.size) (.cells #[.int .i64 fa.code, .int .i64 fa.kind, .int .i64 fa.basis, .int .i64 fa.par] 91)); have HSZ2 : Hid (s0 ≤ (w2.alloc (.cells #[.int .i64 fa.code, .int .i64 fa.kind, .int .i64 fa.basis, .int .i64 fa.par] 91)).heap.size) := Lib.hid (Nat.le_trans (Nat.le_trans HSZ1.out hb.size) (by (simp))); clear hb v0 v1 v2 vlt y0 y1 y2 y3 y4 ylt; obtain ⟨⟨v0, v1, v2⟩, vlt⟩ := HL2.out; simp only [Nat.zero_add] at v1 v2; obtain ⟨y0, y1, y2, y3, y4, ylt⟩ := HV2.out.eb)
     | ((with_reducible refine (H4x.out _ HV2.out.hx).mono ?_); rintro e w3 ⟨rfl, hb⟩; have HA4 := Lib.hid ((HA3.out.up hb).up (below_alloc_new (.cells #[.int .i64 fb.code, .int .i64 fb.kind, .int .i64 fb.basis, .int .i64 fb.par] 91))); have HA5 := Lib.hid (ab_new w3 91 fb); have HV3 := Lib.hid ((HV2.out.up hb).up (below_alloc_new (.cells #[.int .i64 fb.code, .int .i64 fb.kind, .int .i64 fb.basis, .int .i64 fb.par] 91))); have HL3 := Lib.hid ((HL2.out.up hb).up (below_alloc_new (.cells #[.int .i64 fb.code, .int .i64 fb.kind, .int .i64 fb.basis, .int .i64 fb.par] 91))); have HB3 := Lib.hid ((HB2.out.trans (hb.mono HSZ2.out)).alloc (Nat.le_trans HSZ2.out hb.size) (.cells #[.int .i64 fb.code, .int .i64 fb.kind, .int .i64 fb.basis, .int .i64 fb.par] 91)); clear hb v0 v1 v2 vlt y0 y1 y2 y3 y4 ylt; obtain ⟨⟨v0, v1, v2⟩, vlt⟩ := HL3.out; simp only [Nat.zero_add] at v1 v2; obtain ⟨y0, y1, y2, y3, y4, ylt⟩ := HV3.out.eb; obtain ⟨⟨x0, x1, x2, x3⟩, xlt⟩ := HA4.out; obtain ⟨⟨z0, z1, z2, z3⟩, zlt⟩ := HA5.out; simp only [Nat.zero_add] at x1 x2 x3 z1 z2 z3))
     | (go_at_call 90; (with_reducible refine (H5x.out _).mono ?_); rintro e w4 ⟨rfl, rfl⟩))
    go_ret
    exact ⟨by rw [HR.out]; rfl, by first | exact HB3.out | (rw [HS0.out]; exact HB3.out)⟩
   ·have HP2 : Hid (allTo P (k + 1) = true) := Lib.hid (by show (allTo P k && P k) = true; rw [HA.out, HPx.out]; rfl)
    clear HNo HPx
    go_wp2_with (first
     | (go_at_call 52; first
     | ((with_reducible refine (H3x.out _ HV1.out.hz).mono ?_); rintro e w2 ⟨rfl, hb⟩; have HA3 := Lib.hid (ab_new w2 91 fa); have HV2 := Lib.hid ((HV1.out.up hb).up (below_alloc_new (.cells #[.int .i64 fa.code, .int .i64 fa.kind, .int .i64 fa.basis, .int .i64 fa.par] 91))); have HL2 := Lib.hid ((HL1.out.up hb).up (below_alloc_new (.cells #[.int .i64 fa.code, .int .i64 fa.kind, .int .i64 fa.basis, .int .i64 fa.par] 91))); have HB2 := Lib.hid ((HB1.out.trans (hb.mono HSZ1.out)).alloc (Nat.le_trans HSZ1.out hb.size) (.cells #[.int .i64 fa.code, .int .i64 fa.kind, .int .i64 fa.basis, .int .i64 fa.par] 91)); have HSZ2 : Hid (s0 ≤ (w2.alloc (.cells #[.int .i64 fa.code, .int .i64 fa.kind, .int .i64 fa.basis, .int .i64 fa.par] 91)).heap.size) := Lib.hid (Nat.le_trans (Nat.le_trans HSZ1.out hb.size) (by (simp))); clear hb v0 v1 v2 vlt y0 y1 y2 y3 y4 ylt; obtain ⟨⟨v0, v1, v2⟩, vlt⟩ := HL2.out; simp only [Nat.zero_add] at v1 v2; obtain ⟨y0, y1, y2, y3, y4, ylt⟩ := HV2.out.eb)
     | ((with_reducible refine (H4x.out _ HV2.out.hx).mono ?_); rintro e w3 ⟨rfl, hb⟩; have HA4 := Lib.hid ((HA3.out.up hb).up (below_alloc_new (.cells #[.int .i64 fb.code, .int .i64 fb.kind, .int .i64 fb.basis, .int .i64 fb.par] 91))); have HA5 := Lib.hid (ab_new w3 91 fb); have HV3 := Lib.hid ((HV2.out.up hb).up (below_alloc_new (.cells #[.int .i64 fb.code, .int .i64 fb.kind, .int .i64 fb.basis, .int .i64 fb.par] 91))); have HL3 := Lib.hid ((HL2.out.up hb).up (below_alloc_new (.cells #[.int .i64 fb.code, .int .i64 fb.kind, .int .i64 fb.basis, .int .i64 fb.par] 91))); have HB3 := Lib.hid ((HB2.out.trans (hb.mono HSZ2.out)).alloc (Nat.le_trans HSZ2.out hb.size) (.cells #[.int .i64 fb.code, .int .i64 fb.kind, .int .i64 fb.basis, .int .i64 fb.par] 91)); clear hb v0 v1 v2 vlt y0 y1 y2 y3 y4 ylt; obtain ⟨⟨v0, v1, v2⟩, vlt⟩ := HL3.out; simp only [Nat.zero_add] at v1 v2; obtain ⟨y0, y1, y2, y3, y4, ylt⟩ := HV3.out.eb; obtain ⟨⟨x0, x1, x2, x3⟩, xlt⟩ := HA4.out; obtain ⟨⟨z0, z1, z2, z3⟩, zlt⟩ := HA5.out; simp only [Nat.zero_add] at x1 x2 x3 z1 z2 z3))
     | (go_at_call 90; (with_reducible refine (H5x.out _).mono ?_); rintro e w4 ⟨rfl, rfl⟩))
    obtain ⟨g6, hg6⟩ : ∃ g6, wr.heap.size = g6 := ⟨_, rfl⟩
    rw [hg6] at HL3 ⊢
    obtain ⟨W3, hW3⟩ : ∃ W3, w3.alloc (.cells #[.int .i64 fb.code, .int .i64 fb.kind, .int .i64 fb.basis, .int .i64 fb.par] 91) = W3 := ⟨_, rfl⟩
    rw [hW3] at HV3 HL3 HB3 ⊢
    clear v0 v1 v2 vlt y0 y1 y2 y3 y4 ylt x0 x1 x2 x3 xlt z0 z1 z2 z3 zlt HV1 HV2 HL1 HL2 HB1 HB2 HA3 HA4 HA5 c0 c1 c2 c3 c4 lt d0 d1 d2 hW3 hg6 HV
    go_loopg [11] k (fun jx s11 W => ∃ j : Nat, s11 = .int .i64 j ∧ j ≤ k ∧ k - j ≤ jx ∧ Hid (allTo (fun t => !S9 k t) j = true) ∧ Hid (V9 W s0 nm cur A n cp (some ⟨b, off, none⟩) m d jt L K C c) ∧ Hid (LB W g6 x) ∧ Below s0 w W)
    case atStart => exact ⟨0, rfl, by omega, by omega, Lib.hid rfl, HV3, HL3, HB3.out⟩
    case round =>
     clear HV3 HL3 HB3
     rename World => W
     obtain ⟨j, rfl, hj, hjx, HJ, HV, HL, hB⟩ := hrel
     obtain ⟨c0, c1, c2, c3, c4, lt⟩ := HV.out.eb
     obtain ⟨⟨v0, v1, v2⟩, vlt⟩ := HL.out
     simp only [Nat.zero_add] at v1 v2
     by_cases hjl : j < k
     ·have hjz : (j : Int) < (k : Int) := by omega
      have hjm : j < m := by omega
      have hjmz : (j : Int) < (m : Int) := by omega
      obtain ⟨b9, off9, eB, hbw, hcs⟩ := HV.out.hy (by rw [HM.out]; omega)
      cases eB
      obtain ⟨d0, d1, d2⟩ := hcs j (by rw [HM.out]; omega)
      have hs9 := HS9.out j
      have hno := HN5.out k j hlt hjl
      obtain ⟨y, hy⟩ : ∃ y, K.getD j lnk0 = y := ⟨_, rfl⟩
      rw [hy] at d0 d1 d2 hs9
      have HBK := Lib.hid hB
      clear hcs hy
      by_cases h1 : y.frm = x.frm
      ·have e1 : (y.frm == x.frm) = true := by simp [h1]
       rw [decide_eq_true h1, Bool.true_and] at hs9
       by_cases h2 : y.since = x.since
       ·have e2 : (y.since == x.since) = true := by simp [h2]
        have HR := Lib.hid (hno (hs9.trans (decide_eq_true h2)))
        clear h1 h2 hs9 hno
        go_wp2_with fail
        go_quiet (fail)
        have hB4 := below_drewN HBK.out nq
        generalize World.drewN _ nq = W8 at *
        go_wp2_with fail
        go_ret
        exact ⟨by rw [HR.out]; rfl, by first | exact hB4 | (rw [HS0.out]; exact hB4)⟩
       ·have e2 : (y.since == x.since) = false := by simp [h2]
        have HJ2 : Hid (allTo (fun t => !S9 k t) (j + 1) = true) := Lib.hid (by show (allTo (fun t => !S9 k t) j && !S9 k j) = true; rw [HJ.out, hs9, decide_eq_false h2]; rfl)
        clear h1 h2 hs9 hno
        go_wp2_with fail
        go_quiet (fail)
        have hB4 := below_drewN HBK.out nq
        have HV4 := Lib.hid (HV.out.up (below_drewN (Below.refl _ _) nq))
        have HL4 := Lib.hid (HL.out.up (below_drewN (Below.refl _ _) nq))
        clear HV HL hB HBK c0 c1 c2 c3 c4 lt v0 v1 v2 vlt d0 d1 d2
        generalize World.drewN _ nq = W8 at *
        go_wp2_with fail
        go_roundg (k - (j + 1))
        case measure => omega
        case rel => exact ⟨j + 1, by go_num, by omega, by omega, HJ2, HV4, HL4, hB4⟩
      ·have e1 : (y.frm == x.frm) = false := by simp [h1]
       have HJ2 : Hid (allTo (fun t => !S9 k t) (j + 1) = true) := Lib.hid (by show (allTo (fun t => !S9 k t) j && !S9 k j) = true; rw [HJ.out, hs9, decide_eq_false h1]; rfl)
       clear h1 hs9 hno
       go_wp2_with fail
       go_quiet (fail)
       have hB4 := below_drewN HBK.out nq
       have HV4 := Lib.hid (HV.out.up (below_drewN (Below.refl _ _) nq))
       have HL4 := Lib.hid (HL.out.up (below_drewN (Below.refl _ _) nq))
       clear HV HL hB HBK c0 c1 c2 c3 c4 lt v0 v1 v2 vlt d0 d1 d2
       generalize World.drewN _ nq = W8 at *
       go_wp2_with fail
       go_roundg (k - (j + 1))
       case measure => omega
       case rel => exact ⟨j + 1, by go_num, by omega, by omega, HJ2, HV4, HL4, hB4⟩
     ·obtain rfl : j = k := by omega
      have hjz : ¬ (j : Int) < (j : Int) := by omega
      have HD2 : Hid (allTo D9 (j + 1) = true) := Lib.hid (by show (allTo D9 j && D9 j) = true; rw [HA9.out, HD.out j]; exact HJ.out)
      go_wp2_with fail
      go_roundg (m - (j + 1))
      case measure => omega
      case rel => exact ⟨j + 1, by go_num, by omega, by omega, HP2, HD2, HV, hB⟩
  ·obtain rfl : k = m := by omega
   have hltz : ¬ (k : Int) < (k : Int) := by omega
   have HR := Lib.hid (HNE2.out HA.out HA9.out)
   go_wp2_with fail
   go_ret
   exact ⟨by rw [HR.out]; rfl, by first | exact hB | (rw [HS0.out]; exact hB)⟩
theorem gb_rU {w : World} {b : Nat} {g : Grp} {U : Value} (h : GB w b g) (hU : rolV g = U) : (Instr.loadAt 26 (.pointer (some ⟨b, 5, none⟩))).run Tryz.prog w = .ok U w := hU ▸ gb_roles h
def enrB (L : List Acc) (R : List Int) (e : Ent) : Bool := nameB e.nm && (curB e.cur && (mvB e.L e.K L && allTo (fun i => opnB R (e.K.getD i lnk0).tgt) e.K.length))
set_option maxRecDepth 20000 in
set_option maxHeartbeats 3200000 in
theorem rent_any (g : Grp) (L : List Acc) (e : Ent) (w : World) (hz : AccAt w g.A L) (ln : L.length = g.n) (hl : g.n ≤ 1000) (he : EntK w e.A e.n e.L e.B e.m e.K) (hn : e.n ≤ 1000) (hm : e.m ≤ 1000) (hs1 : e.nm.size ≤ maxLen) (hs2 : e.cur.size ≤ maxLen) :
  Calls Tryz.prog 42 #[grpV g, eV e] w fun e' w' => e' = .returned (.bool (enrB L g.R e)) ∧ Below w.heap.size w w' := by
 have hB1 := below_alloc_new (w := w) (.cells #[.string g.cur, .int .i64 g.cy, .int .i64 g.cm, .int .i64 g.cp, .slice g.A g.n g.c, .int .i64 g.r0, .int .i64 g.r1, .int .i64 g.r2, .int .i64 g.r3, .int .i64 g.r4, .int .i64 g.r5, .int .i64 g.r6, .int .i64 g.r7, .int .i64 g.r8, .int .i64 g.r9, .int .i64 g.r10, .int .i64 g.r11, .int .i64 g.r12, .int .i64 g.r13, .int .i64 g.r14, .slice g.E g.m g.d] 29)
 have hB := below_new hB1 (.cells #[.string e.nm, .string e.cur, .slice e.A e.n e.c, .slice e.B e.m e.d, .bool e.jt] 82)
 have hG := (gb_new w 29 g).up (below_alloc_new (.cells #[.string e.nm, .string e.cur, .slice e.A e.n e.c, .slice e.B e.m e.d, .bool e.jt] 82))
 have hE := eb_new (w.alloc (.cells #[.string g.cur, .int .i64 g.cy, .int .i64 g.cm, .int .i64 g.cp, .slice g.A g.n g.c, .int .i64 g.r0, .int .i64 g.r1, .int .i64 g.r2, .int .i64 g.r3, .int .i64 g.r4, .int .i64 g.r5, .int .i64 g.r6, .int .i64 g.r7, .int .i64 g.r8, .int .i64 g.r9, .int .i64 g.r10, .int .i64 g.r11, .int .i64 g.r12, .int .i64 g.r13, .int .i64 g.r14, .slice g.E g.m g.d] 29)) 82 e.nm e.cur e.A e.n e.c e.B e.m e.d e.jt
 have e1 : (w.alloc (.cells #[.string g.cur, .int .i64 g.cy, .int .i64 g.cm, .int .i64 g.cp, .slice g.A g.n g.c, .int .i64 g.r0, .int .i64 g.r1, .int .i64 g.r2, .int .i64 g.r3, .int .i64 g.r4, .int .i64 g.r5, .int .i64 g.r6, .int .i64 g.r7, .int .i64 g.r8, .int .i64 g.r9, .int .i64 g.r10, .int .i64 g.r11, .int .i64 g.r12, .int .i64 g.r13, .int .i64 g.r14, .slice g.E g.m g.d] 29)).heap.size = w.heap.size + 1 := by simp
 rw [e1] at hE
 have h1 := fun w => rnam_any e.nm w hs1
 have h2 := fun w => rcur_any e.cur w hs2
 have h3 : ∀ w, EntK w e.A e.n e.L e.B e.m e.K → AccAt w g.A L → Calls Tryz.prog 69 #[eV e, .slice g.A g.n g.c] w fun e' w' => e' = .returned (.bool (mvB e.L e.K L)) ∧ Below w.heap.size w w' := fun w h h' => by
  have h9 := rval9_any e.nm e.cur e.A e.c e.L e.B e.d e.K e.jt g.A g.c L w h.hz h.hy h' (by have := h.ln; omega) (by have := h.lm; omega) (by omega)
  rw [h.ln, h.lm, ln] at h9
  exact h9
 have h4 := fun w => rroles_any g w
 have hv : enrB L g.R e = (nameB e.nm && (curB e.cur && (mvB e.L e.K L && allTo (fun i => opnB g.R (e.K.getD i lnk0).tgt) e.K.length))) := rfl
 rw [he.lm] at hv
 obtain ⟨U, hU⟩ : ∃ U : Value, rolV g = U := ⟨_, rfl⟩
 rw [hU] at h4
 generalize enrB L g.R e = r at *
 generalize nameB e.nm = q1 at *
 generalize curB e.cur = q2 at *
 generalize mvB e.L e.K L = q3 at *
 obtain ⟨s0, hs0⟩ : ∃ s0, w.heap.size = s0 := ⟨_, rfl⟩
 have hsz : s0 ≤ ((w.alloc (.cells #[.string g.cur, .int .i64 g.cy, .int .i64 g.cm, .int .i64 g.cp, .slice g.A g.n g.c, .int .i64 g.r0, .int .i64 g.r1, .int .i64 g.r2, .int .i64 g.r3, .int .i64 g.r4, .int .i64 g.r5, .int .i64 g.r6, .int .i64 g.r7, .int .i64 g.r8, .int .i64 g.r9, .int .i64 g.r10, .int .i64 g.r11, .int .i64 g.r12, .int .i64 g.r13, .int .i64 g.r14, .slice g.E g.m g.d] 29)).alloc (.cells #[.string e.nm, .string e.cur, .slice e.A e.n e.c, .slice e.B e.m e.d, .bool e.jt] 82)).heap.size := by simp; omega
 have hek : EntK ((w.alloc (.cells #[.string g.cur, .int .i64 g.cy, .int .i64 g.cm, .int .i64 g.cp, .slice g.A g.n g.c, .int .i64 g.r0, .int .i64 g.r1, .int .i64 g.r2, .int .i64 g.r3, .int .i64 g.r4, .int .i64 g.r5, .int .i64 g.r6, .int .i64 g.r7, .int .i64 g.r8, .int .i64 g.r9, .int .i64 g.r10, .int .i64 g.r11, .int .i64 g.r12, .int .i64 g.r13, .int .i64 g.r14, .slice g.E g.m g.d] 29)).alloc (.cells #[.string e.nm, .string e.cur, .slice e.A e.n e.c, .slice e.B e.m e.d, .bool e.jt] 82)) e.A e.n e.L e.B e.m e.K := he.up hB
 have hz2 := hz.up hB
 rw [hs0] at hB hG hE ⊢
 have HS0 := Lib.hid hs0
 have HG := Lib.hid hG
 have HE := Lib.hid hE
 have HU := Lib.hid hU
 have HNM := Lib.hid h1
 have HCU := Lib.hid h2
 have HMV := Lib.hid h3
 have HRO := Lib.hid h4
 have HSZ := Lib.hid hsz
 have HEK := Lib.hid hek
 have HZ := Lib.hid hz2
 have HY := Lib.hid he.hy
 have HLM := Lib.hid he.lm
 have HV := Lib.hid hv
 have d4 := hG.c4
 obtain ⟨c0, c1, c2, c3, c4, lt⟩ := hE
 clear hz hz2 ln hl he hn hB1 hG e1 h1 h2 h3 h4 hv hU hsz hek hs1 hs2
 cases q1
 ·have HR := Lib.hid (show r = false from HV.out)
  clear HV
  go_enter Tryz.func42, Tryz.ntmps42
  go_wp2_with (first | (go_at_call 68; refine (HNM.out _).mono ?_; rintro e1 w1 ⟨rfl, rfl⟩))
  go_ret
  exact ⟨by rw [HR.out]; rfl, hB⟩
 cases q2
 ·have HR := Lib.hid (show r = false from HV.out)
  clear HV
  go_enter Tryz.func42, Tryz.ntmps42
  go_wp2_with (first | (go_at_call 68; refine (HNM.out _).mono ?_; rintro e1 w1 ⟨rfl, rfl⟩) | (go_at_call 62; refine (HCU.out _).mono ?_; rintro e1 w1 ⟨rfl, rfl⟩))
  go_ret
  exact ⟨by rw [HR.out]; rfl, hB⟩
 cases q3
 ·have HR := Lib.hid (show r = false from HV.out)
  clear HV
  go_enter Tryz.func42, Tryz.ntmps42
  go_wp2_with (first | (go_at_call 68; refine (HNM.out _).mono ?_; rintro e1 w1 ⟨rfl, rfl⟩) | (go_at_call 62; refine (HCU.out _).mono ?_; rintro e1 w1 ⟨rfl, rfl⟩) | (go_at_call 69; (with_reducible refine (HMV.out _ HEK.out HZ.out).mono ?_); rintro e1 w1 ⟨rfl, hb⟩; have hB2 := hB.trans (hb.mono HSZ.out); have HSZ2 := Lib.hid (Nat.le_trans HSZ.out hb.size); have HG2 := Lib.hid (HG.out.up hb); have HE2 := Lib.hid (HE.out.up hb); clear hb hB HSZ HG HE c0 c1 c2 c3 c4 lt; (try clear d4); have hB := hB2; have HSZ := HSZ2; have HG := HG2; have HE := HE2; clear hB2 HSZ2 HG2 HE2; obtain ⟨c0, c1, c2, c3, c4, lt⟩ := HE.out))
  go_ret
  exact ⟨by rw [HR.out]; rfl, hB⟩
 obtain ⟨P, hP⟩ : ∃ P : Nat → Bool, (fun i => opnB g.R (e.K.getD i lnk0).tgt) = P := ⟨_, rfl⟩
 have hv2 := HV.out
 rw [hP] at hv2
 have HV2 := Lib.hid (show r = allTo P e.m from hv2)
 have HP := Lib.hid (fun i => show opnB g.R (e.K.getD i lnk0).tgt = P i from by rw [← hP])
 clear HV hP hv2
 go_enter Tryz.func42, Tryz.ntmps42
 go_wp2_with (first | (go_at_call 68; refine (HNM.out _).mono ?_; rintro e1 w1 ⟨rfl, rfl⟩) | (go_at_call 62; refine (HCU.out _).mono ?_; rintro e1 w1 ⟨rfl, rfl⟩) | (go_at_call 69; (with_reducible refine (HMV.out _ HEK.out HZ.out).mono ?_); rintro e1 w1 ⟨rfl, hb⟩; have hB2 := hB.trans (hb.mono HSZ.out); have HSZ2 := Lib.hid (Nat.le_trans HSZ.out hb.size); have HG2 := Lib.hid (HG.out.up hb); have HE2 := Lib.hid (HE.out.up hb); clear hb hB HSZ HG HE c0 c1 c2 c3 c4 lt; (try clear d4); have hB := hB2; have HSZ := HSZ2; have HG := HG2; have HE := HE2; clear hB2 HSZ2 HG2 HE2; obtain ⟨c0, c1, c2, c3, c4, lt⟩ := HE.out) | (refine wpList_load_is rfl 26 _ rfl (.pointer (some ⟨s0, 5, none⟩)) rfl U (gb_rU HG.out HU.out) ?_) | (go_at_call 66; refine (HRO.out _).mono ?_; rintro e1 w2 ⟨⟨t, rfl, ht⟩, hb⟩; have HT := Lib.hid ht; clear ht; have hB2 := hB.trans (hb.mono HSZ.out); have HSZ2 := Lib.hid (Nat.le_trans HSZ.out hb.size); have HG2 := Lib.hid (HG.out.up hb); have HE2 := Lib.hid (HE.out.up hb); clear hb hB HSZ HG HE c0 c1 c2 c3 c4 lt; (try clear d4); have hB := hB2; have HSZ := HSZ2; have HG := HG2; have HE := HE2; clear hB2 HSZ2 HG2 HE2; obtain ⟨c0, c1, c2, c3, c4, lt⟩ := HE.out))
 clear hs0 HNM HCU HMV HEK HZ HG c0 c1 c2 c3 c4 lt
 obtain ⟨n, hn2⟩ : ∃ n, e.m = n := ⟨_, rfl⟩
 obtain ⟨B, hB9⟩ : ∃ B, e.B = B := ⟨_, rfl⟩
 rw [hn2] at hm HLM HV2 HE
 rw [hB9] at HY HE
 rw [hn2]
 clear hn2 hB9
 have HSW : Hid (s0 = w.heap.size) := Lib.hid HS0.out.symm
 go_loopg [6] n (fun kx s6 wr => ∃ k : Nat, s6 = .int .i64 k ∧ k ≤ n ∧ n - k ≤ kx ∧ Hid (allTo P k = true) ∧ Hid (EB wr (s0 + 1) e.nm e.cur e.A e.n e.c B n e.d e.jt) ∧ Hid (RolAt wr t g) ∧ Below s0 w wr)
 case atStart => exact ⟨0, rfl, by omega, by omega, Lib.hid rfl, HE, HT, hB⟩
 case round =>
  clear hB HE HT HSZ
  obtain ⟨k, rfl, hk, hkx, HA, HE, HT, hB⟩ := hrel
  obtain ⟨c0, c1, c2, c3, c4, lt⟩ := HE.out
  by_cases hlt : k < n
  ·have hltz : (k : Int) < (n : Int) := by omega
   obtain ⟨b, off, rfl, hbw, hcs⟩ := HY.out (by rw [HLM.out]; omega)
   have hb0 : b < s0 := by have := HS0.out; omega
   have hdl := hcs k (by rw [HLM.out]; exact hlt)
   have hp := HP.out k
   have hno : P k = false → r = false := fun h => by rw [HV2.out]; exact allTo_no hlt h
   obtain ⟨x, hx⟩ : ∃ x, e.K.getD k lnk0 = x := ⟨_, rfl⟩
   rw [hx] at hdl hp
   have HDL := Lib.hid hdl
   have HNo := Lib.hid hno
   have HPk : Hid (P k = allTo (fun j => !(decide (x.tgt = g.R.getD j 0) && !rlM j)) 15) := Lib.hid hp.symm
   clear hcs hx hp hno hbw hdl
   go_wp2_with fail
   clear c0 c1 c2 c3 c4 lt
   go_loopg [7] 15 (fun jx s7 W => ∃ j : Nat, s7 = .int .i64 j ∧ j ≤ 15 ∧ 15 - j ≤ jx ∧ Hid (allTo (fun j => !(decide (x.tgt = g.R.getD j 0) && !rlM j)) j = true) ∧ Hid (EB W (s0 + 1) e.nm e.cur e.A e.n e.c (some ⟨b, off, none⟩) n e.d e.jt) ∧ Hid (RolAt W t g) ∧ Below s0 w W)
   case atStart => exact ⟨0, rfl, by omega, by omega, Lib.hid rfl, HE, HT, hB⟩
   case round =>
    clear hB HE HT
    obtain ⟨j, rfl, hj, hjx, HJ, HE, HT, hB⟩ := hrel
    rename World => W
    by_cases hjl : j < 15
    ·have hjz : (j : Int) < 15 := by omega
     obtain ⟨c0, c1, c2, c3, c4, lt⟩ := HE.out
     obtain ⟨d0, d1, d2⟩ := HDL.out.up hB hb0
     obtain ⟨r0, r1, r2, r3, r4⟩ := HT.out.row hjl
     simp only [Nat.zero_add] at r0 r1 r2 r3 r4
     have hpj : allTo (fun j => !(decide (x.tgt = g.R.getD j 0) && !rlM j)) (j + 1) = !(decide (x.tgt = g.R.getD j 0) && !rlM j) := by
      show (allTo _ j && _) = _
      rw [HJ.out, Bool.true_and]
     have hpn : (!(decide (x.tgt = g.R.getD j 0) && !rlM j)) = false → P k = false := fun h => by rw [HPk.out]; exact allTo_no hjl h
     obtain ⟨y, hy⟩ : ∃ y, g.R.getD j 0 = y := ⟨_, rfl⟩
     obtain ⟨m9, hm9⟩ : ∃ m9, rlM j = m9 := ⟨_, rfl⟩
     rw [hy] at r1 hpj hpn
     rw [hm9] at r4 hpj hpn
     have HBK := Lib.hid hB
     have HPJ := Lib.hid hpj
     clear hy hm9 hpj
     by_cases h1 : x.tgt = y
     ·have e1 : (x.tgt == y) = true := by simp [h1]
      rw [decide_eq_true h1] at hpn
      have hpj2 := HPJ.out
      rw [decide_eq_true h1] at hpj2
      clear h1
      cases m9
      ·have HR := Lib.hid (HNo.out (hpn rfl))
       clear hpn hpj2
       go_wp2_with fail
       go_quiet (fail)
       have hB4 := below_drewN HBK.out nq
       generalize World.drewN _ nq = W8 at *
       go_wp2_with fail
       go_ret
       exact ⟨by rw [HR.out]; rfl, hB4⟩
      ·have HJ2 := Lib.hid (hpj2.trans rfl)
       clear hpn hpj2
       go_wp2_with fail
       go_quiet (fail)
       have hB4 := below_drewN HBK.out nq
       have HE4 := Lib.hid (HE.out.up (below_drewN (Below.refl _ _) nq))
       have HT4 := Lib.hid (HT.out.up (below_drewN (Below.refl _ _) nq))
       clear HE HT hB HBK c0 c1 c2 c3 c4 lt d0 d1 d2 r0 r1 r2 r3 r4
       generalize World.drewN _ nq = W8 at *
       go_wp2_with fail
       go_roundg (15 - (j + 1))
       case measure => omega
       case rel => exact ⟨j + 1, by go_num, by omega, by omega, HJ2, HE4, HT4, hB4⟩
     ·have e1 : (x.tgt == y) = false := by simp [h1]
      have hpj2 := HPJ.out
      rw [decide_eq_false h1] at hpj2
      have HJ2 := Lib.hid (hpj2.trans rfl)
      clear h1 hpn hpj2
      go_wp2_with fail
      go_quiet (fail)
      have hB4 := below_drewN HBK.out nq
      have HE4 := Lib.hid (HE.out.up (below_drewN (Below.refl _ _) nq))
      have HT4 := Lib.hid (HT.out.up (below_drewN (Below.refl _ _) nq))
      clear HE HT hB HBK c0 c1 c2 c3 c4 lt d0 d1 d2 r0 r1 r2 r3 r4
      generalize World.drewN _ nq = W8 at *
      go_wp2_with fail
      go_roundg (15 - (j + 1))
      case measure => omega
      case rel => exact ⟨j + 1, by go_num, by omega, by omega, HJ2, HE4, HT4, hB4⟩
    ·obtain rfl : j = 15 := by omega
     have HA2 : Hid (allTo P (k + 1) = true) := Lib.hid (by show (allTo P k && P k) = true; rw [HA.out, HPk.out, HJ.out]; rfl)
     go_wp2_with fail
     go_roundg (n - (k + 1))
     case measure => omega
     case rel => exact ⟨k + 1, by go_num, by omega, by omega, HA2, HE, HT, hB⟩
  ·obtain rfl : k = n := by omega
   have hltz : ¬ (k : Int) < (k : Int) := by omega
   have HR : Hid (r = true) := Lib.hid (by rw [HV2.out]; exact HA.out)
   go_wp2_with fail
   go_ret
   exact ⟨by rw [HR.out]; rfl, hB⟩
end Go.Proofs.YtacmccijnkojeaaGreat
