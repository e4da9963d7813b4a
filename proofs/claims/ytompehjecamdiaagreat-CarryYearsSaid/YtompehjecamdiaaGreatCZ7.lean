/- Contracts of the functions that the statements reach, part 7: what was proved of each, callees first. -/
import Derived.Outline
import Derived.WalkSpells
import Derived.Lib.SliceRun
import Derived.Test.YtompehjecamdiaaGreatCZ6
namespace Go.Proofs.YtompehjecamdiaaGreat
open Go.RowKit
structure Lay (α : Type) where
 cel : α → List Value
 s : Nat
 len : ∀ a, (cel a).length = s
 one : ∀ a, ∀ v ∈ cel a, v.oneCell' = true
 pos : 0 < s
section
variable {α : Type} {R : Lay α} {w w' : World} {A : Option Addr} {L : List α} {e : TypeId} {base : Nat} {v : Value}
def Lay.all (R : Lay α) (L : List α) : List Value := L.flatMap R.cel
theorem Lay.all_len (R : Lay α) : ∀ L : List α, (R.all L).length = L.length * R.s
 | [] => by simp [Lay.all]
 | a :: L => by
  have h := Lay.all_len R L
  unfold Lay.all at h ⊢
  rw [List.flatMap_cons, List.length_append, h, R.len, List.length_cons, Nat.add_mul]
  omega
theorem Lay.all_append (R : Lay α) (L M : List α) : R.all (L ++ M) = R.all L ++ R.all M := List.flatMap_append
theorem Lay.all_one (R : Lay α) (L : List α) : ∀ v ∈ R.all L, v.oneCell' = true := by
 intro v hv
 obtain ⟨a, _, ha⟩ := List.mem_flatMap.1 hv
 exact R.one a v ha
def RowAt (R : Lay α) (w : World) (A : Option Addr) (L : List α) : Prop := 0 < L.length → ∃ b off, A = some ⟨b, off, none⟩ ∧ b < w.heap.size ∧ w.rangeAt b off (R.all L)
theorem RowAt.nil : RowAt R w A [] := fun h => absurd h (by simp)
def OwnR (R : Lay α) (e : TypeId) (w : World) (base : Nat) (v : Value) (L : List α) : Prop := w.ownsRow base e R.s v L.length (R.all L)
theorem OwnR.nil : OwnR R e w base (.slice none 0 0) ([] : List α) := World.ownsRow_nil _ _ _ _
theorem OwnR.blk (h : OwnR R e w base v L) (hk : ∀ g, v.ownBlock = some g → w'.heap[g]? = w.heap[g]?) : OwnR R e w' base v L := by
 obtain ⟨h1, h2⟩ := h
 refine ⟨h1, ?_⟩
 rcases h2 with h2 | ⟨g, cap, cur, rfl, hbg, hg, rest⟩
 ·exact .inl h2
 ·exact .inr ⟨g, cap, cur, rfl, hbg, (hk g rfl).trans hg, rest⟩
theorem OwnR.lt (h : OwnR R e w base v L) {g : Nat} (hg : v.ownBlock = some g) : base ≤ g ∧ g < w.heap.size := World.ownsRow.lt h g hg
theorem OwnR.up (h : OwnR R e w base v L) (hb : Below w.heap.size w w') : OwnR R e w' base v L := h.blk fun g hg => hb.block g (h.lt hg).2
theorem OwnR.low {b2 : Nat} (h : OwnR R e w base v L) (hb : b2 ≤ base) : OwnR R e w b2 v L := by
 obtain ⟨h1, h2⟩ := h
 rcases h2 with h2 | ⟨g, cap, cur, rfl, hbg, hg⟩
 ·exact ⟨h1, .inl h2⟩
 ·exact ⟨h1, .inr ⟨g, cap, cur, rfl, Nat.le_trans hb hbg, hg⟩⟩
theorem OwnR.reads (h : OwnR R e w base v L) : ∃ A c, v = .slice A L.length c ∧ RowAt R w A L ∧ (∀ g o, A = some ⟨g, o, none⟩ → v.ownBlock = some g ∧ o = 0) := by
 obtain ⟨h1, h2⟩ := h
 rcases h2 with ⟨rfl, h0⟩ | ⟨g, cap, cur, rfl, hbg, hg, hn, hcap, hsz, hcur⟩
 ·obtain rfl : L = [] := List.eq_nil_of_length_eq_zero h0
  exact ⟨none, 0, rfl, RowAt.nil, fun g o h => by cases h⟩
 ·refine ⟨_, cap, rfl, fun _ => ⟨g, 0, rfl, ?_, fun j u hj => ?_⟩, fun g' o h => by cases h; exact ⟨rfl, rfl⟩⟩
  ·rcases Nat.lt_or_ge g w.heap.size with hlt | hge
   ·exact hlt
   ·rw [Array.getElem?_eq_none hge] at hg; cases hg
  ·have hjl : j < L.length * R.s := by rw [← R.all_len]; exact (List.getElem?_eq_some_iff.1 hj).1
   rw [Nat.zero_add, ← hj, ← hcur, List.getElem?_take, if_pos hjl]
   simp only [World.cell?, hg]
   simp
theorem row_one {x : α} {g : Nat} {t : TypeId} (h : Wh t w g (R.cel x)) : RowAt R w (some ⟨g, 0, none⟩) [x] := fun _ => ⟨g, 0, rfl, h.lt, by
 have : R.all [x] = R.cel x := by simp [Lay.all]
 rw [this]
 exact h.range⟩
theorem wp_app_row {P : Program} {o : Oper} {a : Act} {K : Act → World → Prop} {Q : Exit → Act → World → Prop} (s x : Operand) (t : TypeId)
  (ho : o.op = .call { callee := .builtin .append, args := #[s, x], argTypes := #[t, t] })
  (i : TypeInfo) (z : Value) (bytes : Nat) (ht : P.underlying t = some (.slice e)) (hi : P.info? e = some i) (hz : i.zero = some z) (hsize : i.size = R.s) (hby : i.bytes = bytes) (hb8 : bytes ≤ 1000) (hzs : z.cells.size = R.s)
  (hs : a.eval s = v) (hown : OwnR R e w base v L) (X : Option Addr) (m c : Nat) (M : List α) (hm : M.length = m) (hx : a.eval x = .slice X m c) (hX : RowAt R w X M)
  (hlen : L.length + m ≤ 100000000) (hbase : base ≤ w.heap.size)
  (h : ∀ v' w', Hid (OwnR R e w' base v' (L ++ M)) → Hid (w.grownBy w' v.ownBlock) → Hid (v'.ownBlock = v.ownBlock ∨ v'.ownBlock = some w.heap.size) → K (a.put o.dst v') w') : Oper.wp P o a w K Q := by
 subst hm
 have hbb : (L.length + M.length) * bytes ≤ (L.length + M.length) * 1000 := Nat.mul_le_mul_left _ hb8
 rcases Nat.eq_zero_or_pos M.length with h0 | h0
 ·obtain rfl : M = [] := List.eq_nil_of_length_eq_zero h0
  have hrun : (Builtin.append_ #[t, t] o.type #[v, .slice X 0 c]).run P w = .ok v w := by
   rcases hown.2 with ⟨rfl, h9⟩ | ⟨g, cap, cur, rfl, hb, hg, hn, hcap, hcs, hcur⟩
   ·cases X <;> simp [Builtin.append_, run_underlying ht, sizeOf, typeInfo, hi, Builtin.lenOf, Builtin.firstCells, loadCells, loadCellsFrom]
   ·cases X <;> simp [Builtin.append_, run_underlying ht, sizeOf, typeInfo, hi, Builtin.lenOf, Builtin.firstCells, storeCells, loadCells, loadCellsFrom, hn]
  unfold Oper.wp
  simp [execOp, ho, resolve, invoke, builtin, hs, hx, hrun, Result.andThen]
  exact h v w (Lib.hid (by simpa using hown)) (Lib.hid ⟨rfl, rfl, rfl, Nat.le_refl _, fun _ _ _ => rfl⟩) (Lib.hid (.inl rfl))
 ·obtain ⟨b, off, rfl, hlt, hc⟩ := hX h0
  obtain ⟨v', w', hr, h2, h3, h4, h5⟩ := run_append_own_at (P := P) w base t o.type e i z R.s bytes ht hi hz hsize hby hzs R.pos v L.length (R.all L) hown ⟨b, off, none⟩ M.length c (R.all M) (R.all_len M)
   (fun j u hj => by
    have hadd : (⟨b, off, none⟩ : Addr).add j = ⟨b, off + j, none⟩ := by unfold Addr.add; split <;> simp_all
    rw [hadd]
    exact hc j u hj) (R.all_one M) (by unfold maxLen; omega) (by omega) hbase
  unfold Oper.wp execOp
  simp only [ho, resolve, invoke, builtin, Sem.run_bind, Sem.run_pure, Result.andThen_ok, List.map_toArray, List.map_cons, List.map_nil, hs, hx, hr]
  refine h v' w' (Lib.hid ?_) (Lib.hid h3) (Lib.hid h5)
  unfold OwnR
  rw [List.length_append, R.all_append]
  exact h2
theorem wpList_app_row {P : Program} {ops : Array Oper} {rest : List Oper} {o : Oper} {a : Act} {Q : Exit → Act → World → Prop} (hg : o.guard = none) (s x : Operand) (t : TypeId)
  (ho : o.op = .call { callee := .builtin .append, args := #[s, x], argTypes := #[t, t] })
  (i : TypeInfo) (z : Value) (bytes : Nat) (ht : P.underlying t = some (.slice e)) (hi : P.info? e = some i) (hz : i.zero = some z) (hsize : i.size = R.s) (hby : i.bytes = bytes) (hb8 : bytes ≤ 1000) (hzs : z.cells.size = R.s)
  (hs : a.eval s = v) (hown : OwnR R e w base v L) (X : Option Addr) (m c : Nat) (M : List α) (hm : M.length = m) (hx : a.eval x = .slice X m c) (hX : RowAt R w X M)
  (hlen : L.length + m ≤ 100000000) (hbase : base ≤ w.heap.size)
  (h : ∀ v' w', Hid (OwnR R e w' base v' (L ++ M)) → Hid (w.grownBy w' v.ownBlock) → Hid (v'.ownBlock = v.ownBlock ∨ v'.ownBlock = some w.heap.size) → wpList P ops Q rest (a.put o.dst v') w') : wpList P ops Q (o :: rest) a w :=
 wpList_plain hg fun _ hK => wp_app_row s x t ho i z bytes ht hi hz hsize hby hb8 hzs hs hown X m c M hm hx hX hlen hbase fun v' w' h1 h2 h3 => hK _ _ (h v' w' h1 h2 h3)
end
theorem own_apart {α β : Type} {R : Lay α} {R' : Lay β} {w : World} {e e' : TypeId} {b b' : Nat} {v v' : Value} {L : List α} {L' : List β} (h : OwnR R e w b v L) (h2 : OwnR R' e' w b' v' L') (hne : e ≠ e') {g : Nat} (hg : v.ownBlock = some g) (hg2 : v'.ownBlock = some g) : False := by
 rcases h.2 with ⟨rfl, _⟩ | ⟨g1, _, c1, rfl, _, k1, _⟩
 ·cases hg
 rcases h2.2 with ⟨rfl, _⟩ | ⟨g2, _, c2, rfl, _, k2, _⟩
 ·cases hg2
 cases hg; cases hg2
 rw [k1] at k2
 injection k2 with k2
 injection k2 with _ k3
 exact hne k3
def lyL : Lay Lnk := ⟨celL, 3, fun _ => rfl, fun a v hv => by simp [celL] at hv; rcases hv with rfl | rfl | rfl <;> rfl, by decide⟩
def lyA : Lay Acc := ⟨celA, 4, fun _ => rfl, fun a v hv => by simp [celA] at hv; rcases hv with rfl | rfl | rfl | rfl <;> rfl, by decide⟩
def lyE : Lay Ent := ⟨entC, 5, fun _ => rfl, fun a v hv => by simp [entC] at hv; rcases hv with rfl | rfl | rfl | rfl | rfl <;> rfl, by decide⟩
theorem lnk_row {w : World} {A : Option Addr} {L : List Lnk} : RowAt lyL w A L ↔ LnkAt w A L := by
 constructor
 ·intro h h0
  obtain ⟨b, off, e, hlt, hc⟩ := h h0
  refine ⟨b, off, e, hlt, fun i hi => ?_⟩
  obtain ⟨k0, k1, k2⟩ := celL_get L i hi
  exact ⟨hc _ _ k0, by rw [Nat.add_assoc]; exact hc _ _ k1, by rw [Nat.add_assoc]; exact hc _ _ k2⟩
 ·intro h h0
  obtain ⟨b, off, e, hlt, hc⟩ := h h0
  refine ⟨b, off, e, hlt, fun j v hj => ?_⟩
  have hjl : j < L.length * 3 := by
   have := lyL.all_len L
   rw [show lyL.s = 3 from rfl] at this
   rw [← this]
   exact (List.getElem?_eq_some_iff.1 hj).1
  have h3 : j % 3 = 0 ∨ j % 3 = 1 ∨ j % 3 = 2 := by omega
  rw [show lyL.all L = L.flatMap celL from rfl] at hj
  rcases h3 with h2 | h2 | h2
  ·obtain ⟨q, rfl⟩ : ∃ q, j = q * 3 := ⟨j / 3, by omega⟩
   rw [(celL_get L q (by omega)).1] at hj; injection hj with hj; subst hj
   exact (hc q (by omega)).c0
  ·obtain ⟨q, rfl⟩ : ∃ q, j = q * 3 + 1 := ⟨j / 3, by omega⟩
   rw [(celL_get L q (by omega)).2.1] at hj; injection hj with hj; subst hj
   rw [← Nat.add_assoc]
   exact (hc q (by omega)).c1
  ·obtain ⟨q, rfl⟩ : ∃ q, j = q * 3 + 2 := ⟨j / 3, by omega⟩
   rw [(celL_get L q (by omega)).2.2] at hj; injection hj with hj; subst hj
   rw [← Nat.add_assoc]
   exact (hc q (by omega)).c2
section
variable {S T : Nat → Prop} {P P' : World → Prop} {w w' : World}
end
open Go.RowKit
def crow : Nat → List Int
 | 0 => [1000, 1010, 1100, 1200]
 | 1 => [1300, 1500, 1600, 1700]
 | 2 => [2000, 2100]
 | 3 => [3000, 3100, 3200, 3300, 3400, 3500]
 | 4 => [4000, 4100, 4500, 4600, 4700]
 | 5 => [5000, 5100, 5500, 5600, 5700]
 | _ => []
def krow (i : Nat) : Int := [1, 1, 2, 3, 4, 5].getD i 0
def brow (i : Nat) : Int := [1, 3, 1, 3, 2, 2].getD i 0
def parN (c : Int) : Int := if c = 1010 ∨ c = 1100 ∨ c = 1200 then 1000 else if c = 2100 ∨ c = 4100 then c - 100 else 0
def accN (i k : Nat) : Acc := ⟨(crow i).getD k 0, krow i, brow i, parN ((crow i).getD k 0)⟩
def scN (i k : Nat) : List Acc := ((List.range i).flatMap fun r => (List.range (crow r).length).map (accN r)) ++ (List.range k).map (accN i)
def smpL : List Acc := scN 6 0
theorem infoAc : (Tryz.prog.info? 69).map (fun i => (i.zero, i.size, i.bytes)) = some (some (.agg #[.int .i64 0, .int .i64 0, .int .i64 0, .int .i64 0]), 4, 32) := by kernel_rfl
def seK (i : Nat) : Int := [1, 1, 1, 1, 1, 2, 2, 3, 3, 4, 4, 4, 5, 5].getD i 0
def seT (i : Nat) : Int := [1010, 1100, 1200, 1300, 1500, 2000, 2100, 3000, 3300, 4000, 4100, 4700, 5000, 5100].getD i 0
def seA (i : Nat) : List Acc := (List.range i).map fun (j : Nat) => ⟨10 * ((j : Int) + 1), seK j, 0, 0⟩
def seL (i : Nat) : List Lnk := (List.range i).map fun (j : Nat) => ⟨10 * ((j : Int) + 1), seT j, -25567⟩
theorem seA_s (i : Nat) : seA (i + 1) = seA i ++ [⟨10 * ((i : Int) + 1), seK i, 0, 0⟩] := by simp [seA, List.range_succ]
theorem seL_s (i : Nat) : seL (i + 1) = seL i ++ [⟨10 * ((i : Int) + 1), seT i, -25567⟩] := by simp [seL, List.range_succ]
theorem infoLk : (Tryz.prog.info? 104).map (fun i => (i.zero, i.size, i.bytes)) = some (some (.agg #[.int .i64 0, .int .i64 0, .int .i64 0]), 3, 24) := by kernel_rfl
section
variable {α : Type} (R : Lay α) (e : TypeId) (wr : World) (s0 : Nat) (vs : Value) (nm cu : ByteArray) (va vl : Value) (f : Nat) (L : List α) (x : α)
end
section
variable {α : Type} {R : Lay α} {e : TypeId} {wr : World} {s0 : Nat} {vs : Value} {nm cu : ByteArray} {va vl : Value} {f : Nat} {L : List α} {x : α} {l : List Value} {v : Value} {W : World}
end
open Go.RowKit
def smpG (A : Option Addr) (c : Nat) (E : Option Addr) : Grp := ⟨⟨#[69, 85, 82]⟩, 2026, 1, 36, A, 26, c, 1500, 1600, 1700, 1200, 3100, 3200, 3300, 3400, 3500, 4500, 4600, 4700, 5500, 5600, 5700, E, 4, 4⟩
def smpN (i : Nat) : ByteArray := ([⟨#[112, 97, 114, 101, 110, 116]⟩, ⟨#[110, 111, 114, 116, 104]⟩, ⟨#[119, 101, 115, 116]⟩, ⟨#[106, 111, 105, 110, 116]⟩] : List ByteArray).getD i ⟨#[]⟩
def smpC (i : Nat) : ByteArray := ([⟨#[69, 85, 82]⟩, ⟨#[69, 85, 82]⟩, ⟨#[85, 83, 68]⟩, ⟨#[85, 83, 68]⟩] : List ByteArray).getD i ⟨#[]⟩
structure EAd where
 A : Option Addr
 c : Nat
 B : Option Addr
 d : Nat
def smpE (i : Nat) (jt : Bool) (p : EAd) : Ent := ⟨smpN i, smpC i, p.A, 14, p.c, p.B, 14, p.d, jt, seA 14, seL 14⟩
def smpEs (p0 p1 p2 p3 : EAd) : List Ent := [smpE 0 false p0, smpE 1 false p1, smpE 2 false p2, smpE 3 true p3]
set_option maxRecDepth 100000 in
theorem smp_len : smpL.length = 26 := by decide
set_option maxRecDepth 100000 in
theorem smp_ok (A : Option Addr) (c : Nat) (E : Option Addr) (p0 p1 p2 p3 : EAd) : grpP (smpG A c E) smpL (smpEs p0 p1 p2 p3) = true := by
 kernel_rfl
theorem acc_row {w : World} {A : Option Addr} {L : List Acc} (h : RowAt lyA w A L) : AccAt w A L := by
 intro h0
 obtain ⟨b, off, e, hlt, hc⟩ := h h0
 refine ⟨b, off, e, hlt, fun i hi => ?_⟩
 obtain ⟨k0, k1, k2, k3⟩ := celA_get L i hi
 exact ⟨hc _ _ k0, by rw [Nat.add_assoc]; exact hc _ _ k1, by rw [Nat.add_assoc]; exact hc _ _ k2, by rw [Nat.add_assoc]; exact hc _ _ k3⟩
theorem ents_row {w : World} {A : Option Addr} {G : List Ent} (h : RowAt lyE w A G) : EntsAt w A G := by
 intro h0
 obtain ⟨b, off, e, hlt, hc⟩ := h h0
 refine ⟨b, off, e, hlt, fun i hi => ?_⟩
 have k := fun j v hj (hv : (entC (G.getD i ent0))[j]? = some v) => hc (i * 5 + j) v ((entC_get G i hi j hj).trans hv)
 exact ⟨k 0 _ (by omega) rfl, by rw [Nat.add_assoc]; exact k 1 _ (by omega) rfl, by rw [Nat.add_assoc]; exact k 2 _ (by omega) rfl, by rw [Nat.add_assoc]; exact k 3 _ (by omega) rfl, by rw [Nat.add_assoc]; exact k 4 _ (by omega) rfl⟩
def EOw (base : Nat) (p : EAd) (w : World) : Prop := OwnR lyA 69 w base (.slice p.A 14 p.c) (seA 14) ∧ OwnR lyL 104 w base (.slice p.B 14 p.d) (seL 14)
theorem EOw.up {base : Nat} {p : EAd} {w w' : World} (h : EOw base p w) (hb : Below w.heap.size w w') : EOw base p w' := ⟨h.1.up hb, h.2.up hb⟩
theorem EOw.low {b base : Nat} {p : EAd} {w : World} (h : EOw base p w) (hb : b ≤ base) : EOw b p w := ⟨h.1.low hb, h.2.low hb⟩
theorem EOw.k {base : Nat} {p : EAd} {w : World} (h : EOw base p w) : EntK w p.A 14 (seA 14) p.B 14 (seL 14) := by
 obtain ⟨A, c, e1, h1, -⟩ := h.1.reads
 obtain ⟨B, d, e2, h2, -⟩ := h.2.reads
 injection e1 with e1 _ _
 injection e2 with e2 _ _
 rw [← e1] at h1
 rw [← e2] at h2
 exact ⟨rfl, rfl, acc_row h1, lnk_row.1 h2, by unfold WfC; decide +kernel, by
  have : ∀ l ∈ seL 14, (Lit.int .i64 l.frm).wf = true ∧ (Lit.int .i64 l.tgt).wf = true ∧ (Lit.int .i64 l.since).wf = true := by decide +kernel
  exact fun l hl => ⟨(this l hl).1, (this l hl).2.1, (this l hl).2.2⟩⟩
set_option maxRecDepth 100000 in
theorem gs_cells : (lyA.all smpL).toArray = #[.int .i64 1000, .int .i64 1, .int .i64 1, .int .i64 0, .int .i64 1010, .int .i64 1, .int .i64 1, .int .i64 1000, .int .i64 1100, .int .i64 1, .int .i64 1, .int .i64 1000, .int .i64 1200, .int .i64 1, .int .i64 1, .int .i64 1000, .int .i64 1300, .int .i64 1, .int .i64 3, .int .i64 0, .int .i64 1500, .int .i64 1, .int .i64 3, .int .i64 0, .int .i64 1600, .int .i64 1, .int .i64 3, .int .i64 0, .int .i64 1700, .int .i64 1, .int .i64 3, .int .i64 0, .int .i64 2000, .int .i64 2, .int .i64 1, .int .i64 0, .int .i64 2100, .int .i64 2, .int .i64 1, .int .i64 2000, .int .i64 3000, .int .i64 3, .int .i64 3, .int .i64 0, .int .i64 3100, .int .i64 3, .int .i64 3, .int .i64 0, .int .i64 3200, .int .i64 3, .int .i64 3, .int .i64 0, .int .i64 3300, .int .i64 3, .int .i64 3, .int .i64 0, .int .i64 3400, .int .i64 3, .int .i64 3, .int .i64 0, .int .i64 3500, .int .i64 3, .int .i64 3, .int .i64 0, .int .i64 4000, .int .i64 4, .int .i64 2, .int .i64 0, .int .i64 4100, .int .i64 4, .int .i64 2, .int .i64 4000, .int .i64 4500, .int .i64 4, .int .i64 2, .int .i64 0, .int .i64 4600, .int .i64 4, .int .i64 2, .int .i64 0, .int .i64 4700, .int .i64 4, .int .i64 2, .int .i64 0, .int .i64 5000, .int .i64 5, .int .i64 2, .int .i64 0, .int .i64 5100, .int .i64 5, .int .i64 2, .int .i64 0, .int .i64 5500, .int .i64 5, .int .i64 2, .int .i64 0, .int .i64 5600, .int .i64 5, .int .i64 2, .int .i64 0, .int .i64 5700, .int .i64 5, .int .i64 2, .int .i64 0] := by kernel_rfl
set_option maxRecDepth 100000 in
set_option maxHeartbeats 3200000 in
theorem gschart_any (w : World) : Calls Tryz.prog 34 #[] w fun e w' => e = .returned (.slice (some ⟨w.heap.size, 0, none⟩) 26 26) ∧ Wh 69 w' w.heap.size (lyA.all smpL) ∧ Below w.heap.size w w' := by
 have HW : Hid (∀ cs, cs = (#[.int .i64 1000, .int .i64 1, .int .i64 1, .int .i64 0, .int .i64 1010, .int .i64 1, .int .i64 1, .int .i64 1000, .int .i64 1100, .int .i64 1, .int .i64 1, .int .i64 1000, .int .i64 1200, .int .i64 1, .int .i64 1, .int .i64 1000, .int .i64 1300, .int .i64 1, .int .i64 3, .int .i64 0, .int .i64 1500, .int .i64 1, .int .i64 3, .int .i64 0, .int .i64 1600, .int .i64 1, .int .i64 3, .int .i64 0, .int .i64 1700, .int .i64 1, .int .i64 3, .int .i64 0, .int .i64 2000, .int .i64 2, .int .i64 1, .int .i64 0, .int .i64 2100, .int .i64 2, .int .i64 1, .int .i64 2000, .int .i64 3000, .int .i64 3, .int .i64 3, .int .i64 0, .int .i64 3100, .int .i64 3, .int .i64 3, .int .i64 0, .int .i64 3200, .int .i64 3, .int .i64 3, .int .i64 0, .int .i64 3300, .int .i64 3, .int .i64 3, .int .i64 0, .int .i64 3400, .int .i64 3, .int .i64 3, .int .i64 0, .int .i64 3500, .int .i64 3, .int .i64 3, .int .i64 0, .int .i64 4000, .int .i64 4, .int .i64 2, .int .i64 0, .int .i64 4100, .int .i64 4, .int .i64 2, .int .i64 4000, .int .i64 4500, .int .i64 4, .int .i64 2, .int .i64 0, .int .i64 4600, .int .i64 4, .int .i64 2, .int .i64 0, .int .i64 4700, .int .i64 4, .int .i64 2, .int .i64 0, .int .i64 5000, .int .i64 5, .int .i64 2, .int .i64 0, .int .i64 5100, .int .i64 5, .int .i64 2, .int .i64 0, .int .i64 5500, .int .i64 5, .int .i64 2, .int .i64 0, .int .i64 5600, .int .i64 5, .int .i64 2, .int .i64 0, .int .i64 5700, .int .i64 5, .int .i64 2, .int .i64 0] : Array Value) → Wh 69 (w.alloc (.cells cs 69)) w.heap.size (lyA.all smpL)) := Lib.hid (fun cs h => by rw [h, ← gs_cells]; exact Wh.new w 69 (lyA.all smpL))
 have HB := Lib.hid (fun o => below_alloc_new (w := w) o)
 go_enter Tryz.func34, Tryz.ntmps34
 go_wp2_with fail
 go_ret
 exact ⟨rfl, HW.out _ rfl, HB.out _⟩
set_option maxRecDepth 100000 in
set_option maxHeartbeats 3200000 in
theorem gsrol_any (w : World) : Calls Tryz.prog 35 #[] w fun e w' => e = .returned (.agg #[.int .i64 1500, .int .i64 1600, .int .i64 1700, .int .i64 1200, .int .i64 3100, .int .i64 3200, .int .i64 3300, .int .i64 3400, .int .i64 3500, .int .i64 4500, .int .i64 4600, .int .i64 4700, .int .i64 5500, .int .i64 5600, .int .i64 5700]) ∧ Below w.heap.size w w' := by
 obtain ⟨s0, hs0⟩ : ∃ s0, w.heap.size = s0 := ⟨_, rfl⟩
 obtain ⟨w2, hw2⟩ : ∃ w2, w.alloc (.cells #[.int .i64 0, .int .i64 0, .int .i64 0, .int .i64 0, .int .i64 0, .int .i64 0, .int .i64 0, .int .i64 0, .int .i64 0, .int .i64 0, .int .i64 0, .int .i64 0, .int .i64 0, .int .i64 0, .int .i64 0] 26) = w2 := ⟨_, rfl⟩
 have HZ : Hid (Wh 26 w2 s0 [.int .i64 0, .int .i64 0, .int .i64 0, .int .i64 0, .int .i64 0, .int .i64 0, .int .i64 0, .int .i64 0, .int .i64 0, .int .i64 0, .int .i64 0, .int .i64 0, .int .i64 0, .int .i64 0, .int .i64 0]) := Lib.hid (by rw [← hw2, ← hs0]; exact Wh.new w 26 [.int .i64 0, .int .i64 0, .int .i64 0, .int .i64 0, .int .i64 0, .int .i64 0, .int .i64 0, .int .i64 0, .int .i64 0, .int .i64 0, .int .i64 0, .int .i64 0, .int .i64 0, .int .i64 0, .int .i64 0])
 have HON := Lib.hid (fun W (h : Only (fun k => k = w.heap.size) w2 W) => only_new (w := w) (by rw [hw2]; exact h))
 rw [hs0] at HON
 have HS0 := Lib.hid hs0
 go_enter Tryz.func35, Tryz.ntmps35
 go_wp2_with (refine wpList_store_wh rfl 26 _ _ rfl s0 rfl 26 [.int .i64 0, .int .i64 0, .int .i64 0, .int .i64 0, .int .i64 0, .int .i64 0, .int .i64 0, .int .i64 0, .int .i64 0, .int .i64 0, .int .i64 0, .int .i64 0, .int .i64 0, .int .i64 0, .int .i64 0] [.int .i64 1500, .int .i64 1600, .int .i64 1700, .int .i64 1200, .int .i64 3100, .int .i64 3200, .int .i64 3300, .int .i64 3400, .int .i64 3500, .int .i64 4500, .int .i64 4600, .int .i64 4700, .int .i64 5500, .int .i64 5600, .int .i64 5700] rfl HZ.out rfl (by kernel_rfl) (by kernel_rfl) ?_; intro W8 hr8 ho8 hz8)
 exact bodyPost_ret (v := .agg #[.int .i64 1500, .int .i64 1600, .int .i64 1700, .int .i64 1200, .int .i64 3100, .int .i64 3200, .int .i64 3300, .int .i64 3400, .int .i64 3500, .int .i64 4500, .int .i64 4600, .int .i64 4700, .int .i64 5500, .int .i64 5600, .int .i64 5700]) (results_cell_mid Tryz.results35 _ _ s0 [.int .i64 1500, .int .i64 1600, .int .i64 1700, .int .i64 1200, .int .i64 3100, .int .i64 3200, .int .i64 3300, .int .i64 3400, .int .i64 3500, .int .i64 4500, .int .i64 4600, .int .i64 4700, .int .i64 5500, .int .i64 5600, .int .i64 5700] _ rfl hr8.out.range Tryz.underlying26 rfl (by kernel_rfl)) rfl ⟨rfl, by have h9 := HON.out _ ho8.out; first | exact h9 | (rw [HS0.out]; exact h9)⟩
theorem gs_idx (i : Nat) (h : i < 14) (w : World) : (Instr.index 109 (.agg #[.int .i64 1, .int .i64 1010, .int .i64 1, .int .i64 1100, .int .i64 1, .int .i64 1200, .int .i64 1, .int .i64 1300, .int .i64 1, .int .i64 1500, .int .i64 2, .int .i64 2000, .int .i64 2, .int .i64 2100, .int .i64 3, .int .i64 3000, .int .i64 3, .int .i64 3300, .int .i64 4, .int .i64 4000, .int .i64 4, .int .i64 4100, .int .i64 4, .int .i64 4700, .int .i64 5, .int .i64 5000, .int .i64 5, .int .i64 5100]) (.int .i64 (i : Int))).run Tryz.prog w = .ok (.agg #[.int .i64 (seK i), .int .i64 (seT i)]) w := by
 have h1 : Tryz.t108.size = 2 := by kernel_rfl
 have hs : ∀ w : World, (sizeOf 108).run Tryz.prog w = .ok 2 w := fun w => by simp [sizeOf, h1, go_sem]
 have ha : ∀ w : World, (isAgg 108).run Tryz.prog w = .ok true w := fun w => by simp [isAgg, run_underlying Tryz.underlying108, go_sem]
 have hi : i = 0 ∨ i = 1 ∨ i = 2 ∨ i = 3 ∨ i = 4 ∨ i = 5 ∨ i = 6 ∨ i = 7 ∨ i = 8 ∨ i = 9 ∨ i = 10 ∨ i = 11 ∨ i = 12 ∨ i = 13 := by omega
 rcases hi with rfl | rfl | rfl | rfl | rfl | rfl | rfl | rfl | rfl | rfl | rfl | rfl | rfl | rfl <;>
  (simp [Instr.index, Go.part, run_underlying Tryz.underlying109, asIntOf, hs, ha, go_sem]; try exact ⟨rfl, rfl⟩)
set_option maxRecDepth 100000 in
set_option maxHeartbeats 12800000 in
theorem gsent_any (nm cu : ByteArray) (jt : Bool) (w : World) : Calls Tryz.prog 36 #[.string nm, .string cu, .bool jt] w fun e w' => (∃ p : EAd, e = .returned (.agg #[.string nm, .string cu, .slice p.A 14 p.c, .slice p.B 14 p.d, .bool jt]) ∧ EOw w.heap.size p w') ∧ Below w.heap.size w w' := by
 obtain ⟨i0, hi, hz1, hz2, hz3⟩ := info_parts infoAc
 obtain ⟨i1, hj, hy1, hy2, hy3⟩ := info_parts infoLk
 obtain ⟨s0, hs0⟩ : ∃ s0, w.heap.size = s0 := ⟨_, rfl⟩
 have HS0 := Lib.hid hs0
 obtain ⟨w2, hw2⟩ : ∃ w2, (w.alloc (.cells #[.string ⟨#[]⟩, .string ⟨#[]⟩, .slice none 0 0, .slice none 0 0, .bool false] 53)).alloc (.cells #[.int .i64 0, .int .i64 0, .int .i64 0, .int .i64 0, .int .i64 0, .int .i64 0, .int .i64 0, .int .i64 0, .int .i64 0, .int .i64 0, .int .i64 0, .int .i64 0, .int .i64 0, .int .i64 0, .int .i64 0, .int .i64 0, .int .i64 0, .int .i64 0, .int .i64 0, .int .i64 0, .int .i64 0, .int .i64 0, .int .i64 0, .int .i64 0, .int .i64 0, .int .i64 0, .int .i64 0, .int .i64 0] 109) = w2 := ⟨_, rfl⟩
 have hb01 : Below s0 w (w.alloc (.cells #[.string ⟨#[]⟩, .string ⟨#[]⟩, .slice none 0 0, .slice none 0 0, .bool false] 53)) := by rw [← hs0]; exact below_alloc_new _
 have hw0 : Wh 53 (w.alloc (.cells #[.string ⟨#[]⟩, .string ⟨#[]⟩, .slice none 0 0, .slice none 0 0, .bool false] 53)) s0 [.string ⟨#[]⟩, .string ⟨#[]⟩, .slice none 0 0, .slice none 0 0, .bool false] := by rw [← hs0]; exact Wh.new w 53 [.string ⟨#[]⟩, .string ⟨#[]⟩, .slice none 0 0, .slice none 0 0, .bool false]
 have hs1 : (w.alloc (.cells #[.string ⟨#[]⟩, .string ⟨#[]⟩, .slice none 0 0, .slice none 0 0, .bool false] 53)).heap.size = s0 + 1 := by rw [← hs0]; simp
 have hb12 : Below (s0 + 1) (w.alloc (.cells #[.string ⟨#[]⟩, .string ⟨#[]⟩, .slice none 0 0, .slice none 0 0, .bool false] 53)) w2 := by rw [← hw2, ← hs1]; exact below_alloc_new _
 have HZ0 : Hid (Wh 53 w2 s0 [.string ⟨#[]⟩, .string ⟨#[]⟩, .slice none 0 0, .slice none 0 0, .bool false]) := Lib.hid (hw0.up (by rw [hs1]; exact hb12))
 have HA0 : Hid (Wh 109 w2 (s0 + 1) [.int .i64 0, .int .i64 0, .int .i64 0, .int .i64 0, .int .i64 0, .int .i64 0, .int .i64 0, .int .i64 0, .int .i64 0, .int .i64 0, .int .i64 0, .int .i64 0, .int .i64 0, .int .i64 0, .int .i64 0, .int .i64 0, .int .i64 0, .int .i64 0, .int .i64 0, .int .i64 0, .int .i64 0, .int .i64 0, .int .i64 0, .int .i64 0, .int .i64 0, .int .i64 0, .int .i64 0, .int .i64 0]) := Lib.hid (by rw [← hw2]; have h9 := Wh.new (w.alloc (.cells #[.string ⟨#[]⟩, .string ⟨#[]⟩, .slice none 0 0, .slice none 0 0, .bool false] 53)) 109 [.int .i64 0, .int .i64 0, .int .i64 0, .int .i64 0, .int .i64 0, .int .i64 0, .int .i64 0, .int .i64 0, .int .i64 0, .int .i64 0, .int .i64 0, .int .i64 0, .int .i64 0, .int .i64 0, .int .i64 0, .int .i64 0, .int .i64 0, .int .i64 0, .int .i64 0, .int .i64 0, .int .i64 0, .int .i64 0, .int .i64 0, .int .i64 0, .int .i64 0, .int .i64 0, .int .i64 0, .int .i64 0]; rw [hs1] at h9; exact h9)
 have HB2 : Hid (Below s0 w w2) := Lib.hid (hb01.trans (hb12.mono (by omega)))
 have HS2 : Hid (w2.heap.size = s0 + 2) := Lib.hid (by rw [← hw2]; simp [hs0])
 clear hb01 hw0 hs1 hb12
 have HBE : Hid (∀ W, (Instr.build 53 #[(0, .string nm), (1, .string cu), (4, .bool jt)]).run Tryz.prog W = .ok (.agg #[.string nm, .string cu, .slice none 0 0, .slice none 0 0, .bool jt]) W) := Lib.hid (fun W => run_build W 53 _ _ (by kernel_rfl))
 go_enter Tryz.func36, Tryz.ntmps36
 go_upto_region 2 with (refine wpList_store_wh rfl 109 _ _ rfl (s0 + 1) rfl 109 [.int .i64 0, .int .i64 0, .int .i64 0, .int .i64 0, .int .i64 0, .int .i64 0, .int .i64 0, .int .i64 0, .int .i64 0, .int .i64 0, .int .i64 0, .int .i64 0, .int .i64 0, .int .i64 0, .int .i64 0, .int .i64 0, .int .i64 0, .int .i64 0, .int .i64 0, .int .i64 0, .int .i64 0, .int .i64 0, .int .i64 0, .int .i64 0, .int .i64 0, .int .i64 0, .int .i64 0, .int .i64 0] [.int .i64 1, .int .i64 1010, .int .i64 1, .int .i64 1100, .int .i64 1, .int .i64 1200, .int .i64 1, .int .i64 1300, .int .i64 1, .int .i64 1500, .int .i64 2, .int .i64 2000, .int .i64 2, .int .i64 2100, .int .i64 3, .int .i64 3000, .int .i64 3, .int .i64 3300, .int .i64 4, .int .i64 4000, .int .i64 4, .int .i64 4100, .int .i64 4, .int .i64 4700, .int .i64 5, .int .i64 5000, .int .i64 5, .int .i64 5100] rfl HA0.out rfl (by kernel_rfl) (by kernel_rfl) ?_; intro w3 hr3 ho3 hz3; have HA3 := Lib.hid hr3.out; have HO3 := Lib.hid ho3.out; have HS3 : Hid (w3.heap.size = s0 + 2) := Lib.hid (by rw [hz3]; exact HS2.out); clear hr3 ho3 hz3)
 have HZ3 := Lib.hid (HZ0.out.only HO3.out (by show ¬ s0 = s0 + 1; omega))
 have HB3 := Lib.hid (HB2.out.trans (HO3.out.below (B := s0) (fun k hk => by have : k = s0 + 1 := hk; omega) (by have := HS2.out; omega)))
 have HE4 : Hid (Wh 53 (w3.alloc (.cells #[.string ⟨#[]⟩, .string ⟨#[]⟩, .slice none 0 0, .slice none 0 0, .bool false] 53)) (s0 + 2) [.string ⟨#[]⟩, .string ⟨#[]⟩, .slice none 0 0, .slice none 0 0, .bool false]) := Lib.hid (by have h9 := Wh.new w3 53 [.string ⟨#[]⟩, .string ⟨#[]⟩, .slice none 0 0, .slice none 0 0, .bool false]; rw [HS3.out] at h9; exact h9)
 have hs3 := HS3.out
 go_upto_region 4 with (first
  | (refine wpList_build_is rfl 53 _ rfl [(0, .string nm), (1, .string cu), (4, .bool jt)] rfl (.agg #[.string nm, .string cu, .slice none 0 0, .slice none 0 0, .bool jt]) (HBE.out _) ?_)
  | (refine wpList_store_wh rfl 53 _ _ rfl (s0 + 2) (by first | rfl | (rw [← HS3.out]; rfl)) 53 [.string ⟨#[]⟩, .string ⟨#[]⟩, .slice none 0 0, .slice none 0 0, .bool false] [.string nm, .string cu, .slice none 0 0, .slice none 0 0, .bool jt] rfl HE4.out rfl (by kernel_rfl) (by kernel_rfl) ?_; intro w4 hr4 ho4 hz4; have HE5 := Lib.hid hr4.out; have hb4 : Below w3.heap.size w3 w4 := only_new (by rw [HS3.out]; exact ho4.out); have HA4 := Lib.hid (HA3.out.up hb4); have HZ4 := Lib.hid (HZ3.out.up hb4); have HB4 := Lib.hid (HB3.out.trans (hb4.mono (by have := HS3.out; omega))); have HS4 : Hid (w4.heap.size = s0 + 3) := Lib.hid (by rw [hz4]; simp [HS3.out]); have HLA : Hid ((Instr.loadAt 109 (.pointer (some ⟨s0 + 1, 0, none⟩))).run Tryz.prog w4 = .ok (.agg #[.int .i64 1, .int .i64 1010, .int .i64 1, .int .i64 1100, .int .i64 1, .int .i64 1200, .int .i64 1, .int .i64 1300, .int .i64 1, .int .i64 1500, .int .i64 2, .int .i64 2000, .int .i64 2, .int .i64 2100, .int .i64 3, .int .i64 3000, .int .i64 3, .int .i64 3300, .int .i64 4, .int .i64 4000, .int .i64 4, .int .i64 4100, .int .i64 4, .int .i64 4700, .int .i64 5, .int .i64 5000, .int .i64 5, .int .i64 5100]) w4) := Lib.hid (HA4.out.rg.load 0 109 [.int .i64 1, .int .i64 1010, .int .i64 1, .int .i64 1100, .int .i64 1, .int .i64 1200, .int .i64 1, .int .i64 1300, .int .i64 1, .int .i64 1500, .int .i64 2, .int .i64 2000, .int .i64 2, .int .i64 2100, .int .i64 3, .int .i64 3000, .int .i64 3, .int .i64 3300, .int .i64 4, .int .i64 4000, .int .i64 4, .int .i64 4100, .int .i64 4, .int .i64 4700, .int .i64 5, .int .i64 5000, .int .i64 5, .int .i64 5100] rfl _ Tryz.underlying109 rfl (by kernel_rfl)); clear hr4 ho4 hz4 hb4)
  | (refine wpList_load_is rfl 109 _ rfl (.pointer (some ⟨s0 + 1, 0, none⟩)) rfl (.agg #[.int .i64 1, .int .i64 1010, .int .i64 1, .int .i64 1100, .int .i64 1, .int .i64 1200, .int .i64 1, .int .i64 1300, .int .i64 1, .int .i64 1500, .int .i64 2, .int .i64 2000, .int .i64 2, .int .i64 2100, .int .i64 3, .int .i64 3000, .int .i64 3, .int .i64 3300, .int .i64 4, .int .i64 4000, .int .i64 4, .int .i64 4100, .int .i64 4, .int .i64 4700, .int .i64 5, .int .i64 5000, .int .i64 5, .int .i64 5100]) HLA.out ?_))
 have HIX : Hid (∀ (i : Nat) (h : i < 14) (W : World), (Instr.index 109 (.agg #[.int .i64 1, .int .i64 1010, .int .i64 1, .int .i64 1100, .int .i64 1, .int .i64 1200, .int .i64 1, .int .i64 1300, .int .i64 1, .int .i64 1500, .int .i64 2, .int .i64 2000, .int .i64 2, .int .i64 2100, .int .i64 3, .int .i64 3000, .int .i64 3, .int .i64 3300, .int .i64 4, .int .i64 4000, .int .i64 4, .int .i64 4100, .int .i64 4, .int .i64 4700, .int .i64 5, .int .i64 5000, .int .i64 5, .int .i64 5100]) (.int .i64 (i : Int))).run Tryz.prog W = .ok (.agg #[.int .i64 (seK i), .int .i64 (seT i)]) W) := Lib.hid gs_idx
 obtain ⟨VA, hVA⟩ : ∃ VA, (Value.agg #[.int .i64 1, .int .i64 1010, .int .i64 1, .int .i64 1100, .int .i64 1, .int .i64 1200, .int .i64 1, .int .i64 1300, .int .i64 1, .int .i64 1500, .int .i64 2, .int .i64 2000, .int .i64 2, .int .i64 2100, .int .i64 3, .int .i64 3000, .int .i64 3, .int .i64 3300, .int .i64 4, .int .i64 4000, .int .i64 4, .int .i64 4100, .int .i64 4, .int .i64 4700, .int .i64 5, .int .i64 5000, .int .i64 5, .int .i64 5100]) = VA := ⟨_, rfl⟩
 rw [hVA] at HIX HLA ⊢
 clear hVA
 go_loopg [32] 14 (fun kx s32 wr => ∃ (i : Nat), s32 = .int .i64 i ∧ i ≤ 14 ∧ 14 - i ≤ kx ∧ (∃ va vl, Hid (Wh 53 wr (s0 + 2) [.string nm, .string cu, va, vl, .bool jt]) ∧ Hid (OwnR lyA 69 wr (s0 + 3) va (seA i)) ∧ Hid (OwnR lyL 104 wr (s0 + 3) vl (seL i))) ∧ Hid (Below (s0 + 2) w4 wr) ∧ Hid (s0 + 3 ≤ wr.heap.size))
 case atStart => exact ⟨0, rfl, by omega, by omega, ⟨_, _, Lib.hid HE5.out, Lib.hid OwnR.nil, Lib.hid OwnR.nil⟩, Lib.hid (Below.refl _ _), Lib.hid (by have := HS4.out; omega)⟩
 case round =>
  obtain ⟨i, rfl, hi14, hkx, ⟨va, vl, HG, HA, HV⟩, HB, HW1⟩ := hrel
  by_cases hlt : i < 14
  ·have hltz : (i : Int) < 14 := by omega
   have hlt2 : decide ((i : Int) < 14) = true := decide_eq_true hltz
   have hix := HIX.out i hlt
   obtain ⟨q1, hq1⟩ : ∃ q1, seK i = q1 := ⟨_, rfl⟩
   obtain ⟨q2, hq2⟩ : ∃ q2, seT i = q2 := ⟨_, rfl⟩
   rw [hq1, hq2] at hix
   have HJA : Hid (seA (i + 1) = seA i ++ [⟨10 * ((i : Int) + 1), q1, 0, 0⟩]) := Lib.hid (by rw [seA_s, hq1])
   have HJL : Hid (seL (i + 1) = seL i ++ [⟨10 * ((i : Int) + 1), q2, -25567⟩]) := Lib.hid (by rw [seL_s, hq2])
   clear hq1 hq2
   have hw1 : IntKind.i64.wrap ((i : Int) + 1) = (i : Int) + 1 := by rw [IntKind.wrap_i64]; omega
   have hw10 : IntKind.i64.wrap (10 * ((i : Int) + 1)) = 10 * ((i : Int) + 1) := by rw [IntKind.wrap_i64]; omega
   have HSA : Hid ((seA i).length = i) := Lib.hid (by simp [seA])
   have HSL : Hid ((seL i).length = i) := Lib.hid (by simp [seL])
   have HIL : Hid (i < 14) := Lib.hid hlt
   obtain ⟨A9, c9, hva, -, -⟩ := HA.out.reads
   obtain ⟨B9, d9, hvl, -, -⟩ := HV.out.reads
   rw [HSA.out] at hva
   rw [HSL.out] at hvl
   obtain ⟨s1, hs1⟩ : ∃ s1, wr.heap.size = s1 := ⟨_, rfl⟩
   have HS1 := Lib.hid hs1
   go_upto_region 7 with (refine wpList_store_wh rfl 108 _ _ rfl s1 (by first | rfl | (rw [← HS1.out]; rfl)) 108 [.int .i64 0, .int .i64 0] [.int .i64 q1, .int .i64 q2] rfl (by rw [← HS1.out]; exact Wh.new wr 108 [.int .i64 0, .int .i64 0]) rfl (by kernel_rfl) (by kernel_rfl) ?_; intro w5 hr5 ho5 hz5; have HT5 := Lib.hid hr5.out; have hb5 : Below wr.heap.size wr w5 := only_new (by rw [HS1.out]; exact ho5.out); have HG5 := Lib.hid (HG.out.up hb5); have HA5 := Lib.hid (HA.out.up hb5); have HV5 := Lib.hid (HV.out.up hb5); have HB5 := Lib.hid (HB.out.trans (hb5.mono (by have := HW1.out; omega))); have HW5 : Hid (s0 + 3 ≤ w5.heap.size) := Lib.hid (Nat.le_trans HW1.out hb5.size); have HS5 : Hid (s0 + 3 ≤ s1 ∧ s1 < w5.heap.size) := Lib.hid ⟨by rw [← HS1.out]; exact HW1.out, hr5.out.lt⟩; clear hr5 ho5 hz5 hb5)
   have hx8 : Below w5.heap.size w5 (w5.alloc (.cells #[.int .i64 (10 * ((i : Int) + 1)), .int .i64 q1, .int .i64 0, .int .i64 0] 69)) := below_alloc_new _
   have HX8 := Lib.hid hx8
   have HR8 : Hid (RowAt lyA (w5.alloc (.cells #[.int .i64 (10 * ((i : Int) + 1)), .int .i64 q1, .int .i64 0, .int .i64 0] 69)) (some ⟨w5.heap.size, 0, none⟩) [⟨10 * ((i : Int) + 1), q1, 0, 0⟩]) := Lib.hid (row_one (R := lyA) (x := ⟨10 * ((i : Int) + 1), q1, 0, 0⟩) (Wh.new w5 69 [.int .i64 (10 * ((i : Int) + 1)), .int .i64 q1, .int .i64 0, .int .i64 0]))
   have HA8 := Lib.hid (HA5.out.up hx8)
   have c2 := HG5.out.at 2 _ rfl
   have d0 := HT5.out.at 0 _ rfl
   rw [hva] at c2
   rw [hva] at HA8 HA HA5 HG HG5
   clear hx8
   go_upto_region 8 with (at_builtin; refine wpList_app_row (R := lyA) rfl (.tmp 40) (.tmp 45) 24 rfl i0 _ 32 Tryz.underlying24 hi hz1 hz2 hz3 (by omega) rfl rfl HA8.out (some ⟨w5.heap.size, 0, none⟩) 1 1 [⟨10 * ((i : Int) + 1), q1, 0, 0⟩] rfl rfl HR8.out (by have := HSA.out; have := HIL.out; simp; omega) (by have := HW5.out; have := HX8.out.size; omega) ?_; intro v6 w6 hr6 hg6 hn6; obtain ⟨A6, c6, e6, -, -⟩ := hr6.out.reads; rw [show (seA i ++ [(⟨10 * ((i : Int) + 1), q1, 0, 0⟩ : Acc)]).length = i + 1 from by rw [List.length_append, HSA.out]; rfl] at e6; subst e6; have HR6 := Lib.hid hr6.out; have HG6 := Lib.hid hg6.out; have HN6 := Lib.hid hn6.out; clear hr6 hg6 hn6; have hk6 : Wh 53 w6 (s0 + 2) [.string nm, .string cu, .slice A9 i c9, vl, .bool jt] := (HG5.out.up HX8.out).same (HG6.out.block _ (by have := HX8.out.size; have := HW5.out; omega) (fun e => by have := (HA8.out.lt e.symm).1; omega)); have HK6 := Lib.hid hk6; have c2_ := hk6.at 2 _ rfl; have z2_ := hk6.frozen 2; clear hk6)
   obtain ⟨w7, hw7⟩ : ∃ w7, w6.setCell ⟨s0 + 2, 2, none⟩ (.slice A6 (i + 1) c6) = w7 := ⟨_, rfl⟩
   have HO7 : Hid (Only (fun k => k = s0 + 2) w6 w7) := Lib.hid (by rw [← hw7]; exact Only.setCell (S := fun k => k = s0 + 2) _ (a := ⟨s0 + 2, 2, none⟩) rfl _)
   have HG7 : Hid (Wh 53 w7 (s0 + 2) [.string nm, .string cu, .slice A6 (i + 1) c6, vl, .bool jt]) := Lib.hid (by rw [← hw7]; exact HK6.out.set 2 (.slice A6 (i + 1) c6))
   have HO6 : Hid (Only (fun k => (Value.slice A9 i c9).ownBlock = some k) w5 w6) := Lib.hid ((Only.of HX8.out).trans (Only.grown HG6.out fun k hk => hk))
   have HA7 : Hid (OwnR lyA 69 w7 (s0 + 3) (.slice A6 (i + 1) c6) (seA (i + 1))) := Lib.hid (by rw [HJA.out]; exact HR6.out.blk fun g hg => HO7.out.blk g (HR6.out.lt hg).2 (by have := (HR6.out.lt hg).1; show ¬ g = s0 + 2; omega))
   have HV7 : Hid (OwnR lyL 104 w7 (s0 + 3) vl (seL i)) := Lib.hid ((HV5.out.blk fun g hg => HO6.out.blk g (HV5.out.lt hg).2 (fun e => own_apart HA5.out HV5.out (by decide) e hg)).blk fun g hg => HO7.out.blk g (Nat.lt_of_lt_of_le (HV5.out.lt hg).2 HO6.out.size) (by have := (HV5.out.lt hg).1; show ¬ g = s0 + 2; omega))
   have HT7 : Hid (Wh 108 w7 s1 [.int .i64 q1, .int .i64 q2]) := Lib.hid ((HT5.out.only HO6.out (fun e => by have := (HA.out.lt e).2; have := HS1.out; omega)).only HO7.out (by show ¬ s1 = s0 + 2; have := HS5.out; omega))
   have HB7 : Hid (Below (s0 + 2) w4 w7) := Lib.hid ((HB5.out.trans (HO6.out.below (B := s0 + 2) (fun k hk => by have := (HA5.out.lt hk).1; omega) (by have := HW5.out; omega))).trans (HO7.out.below (B := s0 + 2) (fun k hk => Nat.le_of_eq hk.symm) (by have := HO6.out.size; have := HW5.out; omega)))
   have HW7 : Hid (s0 + 3 ≤ w7.heap.size) := Lib.hid (Nat.le_trans HW5.out (Nat.le_trans HO6.out.size HO7.out.size))
   rw [hw7]
   clear hw7 HG5 HA5 HV5 HT5 HB5 HW5 HO6 HO7 HK6 HR6 HG6 HN6 HA8 HR8 HX8 HA HG HV HB HW1 c2 c2_ z2_ d0
   have hx8 : Below w7.heap.size w7 (w7.alloc (.cells #[.int .i64 (10 * ((i : Int) + 1)), .int .i64 q2, .int .i64 (-25567)] 104)) := below_alloc_new _
   have HX8 := Lib.hid hx8
   have HR8 : Hid (RowAt lyL (w7.alloc (.cells #[.int .i64 (10 * ((i : Int) + 1)), .int .i64 q2, .int .i64 (-25567)] 104)) (some ⟨w7.heap.size, 0, none⟩) [⟨10 * ((i : Int) + 1), q2, -25567⟩]) := Lib.hid (row_one (R := lyL) (x := ⟨10 * ((i : Int) + 1), q2, -25567⟩) (Wh.new w7 104 [.int .i64 (10 * ((i : Int) + 1)), .int .i64 q2, .int .i64 (-25567)]))
   have HV8 := Lib.hid (HV7.out.up hx8)
   have c3 := HG7.out.at 3 _ rfl
   have d1 := HT7.out.at 1 _ rfl
   rw [hvl] at c3
   rw [hvl] at HV8 HV7 HG7
   clear hx8
   go_upto_region 9 with (at_builtin; refine wpList_app_row (R := lyL) rfl (.tmp 49) (.tmp 54) 51 rfl i1 _ 24 Tryz.underlying51 hj hy1 hy2 hy3 (by omega) rfl rfl HV8.out (some ⟨w7.heap.size, 0, none⟩) 1 1 [⟨10 * ((i : Int) + 1), q2, -25567⟩] rfl rfl HR8.out (by have := HSL.out; have := HIL.out; simp; omega) (by have := HW7.out; have := HX8.out.size; omega) ?_; intro v8 w8 hr8 hg8 hn8; obtain ⟨A8, c8, e8, -, -⟩ := hr8.out.reads; rw [show (seL i ++ [(⟨10 * ((i : Int) + 1), q2, -25567⟩ : Lnk)]).length = i + 1 from by rw [List.length_append, HSL.out]; rfl] at e8; subst e8; have HR9 := Lib.hid hr8.out; have HG8 := Lib.hid hg8.out; clear hr8 hg8 hn8; have hk8 : Wh 53 w8 (s0 + 2) [.string nm, .string cu, .slice A6 (i + 1) c6, .slice B9 i d9, .bool jt] := (HG7.out.up HX8.out).same (HG8.out.block _ (by have := HX8.out.size; have := HW7.out; omega) (fun e => by have := (HV8.out.lt e.symm).1; omega)); have HK8 := Lib.hid hk8; have c3_ := hk8.at 3 _ rfl; have z3_ := hk8.frozen 3; clear hk8)
   obtain ⟨w9, hw9⟩ : ∃ w9, w8.setCell ⟨s0 + 2, 3, none⟩ (.slice A8 (i + 1) c8) = w9 := ⟨_, rfl⟩
   have HO9 : Hid (Only (fun k => k = s0 + 2) w8 w9) := Lib.hid (by rw [← hw9]; exact Only.setCell (S := fun k => k = s0 + 2) _ (a := ⟨s0 + 2, 3, none⟩) rfl _)
   have HG9 : Hid (Wh 53 w9 (s0 + 2) [.string nm, .string cu, .slice A6 (i + 1) c6, .slice A8 (i + 1) c8, .bool jt]) := Lib.hid (by rw [← hw9]; exact HK8.out.set 3 (.slice A8 (i + 1) c8))
   have HO8 : Hid (Only (fun k => (Value.slice B9 i d9).ownBlock = some k) w7 w8) := Lib.hid ((Only.of HX8.out).trans (Only.grown HG8.out fun k hk => hk))
   have HV9 : Hid (OwnR lyL 104 w9 (s0 + 3) (.slice A8 (i + 1) c8) (seL (i + 1))) := Lib.hid (by rw [HJL.out]; exact HR9.out.blk fun g hg => HO9.out.blk g (HR9.out.lt hg).2 (by have := (HR9.out.lt hg).1; show ¬ g = s0 + 2; omega))
   have HA9 : Hid (OwnR lyA 69 w9 (s0 + 3) (.slice A6 (i + 1) c6) (seA (i + 1))) := Lib.hid ((HA7.out.blk fun g hg => HO8.out.blk g (HA7.out.lt hg).2 (fun e => own_apart HA7.out HV7.out (by decide) hg e)).blk fun g hg => HO9.out.blk g (Nat.lt_of_lt_of_le (HA7.out.lt hg).2 HO8.out.size) (by have := (HA7.out.lt hg).1; show ¬ g = s0 + 2; omega))
   have HB9 : Hid (Below (s0 + 2) w4 w9) := Lib.hid ((HB7.out.trans (HO8.out.below (B := s0 + 2) (fun k hk => by have := (HV7.out.lt hk).1; omega) (by have := HW7.out; omega))).trans (HO9.out.below (B := s0 + 2) (fun k hk => Nat.le_of_eq hk.symm) (by have := HO8.out.size; have := HW7.out; omega)))
   have HW9 : Hid (s0 + 3 ≤ w9.heap.size) := Lib.hid (Nat.le_trans HW7.out (Nat.le_trans HO8.out.size HO9.out.size))
   rw [hw9]
   clear hw9 HG7 HA7 HV7 HT7 HB7 HW7 HO8 HO9 HK8 HR9 HG8 HV8 HR8 HX8 c3 c3_ z3_ d1
   go_wp2_with fail
   go_roundg (14 - (i + 1))
   case measure => omega
   case rel => exact ⟨i + 1, by go_num, by omega, by omega, ⟨_, _, HG9, HA9, HV9⟩, HB9, HW9⟩
  ·obtain rfl : i = 14 := by omega
   obtain ⟨A, c, e1, -, -⟩ := HA.out.reads
   obtain ⟨B, d, e2, -, -⟩ := HV.out.reads
   rw [show (seA 14).length = 14 from rfl] at e1
   rw [show (seL 14).length = 14 from rfl] at e2
   subst e1 e2
   have HL : Hid ((Instr.loadAt 53 (.pointer (some ⟨s0 + 2, 0, none⟩))).run Tryz.prog wr = .ok (.agg #[.string nm, .string cu, .slice A 14 c, .slice B 14 d, .bool jt]) wr) := Lib.hid (HG.out.rg.load 0 53 [.string nm, .string cu, .slice A 14 c, .slice B 14 d, .bool jt] rfl _ Tryz.underlying53 rfl (by kernel_rfl))
   have HZ9 : Hid (Wh 53 wr s0 [.string ⟨#[]⟩, .string ⟨#[]⟩, .slice none 0 0, .slice none 0 0, .bool false]) := Lib.hid (HZ4.out.same (HB.out.block s0 (by omega)))
   have HM1 : True := trivial
   go_wp2_with (first
    | (clear HM1; refine wpList_load_is rfl 53 _ rfl (.pointer (some ⟨s0 + 2, 0, none⟩)) rfl (.agg #[.string nm, .string cu, .slice A 14 c, .slice B 14 d, .bool jt]) HL.out ?_)
    | (refine wpList_store_wh rfl 53 _ _ rfl s0 (by first | rfl | (rw [← HS0.out]; rfl)) 53 [.string ⟨#[]⟩, .string ⟨#[]⟩, .slice none 0 0, .slice none 0 0, .bool false] [.string nm, .string cu, .slice A 14 c, .slice B 14 d, .bool jt] rfl HZ9.out rfl (by kernel_rfl) (by kernel_rfl) ?_; intro W8 hr8 ho8 hz8))
   refine bodyPost_ret (v := .agg #[.string nm, .string cu, .slice A 14 c, .slice B 14 d, .bool jt]) (results_cell_mid Tryz.results36 _ _ s0 [.string nm, .string cu, .slice A 14 c, .slice B 14 d, .bool jt] _ (by first | rfl | (rw [← HS0.out]; rfl)) hr8.out.range Tryz.underlying53 rfl (by kernel_rfl)) rfl ⟨⟨⟨A, c, B, d⟩, rfl, ?_, ?_⟩, ?_⟩
   ·exact (HA.out.blk fun g hg => ho8.out.blk g (HA.out.lt hg).2 (by have := (HA.out.lt hg).1; show ¬ g = s0; omega)).low (by have := HS0.out; omega)
   ·exact (HV.out.blk fun g hg => ho8.out.blk g (HV.out.lt hg).2 (by have := (HV.out.lt hg).1; show ¬ g = s0; omega)).low (by have := HS0.out; omega)
   ·have h9 := (HB4.out.trans (HB.out.mono (by omega))).trans (ho8.out.below (B := s0) (fun k hk => Nat.le_of_eq hk.symm) (by have := HW1.out; omega))
    rw [HS0.out]
    exact h9
set_option maxRecDepth 100000 in
set_option maxHeartbeats 12800000 in
theorem gsgrp_any (w : World) : Calls Tryz.prog 16 #[] w fun e w' => (∃ A c E p0 p1 p2 p3, e = .returned (grpV (smpG A c E)) ∧ GrK w' (smpG A c E) smpL (smpEs p0 p1 p2 p3)) ∧ Below w.heap.size w w' := by
 obtain ⟨s0, hs0⟩ : ∃ s0, w.heap.size = s0 := ⟨_, rfl⟩
 obtain ⟨w2, hw2⟩ : ∃ w2, w.alloc (.cells #[.string ⟨#[]⟩, .int .i64 0, .int .i64 0, .int .i64 0, .slice none 0 0, .int .i64 0, .int .i64 0, .int .i64 0, .int .i64 0, .int .i64 0, .int .i64 0, .int .i64 0, .int .i64 0, .int .i64 0, .int .i64 0, .int .i64 0, .int .i64 0, .int .i64 0, .int .i64 0, .int .i64 0, .slice none 0 0] 29) = w2 := ⟨_, rfl⟩
 have HZ : Hid (Wh 29 w2 s0 [.string ⟨#[]⟩, .int .i64 0, .int .i64 0, .int .i64 0, .slice none 0 0, .int .i64 0, .int .i64 0, .int .i64 0, .int .i64 0, .int .i64 0, .int .i64 0, .int .i64 0, .int .i64 0, .int .i64 0, .int .i64 0, .int .i64 0, .int .i64 0, .int .i64 0, .int .i64 0, .int .i64 0, .slice none 0 0]) := Lib.hid (by rw [← hw2, ← hs0]; exact Wh.new w 29 [.string ⟨#[]⟩, .int .i64 0, .int .i64 0, .int .i64 0, .slice none 0 0, .int .i64 0, .int .i64 0, .int .i64 0, .int .i64 0, .int .i64 0, .int .i64 0, .int .i64 0, .int .i64 0, .int .i64 0, .int .i64 0, .int .i64 0, .int .i64 0, .int .i64 0, .int .i64 0, .int .i64 0, .slice none 0 0])
 have HB2 : Hid (Below s0 w w2) := Lib.hid (by rw [← hw2, ← hs0]; exact below_alloc_new _)
 have HS2 : Hid (w2.heap.size = s0 + 1) := Lib.hid (by rw [← hw2, ← hs0]; simp)
 have HS0 := Lib.hid hs0
 have HM1 : True := trivial
 have HM2 : True := trivial
 have HM3 : True := trivial
 have HM4 : True := trivial
 have HM5 : True := trivial
 go_enter Tryz.func16, Tryz.ntmps16
 go_wp2_with (first
  | (go_at_call 34; refine (gschart_any _).mono ?_; rintro e w3 ⟨rfl, hw3, hb3⟩; have HW3 := Lib.hid hw3; have HB3 := Lib.hid hb3; clear hw3 hb3; obtain ⟨g3, hg3⟩ : ∃ g3, w2.heap.size = g3 := ⟨_, rfl⟩; have HG3 := Lib.hid hg3; rw [hg3] at HW3)
  | (go_at_call 35; refine (gsrol_any _).mono ?_; rintro e w4 ⟨rfl, hb4⟩; have HW4 := Lib.hid (HW3.out.up hb4); have HB4 := Lib.hid (HB3.out.trans (hb4.mono HB3.out.size)); clear hb4 HW3 HB3)
  | (go_at_call 36; first
    | (clear HM1; refine (gsent_any _ _ _ _).mono ?_; rintro e w6 ⟨⟨p0, rfl, hp⟩, hb⟩; have HP0 : Hid (EOw w4.heap.size p0 w6) := Lib.hid hp; have HC6 := Lib.hid hb; clear hp hb)
    | (clear HM2; refine (gsent_any _ _ _ _).mono ?_; rintro e w7 ⟨⟨p1, rfl, hp⟩, hb⟩; have HP1 : Hid (EOw w4.heap.size p1 w7) := Lib.hid (EOw.low hp HC6.out.size); have HQ0 := Lib.hid (HP0.out.up hb); have HC7 := Lib.hid (HC6.out.trans (hb.mono HC6.out.size)); clear hp hb HC6 HP0)
    | (clear HM3; refine (gsent_any _ _ _ _).mono ?_; rintro e w8 ⟨⟨p2, rfl, hp⟩, hb⟩; have HP2 : Hid (EOw w4.heap.size p2 w8) := Lib.hid (EOw.low hp HC7.out.size); have HQ1 := Lib.hid (HP1.out.up hb); have HR0 := Lib.hid (HQ0.out.up hb); have HC8 := Lib.hid (HC7.out.trans (hb.mono HC7.out.size)); clear hp hb HC7 HP1 HQ0)
    | (clear HM4; refine (gsent_any _ _ _ _).mono ?_; rintro e w9 ⟨⟨p3, rfl, hp⟩, hb⟩; have HP3 : Hid (EOw w4.heap.size p3 w9) := Lib.hid (EOw.low hp HC8.out.size); have HQ2 := Lib.hid (HP2.out.up hb); have HR1 := Lib.hid (HQ1.out.up hb); have HT0 := Lib.hid (HR0.out.up hb); have HC9 := Lib.hid (HC8.out.trans (hb.mono HC8.out.size)); clear hp hb HC8 HP2 HQ1 HR0; obtain ⟨gE, hgE⟩ : ∃ gE, w9.heap.size = gE := ⟨_, rfl⟩; have HGE := Lib.hid hgE; obtain ⟨w10, hw10⟩ : ∃ w10, w9.alloc (.cells #[.string ⟨#[112, 97, 114, 101, 110, 116]⟩, .string ⟨#[69, 85, 82]⟩, .slice p0.A 14 p0.c, .slice p0.B 14 p0.d, .bool false, .string ⟨#[110, 111, 114, 116, 104]⟩, .string ⟨#[69, 85, 82]⟩, .slice p1.A 14 p1.c, .slice p1.B 14 p1.d, .bool false, .string ⟨#[119, 101, 115, 116]⟩, .string ⟨#[85, 83, 68]⟩, .slice p2.A 14 p2.c, .slice p2.B 14 p2.d, .bool false, .string ⟨#[106, 111, 105, 110, 116]⟩, .string ⟨#[85, 83, 68]⟩, .slice p3.A 14 p3.c, .slice p3.B 14 p3.d, .bool true] 53) = w10 := ⟨_, rfl⟩; have HE10 : Hid (Wh 53 w10 gE [.string ⟨#[112, 97, 114, 101, 110, 116]⟩, .string ⟨#[69, 85, 82]⟩, .slice p0.A 14 p0.c, .slice p0.B 14 p0.d, .bool false, .string ⟨#[110, 111, 114, 116, 104]⟩, .string ⟨#[69, 85, 82]⟩, .slice p1.A 14 p1.c, .slice p1.B 14 p1.d, .bool false, .string ⟨#[119, 101, 115, 116]⟩, .string ⟨#[85, 83, 68]⟩, .slice p2.A 14 p2.c, .slice p2.B 14 p2.d, .bool false, .string ⟨#[106, 111, 105, 110, 116]⟩, .string ⟨#[85, 83, 68]⟩, .slice p3.A 14 p3.c, .slice p3.B 14 p3.d, .bool true]) := Lib.hid (by rw [← hw10, ← hgE]; exact Wh.new w9 53 [.string ⟨#[112, 97, 114, 101, 110, 116]⟩, .string ⟨#[69, 85, 82]⟩, .slice p0.A 14 p0.c, .slice p0.B 14 p0.d, .bool false, .string ⟨#[110, 111, 114, 116, 104]⟩, .string ⟨#[69, 85, 82]⟩, .slice p1.A 14 p1.c, .slice p1.B 14 p1.d, .bool false, .string ⟨#[119, 101, 115, 116]⟩, .string ⟨#[85, 83, 68]⟩, .slice p2.A 14 p2.c, .slice p2.B 14 p2.d, .bool false, .string ⟨#[106, 111, 105, 110, 116]⟩, .string ⟨#[85, 83, 68]⟩, .slice p3.A 14 p3.c, .slice p3.B 14 p3.d, .bool true]); have HB10 : Hid (Below w9.heap.size w9 w10) := Lib.hid (by rw [← hw10]; exact below_alloc_new _)))
  | (refine wpList_build_is rfl 29 _ rfl [(0, .string ⟨#[69, 85, 82]⟩), (1, .agg #[.int .i64 2026, .int .i64 1, .int .i64 36]), (2, .slice (some ⟨g3, 0, none⟩) 26 26), (3, .agg #[.int .i64 1500, .int .i64 1600, .int .i64 1700, .int .i64 1200, .int .i64 3100, .int .i64 3200, .int .i64 3300, .int .i64 3400, .int .i64 3500, .int .i64 4500, .int .i64 4600, .int .i64 4700, .int .i64 5500, .int .i64 5600, .int .i64 5700]), (4, .slice (some ⟨gE, 0, none⟩) 4 4)] rfl (.agg #[.string ⟨#[69, 85, 82]⟩, .int .i64 2026, .int .i64 1, .int .i64 36, .slice (some ⟨g3, 0, none⟩) 26 26, .int .i64 1500, .int .i64 1600, .int .i64 1700, .int .i64 1200, .int .i64 3100, .int .i64 3200, .int .i64 3300, .int .i64 3400, .int .i64 3500, .int .i64 4500, .int .i64 4600, .int .i64 4700, .int .i64 5500, .int .i64 5600, .int .i64 5700, .slice (some ⟨gE, 0, none⟩) 4 4]) (run_build _ 29 _ _ (by kernel_rfl)) ?_)
  | (refine wpList_store_wh rfl 29 _ _ rfl s0 rfl 29 [.string ⟨#[]⟩, .int .i64 0, .int .i64 0, .int .i64 0, .slice none 0 0, .int .i64 0, .int .i64 0, .int .i64 0, .int .i64 0, .int .i64 0, .int .i64 0, .int .i64 0, .int .i64 0, .int .i64 0, .int .i64 0, .int .i64 0, .int .i64 0, .int .i64 0, .int .i64 0, .int .i64 0, .slice none 0 0] [.string ⟨#[69, 85, 82]⟩, .int .i64 2026, .int .i64 1, .int .i64 36, .slice (some ⟨g3, 0, none⟩) 26 26, .int .i64 1500, .int .i64 1600, .int .i64 1700, .int .i64 1200, .int .i64 3100, .int .i64 3200, .int .i64 3300, .int .i64 3400, .int .i64 3500, .int .i64 4500, .int .i64 4600, .int .i64 4700, .int .i64 5500, .int .i64 5600, .int .i64 5700, .slice (some ⟨gE, 0, none⟩) 4 4] rfl ((HZ.out.up HB4.out).up HC9.out |>.up HB10.out) rfl (by kernel_rfl) (by kernel_rfl) ?_; intro w11 hr11 ho11 hz11))
 refine bodyPost_ret (v := .agg #[.string ⟨#[69, 85, 82]⟩, .int .i64 2026, .int .i64 1, .int .i64 36, .slice (some ⟨g3, 0, none⟩) 26 26, .int .i64 1500, .int .i64 1600, .int .i64 1700, .int .i64 1200, .int .i64 3100, .int .i64 3200, .int .i64 3300, .int .i64 3400, .int .i64 3500, .int .i64 4500, .int .i64 4600, .int .i64 4700, .int .i64 5500, .int .i64 5600, .int .i64 5700, .slice (some ⟨gE, 0, none⟩) 4 4]) (results_cell_mid Tryz.results16 _ _ s0 [.string ⟨#[69, 85, 82]⟩, .int .i64 2026, .int .i64 1, .int .i64 36, .slice (some ⟨g3, 0, none⟩) 26 26, .int .i64 1500, .int .i64 1600, .int .i64 1700, .int .i64 1200, .int .i64 3100, .int .i64 3200, .int .i64 3300, .int .i64 3400, .int .i64 3500, .int .i64 4500, .int .i64 4600, .int .i64 4700, .int .i64 5500, .int .i64 5600, .int .i64 5700, .slice (some ⟨gE, 0, none⟩) 4 4] _ rfl hr11.out.range Tryz.underlying29 rfl (by kernel_rfl)) rfl ⟨⟨some ⟨g3, 0, none⟩, 26, some ⟨gE, 0, none⟩, p0, p1, p2, p3, rfl, ?_⟩, ?_⟩
 ·have hS2 := HS2.out
  have hG3 := HG3.out
  have h4s := HB4.out.size
  have key : ∀ p, EOw w4.heap.size p w9 → EOw w4.heap.size p w11 := fun p h => by
   have h1 := h.up HB10.out
   have k : ∀ j, w4.heap.size ≤ j → j < w10.heap.size → w11.heap[j]? = w10.heap[j]? := fun j h1 h2 => ho11.out.blk j h2 (by show ¬ j = s0; omega)
   exact ⟨h1.1.blk fun j hj => k j (h1.1.lt hj).1 (h1.1.lt hj).2, h1.2.blk fun j hj => k j (h1.2.lt hj).1 (h1.2.lt hj).2⟩
  have hE : Wh 53 w11 gE [.string ⟨#[112, 97, 114, 101, 110, 116]⟩, .string ⟨#[69, 85, 82]⟩, .slice p0.A 14 p0.c, .slice p0.B 14 p0.d, .bool false, .string ⟨#[110, 111, 114, 116, 104]⟩, .string ⟨#[69, 85, 82]⟩, .slice p1.A 14 p1.c, .slice p1.B 14 p1.d, .bool false, .string ⟨#[119, 101, 115, 116]⟩, .string ⟨#[85, 83, 68]⟩, .slice p2.A 14 p2.c, .slice p2.B 14 p2.d, .bool false, .string ⟨#[106, 111, 105, 110, 116]⟩, .string ⟨#[85, 83, 68]⟩, .slice p3.A 14 p3.c, .slice p3.B 14 p3.d, .bool true] := HE10.out.only ho11.out (by show ¬ gE = s0; have := HGE.out; have := HC9.out.size; omega)
  have hA : Wh 69 w11 g3 (lyA.all smpL) := ((HW4.out.up HC9.out).up HB10.out).only ho11.out (by show ¬ g3 = s0; omega)
  refine ⟨smp_len, rfl, acc_row (fun _ => ⟨g3, 0, rfl, hA.lt, hA.range⟩), ents_row (fun _ => ⟨gE, 0, rfl, hE.lt, hE.range⟩), fun e he => ?_⟩
  simp [smpEs] at he
  rcases he with rfl | rfl | rfl | rfl
  ·exact (key _ HT0.out).k
  ·exact (key _ HR1.out).k
  ·exact (key _ HQ2.out).k
  ·exact (key _ HP3.out).k
 ·have h4s := HB4.out.size
  have h9s := HC9.out.size
  have hS2 := HS2.out
  have h1 : Below s0 w4 w9 := HC9.out.mono (by omega)
  have h2 : Below s0 w9 w10 := HB10.out.mono (by omega)
  have h3 : Below s0 w10 w11 := ho11.out.below (fun k hk => Nat.le_of_eq hk.symm) (by have := HB10.out.size; omega)
  have h4 : Below s0 w2 w4 := HB4.out.mono (by omega)
  have h9 := HB2.out.trans (h4.trans (h1.trans (h2.trans h3)))
  rw [HS0.out]
  exact h9
def fewR (e : Ent) : Bool := decide (e.n ≤ 40) && (decide (e.m ≤ 60) && !decide ((60 : Int) < wrap64 ((e.nm.size : Int) + (e.cur.size : Int))))
def few10 (g : Grp) (G : List Ent) : Bool := allTo (fun i => fewR (G.getD i ent0)) G.length && (decide (g.n ≤ 60) && (decide (g.m ≤ 14) && decide ((g.cur.size : Int) ≤ 20)))
theorem few_sm {g : Grp} {G : List Ent} (h : few10 g G = true) : Sm g G := by
 unfold few10 at h
 simp only [Bool.and_eq_true, decide_eq_true_eq] at h
 obtain ⟨h1, h2, h3, -⟩ := h
 refine ⟨h2, h3, fun e he => ?_⟩
 obtain ⟨i, hi, rfl⟩ := mem_getD_acc (d := ent0) he
 have h4 := allTo_is.1 h1 i hi
 unfold fewR at h4
 simp only [Bool.and_eq_true, decide_eq_true_eq] at h4
 exact ⟨by omega, h4.2.1⟩
set_option maxRecDepth 20000 in
set_option maxHeartbeats 1600000 in
theorem rfew10_is (g : Grp) (G : List Ent) (w : World) (he : EntsAt w g.E G) (lg : G.length = g.m) (hmx : g.m ≤ 9223372036854775807) :
  Calls Tryz.prog 6 #[grpV g] w fun e w' => e = .returned (.bool (few10 g G)) ∧ Below w.heap.size w w' := by
 have hB := below_alloc_new (w := w) (.cells #[.string g.cur, .int .i64 g.cy, .int .i64 g.cm, .int .i64 g.cp, .slice g.A g.n g.c, .int .i64 g.r0, .int .i64 g.r1, .int .i64 g.r2, .int .i64 g.r3, .int .i64 g.r4, .int .i64 g.r5, .int .i64 g.r6, .int .i64 g.r7, .int .i64 g.r8, .int .i64 g.r9, .int .i64 g.r10, .int .i64 g.r11, .int .i64 g.r12, .int .i64 g.r13, .int .i64 g.r14, .slice g.E g.m g.d] 29)
 have hG := gb_new w 29 g
 have hv : few10 g G = (allTo (fun i => fewR (G.getD i ent0)) G.length && (decide (g.n ≤ 60) && (decide (g.m ≤ 14) && decide ((g.cur.size : Int) ≤ 20)))) := rfl
 rw [lg] at hv
 generalize few10 g G = r at *
 obtain ⟨P, hP⟩ : ∃ P : Nat → Bool, (fun i => fewR (G.getD i ent0)) = P := ⟨_, rfl⟩
 have hpk : ∀ k, P k = fewR (G.getD k ent0) := fun k => by rw [← hP]
 rw [hP] at hv
 have HV := Lib.hid hv
 have HPK := Lib.hid hpk
 clear hv hpk hP
 obtain ⟨s0, hs0⟩ : ∃ s0, w.heap.size = s0 := ⟨_, rfl⟩
 rw [hs0] at hB hG ⊢
 have HM := Lib.hid lg
 have HZ := Lib.hid he
 have HS0 := Lib.hid hs0
 have HG := Lib.hid hG
 clear he lg hG
 go_enter Tryz.func6, Tryz.ntmps6
 go_wp2_with fail
 clear hs0
 go_loopg [3] g.m (fun kx s3 wr => ∃ k : Nat, s3 = .int .i64 k ∧ k ≤ g.m ∧ g.m - k ≤ kx ∧ Hid (allTo P k = true) ∧ Hid (GB wr s0 g) ∧ Below s0 w wr)
 case atStart => exact ⟨0, rfl, by omega, by omega, Lib.hid rfl, HG, hB⟩
 case round =>
  clear hB HG
  obtain ⟨k, rfl, hk, hkx, HN, HG, hB⟩ := hrel
  have c20 := HG.out.c20
  have hsz : s0 ≤ wr.heap.size := by have := hB.size; have := HS0.out; omega
  by_cases hlt : k < g.m
  ·have hltz : (k : Int) < (g.m : Int) := by omega
   obtain ⟨b, off, eE, hbw, hcs⟩ := ent_at HZ.out (k := k) (by rw [HM.out]; omega)
   obtain ⟨c0, c1, c2, c3, c4⟩ := hcs.up hB (by have := HS0.out; omega)
   have hno : P k = false → r = false := fun h => by rw [HV.out, allTo_no hlt h]; rfl
   have hnx : P k = true → Hid (allTo P (k + 1) = true) := fun h => Lib.hid (by show (allTo P k && P k) = true; rw [HN.out, h]; rfl)
   have hpk := HPK.out k
   obtain ⟨x, hx⟩ : ∃ x, G.getD k ent0 = x := ⟨_, rfl⟩
   rw [hx] at c0 c1 c2 c3 c4 hpk
   have hfr : fewR x = (decide (x.n ≤ 40) && (decide (x.m ≤ 60) && !decide ((60 : Int) < wrap64 ((x.nm.size : Int) + (x.cur.size : Int))))) := rfl
   rw [hfr] at hpk
   generalize P k = pk at *
   obtain ⟨z0, z1, z2, z3, z4, zlt⟩ := eb_new wr 53 x.nm x.cur x.A x.n x.c x.B x.m x.d x.jt
   have hB1 : Below s0 w (wr.alloc (.cells #[.string x.nm, .string x.cur, .slice x.A x.n x.c, .slice x.B x.m x.d, .bool x.jt] 53)) := hB.alloc hsz _
   have HG1 := Lib.hid (HG.out.up (below_alloc_new (w := wr) (.cells #[.string x.nm, .string x.cur, .slice x.A x.n x.c, .slice x.B x.m x.d, .bool x.jt] 53)))
   clear hcs hx HN HG hfr
   rcases Nat.lt_or_ge 40 x.n with h1 | h1
   ·have e1 : decide ((40 : Int) < (x.n : Int)) = true := decide_eq_true (by omega)
    have HR := Lib.hid (hno (by rw [hpk, decide_eq_false (show ¬ x.n ≤ 40 by omega)]; rfl))
    clear hnx h1 hno hpk
    go_wp2_with fail
    go_ret
    exact ⟨by rw [HR.out]; rfl, hB1⟩
   have e1 : decide ((40 : Int) < (x.n : Int)) = false := decide_eq_false (by omega)
   rcases Nat.lt_or_ge 60 x.m with h2 | h2
   ·have e2 : decide ((60 : Int) < (x.m : Int)) = true := decide_eq_true (by omega)
    have HR := Lib.hid (hno (by rw [hpk, decide_eq_false (show ¬ x.m ≤ 60 by omega)]; simp))
    clear hnx h1 h2 hno hpk
    go_wp2_with fail
    go_ret
    exact ⟨by rw [HR.out]; rfl, hB1⟩
   have e2 : decide ((60 : Int) < (x.m : Int)) = false := decide_eq_false (by omega)
   rw [decide_eq_true h1, decide_eq_true h2] at hpk
   clear h1 h2
   cases e3 : decide ((60 : Int) < wrap64 ((x.nm.size : Int) + (x.cur.size : Int)))
   ·have HN2 := hnx (by rw [hpk, e3]; rfl)
    clear hnx hno hpk
    go_wp2_with fail
    go_roundg (g.m - (k + 1))
    case measure => omega
    case rel => exact ⟨k + 1, by go_num, by omega, by omega, HN2, HG1, hB1⟩
   ·have HR := Lib.hid (hno (by rw [hpk, e3]; rfl))
    clear hnx hno hpk
    go_wp2_with fail
    go_ret
    exact ⟨by rw [HR.out]; rfl, hB1⟩
  ·have hke : k = g.m := by omega
   have hltz : ¬ (k : Int) < (g.m : Int) := by omega
   have hv2 := HV.out
   rw [← hke, HN.out, Bool.true_and] at hv2
   have hm9 : decide (k ≤ 14) = decide (g.m ≤ 14) := by rw [hke]
   have c4 := HG.out.c4
   have c0 := HG.out.c0
   clear hke
   rcases Nat.lt_or_ge 60 g.n with h1 | h1
   ·have e1 : decide ((g.n : Int) ≤ 60) = false := decide_eq_false (by omega)
    have HR : Hid (r = false) := Lib.hid (by rw [hv2, decide_eq_false (show ¬ g.n ≤ 60 by omega)]; rfl)
    clear h1 hv2
    go_wp2_with fail
    go_ret
    exact ⟨by rw [HR.out]; rfl, hB⟩
   have e1 : decide ((g.n : Int) ≤ 60) = true := decide_eq_true (by omega)
   rcases Nat.lt_or_ge 14 g.m with h2 | h2
   ·have e2 : decide ((g.m : Int) ≤ 14) = false := decide_eq_false (by omega)
    have HR : Hid (r = false) := Lib.hid (by rw [hv2, hm9, decide_eq_false (show ¬ g.m ≤ 14 by omega)]; simp)
    clear h1 h2 hv2 hm9
    go_wp2_with fail
    go_ret
    exact ⟨by rw [HR.out]; rfl, hB⟩
   have e2 : decide ((g.m : Int) ≤ 14) = true := decide_eq_true (by omega)
   have HR : Hid (r = decide ((g.cur.size : Int) ≤ 20)) := Lib.hid (by rw [hv2, hm9, decide_eq_true h1, decide_eq_true h2]; rfl)
   clear h1 h2 hv2 hm9
   go_wp2_with fail
   go_ret
   exact ⟨by rw [HR.out]; rfl, hB⟩
open Go.RowKit Go.Maps
theorem smp_smy (A : Option Addr) (c : Nat) (E : Option Addr) (p0 p1 p2 p3 : EAd) : Sm (smpG A c E) (smpEs p0 p1 p2 p3) := ⟨by show 26 ≤ 60; omega, by show 4 ≤ 14; omega, fun e he => by
 simp [smpEs] at he
 rcases he with rfl | rfl | rfl | rfl <;> exact ⟨by show 14 ≤ 60; omega, by show 14 ≤ 60; omega⟩⟩
theorem smp_wy (A : Option Addr) (c : Nat) (E : Option Addr) (p0 p1 p2 p3 : EAd) : GrW (smpG A c E) smpL (smpEs p0 p1 p2 p3) := ⟨by show 3 ≤ maxLen; unfold maxLen; omega, (by
 have h : ((smpG A c E).R.all fun x => (Lit.int .i64 x).wf) = true := by kernel_rfl
 exact fun x hx => List.all_eq_true.1 h x hx), fun e he => by
 simp [smpEs] at he
 rcases he with rfl | rfl | rfl | rfl
 ·exact ⟨by show 6 ≤ maxLen; unfold maxLen; omega, by show 3 ≤ maxLen; unfold maxLen; omega⟩
 ·exact ⟨by show 5 ≤ maxLen; unfold maxLen; omega, by show 3 ≤ maxLen; unfold maxLen; omega⟩
 ·exact ⟨by show 4 ≤ maxLen; unfold maxLen; omega, by show 3 ≤ maxLen; unfold maxLen; omega⟩
 ·exact ⟨by show 5 ≤ maxLen; unfold maxLen; omega, by show 3 ≤ maxLen; unfold maxLen; omega⟩⟩
def SgV (W : World) (V : Value) : Prop := ∃ A c E p0 p1 p2 p3, V = grpV (smpG A c E) ∧ GrK W (smpG A c E) smpL (smpEs p0 p1 p2 p3)
theorem sg_place {A : Option Addr} {c : Nat} {E : Option Addr} {p0 p1 p2 p3 : EAd} : (plN (smpG A c E) smpL (smpEs p0 p1 p2 p3) 4000 20818 11 = 4000 ∧ plE (smpG A c E) smpL (smpEs p0 p1 p2 p3) 4000 11 = 0) ∧ (plN (smpG A c E) smpL (smpEs p0 p1 p2 p3) 4000 20818 12 = 3300 ∧ plE (smpG A c E) smpL (smpEs p0 p1 p2 p3) 4000 12 = 0) := by
 unfold plN plE cyE
 rw [if_pos (smp_ok A c E p0 p1 p2 p3), if_pos (smp_ok A c E p0 p1 p2 p3)]
 exact ⟨⟨by kernel_rfl, by kernel_rfl⟩, by kernel_rfl, by kernel_rfl⟩
theorem sg_call {W : World} {V : Value} (h : SgV W V) : Calls Tryz.prog 15 #[V, .int .i64 4000, .int .i64 20818, .int .i64 11] W (fun e w' => e = .returned (.tuple #[.int .i64 4000, .int .i64 0]) ∧ Below W.heap.size W w') ∧ Calls Tryz.prog 15 #[V, .int .i64 4000, .int .i64 20818, .int .i64 12] W (fun e w' => e = .returned (.tuple #[.int .i64 3300, .int .i64 0]) ∧ Below W.heap.size W w') := by
 obtain ⟨A, c, E, p0, p1, p2, p3, rfl, hk⟩ := h
 have h1 := yplac_any (smpG A c E) smpL (smpEs p0 p1 p2 p3) 4000 20818 11 W hk (smp_smy A c E p0 p1 p2 p3) (smp_wy A c E p0 p1 p2 p3) (by kernel_rfl)
 have h2 := yplac_any (smpG A c E) smpL (smpEs p0 p1 p2 p3) 4000 20818 12 W hk (smp_smy A c E p0 p1 p2 p3) (smp_wy A c E p0 p1 p2 p3) (by kernel_rfl)
 rw [sg_place.1.1, sg_place.1.2] at h1
 rw [sg_place.2.1, sg_place.2.2] at h2
 exact ⟨h1, h2⟩
set_option maxRecDepth 100000 in
set_option maxHeartbeats 6400000 in
theorem yawake_any (w : World) : Calls Tryz.prog 5 #[] w fun e w' => e = .returned (.bool true) ∧ Below w.heap.size w w' := by
 have HSG : Hid (∀ w, Calls Tryz.prog 16 #[] w fun e w' => (∃ V, e = .returned V ∧ SgV w' V) ∧ Below w.heap.size w w') := Lib.hid (fun w => (gsgrp_any w).mono fun e w' ⟨⟨A, c, E, p0, p1, p2, p3, h1, h2⟩, hb⟩ => ⟨⟨_, h1, A, c, E, p0, p1, p2, p3, rfl, h2⟩, hb⟩)
 have HBC : Hid (Below w.heap.size w w) := Lib.hid (Below.refl _ _)
 have HM1 : True := trivial
 have HM2 : True := trivial
 have HM3 : True := trivial
 have HM4 : True := trivial
 go_enter Tryz.func5, Tryz.ntmps5
 go_wp2_with (first
  | (go_at_call 16; clear HM3; refine (HSG.out _).mono ?_; rintro r w3 ⟨⟨V1, rfl, hv⟩, hb⟩; have HV1 := Lib.hid hv; have hB3 := Lib.hid (HBC.out.trans (hb.mono HBC.out.size)); clear HBC; have HBC := hB3; clear hB3 hv hb)
  | (clear HM1; go_at_call 15; refine (sg_call HV1.out).1.mono ?_; rintro r w4 ⟨rfl, hb⟩; have hB3 := Lib.hid (HBC.out.trans (hb.mono HBC.out.size)); clear HBC; have HBC := hB3; clear hB3 hb)
  | (go_at_call 16; clear HM4; refine (HSG.out _).mono ?_; rintro r w5 ⟨⟨V2, rfl, hv⟩, hb⟩; have HV2 := Lib.hid hv; have hB3 := Lib.hid (HBC.out.trans (hb.mono HBC.out.size)); clear HBC; have HBC := hB3; clear hB3 hv hb)
  | (clear HM2; go_at_call 15; refine (sg_call HV2.out).2.mono ?_; rintro r w6 ⟨rfl, hb⟩; have hB3 := Lib.hid (HBC.out.trans (hb.mono HBC.out.size)); clear HBC; have HBC := hB3; clear hB3 hb))
 go_ret
 exact ⟨rfl, HBC.out⟩
theorem infoDt : (Tryz.prog.info? 60).map (fun i => (i.zero, i.size, i.bytes)) = some (some (.agg #[.int .i64 0, .int .i64 0, .int .i64 0]), 3, 24) := by kernel_rfl
def toP (X : List Lnk) (v : Value) (W : World) : Prop := ∃ A c, v = .slice A X.length c ∧ LnkAt W A X
theorem toP.up {X : List Lnk} {v : Value} {W W' : World} (h : toP X v W) (hb : Below W.heap.size W W') : toP X v W' := by
 obtain ⟨A, c, h1, h2⟩ := h
 exact ⟨A, c, h1, h2.up hb⟩
set_option maxRecDepth 100000 in
set_option maxHeartbeats 6400000 in
theorem yto_any (A : Option Addr) (c : Nat) (X : List Lnk) (w : World) (hz : LnkAt w A X) (hl : X.length ≤ 1000) : Calls Tryz.prog 8 #[.slice A X.length c] w fun e w' => (∃ v, e = .returned v ∧ toP X v w') ∧ Below w.heap.size w w' := by
 obtain ⟨i0, hi, hz1, hz2, hz3⟩ := info_parts infoDt
 obtain ⟨n, hn⟩ : ∃ n, X.length = n := ⟨_, rfl⟩
 have HN := Lib.hid hn
 have HZ := Lib.hid hz
 have HBC : Hid (Below w.heap.size w w) := Lib.hid (Below.refl _ _)
 have HO : Hid (OwnR lyL 60 w w.heap.size (.slice none 0 0) (X.take 0)) := Lib.hid OwnR.nil
 rw [hn] at hl ⊢
 have HTP : Hid (∀ W v, OwnR lyL 60 W w.heap.size v X → toP X v W) := Lib.hid (fun W v h => by
  obtain ⟨A, c, h1, h2, -⟩ := h.reads
  exact ⟨A, c, h1, lnk_row.1 h2⟩)
 have HTE : Hid (X.take n = X) := Lib.hid (List.take_of_length_le (by omega))
 clear hn hz
 go_enter Tryz.func8, Tryz.ntmps8
 go_wp2_with fail
 go_loopg [3, 8] n (fun kx s3 s8 wr => ∃ k : Nat, s8 = .int .i64 k ∧ k ≤ n ∧ n - k ≤ kx ∧ Hid (OwnR lyL 60 wr w.heap.size s3 (X.take k)) ∧ Hid (Below w.heap.size w wr))
 case atStart => exact ⟨0, rfl, by omega, by omega, HO, HBC⟩
 case round =>
  clear HO HBC
  obtain ⟨k, rfl, hk, hkx, HO, HBC⟩ := hrel
  by_cases hlt : k < n
  ·have hltz : (k : Int) < (n : Int) := by omega
   obtain ⟨bb, off, rfl, hbw, hcs⟩ := HZ.out (by rw [HN.out]; omega)
   have HA3 := Lib.hid (hcs k (by rw [HN.out]; exact hlt))
   have HTK := Lib.hid (take_succ_getD (d := lnk0) (L := X) (i := k) (by rw [HN.out]; exact hlt))
   have HLK : Hid ((X.take k).length ≤ 1000) := Lib.hid (by rw [List.length_take]; omega)
   generalize X.getD k lnk0 = x at *
   obtain ⟨r0, r1, r2⟩ := HA3.out.up HBC.out hbw
   obtain ⟨sr, hsr⟩ : ∃ sr, wr.heap.size = sr := ⟨_, rfl⟩
   obtain ⟨w4, hw4⟩ : ∃ w4, wr.alloc (.cells #[.int .i64 x.frm, .int .i64 x.tgt, .int .i64 x.since] 46) = w4 := ⟨_, rfl⟩
   have HB5 : Hid (Below wr.heap.size wr w4) := Lib.hid (by rw [← hw4]; exact below_alloc_new _)
   have HC5 : Hid (Wh 46 w4 sr [.int .i64 x.frm, .int .i64 x.tgt, .int .i64 x.since]) := Lib.hid (by rw [← hw4, ← hsr]; exact Wh.new wr _ _)
   have HLD : Hid ((Instr.loadAt 46 (.pointer (some ⟨sr, 0, none⟩))).run Tryz.prog w4 = .ok (.agg #[.int .i64 x.frm, .int .i64 x.tgt, .int .i64 x.since]) w4) := Lib.hid (HC5.out.rg.load 0 46 [.int .i64 x.frm, .int .i64 x.tgt, .int .i64 x.since] rfl _ Tryz.underlying46 rfl (by kernel_rfl))
   have HB6 : Hid (Below w4.heap.size w4 (w4.alloc (.cells #[.int .i64 x.frm, .int .i64 x.tgt, .int .i64 x.since] 60))) := Lib.hid (below_alloc_new _)
   have HWX : Hid (Wh 60 (w4.alloc (.cells #[.int .i64 x.frm, .int .i64 x.tgt, .int .i64 x.since] 60)) w4.heap.size (celL x)) := Lib.hid (Wh.new w4 _ _)
   have HO6 := Lib.hid ((HO.out.up HB5.out).up HB6.out)
   have HBN := Lib.hid ((HBC.out.trans (HB5.out.mono HBC.out.size)).trans (HB6.out.mono (Nat.le_trans HBC.out.size HB5.out.size)))
   have HSN : Hid (w.heap.size ≤ (w4.alloc (.cells #[.int .i64 x.frm, .int .i64 x.tgt, .int .i64 x.since] 60)).heap.size) := Lib.hid HBN.out.size
   clear hcs hbw
   go_upto_region 5 with fail
   clear r0 r1 r2 hsr hw4
   go_wp2_with (first
    | (refine wpList_load_is rfl 46 _ rfl (.pointer (some ⟨sr, 0, none⟩)) rfl (.agg #[.int .i64 x.frm, .int .i64 x.tgt, .int .i64 x.since]) HLD.out ?_)
    | (at_builtin; refine wpList_app_row (R := lyL) rfl _ _ 37 rfl i0 _ 24 Tryz.underlying37 hi hz1 hz2 hz3 (by omega) rfl rfl HO6.out (some ⟨w4.heap.size, 0, none⟩) 1 1 [x] rfl rfl (row_one HWX.out) (by have := HLK.out; omega) HSN.out ?_; intro v9 w9 hr9 hg9 hb9; have HR9 : Hid (OwnR lyL 60 w9 w.heap.size v9 (X.take (k + 1))) := Lib.hid (by rw [HTK.out]; exact hr9.out); have HB9 : Hid (Below w.heap.size w w9) := Lib.hid ((Below.refl w.heap.size w).trans (HBN.out.trans ((Only.grown hg9.out (S := fun g => w.heap.size ≤ g) (fun g hg => (HO6.out.lt hg).1)).below (fun g hg => hg) HSN.out))); clear hr9 hg9 hb9))
   go_roundg (n - (k + 1))
   case measure => omega
   case rel => exact ⟨k + 1, by go_num, by omega, by omega, HR9, HB9⟩
  ·obtain rfl : k = n := by omega
   have hltz : ¬ (k : Int) < (k : Int) := by omega
   have hO := HO.out
   rw [HTE.out] at hO
   have HTX := Lib.hid (HTP.out _ _ hO)
   clear hO
   go_wp2_with fail
   go_ret
   exact ⟨⟨_, rfl, HTX.out⟩, HBC.out⟩
def cyTo (X : List Lnk) : AK.Fact Below0 := ⟨toP X, fun _ _ _ hb h => h.up hb⟩
def caP (E : Int) (l : List Bal) (v : Value) (W : World) : Prop := ∃ v9, v = .tuple #[v9, .int .i64 E] ∧ SlB W v9 l
def cyCa (E : Int) (l : List Bal) : AK.Fact Below0 := ⟨caP E l, fun _ _ _ hb ⟨v9, h1, h2⟩ => ⟨v9, h1, h2.up hb⟩⟩
def cySl (l : List Bal) : AK.Fact Below0 := ⟨fun v W => SlB W v l, fun _ _ _ hb h => h.up hb⟩
set_option maxRecDepth 20000 in
set_option maxHeartbeats 1600000 in
theorem rsameb_any (A B : Option Addr) (c d : Nat) (zs ys : List Bal) (w : World) (hz : BalAt w A zs) (hy : BalAt w B ys) (hl : zs.length ≤ 100000) (hl2 : ys.length ≤ 100000) :
  Calls Tryz.prog 10 #[.slice A zs.length c, .slice B ys.length d] w fun e w' => e = .returned (.bool (decide (zs = ys))) ∧ Below w.heap.size w w' := by
 have hB := Below.refl w.heap.size w
 obtain ⟨n, hn⟩ : ∃ n, zs.length = n := ⟨_, rfl⟩
 obtain ⟨m, hm⟩ : ∃ m, ys.length = m := ⟨_, rfl⟩
 rw [hn] at hl ⊢
 rw [hm] at hl2 ⊢
 by_cases hnm : n = m
 ·subst hnm
  have HN := Lib.hid hn
  have HM := Lib.hid hm
  have HZ := Lib.hid hz
  have HY := Lib.hid hy
  clear hn hm hz hy
  have hnn : ((n : Int) != (n : Int)) = false := by simp
  go_enter Tryz.func10, Tryz.ntmps10
  go_wp2_with fail
  go_loopg [5] n (fun kx s5 wr => ∃ k : Nat, s5 = .int .i64 k ∧ k ≤ n ∧ n - k ≤ kx ∧ Hid (zs.take k = ys.take k) ∧ Below w.heap.size w wr)
  case atStart => exact ⟨0, rfl, by omega, by omega, Lib.hid (by simp), hB⟩
  case round =>
   clear hB
   obtain ⟨k, rfl, hk, hkx, HT, hB⟩ := hrel
   by_cases hlt : k < n
   ·have hltz : (k : Int) < (n : Int) := by omega
    obtain ⟨b, off, rfl, hbw, hcs⟩ := HZ.out (by rw [HN.out]; omega)
    obtain ⟨b2, off2, rfl, hbw2, hcs2⟩ := HY.out (by rw [HM.out]; omega)
    obtain ⟨c0, c1⟩ := (hcs k (by rw [HN.out]; exact hlt)).up hB hbw
    obtain ⟨d0, d1⟩ := (hcs2 k (by rw [HM.out]; exact hlt)).up hB hbw2
    have ht1 := take_succ_getD (d := bal0) (L := zs) (i := k) (by rw [HN.out]; exact hlt)
    have ht2 := take_succ_getD (d := bal0) (L := ys) (i := k) (by rw [HM.out]; exact hlt)
    generalize zs.getD k bal0 = x at *
    generalize ys.getD k bal0 = y at *
    by_cases hxy : x = y
    ·subst hxy
     have HT2 : Hid (zs.take (k + 1) = ys.take (k + 1)) := Lib.hid (by rw [ht1, ht2, HT.out])
     clear ht1 ht2 hcs hcs2
     go_wp2_with fail
     go_quiet (fail)
     replace hB := below_drewN hB nq
     generalize World.drewN _ nq = W1 at *
     go_wp2_with fail
     go_roundg (n - (k + 1))
     case measure => omega
     case rel => exact ⟨k + 1, by go_num, by omega, by omega, HT2, hB⟩
    ·have hno : Hid (decide (zs = ys) = false) := Lib.hid (decide_eq_false fun e => by
      rw [e, ht2] at ht1
      have := List.append_cancel_left ht1
      simp at this; exact hxy this.symm)
     have hne : x.acct ≠ y.acct ∨ (x.acct = y.acct ∧ x.amt ≠ y.amt) := by
      by_cases h1 : x.acct = y.acct
      ·exact .inr ⟨h1, fun h2 => hxy (by cases x; cases y; simp at h1 h2; rw [h1, h2])⟩
      ·exact .inl h1
     clear ht1 ht2 hcs hcs2 hxy
     rcases hne with h1 | ⟨h1, h2⟩
     ·have q1 : (x.acct == y.acct) = false := by simp [h1]
      clear h1
      go_wp2_with fail
      go_quiet (fail)
      replace hB := below_drewN hB nq
      generalize World.drewN _ nq = W1 at *
      go_wp2_with fail
      go_ret
      exact ⟨by rw [hno.out]; rfl, hB⟩
     ·have q1 : (x.acct == y.acct) = true := by simp [h1]
      have q2 : (x.amt == y.amt) = false := by simp [h2]
      clear h1 h2
      go_wp2_with fail
      go_quiet (fail)
      replace hB := below_drewN hB nq
      generalize World.drewN _ nq = W1 at *
      go_wp2_with fail
      go_ret
      exact ⟨by rw [hno.out]; rfl, hB⟩
   ·obtain rfl : k = n := by omega
    have hltz : ¬ (k : Int) < (k : Int) := by omega
    have hyes : Hid (decide (zs = ys) = true) := Lib.hid (decide_eq_true (by have h := HT.out; rwa [List.take_of_length_le (by rw [HN.out]; omega), List.take_of_length_le (by rw [HM.out]; omega)] at h))
    go_wp2_with fail
    go_ret
    exact ⟨by rw [hyes.out]; rfl, hB⟩
 ·have hno : Hid (decide (zs = ys) = false) := Lib.hid (decide_eq_false fun e => hnm (by rw [← hn, ← hm, e]))
  have hnn : ((n : Int) != (m : Int)) = true := by simp; omega
  clear hn hm hz hy
  go_enter Tryz.func10, Tryz.ntmps10
  go_wp2_with fail
  go_ret
  exact ⟨by rw [hno.out]; rfl, hB⟩
open Go.ChangeShapes Go.WideShapes Go.ChangeAt Go.WideMaps Go.WideElems Go.RowKit Go.Deep Go.Joins
section
variable {H : Type} {enc : TypeId × Value → H} {P : Program} {W : World}
theorem open_nums {E I : TypeId} {fs : Array Field} {fuel : Nat} {cs : List Value} {x : DataW H × List MemPlace} (hE : P.underlying E = some (.struct fs))
  (hone : oneCellFields P fs = true) (hty : (fs.toList.all fun f => f.type == I) = true) (hI : P.underlying I = some (.int .i64))
  (hl : cs.length = fs.size) (h2 : DataW.trod enc P W 0 (fun _ => true) true fuel E cs = some x) :
  ∀ j, j < fs.size → ∃ z : Int, cs[j]? = some (.int .i64 z) ∧ (Lit.int .i64 z).wf = true := by
 intro j hj
 obtain ⟨xs, n', -, -, -, hxl, hff⟩ := DataW.trod_struct hE h2
 have hfj : fs[j]? = some fs[j] := Array.getElem?_eq_getElem hj
 obtain ⟨ho, hk1⟩ := hone_of hone j _ hfj
 have ht : fs[j].type = I := by
  have := List.all_eq_true.1 hty fs[j] (by simp)
  simpa using this
 have hxj : xs[j]? = some (xs[j]'(by omega)) := List.getElem?_eq_getElem (by omega)
 have h3 := hff j _ hfj
 rw [ho, hk1, ht, hxj] at h3
 obtain ⟨z, hz, -, hw⟩ := DataW.trod_int hI h3
 refine ⟨z, ?_, hw⟩
 have h5 : (cs.drop j).take 1 = [cs[j]'(by omega)] := by
  rw [List.drop_eq_getElem_cons (by omega)]; rfl
 rw [h5] at hz
 rw [List.getElem?_eq_getElem (by omega)]
 injection hz with hz
 rw [hz]
end
theorem cells21 {cs : List Value} (h : cs.length = 21) : ∃ c0 c1 c2 c3 c4 c5 c6 c7 c8 c9 c10 c11 c12 c13 c14 c15 c16 c17 c18 c19 c20, cs = [c0, c1, c2, c3, c4, c5, c6, c7, c8, c9, c10, c11, c12, c13, c14, c15, c16, c17, c18, c19, c20] := by
 match cs, h with
 | [c0, c1, c2, c3, c4, c5, c6, c7, c8, c9, c10, c11, c12, c13, c14, c15, c16, c17, c18, c19, c20], _ => exact ⟨c0, c1, c2, c3, c4, c5, c6, c7, c8, c9, c10, c11, c12, c13, c14, c15, c16, c17, c18, c19, c20, rfl⟩
section
variable {H : Type} {enc : TypeId × Value → H} {W : World}
set_option maxRecDepth 100000 in
theorem open_igrp {b0 : Nat} {v : Value} {d : DataW H} {p : List MemPlace} (hval : Value.okWide Tryz.prog W .any b0 29 v) (h : DataW.Trod enc Tryz.prog W 0 (fun _ => true) true 29 v d p) :
  ∃ g L G, v = grpV g ∧ GrK W g L G ∧ GrW g L G ∧ g.m ≤ 9223372036854775807 := by
 obtain ⟨cs, rfl, hsz⟩ := okWide_struct Tryz.underlying29 hval
 obtain ⟨fuel, hf⟩ := h
 have hcs : (Value.agg cs).cells.toList = cs.toList := by simp [Value.cells]
 rw [hcs] at hf
 obtain ⟨xs, n', -, -, hlen, hxl, hff⟩ := DataW.trod_struct Tryz.underlying29 hf
 have hC : Tryz.prog.cellsOf 29 = 21 := by kernel_rfl
 rw [hC] at hlen
 obtain ⟨c0, c1, c2, c3, c4, c5, c6, c7, c8, c9, c10, c11, c12, c13, c14, c15, c16, c17, c18, c19, c20, e21⟩ := cells21 hlen
 have k9 : Tryz.prog.cellsOf 9 = 1 := by kernel_rfl
 have kc : Tryz.prog.cellsOf 23 = 3 := by kernel_rfl
 have ka : Tryz.prog.cellsOf 24 = 1 := by kernel_rfl
 have kr : Tryz.prog.cellsOf 26 = 15 := by kernel_rfl
 have ke : Tryz.prog.cellsOf 27 = 1 := by kernel_rfl
 have hxl' : xs.length = 5 := hxl
 have hget : ∀ i, i < 5 → ∃ y, xs[i]? = some y := fun i hi => ⟨_, List.getElem?_eq_getElem (by omega)⟩
 have h0 : DataW.trod enc Tryz.prog W 0 (fun _ => true) true n' 9 ((cs.toList.drop 0).take (Tryz.prog.cellsOf 9)) = xs[0]? := hff 0 _ rfl
 have h1 : DataW.trod enc Tryz.prog W 0 (fun _ => true) true n' 23 ((cs.toList.drop 1).take (Tryz.prog.cellsOf 23)) = xs[1]? := hff 1 _ rfl
 have h2 : DataW.trod enc Tryz.prog W 0 (fun _ => true) true n' 24 ((cs.toList.drop 4).take (Tryz.prog.cellsOf 24)) = xs[2]? := hff 2 _ rfl
 have h3 : DataW.trod enc Tryz.prog W 0 (fun _ => true) true n' 26 ((cs.toList.drop 5).take (Tryz.prog.cellsOf 26)) = xs[3]? := hff 3 _ rfl
 have h4 : DataW.trod enc Tryz.prog W 0 (fun _ => true) true n' 27 ((cs.toList.drop 20).take (Tryz.prog.cellsOf 27)) = xs[4]? := hff 4 _ rfl
 obtain ⟨y0, e0⟩ := hget 0 (by omega)
 obtain ⟨y1, e1⟩ := hget 1 (by omega)
 obtain ⟨y2, e2⟩ := hget 2 (by omega)
 obtain ⟨y3, e3⟩ := hget 3 (by omega)
 obtain ⟨y4, e4⟩ := hget 4 (by omega)
 rw [e0, k9, e21] at h0
 rw [e1, kc, e21] at h1
 rw [e2, ka, e21] at h2
 rw [e3, kr, e21] at h3
 rw [e4, ke, e21] at h4
 have n1 := open_nums (cs := [c1, c2, c3]) Tryz.underlying23 (by kernel_rfl) (by kernel_rfl) Tryz.underlying3 rfl h1
 have n3 := open_nums (cs := [c5, c6, c7, c8, c9, c10, c11, c12, c13, c14, c15, c16, c17, c18, c19]) Tryz.underlying26 (by kernel_rfl) (by kernel_rfl) Tryz.underlying3 rfl h3
 obtain ⟨cur, q0, -, bc⟩ := DataW.trod_string Tryz.underlying9 h0
 obtain ⟨A, n, c, L, q4, ln, -, hz, wa⟩ := open_waccs Tryz.underlying24 Tryz.underlying69 (by kernel_rfl) (by kernel_rfl) (by kernel_rfl) Tryz.underlying3 h2
 obtain ⟨X, m, cap, G, q20, lg, hmx, he, hk, hb⟩ := open_entsC Tryz.underlying27 h4
 obtain ⟨z1, p1, -⟩ := n1 0 (by decide)
 obtain ⟨z2, p2, -⟩ := n1 1 (by decide)
 obtain ⟨z3, p3, -⟩ := n1 2 (by decide)
 obtain ⟨r0, s0, w0⟩ := n3 0 (by decide)
 obtain ⟨r1, s1, w1⟩ := n3 1 (by decide)
 obtain ⟨r2, s2, w2⟩ := n3 2 (by decide)
 obtain ⟨r3, s3, w3⟩ := n3 3 (by decide)
 obtain ⟨r4, s4, w4⟩ := n3 4 (by decide)
 obtain ⟨r5, s5, w5⟩ := n3 5 (by decide)
 obtain ⟨r6, s6, w6⟩ := n3 6 (by decide)
 obtain ⟨r7, s7, w7⟩ := n3 7 (by decide)
 obtain ⟨r8, s8, w8⟩ := n3 8 (by decide)
 obtain ⟨r9, s9, w9⟩ := n3 9 (by decide)
 obtain ⟨r10, s10, w10⟩ := n3 10 (by decide)
 obtain ⟨r11, s11, w11⟩ := n3 11 (by decide)
 obtain ⟨r12, s12, w12⟩ := n3 12 (by decide)
 obtain ⟨r13, s13, w13⟩ := n3 13 (by decide)
 obtain ⟨r14, s14, w14⟩ := n3 14 (by decide)
 have a0 : c0 = .string cur := by simpa using q0
 have a4 : c4 = .slice A n c := by simpa using q4
 have a20 : c20 = .slice X m cap := by simpa using q20
 have b1 : c1 = .int .i64 z1 := by simpa using p1
 have b2 : c2 = .int .i64 z2 := by simpa using p2
 have b3 : c3 = .int .i64 z3 := by simpa using p3
 have t0 : c5 = .int .i64 r0 := by simpa using s0
 have t1 : c6 = .int .i64 r1 := by simpa using s1
 have t2 : c7 = .int .i64 r2 := by simpa using s2
 have t3 : c8 = .int .i64 r3 := by simpa using s3
 have t4 : c9 = .int .i64 r4 := by simpa using s4
 have t5 : c10 = .int .i64 r5 := by simpa using s5
 have t6 : c11 = .int .i64 r6 := by simpa using s6
 have t7 : c12 = .int .i64 r7 := by simpa using s7
 have t8 : c13 = .int .i64 r8 := by simpa using s8
 have t9 : c14 = .int .i64 r9 := by simpa using s9
 have t10 : c15 = .int .i64 r10 := by simpa using s10
 have t11 : c16 = .int .i64 r11 := by simpa using s11
 have t12 : c17 = .int .i64 r12 := by simpa using s12
 have t13 : c18 = .int .i64 r13 := by simpa using s13
 have t14 : c19 = .int .i64 r14 := by simpa using s14
 subst a0 a4 a20 b1 b2 b3 t0 t1 t2 t3 t4 t5 t6 t7 t8 t9 t10 t11 t12 t13 t14
 refine ⟨⟨cur, z1, z2, z3, A, n, c, r0, r1, r2, r3, r4, r5, r6, r7, r8, r9, r10, r11, r12, r13, r14, X, m, cap⟩, L, G, ?_, ⟨ln, lg, hz, he, hk⟩, ⟨bc, fun x hx => ?_, hb⟩, hmx⟩
 ·rw [← Array.toArray_toList (xs := cs), e21]
 ·simp only [Grp.R, List.mem_cons, List.mem_nil_iff, or_false] at hx
  rcases hx with rfl | rfl | rfl | rfl | rfl | rfl | rfl | rfl | rfl | rfl | rfl | rfl | rfl | rfl | rfl
  ·exact w0
  ·exact w1
  ·exact w2
  ·exact w3
  ·exact w4
  ·exact w5
  ·exact w6
  ·exact w7
  ·exact w8
  ·exact w9
  ·exact w10
  ·exact w11
  ·exact w12
  ·exact w13
  ·exact w14
end
open Go.ChangeShapes Go.WideShapes Go.ChangeAt Go.WideMaps Go.WideElems Go.RowKit
theorem two_ofA {α : Type} (l : List α) (h : (⟨l⟩ : Array α).size = 2) : ∃ a b, l = [a, b] := by
 match l, h with
 | [a, b], _ => exact ⟨a, b, rfl⟩
section
variable {H : Type} {enc : TypeId × Value → H} {P : Program} {w : World} {r : Reach} {b0 base : Nat} {t e : TypeId} {k : IntKind} {spare : Nat → Bool} {held : Bool} {v : Value} {d : DataW H} {ps : List MemPlace}
theorem open_iarr (ht : P.underlying t = some (.array 2 e)) (he : P.underlying e = some (.int k)) (hce : P.cellsOf e = 1) (hct : P.cellsOf t = 2) (hval : Value.okWide P w r b0 t v) (hd : DataW.Trod enc P w base spare held t v d ps) :
  ∃ x y, v = .agg #[.int k x, .int k y] ∧ d = .agg [.lit (.int k x), .lit (.int k y)] ∧ ps = [] ∧ (Lit.int k x).wf = true ∧ (Lit.int k y).wf = true := by
 obtain ⟨cs, rfl, hsz, _⟩ : ∃ cs, v = .agg cs ∧ cs.size = P.cellsOf t ∧ Row.okWide P w r b0 t cs := by
  simpa [Value.okWide, ht] using hval
 rw [hct] at hsz
 obtain ⟨l⟩ := cs
 obtain ⟨c0, c1, rfl⟩ := two_ofA l hsz
 obtain ⟨fuel, hf⟩ := hd
 obtain ⟨xs, m, _, hx, _, hl, hel⟩ := DataW.trod_array ht hf
 match xs, hl, hx, hel with
 | [q0, q1], _, hx, hel =>
  have e0 := hel 0 (by omega)
  have e1 := hel 1 (by omega)
  rw [hce] at e0 e1
  obtain ⟨x, h0, h0', w0⟩ := DataW.trod_int he (by simpa [Value.cells] using e0 : DataW.trod enc P w base spare held m e [c0] = some q0)
  obtain ⟨y, h1, h1', w1⟩ := DataW.trod_int he (by simpa [Value.cells] using e1 : DataW.trod enc P w base spare held m e [c1] = some q1)
  simp at h0 h1
  subst h0 h1 h0' h1'
  simp only [List.map_cons, List.map_nil, List.flatMap_cons, List.flatMap_nil, List.append_nil, Prod.mk.injEq] at hx
  exact ⟨x, y, rfl, hx.1, hx.2, w0, w1⟩
end
open Go.ChangeShapes Go.WideShapes Go.ChangeAt Go.WideMaps Go.WideElems Go.RowKit Go.Deep Go.Joins
set_option maxRecDepth 100000 in
theorem open_wdatV {H : Type} {enc : TypeId × Value → H} {W : World} {b0 : Nat} {v : Value} {d : DataW H} {p : List MemPlace} (hval : Value.okWide Tryz.prog W .any b0 30 v) (h : DataW.Trod enc Tryz.prog W 0 (fun _ => true) true 30 v d p) :
  ∃ A len cap K, v = .slice A len cap ∧ K.length = len ∧ len ≤ 9223372036854775807 ∧ LnkAt W A K ∧ ∀ l ∈ K, WfL l := by
 obtain ⟨a0, len, cap, rfl⟩ := okWide_slice Tryz.underlying30 hval
 obtain ⟨fuel, hf⟩ := h
 obtain ⟨A, len', cap', K, hcs, hlen, hmax, hz, hw⟩ := open_wlnks Tryz.underlying30 Tryz.underlying46 (by kernel_rfl) (by kernel_rfl) (by kernel_rfl) Tryz.underlying3 hf
 simp [Value.cells] at hcs
 obtain ⟨rfl, rfl, rfl⟩ := hcs
 exact ⟨_, _, _, K, rfl, hlen, hmax, hz, hw⟩
end Go.Proofs.YtompehjecamdiaaGreat
