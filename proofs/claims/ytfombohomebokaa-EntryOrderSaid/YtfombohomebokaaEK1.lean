/- Contracts of the functions that the statements reach, part 1: what was proved of each, callees first. -/
import Derived.Test.YtfombohomebokaaProg
import Derived.WalkKit
import Derived.WalkSpells
import Derived.Lib.Hide
import Derived.Deep.QuietTactic
import Derived.BigQuiet
import Derived.Deep.Draws
import Derived.Laws.Rows
import Derived.Laws.CopyOwn
import Derived.Deep.OwnRows
import Derived.Outline
import Derived.Laws.StructEq
import Derived.Deep.LoopGhost
import Derived.Deep.CutRange
import Derived.WideKeyEntry
import Derived.Maps.OwnSet
import Derived.DeepKeys5
import Derived.Handed
import Derived.ProofKit
import Derived.ChangeSlices
import Derived.OpenShut
import Derived.Carry
import Derived.Shelf.SlSortCmp.NoneTotal
import Derived.Ground.SlsfProg
import Derived.Shelf.SlGeneric
import Derived.Shelf.SlIter.Nil
import Derived.RangeFuncBound
import Derived.Sort.OwnSorted
import Derived.Lib.AppendIntMem
import Derived.BigRegion
import Derived.Maps.AppendAt
import Derived.Deep.RegionHeldLaw
import Derived.Deep.AppendLies
import Derived.ChangeSame
import Derived.Deep.Slices
import Derived.Deep.Fields
import Derived.Deep.RegionHeld
import Derived.Below
import Derived.StillTail
import Derived.Lib.SmallJoins
namespace Go.Proofs.Ytfombohomebokaa
open Go.RowKit
section
variable {k : IntKind} {t : TypeId} {w w' : World} {b o g B : Nat} {L : List Nat}
end
section
variable {k : IntKind} {t : TypeId} {w w' : World} {g B B' c : Nat} {A : Option Addr} {L : List Nat}
end
theorem below_alloc_new {w : World} (o : Obj) : Below w.heap.size w (w.alloc o) := (Below.refl _ _).alloc (Nat.le_refl _) _
theorem below_drewN {B : Nat} {a w : World} (h : Below B a w) (n : Nat) : Below B a (w.drewN n) := ⟨h.os, h.tape, h.output, h.size, h.block⟩
theorem dc_drew {B : Nat} {a w : World} (h : Below B a w) : Below B a w.drew := ⟨h.os, h.tape, h.output, h.size, h.block⟩
theorem below_more {W w w' : World} (h : Below W.heap.size W w) (hb : Below w.heap.size w w') : Below W.heap.size W w' := h.trans (hb.mono h.size)
structure Acc where
 code : Int
 kind : Int
 basis : Int
 par : Int
structure Bal where
 acct : Int
 amt : Int
instance : DecidableEq Bal := fun a b => decidable_of_iff (a.acct = b.acct ∧ a.amt = b.amt) (by cases a; cases b; simp)
abbrev acc0 : Acc := ⟨0, 0, 0, 0⟩
theorem getD_mem_acc {α : Type} {d : α} {L : List α} {i : Nat} (h : i < L.length) : L.getD i d ∈ L := by
 rw [List.getD_eq_getElem?_getD, List.getElem?_eq_getElem h]; exact List.getElem_mem h
theorem take_succ_getD {α : Type} {d : α} {L : List α} {i : Nat} (h : i < L.length) : L.take (i + 1) = L.take i ++ [L.getD i d] := by
 rw [List.take_succ_eq_append_getElem h, List.getD_eq_getElem?_getD, List.getElem?_eq_getElem h]; rfl
theorem drop_getD {α : Type} {d : α} {L : List α} {i : Nat} (h : i < L.length) : L.drop i = L.getD i d :: L.drop (i + 1) := by
 rw [List.drop_eq_getElem_cons h, List.getD_eq_getElem?_getD, List.getElem?_eq_getElem h]; rfl
def cmI (x y : Int) : Int := if x < y then -1 else if y < x then 1 else 0
open Go.RowKit
structure A4 (w : World) (b o : Nat) (a : Acc) : Prop where
 c0 : w.cell? ⟨b, o, none⟩ = some (.int .i64 a.code)
 c1 : w.cell? ⟨b, o + 1, none⟩ = some (.int .i64 a.kind)
 c2 : w.cell? ⟨b, o + 2, none⟩ = some (.int .i64 a.basis)
 c3 : w.cell? ⟨b, o + 3, none⟩ = some (.int .i64 a.par)
def AccAt (w : World) (A : Option Addr) (L : List Acc) : Prop := 0 < L.length → ∃ b off, A = some ⟨b, off, none⟩ ∧ b < w.heap.size ∧ ∀ i, i < L.length → A4 w b (off + i * 4) (L.getD i acc0)
section
variable {w w' : World} {b o g B : Nat} {a : Acc} {x : Bal} {A : Option Addr} {L : List Acc} {M : List Bal}
end
open Go.RowKit
structure Lnk where
 frm : Int
 tgt : Int
 since : Int
abbrev lnk0 : Lnk := ⟨0, 0, 0⟩
abbrev lnkV (l : Lnk) : Value := .agg #[.int .i64 l.frm, .int .i64 l.tgt, .int .i64 l.since]
structure L3 (w : World) (b o : Nat) (l : Lnk) : Prop where
 c0 : w.cell? ⟨b, o, none⟩ = some (.int .i64 l.frm)
 c1 : w.cell? ⟨b, o + 1, none⟩ = some (.int .i64 l.tgt)
 c2 : w.cell? ⟨b, o + 2, none⟩ = some (.int .i64 l.since)
def LnkAt (w : World) (A : Option Addr) (L : List Lnk) : Prop := 0 < L.length → ∃ b off, A = some ⟨b, off, none⟩ ∧ b < w.heap.size ∧ ∀ i, i < L.length → L3 w b (off + i * 3) (L.getD i lnk0)
structure LB (w : World) (g : Nat) (l : Lnk) : Prop where
 cells : L3 w g 0 l
 lt : g < w.heap.size
section
variable {w w' : World} {b o g Bs m d n c : Nat} {l : Lnk} {A B : Option Addr} {L : List Lnk} {nm cur : ByteArray} {jt : Bool}
theorem L3.up (h : L3 w b o l) (hb : Below Bs w w') (hlt : b < Bs) : L3 w' b o l :=
 ⟨(hb.cell (p := ⟨b, o, none⟩) hlt).trans h.c0, (hb.cell (p := ⟨b, o + 1, none⟩) hlt).trans h.c1, (hb.cell (p := ⟨b, o + 2, none⟩) hlt).trans h.c2⟩
theorem LnkAt.up (h : LnkAt w A L) (hb : Below w.heap.size w w') : LnkAt w' A L := fun h0 => by
 obtain ⟨b, off, e, hlt, hc⟩ := h h0
 exact ⟨b, off, e, Nat.lt_of_lt_of_le hlt hb.size, fun i hi => (hc i hi).up hb hlt⟩
theorem LnkAt.nil : LnkAt w A [] := fun h => absurd h (by simp)
theorem LB.up (h : LB w g l) (hb : Below w.heap.size w w') : LB w' g l := ⟨h.cells.up hb h.lt, Nat.lt_of_lt_of_le h.lt hb.size⟩
end
theorem lb_new (w : World) (t : TypeId) (l : Lnk) : LB (w.alloc (.cells #[.int .i64 l.frm, .int .i64 l.tgt, .int .i64 l.since] t)) w.heap.size l := by
 refine ⟨⟨?_, ?_, ?_⟩, by simp⟩ <;> (simp only [World.cell?]; rw [heap_alloc_new]; rfl)
open Go.RowKit
abbrev wr (x : Int) : Int := wrap64 x
theorem wr_emod (x : Int) : (wr x) % 18446744073709551616 = x % 18446744073709551616 := by
 unfold Go.Proofs.Ytfombohomebokaa.wr wrap64
 omega
theorem wr_eq_of {x y : Int} (h : x % 18446744073709551616 = y % 18446744073709551616) : wr x = wr y := by
 show Go.Proofs.Ytfombohomebokaa.wr x = Go.Proofs.Ytfombohomebokaa.wr y
 unfold Go.Proofs.Ytfombohomebokaa.wr wrap64
 omega
theorem wr_wr (x : Int) : wr (wr x) = wr x := wr_eq_of (wr_emod x)
theorem wr_add (x y : Int) : wr (wr x + y) = wr (x + y) := wr_eq_of (by have := wr_emod x; omega)
theorem wr_small {x : Int} (h1 : -9223372036854775808 ≤ x) (h2 : x ≤ 9223372036854775807) : wr x = x := by
 unfold Go.Proofs.Ytfombohomebokaa.wr wrap64
 omega
theorem wr_zero : wr 0 = 0 := wr_small (by omega) (by omega)
def kOf (l : Lnk) : Int × Int := (l.frm, l.since)
def amtK (L : List Lnk) (k : Int × Int) : Int := (L.map fun l => if kOf l = k then l.tgt else 0).sum
def sumT (L : List Lnk) : Int := (L.map (·.tgt)).sum
def ltK (a b : Int × Int) : Prop := a.1 < b.1 ∨ a.1 = b.1 ∧ a.2 < b.2
instance (a b : Int × Int) : Decidable (ltK a b) := by unfold ltK; infer_instance
theorem ltK_irrefl (a : Int × Int) : ¬ ltK a a := by unfold ltK; omega
theorem ltK_trans {a b c : Int × Int} (h : ltK a b) (h2 : ltK b c) : ltK a c := by unfold ltK at *; omega
theorem ltK_tri {a b : Int × Int} (h : ¬ ltK a b) (h2 : ¬ ltK b a) : a = b := by
 unfold ltK at *
 exact Prod.ext (by omega) (by omega)
def AscL (N : List Lnk) : Prop := N.Pairwise fun a b => ltK (kOf a) (kOf b)
def IsNrm (L N : List Lnk) : Prop := AscL N ∧ ∀ l, l ∈ N ↔ l.tgt = wr (amtK L (kOf l)) ∧ l.tgt ≠ 0
theorem lnk_ext {a b : Lnk} (h : kOf a = kOf b) (h2 : a.tgt = b.tgt) : a = b := by
 cases a; cases b
 simp only [kOf, Prod.mk.injEq] at h
 obtain ⟨rfl, rfl⟩ := h
 cases h2; rfl
theorem AscL.nodupK {N : List Lnk} (h : AscL N) : (N.map kOf).Nodup := by
 refine List.pairwise_map.2 (h.imp fun {a b} hab e => ?_)
 rw [e] at hab
 exact ltK_irrefl _ hab
theorem AscL.nodup {N : List Lnk} (h : AscL N) : N.Nodup := h.imp fun {a b} hab e => by subst e; exact ltK_irrefl _ hab
theorem isnrm_unique {L N M : List Lnk} (h1 : IsNrm L N) (h2 : IsNrm L M) : N = M := by
 have hp : N.Perm M := (List.perm_ext_iff_of_nodup h1.1.nodup h2.1.nodup).2 fun l => by rw [h1.2, h2.2]
 exact List.Perm.eq_of_pairwise (le := fun a b => ltK (kOf a) (kOf b)) (fun a b _ _ x y => absurd (ltK_trans x y) (ltK_irrefl _)) h1.1 h2.1 hp
theorem perm_sum {a b : List Int} (h : a.Perm b) : a.sum = b.sum := by
 induction h with
 | nil => rfl
 | cons x _ ih => simp [ih]
 | swap x y l => simp; omega
 | trans _ _ h1 h2 => exact h1.trans h2
theorem amtK_perm {L L' : List Lnk} (h : L.Perm L') (k : Int × Int) : amtK L k = amtK L' k := perm_sum (h.map _)
theorem isnrm_perm {L L' N : List Lnk} (hp : L.Perm L') (h : IsNrm L N) : IsNrm L' N := ⟨h.1, fun l => by rw [h.2, amtK_perm hp]⟩
theorem amtK_nil (k : Int × Int) : amtK [] k = 0 := rfl
theorem amtK_cons (l : Lnk) (L : List Lnk) (k : Int × Int) : amtK (l :: L) k = (if kOf l = k then l.tgt else 0) + amtK L k := by simp [amtK]
theorem amtK_append (L M : List Lnk) (k : Int × Int) : amtK (L ++ M) k = amtK L k + amtK M k := by simp [amtK]
theorem amtK_none : ∀ {L : List Lnk} {k : Int × Int}, k ∉ L.map kOf → amtK L k = 0
 | [], _, _ => rfl
 | a :: L, k, h => by
  simp only [List.map_cons, List.mem_cons, not_or] at h
  rw [amtK_cons, if_neg (fun e => h.1 e.symm), amtK_none h.2]; rfl
theorem amtK_one : ∀ {L : List Lnk}, (L.map kOf).Nodup → ∀ {l : Lnk}, l ∈ L → amtK L (kOf l) = l.tgt
 | [], _, _, h => by simp at h
 | a :: L, hn, l, h => by
  obtain ⟨h1, h2⟩ := List.nodup_cons.1 hn
  rw [amtK_cons]
  rcases List.mem_cons.1 h with rfl | h
  ·rw [if_pos rfl, amtK_none h1]; omega
  ·rw [if_neg, amtK_one h2 h]
   ·omega
   ·intro e
    exact h1 (e ▸ List.mem_map_of_mem h)
theorem isnrm_self {L N : List Lnk} (h : IsNrm L N) : IsNrm N N := by
 refine ⟨h.1, fun l => ⟨fun hl => ?_, fun ⟨h1, h2⟩ => ?_⟩⟩
 ·have := (h.2 l).1 hl
  rw [amtK_one h.1.nodupK hl]
  refine ⟨?_, this.2⟩
  rw [this.1, wr_wr]
 ·by_cases hk : kOf l ∈ N.map kOf
  ·obtain ⟨a, ha, hka⟩ := List.mem_map.1 hk
   have h3 := (h.2 a).1 ha
   rw [← hka, amtK_one h.1.nodupK ha, h3.1, wr_wr, ← h3.1] at h1
   exact lnk_ext hka h1.symm ▸ ha
  ·rw [amtK_none hk, wr_zero] at h1
   exact absurd h1 h2
theorem sum_zero_of : ∀ {K : List (Int × Int)} (k : Int × Int) (v : Int), k ∉ K → (K.map fun x => if k = x then v else 0).sum = 0
 | [], _, _, _ => rfl
 | x :: K, k, v, h => by
  simp only [List.mem_cons, not_or] at h
  rw [List.map_cons, List.sum_cons, if_neg h.1, sum_zero_of k v h.2]; rfl
theorem sum_one_of : ∀ {K : List (Int × Int)} (k : Int × Int) (v : Int), K.Nodup → k ∈ K → (K.map fun x => if k = x then v else 0).sum = v
 | [], _, _, _, h => by simp at h
 | x :: K, k, v, hn, h => by
  obtain ⟨h1, h2⟩ := List.nodup_cons.1 hn
  rw [List.map_cons, List.sum_cons]
  by_cases e : k = x
  ·subst e
   rw [if_pos rfl, sum_zero_of k v h1]; omega
  ·rw [if_neg e, sum_one_of k v h2 ((List.mem_cons.1 h).resolve_left e)]; omega
theorem sum_map_add : ∀ (K : List (Int × Int)) (f g : Int × Int → Int), (K.map fun x => f x + g x).sum = (K.map f).sum + (K.map g).sum
 | [], _, _ => rfl
 | x :: K, f, g => by
  simp only [List.map_cons, List.sum_cons, sum_map_add K f g]; omega
theorem sum_keys : ∀ {L : List Lnk} {K : List (Int × Int)}, K.Nodup → (∀ l ∈ L, kOf l ∈ K) → (K.map (amtK L)).sum = sumT L
 | [], K, _, _ => by
  have : K.map (amtK []) = K.map (fun _ => (0 : Int)) := List.map_congr_left fun k _ => amtK_nil k
  rw [this]
  show _ = (0 : Int)
  clear this
  rename_i hn _
  clear hn
  induction K with
  | nil => rfl
  | cons a K ih => rw [List.map_cons, List.sum_cons, ih (fun _ h => by simp at h)]; rfl
 | a :: L, K, hn, h => by
  have e : K.map (amtK (a :: L)) = K.map (fun k => (if kOf a = k then a.tgt else 0) + amtK L k) := List.map_congr_left fun k _ => amtK_cons a L k
  rw [e, sum_map_add, sum_one_of (kOf a) a.tgt hn (h a (by simp)), sum_keys hn (fun l hl => h l (by simp [hl]))]
  simp [sumT]
theorem sum_mod : ∀ {K : List (Int × Int)} {f g : Int × Int → Int}, (∀ k ∈ K, f k % 18446744073709551616 = g k % 18446744073709551616) → (K.map f).sum % 18446744073709551616 = (K.map g).sum % 18446744073709551616
 | [], _, _, _ => rfl
 | a :: K, f, g, h => by
  rw [List.map_cons, List.sum_cons, List.map_cons, List.sum_cons]
  have h1 := h a (by simp)
  have h2 := sum_mod (fun k hk => h k (by simp [hk]) : ∀ k ∈ K, f k % 18446744073709551616 = g k % 18446744073709551616)
  omega
theorem sum_filter0 : ∀ (K : List (Int × Int)) (f : Int × Int → Int), ((K.filter fun k => decide (f k ≠ 0)).map f).sum = (K.map f).sum
 | [], _ => rfl
 | a :: K, f => by
  by_cases h : f a = 0
  ·rw [List.filter_cons_of_neg (by simp [h]), sum_filter0 K f, List.map_cons, List.sum_cons, h]; omega
  ·rw [List.filter_cons_of_pos (by simp [h]), List.map_cons, List.sum_cons, List.map_cons, List.sum_cons, sum_filter0 K f]
def dedK : List (Int × Int) → List (Int × Int)
 | [] => []
 | a :: K => if a ∈ K then dedK K else a :: dedK K
theorem mem_dedK : ∀ (K : List (Int × Int)) (k : Int × Int), k ∈ dedK K ↔ k ∈ K
 | [], _ => Iff.rfl
 | a :: K, k => by
  unfold dedK
  split
  ·rename_i h
   rw [mem_dedK K k, List.mem_cons]
   exact ⟨.inr, fun h2 => h2.elim (fun e => e ▸ h) id⟩
  ·rw [List.mem_cons, List.mem_cons, mem_dedK K k]
theorem nodup_dedK : ∀ (K : List (Int × Int)), (dedK K).Nodup
 | [] => List.nodup_nil
 | a :: K => by
  unfold dedK
  split
  ·exact nodup_dedK K
  ·rename_i h
   exact List.nodup_cons.2 ⟨fun h2 => h ((mem_dedK K a).1 h2), nodup_dedK K⟩
theorem isnrm_sum {L N : List Lnk} (h : IsNrm L N) : wr (sumT N) = wr (sumT L) := by
 have hK : (dedK (L.map kOf)).Nodup := nodup_dedK _
 have hm : ∀ l ∈ L, kOf l ∈ (dedK (L.map kOf)) := fun l hl => by rw [mem_dedK]; exact List.mem_map_of_mem hl
 have h1 := sum_keys hK hm
 have h2 := sum_mod (K := (dedK (L.map kOf))) (f := fun k => wr (amtK L k)) (g := amtK L) (fun k _ => wr_emod _)
 have h3 := sum_filter0 (dedK (L.map kOf)) (fun k => wr (amtK L k))
 have hp : (N.map kOf).Perm ((dedK (L.map kOf)).filter fun k => decide (wr (amtK L k) ≠ 0)) := by
  refine (List.perm_ext_iff_of_nodup h.1.nodupK (hK.filter _)).2 fun k => ?_
  rw [List.mem_filter, mem_dedK, List.mem_map, decide_eq_true_eq]
  constructor
  ·rintro ⟨a, ha, rfl⟩
   have h4 := (h.2 a).1 ha
   refine ⟨?_, h4.1 ▸ h4.2⟩
   rcases Decidable.em (kOf a ∈ L.map kOf) with h5 | h5
   ·exact h5
   ·have h6 := h4.1
    rw [amtK_none h5, wr_zero] at h6
    exact absurd h6 h4.2
  ·rintro ⟨_, h4⟩
   exact ⟨⟨k.1, wr (amtK L k), k.2⟩, (h.2 _).2 ⟨rfl, h4⟩, rfl⟩
 have h4 : N.map (·.tgt) = (N.map kOf).map fun k => wr (amtK L k) := by
  rw [List.map_map]
  exact List.map_congr_left fun a ha => ((h.2 a).1 ha).1
 refine wr_eq_of ?_
 rw [← h1, ← h2, ← h3]
 unfold sumT
 rw [h4, perm_sum (hp.map _)]
open Go.ChangeShapes Go.WideShapes Go.MapKept Go.ChangeMaps Go.WideElems Go.Maps
section
variable {H : Type} {P : Program} {w : World} {t k e : TypeId} {R : Value → Option (DataW H × List MemPlace)} {b : Nat} {es : Array MapEntry} {clock : Nat}
theorem entry_any (K : Keyed P k) (ht : P.underlying t = some (.map k e)) {z : Value} (hz : ∀ u : World, (zeroValue e).run P u = .ok z u) (hb : w.heap[b]? = some (.map es clock)) (F : Fit P k R es clock)
  {key : Value} {kl : Lit} (hkey : keyOf P k key = some kl) :
  ∃ (v0 : Value) (st : Nat) (es1 : Array MapEntry) (clock1 : Nat), (Instr.mapEntry t (.map (some b)) key).run P w = .ok (.tuple #[v0, goInt st]) (setBlock w b (.map es1 clock1)) ∧
   (Instr.lookup t (.map (some b)) key false).run P w = .ok v0 w ∧ (∀ u : World, u.heap[b]? = some (.map es1 clock1) → (Instr.lookup t (.map (some b)) key false).run P u = .ok v0 u) ∧
   ∀ (w2 : World) (val : Value), w2.heap[b]? = some (.map es1 clock1) → ∃ es' clock', (Instr.entryStore t (.map (some b)) (goInt st) val).run P w2 = .ok () (setBlock w2 b (.map es' clock')) ∧
    (Instr.mapUpdate t (.map (some b)) key val).run P w = .ok () (setBlock w b (.map es' clock')) := by
 obtain ⟨s1, s2, _⟩ := F.stamped
 rcases K.find w hkey es.toList F.keys with ⟨h1, h2⟩ | ⟨j, e0, h1, h2, h3⟩
 ·have hks : ∀ x ∈ (es.push ⟨key, z, clock⟩).toList, ∃ l, keyOf P k x.key = some l := by
   intro x hx
   simp only [Array.toList_push, List.mem_append, List.mem_singleton] at hx
   rcases hx with hx | rfl
   ·exact F.keys x hx
   ·exact ⟨kl, hkey⟩
  refine ⟨z, clock, es.push ⟨key, z, clock⟩, clock + 1, ?_, ?_, ?_, ?_⟩
  ·simp [Instr.mapEntry, run_underlying ht, MapKept.run_getObj_map hb, K.check w false hkey, h1, hz, MapKept.run_setObj_map _ hb, Result.andThen, setBlock]
  ·simp [Instr.lookup, run_underlying ht, MapKept.run_getObj_map hb, K.check w _ hkey, h1, hz, Result.andThen]
  ·intro u hu
   rcases K.find u hkey _ hks with ⟨_, g2⟩ | ⟨i, e1, g1, g2, g3⟩
   ·exact absurd rfl (g2 ⟨key, z, clock⟩ (by simp))
   ·have hz1 : e1.val = z := by
     have hm := List.mem_of_getElem? g2
     simp only [Array.toList_push, List.mem_append, List.mem_singleton] at hm
     rcases hm with hm | rfl
     ·exact absurd g3 (h2 e1 hm)
     ·rfl
    have h8 : (es.push { key := key, val := z, born := clock }).toList = es.toList ++ [{ key := key, val := z, born := clock }] := by simp
    rw [h8] at g1
    simp [Instr.lookup, run_underlying ht, MapKept.run_getObj_map hu, K.check u _ hkey, g1, hz1, Result.andThen]
  ·intro w2 val hw2
   refine ⟨es.push ⟨key, val, clock⟩, clock + 1, ?_, ?_⟩
   ·have hidx : (es.push ⟨key, z, clock⟩).findIdx? (fun e => ((e.born : Nat) : Int) == ((clock : Nat) : Int)) = some es.size := by
     rw [findIdx_arr]
     have := findIdx_born (l := (es.push ⟨key, z, clock⟩).toList) (j := es.size) (e0 := ⟨key, z, clock⟩) (by
      simp only [Array.toList_push, List.map_append, List.map_cons, List.map_nil]
      refine List.nodup_append.2 ⟨s2, by simp, fun a ha c hc e1 => ?_⟩
      simp only [List.mem_singleton] at hc
      obtain ⟨x, hx, rfl⟩ := List.mem_map.1 ha
      have := s1 x hx
      omega) (by simp)
     exact this
    have hmod : (es.push ⟨key, z, clock⟩).modify es.size (fun e => { e with val := val }) = es.push ⟨key, val, clock⟩ := by
     apply Array.ext'
     rw [Array.toList_modify, Array.toList_push, Array.toList_push, ← Array.length_toList, modify_last]
    simp [Instr.entryStore, MapKept.run_getObj_map hw2, asInt, asIntOf, goInt, hidx, hmod, MapKept.run_setObj_map _ hw2, Result.andThen, setBlock]
   ·simp [Instr.mapUpdate, run_underlying ht, MapKept.run_getObj_map hb, K.check w false hkey, h1, MapKept.run_setObj_map _ hb, Result.andThen, setBlock]
 ·have hj : es[j]? = some e0 := by simpa using h2
  have hsame : es.modify j (fun e => { e with key := key }) = es := by
   apply Array.ext'
   rw [Array.toList_modify, modify_eq_set _ _ _ _ h2]
   have : ({ e0 with key := key } : MapEntry) = e0 := by rw [← h3]
   rw [this]
   exact set_self _ _ _ h2
  refine ⟨e0.val, e0.born, es, clock, ?_, ?_, ?_, ?_⟩
  ·simp [Instr.mapEntry, run_underlying ht, MapKept.run_getObj_map hb, K.check w false hkey, h1, hj, h3, K.stays w hkey, hsame, MapKept.run_setObj_map _ hb, Result.andThen, setBlock]
  ·simp [Instr.lookup, run_underlying ht, MapKept.run_getObj_map hb, K.check w _ hkey, h1, Result.andThen]
  ·intro u hu
   rcases K.find u hkey es.toList F.keys with ⟨_, g2⟩ | ⟨i, e1, g1, g2, g3⟩
   ·exact absurd h3 (g2 e0 (List.mem_of_getElem? h2))
   ·have he : e1 = e0 := by
     by_cases hij : i = j
     ·subst hij; rw [h2] at g2; exact (Option.some.inj g2).symm
     ·have := other_key F h2 g2 hij
      rw [g3, h3] at this
      exact absurd rfl this
    simp [Instr.lookup, run_underlying ht, MapKept.run_getObj_map hu, K.check u _ hkey, g1, he, Result.andThen]
  ·intro w2 val hw2
   refine ⟨es.modify j (fun e' => { e' with key := key, val := val }), clock, ?_, ?_⟩
   ·have hidx : es.findIdx? (fun e => ((e.born : Nat) : Int) == ((e0.born : Nat) : Int)) = some j := by
     rw [findIdx_arr]
     exact findIdx_born s2 h2
    have hmod : es.modify j (fun e => { e with val := val }) = es.modify j (fun e' => { e' with key := key, val := val }) := by
     apply Array.ext'
     rw [Array.toList_modify, Array.toList_modify, modify_eq_set _ _ _ _ h2, modify_eq_set _ _ _ _ h2, ← h3]
    simp [Instr.entryStore, MapKept.run_getObj_map hw2, asInt, asIntOf, goInt, hidx, hmod, MapKept.run_setObj_map _ hw2, Result.andThen, setBlock]
   ·simp [Instr.mapUpdate, run_underlying ht, MapKept.run_getObj_map hb, K.check w false hkey, h1, hj, h3, K.stays w hkey, MapKept.run_setObj_map _ hb, Result.andThen, setBlock]
end
open Go.ChangeShapes Go.WideShapes Go.ChangeAt Go.WideMaps Go.WideElems Go.RowKit
theorem laid_out : laidOutB Try.prog = true := by kernel_rfl
theorem trodAll_stays {H : Type} {enc : TypeId × Value → H} {P : Program} (hl : laidOutB P = true) {W W' : World} (hb : Below W.heap.size W W') {sp : Nat → Bool} :
  ∀ {ts : List TypeId} {vs : List Value} {ds : List (DataW H)} {ps : List MemPlace}, (ts.all fun t => P.readableRec t && decide (t < P.types.size)) = true → DataW.TrodAll enc P W 0 (fun _ => true) true ts vs ds ps →
   (∀ x ∈ ps, x.block < W.heap.size) → (∀ x ∈ ps, sp x.block = true) → DataW.TrodAll enc P W' 0 sp true ts vs ds ps
 | [], vs, ds, ps, _, h, _, _ => by
  cases vs <;> cases ds <;> simp [DataW.TrodAll] at h ⊢
  exact h
 | t :: ts, vs, ds, ps, ht, h, hlt, hs => by
  obtain ⟨v, vs', d, ds', p, q, rfl, rfl, rfl, h1, h2⟩ := trodAll_cons h
  simp only [List.all_cons, Bool.and_eq_true, decide_eq_true_eq] at ht
  refine trodAll_cons_mk (WideElems.Trod_stays hl ht.1.1 ht.1.2 h1 (fun x hx => hb.same (hlt x (by simp [hx]))) fun x hx => hs x (by simp [hx])) ?_
  exact trodAll_stays hl hb ht.2 h2 (fun x hx => hlt x (by simp [hx])) fun x hx => hs x (by simp [hx])
open Go.RowKit Go.Maps Go.ChangeMaps
abbrev pairV (k : Int × Int) : Value := .agg #[.int .i64 k.1, .int .i64 k.2]
def okK (k : Int × Int) : Prop := (Lit.int .i64 k.1).wf = true ∧ (Lit.int .i64 k.2).wf = true
def klit (k : Int × Int) : Lit := .string (keyBytes [.int .i64 k.1, .int .i64 k.2])
abbrev heldP : Value → Option (DataW Value × List MemPlace) := fun v => some (.held v, [])
set_option maxRecDepth 100000 in
theorem pk_keyed : Keyed Try.prog 35 := Keyed.of_law (deep_law_gate laid_out (by decide +kernel) (by decide +kernel) (by kernel_rfl) (by kernel_rfl))
set_option maxRecDepth 100000 in
theorem pair_key {k : Int × Int} (h : okK k) : keyOf Try.prog 35 (pairV k) = some (klit k) := by
 obtain ⟨ha, hb⟩ := h
 have hc : Try.prog.cellsOf 35 = 2 := by kernel_rfl
 have hc3 : Try.prog.cellsOf 3 = 1 := by kernel_rfl
 have key : ∀ d, Try.prog.keyLits (d + 2) 35 [.int .i64 k.1, .int .i64 k.2] = some [.int .i64 k.1, .int .i64 k.2] := by
  intro d
  simp [Program.keyLits, Try.underlying35, Try.underlying3, hc, hc3, ha, hb, List.range, List.range.loop]
 have hf : Value.formed Try.prog 35 (pairV k) = true := by
  simp [Value.formed, Try.underlying35, hc]
 have hk : Try.prog.keyType 35 = true := by kernel_rfl
 have h1 : 1 ≤ Try.prog.types.size := by decide +kernel
 obtain ⟨n, hn⟩ : ∃ n, Try.prog.types.size + 1 = n + 2 := ⟨Try.prog.types.size - 1, by omega⟩
 unfold keyOf
 rw [Try.underlying35]
 simp only [hk, hf, Bool.and_self, if_true]
 rw [hn]
 show Option.map _ (Try.prog.keyLits (n + 2) 35 [.int .i64 k.1, .int .i64 k.2]) = _
 rw [key n]; rfl
set_option maxRecDepth 100000 in
theorem keyLits_int {d : Nat} {x : Value} {l : List Lit} (h : Try.prog.keyLits (d + 1) 3 [x] = some l) : ∃ a, x = .int .i64 a ∧ l = [.int .i64 a] ∧ (Lit.int .i64 a).wf = true := by
 unfold Program.keyLits at h
 rw [Try.underlying3] at h
 cases x <;> simp at h
 obtain ⟨⟨rfl, h1⟩, rfl⟩ := h
 exact ⟨_, rfl, rfl, h1⟩
set_option maxRecDepth 100000 in
theorem keyLits_pair (n : Nat) (cs : List Value) : Try.prog.keyLits (n + 1) 35 cs = if cs.length = 2 then ((List.range 2).mapM fun i => Try.prog.keyLits n 3 ((cs.drop (i * 1)).take 1)).map List.flatten else none := by
 have hc : Try.prog.cellsOf 35 = 2 := by kernel_rfl
 have hc3 : Try.prog.cellsOf 3 = 1 := by kernel_rfl
 conv => lhs; unfold Program.keyLits
 rw [Try.underlying35]
 simp only [hc, hc3]
set_option maxRecDepth 100000 in
theorem pair_of_key {v : Value} {l : Lit} (h : keyOf Try.prog 35 v = some l) : ∃ k, v = pairV k ∧ l = klit k ∧ okK k := by
 obtain ⟨xs, L, rfl, hl, rfl⟩ := keyOf_top (by rw [Try.underlying35]) h
 have h1 : 1 ≤ Try.prog.types.size := by decide +kernel
 obtain ⟨n, hn⟩ : ∃ n, Try.prog.types.size + 1 = n + 2 := ⟨Try.prog.types.size - 1, by omega⟩
 rw [hn, keyLits_pair] at hl
 obtain ⟨cs⟩ := xs
 have hcs : cs.length = 2 := by
  split at hl
  ·assumption
  ·cases hl
 match cs, hcs with
 | [x, y], _ =>
  rw [if_pos (by rfl), Option.map_eq_some_iff] at hl
  obtain ⟨L2, h2, rfl⟩ := hl
  have hr : List.range 2 = [0, 1] := rfl
  rw [hr] at h2
  simp only [List.mapM_cons, List.mapM_nil, Option.bind_eq_bind, Option.bind_eq_some_iff, Option.pure_def, Option.some.injEq] at h2
  obtain ⟨a, ha, b2, ⟨b, hb, c, rfl, rfl⟩, rfl⟩ := h2
  obtain ⟨a, rfl, rfl, wa⟩ := keyLits_int ha
  obtain ⟨b, rfl, rfl, wb⟩ := keyLits_int hb
  exact ⟨(_, _), rfl, rfl, wa, wb⟩
set_option maxRecDepth 100000 in
theorem klit_inj {a b : Int × Int} (ha : okK a) (hb : okK b) (h : klit a = klit b) : a = b := by
 have h1 := pair_key ha
 rw [h] at h1
 have h2 := pk_keyed.inj h1 (pair_key hb)
 simp at h2
 exact Prod.ext h2.1 h2.2
def MapP (w : World) (b n : Nat) (f : Int × Int → Option Int) : Prop := ∃ D : DataW Value, w.ownsMap Try.prog 35 heldP b n D ∧ (∀ k, okK k → Maps.has D (klit k) = (f k).isSome ∧ ∀ z, D.atKey (klit k) z = (match f k with | some v => .held (.int .i64 v) | none => z)) ∧ ∀ k, (f k).isSome = true → okK k
section
variable {w w' : World} {b n m : Nat} {f : Int × Int → Option Int}
theorem MapP.blk (h : MapP w b n f) (hk : w'.heap[b]? = w.heap[b]?) : MapP w' b n f := by
 obtain ⟨D, ⟨es, clock, hb, rest⟩, h2⟩ := h
 exact ⟨D, ⟨es, clock, hk.trans hb, rest⟩, h2⟩
theorem MapP.lt (h : MapP w b n f) : b < w.heap.size := by
 obtain ⟨D, h1, _⟩ := h
 exact h1.lt
theorem MapP.up (h : MapP w b n f) (hb : Below w.heap.size w w') : MapP w' b n f := h.blk (hb.block b h.lt)
theorem MapP.made (w : World) : MapP (w.alloc (.map #[] 0)) w.heap.size 0 (fun _ => none) :=
 ⟨.map [], World.ownsMap_made _ _ _ _, fun _ _ => ⟨rfl, fun _ => rfl⟩, fun _ h => by cases h⟩
theorem MapP.ext {g : Int × Int → Option Int} (h : MapP w b n f) (hg : ∀ c, g c = f c) : MapP w b n g := by
 obtain rfl : g = f := funext hg
 exact h
theorem MapP.drew (h : MapP w b n f) : MapP w.drew b n f := h
set_option maxRecDepth 100000 in
theorem MapP.look (h : MapP w b n f) {k : Int × Int} (hk : okK k) : (Instr.lookup 31 (.map (some b)) (pairV k) false).run Try.prog w = .ok (.int .i64 ((f k).getD 0)) w := by
 obtain ⟨D, h1, h3, _⟩ := h
 obtain ⟨v, ps, hrun, hv⟩ := h1.lookup pk_keyed Try.underlying31 (z := .int .i64 0) (Try.zeroValue3 w) (zd := .held (.int .i64 0)) (zp := []) rfl (pair_key hk)
 have he : v = .int .i64 ((f k).getD 0) := by
  rw [(h3 k hk).2] at hv
  simp only [heldP, Option.some.injEq, Prod.mk.injEq] at hv
  have h4 := hv.1
  cases hf : f k with
  | none => rw [hf] at h4; injection h4
  | some u => rw [hf] at h4; injection h4
 rw [hrun, he]
set_option maxRecDepth 100000 in
theorem MapP.entry (h : MapP w b n f) {k : Int × Int} (hk : okK k) (hn : n ≤ 1000000) : ∃ (sv : Value) (W1 : World), (Instr.mapEntry 31 (.map (some b)) (pairV k)).run Try.prog w = .ok (.tuple #[.int .i64 ((f k).getD 0), sv]) W1 ∧
  (Instr.lookup 31 (.map (some b)) (pairV k) false).run Try.prog W1 = .ok (.int .i64 ((f k).getD 0)) W1 ∧
  ∀ x : Int, ∃ W2, (Instr.entryStore 31 (.map (some b)) sv (.int .i64 x)).run Try.prog W1 = .ok () W2 ∧ MapP W2 b (n + 1) (fun q => if q = k then some x else f q) ∧ w.grownBy W2 (some b) := by
 have hlk := h.look hk
 obtain ⟨D, h1, h3, h4⟩ := h
 have h2 := h1.isMap
 obtain ⟨es, clock, hb, F, hes, hD⟩ := h1
 obtain ⟨v0, st, es1, clock1, e1, e2, e3, e4⟩ := entry_any pk_keyed Try.underlying31 (z := .int .i64 0) (Try.zeroValue3) hb F (pair_key hk)
 rw [hlk] at e2
 obtain rfl : v0 = .int .i64 ((f k).getD 0) := by injection e2 with e2; exact e2.symm
 have hset : (setBlock w b (.map es1 clock1)).heap[b]? = some (.map es1 clock1) := heap_setBlock_same hb _
 refine ⟨_, _, e1, e3 _ hset, fun x => ?_⟩
 obtain ⟨es', clock', e5, e6⟩ := e4 _ (.int .i64 x) hset
 obtain ⟨W2, e7, o2, g2⟩ := World.ownsMap.update (d := .held (.int .i64 x)) (ps := []) (val := .int .i64 x) (R := heldP) ⟨es, clock, hb, F, hes, hD⟩ pk_keyed Try.underlying31 (by unfold maxLen; omega) (pair_key hk) rfl
 rw [e7] at e6
 injection e6 with _ e6
 have hss : setBlock (setBlock w b (.map es1 clock1)) b (.map es' clock') = setBlock w b (.map es' clock') := by
  simp [setBlock]
 rw [hss, ← e6] at e5
 refine ⟨W2, e5, ⟨_, o2, fun q hq => ?_, fun q hq => ?_⟩, g2⟩
 ·by_cases hqk : q = k
  ·subst hqk
   simp only [if_true]
   exact ⟨by rw [has_put_same h2 (pk_keyed.key (pair_key hk))]; rfl, fun z => atKey_put_same h2 (pk_keyed.key (pair_key hk)) _ _⟩
  ·simp only [if_neg hqk]
   have hne : klit q ≠ klit k := fun e => hqk (klit_inj hq hk e)
   exact ⟨by rw [has_put_other hne]; exact (h3 q hq).1, fun z => by rw [atKey_put_other hne]; exact (h3 q hq).2 z⟩
 ·by_cases hqk : q = k
  ·subst hqk; exact hk
  ·simp only [if_neg hqk] at hq
   exact h4 q hq
end
def fsum (L : List Lnk) (k : Int × Int) : Option Int := if k ∈ L.map kOf then some (wr (amtK L k)) else none
theorem fsum_getD (L : List Lnk) (k : Int × Int) : (fsum L k).getD 0 = wr (amtK L k) := by
 unfold fsum
 split
 ·rfl
 ·rename_i h
  rw [amtK_none h, wr_zero]; rfl
theorem fsum_snoc (L : List Lnk) (x : Lnk) (q : Int × Int) : fsum (L ++ [x]) q = if q = kOf x then some (wr ((fsum L (kOf x)).getD 0 + x.tgt)) else fsum L q := by
 rw [fsum_getD]
 unfold fsum
 rw [amtK_append, amtK_cons, amtK_nil]
 by_cases h : q = kOf x
 ·subst h
  rw [if_pos (by simp), if_pos rfl, if_pos rfl, wr_add]
  congr 2; omega
 ·have h' : ¬ kOf x = q := fun e => h e.symm
  rw [if_neg h', if_neg h]
  have : (q ∈ (L ++ [x]).map kOf) ↔ q ∈ L.map kOf := by simp [h]
  simp only [this]
  congr 3; omega
open Go.RowKit
theorem below_new {W w : World} (h : Below W.heap.size W w) (o : Obj) : Below W.heap.size W (w.alloc o) := below_more h (below_alloc_new o)
theorem ccmp_any (x y : Int) (w : World) : Calls Try.prog 29 #[.int .i64 x, .int .i64 y] w fun e w' => e = .returned (.int .i64 (cmI x y)) ∧ w = w' := by
 have hn : ∀ (x : Int) (w : World), Calls Try.prog 40 #[.int .i64 x] w fun e w' => e = .returned (.bool false) ∧ w = w' := by
  intro x w
  have h : (x != x) = false := by simp
  go_enter Try.func40, Try.ntmps40
  go_wp2_with fail
  go_ret
  exact ⟨rfl, rfl⟩
 have HN := Lib.hid hn
 clear hn
 unfold cmI
 rcases Int.lt_trichotomy x y with h | h | h
 ·rw [if_pos h]
  go_enter Try.func29, Try.ntmps29
  go_wp2_with (go_at_call 40; refine (HN.out _ _).mono ?_; rintro e w' ⟨rfl, rfl⟩)
  go_ret
  exact ⟨rfl, rfl⟩
 ·subst h
  rw [if_neg (Int.lt_irrefl _), if_neg (Int.lt_irrefl _)]
  have h1 : decide (x < x) = false := decide_eq_false (Int.lt_irrefl _)
  go_enter Try.func29, Try.ntmps29
  go_wp2_with (go_at_call 40; refine (HN.out _ _).mono ?_; rintro e w' ⟨rfl, rfl⟩)
  go_ret
  exact ⟨rfl, rfl⟩
 ·have h2 : ¬ x < y := by omega
  rw [if_neg h2, if_pos h]
  have h1 : decide (x < y) = false := decide_eq_false (by omega)
  go_enter Try.func29, Try.ntmps29
  go_wp2_with (go_at_call 40; refine (HN.out _ _).mono ?_; rintro e w' ⟨rfl, rfl⟩)
  go_ret
  exact ⟨rfl, rfl⟩
end Go.Proofs.Ytfombohomebokaa
namespace Go.Proofs
open Go.Shelf
def Try.sortf23_ren : Go.Shelf.Ren := ⟨fun | 6 => 23 | 15 => 28 | 14 => 27 | 28 => 38 | 29 => 39 | 20 => 30 | 21 => 31 | 22 => 32 | 23 => 33 | 24 => 34 | 25 => 35 | 26 => 36 | 27 => 37 | 46 => 41 | 47 => 42 | 48 => 43 | 49 => 44 | 50 => 45 | 57 => 46 | n => n, fun | 22 => 33 | 24 => 35 | 25 => 39 | 3 => 3 | 39 => 51 | 0 => 0 | 53 => 62 | 55 => 64 | 4 => 4 | 46 => 55 | 45 => 54 | 50 => 59 | 5 => 5 | 9 => 9 | 66 => 66 | 70 => 70 | 76 => 72 | 77 => 73 | n => n, fun | n => n⟩
theorem Try.sortf23 : Go.Proofs.SlLaysF0.n6 Try.prog Try.sortf23_ren := {
 mixed := by kernel_rfl
 f6 := ⟨Try.f23.name, by decide, Try.func23.trans (congrArg some (by kernel_rfl))⟩
 f14 := ⟨Try.f27.name, by decide, Try.func27.trans (congrArg some (by kernel_rfl))⟩
 f15 := Try.func28.trans (congrArg some (by kernel_rfl))
 f20 := ⟨Try.f30.name, by decide, Try.func30.trans (congrArg some (by kernel_rfl))⟩
 f21 := ⟨Try.f31.name, by decide, Try.func31.trans (congrArg some (by kernel_rfl))⟩
 f22 := ⟨Try.f32.name, by decide, Try.func32.trans (congrArg some (by kernel_rfl))⟩
 f23 := ⟨Try.f33.name, by decide, Try.func33.trans (congrArg some (by kernel_rfl))⟩
 f24 := ⟨Try.f34.name, by decide, Try.func34.trans (congrArg some (by kernel_rfl))⟩
 f25 := ⟨Try.f35.name, by decide, Try.func35.trans (congrArg some (by kernel_rfl))⟩
 f26 := ⟨Try.f36.name, by decide, Try.func36.trans (congrArg some (by kernel_rfl))⟩
 f27 := ⟨Try.f37.name, by decide, Try.func37.trans (congrArg some (by kernel_rfl))⟩
 f28 := Try.func38.trans (congrArg some (by kernel_rfl))
 f29 := Try.func39.trans (congrArg some (by kernel_rfl))
 f46 := ⟨Try.f41.name, by decide, Try.func41.trans (congrArg some (by kernel_rfl))⟩
 f47 := Try.func42.trans (congrArg some (by kernel_rfl))
 f48 := Try.func43.trans (congrArg some (by kernel_rfl))
 f49 := ⟨Try.f44.name, by decide, Try.func44.trans (congrArg some (by kernel_rfl))⟩
 f50 := ⟨Try.f45.name, by decide, Try.func45.trans (congrArg some (by kernel_rfl))⟩
 f57 := ⟨Try.f46.name, by decide, Try.func46.trans (congrArg some (by kernel_rfl))⟩
 t0 := Try.underlying0
 a0 := Try.isAgg0
 z0 := Try.sizeOf0
 v0 := Try.zeroValue0
 t3 := Try.underlying3
 a3 := Try.isAgg3
 z3 := Try.sizeOf3
 v3 := Try.zeroValue3
 t4 := Try.underlying4
 a4 := Try.isAgg4
 z4 := Try.sizeOf4
 v4 := Try.zeroValue4
 t5 := Try.underlying5
 a5 := Try.isAgg5
 z5 := Try.sizeOf5
 v5 := Try.zeroValue5
 t9 := Try.underlying9
 a9 := Try.isAgg9
 z9 := Try.sizeOf9
 v9 := Try.zeroValue9
 t22 := Try.underlying33
 a22 := Try.isAgg33
 z22 := Try.sizeOf33
 v22 := Try.zeroValue33
 t25 := Try.underlying39
 a25 := Try.isAgg39
 z25 := Try.sizeOf39
 v25 := Try.zeroValue39
 t39 := Try.underlying51
 a39 := Try.isAgg51
 z39 := Try.sizeOf51
 v39 := Try.zeroValue51
 t45 := Try.underlying54
 a45 := Try.isAgg54
 z45 := Try.sizeOf54
 v45 := Try.zeroValue54
 t46 := Try.underlying55
 a46 := Try.isAgg55
 z46 := Try.sizeOf55
 v46 := Try.zeroValue55
 t50 := Try.underlying59
 a50 := Try.isAgg59
 z50 := Try.sizeOf59
 v50 := Try.zeroValue59
 t53 := Try.underlying62
 a53 := Try.isAgg62
 z53 := Try.sizeOf62
 v53 := Try.zeroValue62
 t55 := Try.underlying64
 a55 := Try.isAgg64
 z55 := Try.sizeOf64
 v55 := Try.zeroValue64
 t66 := Try.underlying66
 a66 := Try.isAgg66
 z66 := Try.sizeOf66
 v66 := Try.zeroValue66
 t70 := Try.underlying70
 a70 := Try.isAgg70
 z70 := Try.sizeOf70
 v70 := Try.zeroValue70
 t76 := Try.underlying72
 a76 := Try.isAgg72
 z76 := Try.sizeOf72
 v76 := Try.zeroValue72
 t77 := Try.underlying73
 a77 := Try.isAgg73
 z77 := Try.sizeOf73
 v77 := Try.zeroValue73 }
end Go.Proofs
namespace Go.Proofs.Ytfombohomebokaa
open Go.RowKit Go.Sort Go.Shelf
def cmK (x y : Int × Int) : Int := if cmI x.1 y.1 = 0 then cmI x.2 y.2 else cmI x.1 y.1
theorem cmI_ltx {x y : Int} : cmI x y < 0 ↔ x < y := by unfold cmI; split <;> (try split) <;> omega
theorem cmI_eqx {x y : Int} : cmI x y = 0 ↔ x = y := by unfold cmI; split <;> (try split) <;> omega
theorem ltOf_cmK (x y : Int × Int) : ltOf cmK x y = decide (ltK x y) := by
 unfold ltOf cmK ltK
 by_cases h : cmI x.1 y.1 = 0
 ·rw [if_pos h]
  have h2 := cmI_eqx.1 h
  have h3 := cmI_ltx (x := x.2) (y := y.2)
  refine decide_eq_decide.2 ?_
  rw [h3]; omega
 ·rw [if_neg h]
  have h2 := mt cmI_eqx.2 h
  have h3 := cmI_ltx (x := x.1) (y := y.1)
  refine decide_eq_decide.2 ?_
  rw [h3]; omega
theorem cmK_swo : SWO (ltOf cmK) where
 irrefl x := by rw [ltOf_cmK]; simpa using ltK_irrefl x
 trans x y z h1 h2 := by rw [ltOf_cmK] at *; simp only [decide_eq_true_eq] at *; exact ltK_trans h1 h2
 ntrans x y z h1 h2 := by rw [ltOf_cmK] at *; simp only [decide_eq_false_iff_not] at *; unfold ltK at *; omega
theorem cmK_tot (x y : Int × Int) (h1 : ltOf cmK x y = false) (h2 : ltOf cmK y x = false) : x = y := by
 rw [ltOf_cmK] at h1 h2
 exact ltK_tri (of_decide_eq_false h1) (of_decide_eq_false h2)
structure P2 (w : World) (b : Nat) (k : Int × Int) : Prop where
 c0 : w.cell? ⟨b, 0, none⟩ = some (.int .i64 k.1)
 c1 : w.cell? ⟨b, 1, none⟩ = some (.int .i64 k.2)
 lt : b < w.heap.size
theorem P2.up {w w' : World} {b : Nat} {k : Int × Int} (h : P2 w b k) (hb : Below w.heap.size w w') : P2 w' b k :=
 ⟨(hb.cell (p := ⟨b, 0, none⟩) h.lt).trans h.c0, (hb.cell (p := ⟨b, 1, none⟩) h.lt).trans h.c1, Nat.lt_of_lt_of_le h.lt hb.size⟩
theorem p2_new (w : World) (t : TypeId) (k : Int × Int) : P2 (w.alloc (.cells #[.int .i64 k.1, .int .i64 k.2] t)) w.heap.size k := by
 refine ⟨?_, ?_, by simp⟩ <;> (simp only [World.cell?]; rw [heap_alloc_new]; rfl)
set_option maxRecDepth 20000 in
set_option maxHeartbeats 1600000 in
theorem scmp_any (p q : Nat) (x y : Int × Int) (w : World) (hx : P2 w p x) (hy : P2 w q y) :
  Calls Try.prog 25 #[.slice (some ⟨p, 0, none⟩) 2 2, .slice (some ⟨q, 0, none⟩) 2 2] w fun e w' => e = .returned (.int .i64 (cmK x y)) ∧ w = w' := by
 obtain ⟨a0, a1, -⟩ := hx
 obtain ⟨b0, b1, -⟩ := hy
 obtain ⟨x1, x2⟩ := x
 obtain ⟨y1, y2⟩ := y
 dsimp only at a0 a1 b0 b1
 have HC := Lib.hid (ccmp_any x1 y1)
 have HD := Lib.hid (ccmp_any x2 y2)
 have hE : cmK (x1, x2) (y1, y2) = if cmI x1 y1 = 0 then cmI x2 y2 else cmI x1 y1 := rfl
 rw [hE]
 clear hE
 generalize cmI x1 y1 = c at *
 generalize cmI x2 y2 = d at *
 go_enter Try.func25, Try.ntmps25
 go_wp2_with fail
 go_loopg [11] 2 (fun kx s11 W => w = W ∧ ((s11 = .int .i64 0 ∧ 2 ≤ kx) ∨ (s11 = .int .i64 1 ∧ 1 ≤ kx ∧ c = 0) ∨ (s11 = .int .i64 2 ∧ c = 0 ∧ d = 0)))
 case atStart => exact ⟨rfl, .inl ⟨rfl, by omega⟩⟩
 case round =>
  obtain ⟨rfl, hrel⟩ := hrel
  rcases hrel with ⟨rfl, hk⟩ | ⟨rfl, hk, rfl⟩ | ⟨rfl, rfl, rfl⟩
  ·by_cases hc : c = 0
   ·subst hc
    go_wp2_with (go_at_call 29; refine (HC.out _).mono ?_; rintro e w' ⟨rfl, rfl⟩)
    go_roundg 1
    case measure => omega
    case rel => exact ⟨by first | trivial | rfl, .inr (.inl ⟨rfl, by omega, by first | rfl | trivial⟩)⟩
   ·go_wp2_with (go_at_call 29; refine (HC.out _).mono ?_; rintro e w' ⟨rfl, rfl⟩)
    go_ret
    exact ⟨by first | rfl | (rw [if_neg hc]; rfl), rfl⟩
  ·by_cases hd : d = 0
   ·subst hd
    go_wp2_with (go_at_call 29; refine (HD.out _).mono ?_; rintro e w' ⟨rfl, rfl⟩)
    go_roundg 0
    case measure => omega
    case rel => exact ⟨by first | trivial | rfl, .inr (.inr ⟨rfl, by first | rfl | trivial, by first | rfl | trivial⟩)⟩
   ·go_wp2_with (go_at_call 29; refine (HD.out _).mono ?_; rintro e w' ⟨rfl, rfl⟩)
    go_ret
    exact ⟨by first | rfl | (rw [if_pos rfl]; rfl), rfl⟩
  ·go_wp2_with fail
   go_ret
   exact ⟨by first | rfl | (rw [if_pos rfl]; rfl), rfl⟩
set_option maxRecDepth 20000 in
set_option maxHeartbeats 1600000 in
theorem ecmp_any (x y : Int × Int) (w : World) :
  Calls Try.prog 17 #[.agg #[.int .i64 x.1, .int .i64 x.2], .agg #[.int .i64 y.1, .int .i64 y.2]] w fun e w' => e = .returned (.int .i64 (cmK x y)) ∧ ∃ q os, w' = grow (w.drewN q) os := by
 have HC := Lib.hid (fun W h1 h2 => scmp_any w.heap.size (w.heap.size + 1) x y W h1 h2)
 have hx := p2_new w 35 x
 have hy := p2_new (w.alloc (.cells #[.int .i64 x.1, .int .i64 x.2] 35)) 35 y
 rw [World.size_alloc] at hy
 have hx2 := hx.up (below_alloc_new (.cells #[.int .i64 y.1, .int .i64 y.2] 35))
 have HX : Hid (∀ n, P2 (((w.alloc (.cells #[.int .i64 x.1, .int .i64 x.2] 35)).alloc (.cells #[.int .i64 y.1, .int .i64 y.2] 35)).drewN n) w.heap.size x) := Lib.hid fun n => ⟨hx2.c0, hx2.c1, hx2.lt⟩
 have HY : Hid (∀ n, P2 (((w.alloc (.cells #[.int .i64 x.1, .int .i64 x.2] 35)).alloc (.cells #[.int .i64 y.1, .int .i64 y.2] 35)).drewN n) (w.heap.size + 1) y) := Lib.hid fun n => ⟨hy.c0, hy.c1, hy.lt⟩
 clear hx hy hx2
 generalize cmK x y = r at *
 go_enter Try.func17, Try.ntmps17
 go_wp2_with fail
 obtain ⟨W1, hW1⟩ : ∃ W1, (w.alloc (.cells #[.int .i64 x.1, .int .i64 x.2] 35)).alloc (.cells #[.int .i64 y.1, .int .i64 y.2] 35) = W1 := ⟨_, rfl⟩
 rw [hW1] at HX HY ⊢
 have HW1 := Lib.hid hW1
 clear hW1
 go_quiet ((go_at_call 25; exact (HC.out _ (HX.out _) (HY.out _)).mono (fun _ _ h => ⟨h.1, _, h.2.symm⟩)))
 go_wp2_with fail
 go_ret
 exact ⟨rfl, _, _, by rw [← HW1.out, alloc_eq_grow, alloc_eq_grow, grow_grow]; rfl⟩
open Go.RowKit Go.Maps Go.Sort Go.Shelf
def celP (k : Int × Int) : List Value := [.int .i64 k.1, .int .i64 k.2]
theorem cells_two_new (w : World) (t : TypeId) (a b : Value) : ∀ (j : Nat) (u : Value), [a, b][j]? = some u → (w.alloc (.cells #[a, b] t)).cell? ((⟨w.heap.size, 0, none⟩ : Addr).add j) = some u := by
 intro j u hj
 match j, hj with
 | 0, hj =>
  simp at hj; subst hj
  unfold World.cell? Addr.add
  rw [if_pos rfl]
  dsimp only
  rw [heap_alloc_new]
  rfl
 | 1, hj =>
  simp at hj; subst hj
  unfold World.cell? Addr.add
  rw [if_neg (by decide)]
  dsimp only
  rw [heap_alloc_new]
  rfl
 | j + 2, hj => simp at hj
theorem infoP : (Try.prog.info? 35).map (fun i => (i.zero, i.size, i.bytes)) = some (some (.agg #[.int .i64 0, .int .i64 0]), 2, 16) := by kernel_rfl
def CollP (D0 : DataW Value) (left : Lit → Bool) (ss : List (Int × Int)) : Prop := ss.Nodup ∧ ∀ k, k ∈ ss ↔ okK k ∧ Maps.has D0 (klit k) = true ∧ left (klit k) = false
section
variable {D0 : DataW Value} {left : Lit → Bool} {ss : List (Int × Int)}
theorem CollP.start (D0 : DataW Value) : CollP D0 (Maps.has D0) [] := ⟨List.nodup_nil, fun k => by cases Maps.has D0 (klit k) <;> simp⟩
theorem CollP.step (h : CollP D0 left ss) {x : Int × Int} (hx : okK x) {y : DataW Value} (hlk : left (klit x) = true) (hat : ∀ zd, D0.atKey (klit x) zd = y) : CollP D0 (fun z => left z && !z.sameKey (klit x)) (ss ++ [x]) := by
 have hhas : Maps.has D0 (klit x) = true := has_true_of_atKey hat
 have hno : x ∉ ss := fun hm => by
  have := ((h.2 x).1 hm).2.2
  rw [hlk] at this; cases this
 refine ⟨List.nodup_append.2 ⟨h.1, by simp, fun a ha b hb e => ?_⟩, fun q => ?_⟩
 ·rw [List.mem_singleton] at hb
  subst hb; subst e; exact hno ha
 ·rw [List.mem_append, List.mem_singleton, h.2 q]
  by_cases hq : q = x
  ·subst hq
   have : (klit q).sameKey (klit q) = true := WideAt.sameKey_self (pk_keyed.key (pair_key hx))
   simp [this, hhas, hx]
  ·constructor
   ·rintro (⟨h1, h2, h3⟩ | rfl)
    ·exact ⟨h1, h2, by simp [h3]⟩
    ·exact absurd rfl hq
   ·rintro ⟨h1, h2, h3⟩
    have hne : (klit q).sameKey (klit x) = false := by
     cases hs : (klit q).sameKey (klit x)
     ·rfl
     ·exact absurd (klit_inj h1 hx (WideAt.sameKey_eq hs)) hq
    simp only [hne] at h3
    exact .inl ⟨h1, h2, by simpa using h3⟩
end
set_option maxRecDepth 100000 in
set_option maxHeartbeats 1600000 in
theorem pkeys1_in (n : Nat) (hn : 1 ≤ n) (l Bm b nn : Nat) (D0 : DataW Value) (J : List (Int × Int) → World → Prop)
  (hY : ∀ pre x W, J pre W → pre.length < Maps.size D0 → YieldAt Fence.wide (n - 1) Try.prog l #[pairV x] W fun e W' => e = .returned (.bool true) ∧ J (pre ++ [x]) W' ∧ KeepsWalks W W')
  (W : World) (hJ : AbidesFrom W.heap.size J) (hm : W.cell? ⟨Bm, 0, none⟩ = some (.map (some b))) (hown : W.ownsMap Try.prog 35 heldP b nn D0) (h0 : J [] W) :
  CallsIn Fence.wide n Try.prog 24 #[.func (.yield l) #[] #[], .pointer (some ⟨Bm, 0, none⟩)] W fun e W' => (∃ v, e = .returned v) ∧ ∃ ss : List (Int × Int), CollP D0 (fun _ => false) ss ∧ J ss W' := by
 refine callsIn_of_wp Try.func24 rfl trivial ?_ rfl
 simp only [Try.ntmps24, List.size_toArray, List.length_cons, List.length_nil, Nat.reduceAdd, Nat.reduceSub, Array.replicate_succ, Array.replicate_zero, List.push_toArray, List.append_toArray, List.nil_append, List.cons_append]
 gi_wp2_with (first
  | (gi_at_range; refine wpListIn_range_own _ rfl _ 31 rfl 35 3 pk_keyed Try.underlying31 _ b nn _ rfl hown ?_; intro w0 hrg0 hg0 hs0)
  | gi_in)
 go_frame
 gi_loopw [3] (fun _ wr => ∃ (left : Lit → Bool) (cnt : Nat) (ss : List (Int × Int)), wr.ranges Try.prog 35 heldP b W.heap.size nn D0 left cnt ∧ ss.length + cnt ≤ Maps.size D0 ∧ CollP D0 left ss ∧ J ss wr ∧ W.heap.size ≤ wr.heap.size)
  (fun _ wr => wr.rangeLeft b W.heap.size)
 case atStart =>
  exact ⟨_, _, [], hrg0, by simp, CollP.start D0, hJ [] W w0 none h0 hg0 (fun r e => by cases e), by omega⟩
 case round =>
  obtain ⟨left, cnt, ss, hrg, hcs, hC, hJs, hsz⟩ := hrel
  gi_wp2_with (first
   | (gi_at_next; refine wpListIn_next_ranges _ rfl _ rfl 35 pk_keyed heldP pairV id (fun key kl hk => by obtain ⟨x, hx, _⟩ := pair_of_key hk; exact ⟨x, hx⟩) (fun v _ _ => ⟨v, rfl⟩) b W.heap.size nn _ _ _ rfl hrg ?_ ?_)
   | gi_in)
  ·intro hc0 hl0
   gi_wp2
   go_end0
   obtain rfl : left = fun _ => false := funext hl0
   exact ⟨⟨_, rfl⟩, ss, hC, hJs⟩
  ·intro x1 x2 c kl yd yp w2 cnt2 hkey hlk hv hv2 hat hrg2 hlt hg2 hs2 hen
   obtain ⟨x', ex, rfl, hok⟩ := pair_of_key hkey
   obtain rfl : (x1, x2) = x' := by
    simp only [pairV, Value.agg.injEq, Array.mk.injEq, List.cons.injEq, Value.int.injEq, true_and, and_true] at ex
    exact Prod.ext ex.1 ex.2
   have hJ2 : J ss w2 := hJ ss wr w2 (some W.heap.size) hJs hg2 (fun r e => by cases e; exact ⟨Nat.le_refl _, hrg.iter_walk⟩)
   obtain ⟨w3, hw3⟩ : ∃ w3, w2.alloc (.cells #[.int .i64 x1, .int .i64 x2] 35) = w3 := ⟨_, rfl⟩
   have hJ3 : J ss w3 := hJ ss w2 w3 none hJ2 (by rw [← hw3]; exact World.grownBy_alloc _ _ none) (fun r e => by cases e)
   have hp3 : P2 w3 w2.heap.size (x1, x2) := by rw [← hw3]; exact p2_new w2 _ (x1, x2)
   obtain ⟨d0, d1, -⟩ := hp3
   dsimp only at d0 d1
   have hrg3 := hrg2.of_walks (by rw [← hw3]; exact KeepsWalks.alloc _ _ : KeepsWalks w2 w3)
   have hs3 : w3.heap.size = w2.heap.size + 1 := by rw [← hw3]; simp
   obtain ⟨fn, tmps, assign, body, hy, hR⟩ := hY ss (x1, x2) w3 hJ3 (by omega)
   have HS2 := Lib.hid hs2
   clear hs2
   gi_wp2
   refine hR.mono ?_
   rintro e W3 ⟨rfl, hJ4, hk3⟩
   gi_wp2
   have hrg4 := hrg3.of_walks hk3
   go_roundw
   case rel => exact ⟨_, cnt2, ss ++ [(x1, x2)], hrg4, by simp; omega, hC.step hok hlk hat, hJ4, by have := hk3.size; have := HS2.out; omega⟩
   case measure => rw [hrg4.left_eq, hrg.left_eq]; exact hlt
theorem pkeys_gives (n : Nat) (hn : 1 ≤ n) (Bm b nn : Nat) (D0 : DataW Value) (w : World) (hBm : Bm < w.heap.size) (hm : w.cell? ⟨Bm, 0, none⟩ = some (.map (some b))) (hown : w.ownsMap Try.prog 35 heldP b nn D0) :
  SeqGives Fence.wide n Try.prog 24 #[.pointer (some ⟨Bm, 0, none⟩)] pairV (fun ss => CollP D0 (fun _ => false) ss) (Maps.size D0) w := fun l J W hW hJ hY h0 => by
 have hown' : W.ownsMap Try.prog 35 heldP b nn D0 := by
  have hbl := hown.lt
  obtain ⟨es, clock, hb, Ft, hs, hD⟩ := hown
  exact ⟨es, clock, (hW.block b hbl).trans hb, Ft, hs, hD⟩
 exact pkeys1_in n hn l Bm b nn D0 J hY W hJ ((hW.cell (p := ⟨Bm, 0, none⟩) hBm).trans hm) hown' h0

/-! What a round of the collecting loop does. -/
def epAssign : Code := .region 2 #[{ dst := some 5, op := .alloc 35, type := 0, pos := "iter.go:51", after := #[], guard := none }, { dst := none, op := .store 35 (.tmp 5) (.tmp 7), type := 0, pos := "iter.go:51", after := #[{ on := 0, ground := .data }, { on := 0, ground := .phase }], guard := none }] false
def epBody : Code := .block 1 (.region 3 #[{ dst := some 8, op := .load 33 (.tmp 2), type := 33, pos := "iter.go:52", after := #[], guard := none }, { dst := some 9, op := .load 35 (.tmp 5), type := 35, pos := "iter.go:52", after := #[], guard := none }, { dst := some 10, op := .buildSlice 33 1 #[(0, .tmp 9)], type := 33, pos := "iter.go:52", after := #[{ on := 1, ground := .data }], guard := none }, { dst := some 11, op := .call { callee := .builtin .append, args := #[.tmp 8, .tmp 10], argTypes := #[33, 33] }, type := 33, pos := "iter.go:52", after := #[{ on := 0, ground := .data }, { on := 2, ground := .data }], guard := none }, { dst := none, op := .store 33 (.tmp 2) (.tmp 11), type := 0, pos := "iter.go:52", after := #[{ on := 3, ground := .data }, { on := 3, ground := .chain }, { on := 0, ground := .phase }, { on := 1, ground := .phase }, { on := 2, ground := .phase }, { on := 3, ground := .phase }], guard := none }] false)
def epRec (fn : FuncId) (sv : Value) (Bs D : Nat) (st : LoopState) (pend : Option Code) : Loop :=
 { state := st, pending := pend, fn, tmps := #[.slice none 0 0, sv, .pointer (some ⟨Bs, 0, none⟩), undef, .slice none 0 0, undef, sv, undef, undef, undef, undef, undef, undef], params := #[7], assign := epAssign, body := epBody, defers := D }
structure EpAt (w0 : World) (fn : FuncId) (sv : Value) (Bs l D : Nat) (ss : List (Int × Int)) (W : World) : Prop where
 box : ∃ v, W.heap[Bs]? = some (.cells #[v] 33 (0, 0)) ∧ W.ownsRow w0.heap.size 35 2 v ss.length (ss.flatMap celP)
 L : W.heap[l]? = some (.loop (epRec fn sv Bs D .ready none))
 K : W.heap[D]? = some (.deferred (some []))
 below : Below w0.heap.size w0 W
theorem ep_abides (w0 : World) (fn : FuncId) (sv : Value) (Bs l D B : Nat) (hB : w0.heap.size ≤ B) : AbidesFrom B (EpAt w0 fn sv Bs l D) := fun s W W' row h hg hrow => by
 have hrow' : ∀ r, row = some r → ∃ o : Obj, W.heap[r]? = some o ∧ o.isWalk = true := fun r e => (hrow r e).2
 obtain ⟨v, hv, hr⟩ := h.box
 exact ⟨⟨v, (grownBy_keeps hg hrow' hv rfl).trans hv, ownsRow_abides_a hr hg hrow'⟩, (grownBy_keeps hg hrow' h.L rfl).trans h.L, (grownBy_keeps hg hrow' h.K rfl).trans h.K,
  h.below.grown hg h.below.size (fun k e => Nat.le_trans hB (hrow k e).1)⟩
set_option maxRecDepth 100000 in
set_option maxHeartbeats 4000000 in
theorem epYield (m : Nat) (w0 : World) (fn : FuncId) (sv : Value) (Bs l D : Nat) (hBl : Bs ≠ l) (hDl : D ≠ l) (hDB : D ≠ Bs) (h0B : w0.heap.size ≤ Bs) (h0l : w0.heap.size ≤ l)
    (N : Nat) (hN : N ≤ 1000000) (ss : List (Int × Int)) (x : Int × Int) (W : World) (h : EpAt w0 fn sv Bs l D ss W) (hlen : ss.length < N) :
    YieldAt Fence.wide m Try.prog l #[pairV x] W fun e W' => e = .returned (.bool true) ∧ EpAt w0 fn sv Bs l D (ss ++ [x]) W' ∧ KeepsWalks W W' := by
  have hne : ∀ {t : TypeId} {c d : Array Value} {o o' : Nat × Nat}, t ≠ 35 → Obj.cells c t o ≠ Obj.cells d 35 o' := fun ht e => ht (Obj.cells.inj e).2.1
  obtain ⟨i0, hi, hz0, hz1, hz2⟩ := info_parts infoP
  obtain ⟨v, hv, hrow⟩ := h.box
  refine ⟨fn, #[.slice none 0 0, sv, .pointer (some ⟨Bs, 0, none⟩), undef, .slice none 0 0, undef, sv, pairV x, undef, undef, undef, undef, undef], epAssign, epBody, by simpa [epRec] using run_yield (P := Try.prog) (args := #[pairV x]) h.L rfl, roundIn_of_wpIn trivial ?_⟩
  have hl : l < W.heap.size := (Array.getElem?_eq_some_iff.1 h.L).1
  have hBlt0 : Bs < W.heap.size := (Array.getElem?_eq_some_iff.1 hv).1
  have hDlt0 : D < W.heap.size := (Array.getElem?_eq_some_iff.1 h.K).1
  obtain ⟨B1, hB1⟩ : ∃ B1, W.heap.size = B1 := ⟨_, rfl⟩
  obtain ⟨W2, hW2⟩ : ∃ W2, W.alloc (.cells #[.int .i64 x.1, .int .i64 x.2] 35) = W2 := ⟨_, rfl⟩
  have hv2 : W2.heap[Bs]? = some (.cells #[v] 33 (0, 0)) := by rw [← hW2]; exact (Below.heap_alloc _ _ Bs hBlt0).trans hv
  have hK2 : W2.heap[D]? = some (.deferred (some [])) := by rw [← hW2]; exact (Below.heap_alloc _ _ D hDlt0).trans h.K
  have hL2 : W2.heap[l]? = some (.loop (epRec fn sv Bs D .ready none)) := by rw [← hW2]; exact (Below.heap_alloc _ _ l hl).trans h.L
  have hrow2 : W2.ownsRow w0.heap.size 35 2 v ss.length (ss.flatMap celP) := by rw [← hW2]; exact World.ownsRow.alloc hrow _
  have hb2 : Below w0.heap.size w0 W2 := by rw [← hW2]; exact h.below.alloc h.below.size _
  have hk2 : KeepsWalks W W2 := by rw [← hW2]; exact KeepsWalks.alloc _ _
  obtain ⟨d0, d1, hBn⟩ : P2 W2 B1 x := by rw [← hW2, ← hB1]; exact p2_new W _ x
  have hl2 : l < W2.heap.size := (Array.getElem?_eq_some_iff.1 hL2).1
  have hlB : l ≠ B1 := by omega
  have hbr := run_beginRound (P := Try.prog) hL2 rfl
  obtain ⟨W3, hW3⟩ : ∃ W3, W2.putObj l (.loop { epRec fn sv Bs D .ready none with state := .busy }) = W3 := ⟨_, rfl⟩
  rw [hW3] at hbr
  have hg3 : W2.grownBy W3 (some l) := by rw [← hW3]; exact grownBy_putObj_a _ _ _
  have hv3 : W3.heap[Bs]? = some (.cells #[v] 33 (0, 0)) := by rw [← hW3]; exact (World.putObj_heap_other hBl).trans hv2
  have hK3 : W3.heap[D]? = some (.deferred (some [])) := by rw [← hW3]; exact (World.putObj_heap_other hDl).trans hK2
  have hL3 : W3.heap[l]? = some (.loop { epRec fn sv Bs D .ready none with state := .busy }) := by rw [← hW3]; exact World.putObj_heap_same hl2
  have hrow3 : W3.ownsRow w0.heap.size 35 2 v ss.length (ss.flatMap celP) := hrow2.kept hg3 (ownsRow_ne_a hrow2 hL2 (fun cur e => by cases e))
  have hb3 : Below w0.heap.size w0 W3 := hb2.grown hg3 hb2.size (fun k e => by cases e; exact h0l)
  have hk3 : KeepsWalks W W3 := by rw [← hW3]; exact hk2.trans (KeepsWalks.putObj _ hL2 rfl)
  replace d0 : W3.cell? ⟨B1, 0, none⟩ = some (.int .i64 x.1) := by rw [← d0]; exact World.cell?_of_block (hg3.block B1 hBn (fun e => hlB (by cases e; rfl)))
  replace d1 : W3.cell? ⟨B1, 1, none⟩ = some (.int .i64 x.2) := by rw [← d1]; exact World.cell?_of_block (hg3.block B1 hBn (fun e => hlB (by cases e; rfl)))
  have hBlt : Bs < W3.heap.size := (Array.getElem?_eq_some_iff.1 hv3).1
  have hl3 : l < W3.heap.size := (Array.getElem?_eq_some_iff.1 hL3).1
  have hDlt : D < W3.heap.size := (Array.getElem?_eq_some_iff.1 hK3).1
  obtain ⟨hc3, hf3⟩ := cell_of_box_a hv3
  have ne_of : ∀ {j : Nat} {o : Obj}, W3.heap[j]? = some o → (∀ cur, o ≠ .cells cur 35 (0, 0)) → some j ≠ v.ownBlock := fun hj hno => by
    rcases ownsRow_ne_a hrow3 hj hno with e | e
    · rw [e]; simp
    · exact fun e' => e e'.symm
  clear hv2 hK2 hL2 hrow2 hb2 hk2 hg3 hW3
  unfold epAssign
  gi_wp2_with gi_round_op_a
  unfold epBody
  gi_wp2_with (first
    | (gi_at_builtin; refine wpListIn_append_own _ rfl _ _ 33 rfl w0.heap.size 35 i0 (.agg #[.int .i64 0, .int .i64 0]) 2 16 Try.underlying33 hi hz0 hz1 hz2 rfl (by decide) _ _ _ rfl (World.ownsRow.alloc hrow3 _) ⟨W3.heap.size, 0, none⟩ 1 1 [.int .i64 x.1, .int .i64 x.2] rfl rfl (cells_two_new _ _ _ _) (by simp [Value.oneCell']) (by unfold maxLen; omega) (by omega) (by have := hb3.size; simp; omega) ?_; intro v' w5 hown' hg5 hnil5
       have hv5 : w5.heap[Bs]? = some (.cells #[v] 33 (0, 0)) := (hg5.block Bs (by simp; omega) (ne_of hv3 (fun cur => hne (by decide)))).trans ((Below.heap_alloc _ _ Bs hBlt).trans hv3)
       obtain ⟨hc5, hf5⟩ := cell_of_box_a hv5
       obtain ⟨g', cap', cur', rfl, hbase', hgb', hr1, hr2, hr3, hr4⟩ : ∃ g' cap' cur', v' = .slice (some ⟨g', 0, none⟩) (ss.length + 1) cap' ∧ w0.heap.size ≤ g' ∧ w5.heap[g']? = some (.cells cur' 35 (0, 0)) ∧ ss.length + 1 ≤ cap' ∧ cap' ≤ maxLen ∧ cur'.size = cap' * 2 ∧ cur'.toList.take ((ss.length + 1) * 2) = ss.flatMap celP ++ [.int .i64 x.1, .int .i64 x.2] := by
         rcases hown'.2 with ⟨_, h0⟩ | h'
         · exact absurd h0 (by omega)
         · exact h'
       go_frame)
    | gi_round_op_a)
  have hg5' : (W3.alloc (.cells #[.int .i64 x.1, .int .i64 x.2] 35)).grownBy w5 v.ownBlock := hg5
  have hL5 : w5.heap[l]? = some (.loop { epRec fn sv Bs D .ready none with state := .busy }) := (hg5'.block l (by simp; omega) (ne_of hL3 (fun cur e => by cases e))).trans ((Below.heap_alloc _ _ l hl3).trans hL3)
  have hK5 : w5.heap[D]? = some (.deferred (some [])) := (hg5'.block D (by simp; omega) (ne_of hK3 (fun cur e => by cases e))).trans ((Below.heap_alloc _ _ D hDlt).trans hK3)
  obtain ⟨w4, hw4⟩ : ∃ w4, w5.setCell ⟨Bs, 0, none⟩ (.slice (some ⟨g', 0, none⟩) (ss.length + 1) cap') = w4 := ⟨_, rfl⟩
  rw [hw4]
  have hg4 : w5.grownBy w4 (some Bs) := by rw [← hw4]; exact grownBy_setCell0_a _ _ _
  have hv4 : w4.heap[Bs]? = some (.cells #[.slice (some ⟨g', 0, none⟩) (ss.length + 1) cap'] 33 (0, 0)) := by rw [← hw4]; exact heap_setCell_box_a _ hv5
  have hL4 : w4.heap[l]? = some (.loop { epRec fn sv Bs D .ready none with state := .busy }) := (hg4.block l (Array.getElem?_eq_some_iff.1 hL5).1 (fun e => hBl (by cases e; rfl))).trans hL5
  have hK4 : w4.heap[D]? = some (.deferred (some [])) := (hg4.block D (Array.getElem?_eq_some_iff.1 hK5).1 (fun e => hDB (by cases e; rfl))).trans hK5
  have hrow4 := hown'.kept hg4 (ownsRow_ne_a hown' hv5 (fun cur => hne (by decide)))
  have hl4 : l < w4.heap.size := (Array.getElem?_eq_some_iff.1 hL4).1
  have hb5 : Below w0.heap.size w0 w5 := (hb3.alloc hb3.size _).grown hg5' (by have := hb3.size; simp; omega) (fun k e => (World.ownsRow.lt hrow3 k e).1)
  have hb4 : Below w0.heap.size w0 w4 := hb5.grown hg4 hb5.size (fun k e => by cases e; exact h0B)
  have hk4 : KeepsWalks W w4 := ((hk3.trans (KeepsWalks.alloc _ _)).trans (KeepsWalks.of_grownBy hg5' (ownsRow_not_walk_a (World.ownsRow.alloc hrow3 _)))).trans (by rw [← hw4]; exact KeepsWalks.setCell _ _ _)
  clear hw4
  refine ⟨_, _, run_endRound none hL4, rfl, ⟨⟨_, (World.putObj_heap_other hBl).trans hv4, ?_⟩, World.putObj_heap_same hl4, (World.putObj_heap_other hDl).trans hK4, hb4.grown (grownBy_putObj_a _ _ _) hb4.size (fun k e => by cases e; exact h0l)⟩, hk4.trans (KeepsWalks.putObj _ hL4 rfl)⟩
  have := hrow4.kept (grownBy_putObj_a w4 l (.loop { { epRec fn sv Bs D .ready none with state := .busy } with state := if (none : Option Code).isNone then .ready else .done, pending := none })) (ownsRow_ne_a hrow4 hL4 (fun cur e => by cases e))
  rw [List.length_append, List.flatMap_append]
  simpa [celP] using this
open Go.RowKit Go.Maps Go.Sort Go.Shelf
def PairAt (w : World) (A : Option Addr) (L : List (Int × Int)) : Prop := 0 < L.length → ∃ b off, A = some ⟨b, off, none⟩ ∧ b < w.heap.size ∧ ∀ i, i < L.length → w.cell? ⟨b, off + i * 2, none⟩ = some (.int .i64 (L.getD i (0, 0)).1) ∧ w.cell? ⟨b, off + i * 2 + 1, none⟩ = some (.int .i64 (L.getD i (0, 0)).2)
set_option maxRecDepth 100000 in
set_option maxHeartbeats 4000000 in
theorem pAppendSeq (n : Nat) (hn : 2 ≤ n) (g : Nat) (lb : Array Value) (eg : ∀ args w, (callFunc g args).run Try.prog w = .ok (.enter g args) w)
    (S : List (Int × Int) → Prop) (N : Nat) (hN : N ≤ 1000000) (w : World) (hseq : SeqGives Fence.wide (n - 1) Try.prog g lb pairV S N w) :
    CallsIn Fence.wide n Try.prog 26 #[.slice none 0 0, .func (.func g) #[] lb] w fun e w' => ∃ (v : Value) (ss : List (Int × Int)), e = .returned v ∧ S ss ∧ w'.ownsRow w.heap.size 35 2 v ss.length (ss.flatMap celP) ∧ Below w.heap.size w w' := by
  have h1 : 1 ≤ n := by omega
  refine callsIn_of_wp_marks Try.func26 rfl trivial ?_ rfl
  simp only [Try.ntmps26, List.size_toArray, List.length_cons, List.length_nil, Nat.reduceAdd, Nat.reduceSub, Array.replicate_succ, Array.replicate_zero, List.push_toArray, List.append_toArray, List.nil_append, List.cons_append]
  gi_wp2
  refine wpIn_rangeFunc ?_
  intro fn hfn
  obtain ⟨W0, hW0⟩ : ∃ W0, w.alloc (.cells #[.slice none 0 0] 33) = W0 := ⟨_, rfl⟩
  have hs0 : W0.heap.size = w.heap.size + 1 := by rw [← hW0]; simp
  have hv0 : W0.heap[w.heap.size]? = some (.cells #[.slice none 0 0] 33 (0, 0)) := by rw [← hW0]; exact World.alloc_heap_new w _
  have hb0 : Below w.heap.size w W0 := by rw [← hW0]; exact (Below.refl _ w).alloc (Nat.le_refl _) _
  rw [hW0]
  obtain ⟨W1, hW1⟩ : ∃ W1, (W0.alloc (.deferred (some []))).alloc (.loop (epRec fn (.func (.func g) #[] lb) w.heap.size W0.heap.size .ready none)) = W1 := ⟨_, rfl⟩
  have hold : ∀ k, k < W0.heap.size → W1.heap[k]? = W0.heap[k]? := fun k hk => by
    rw [← hW1]; exact (Below.heap_alloc _ _ k (by simp; omega)).trans (Below.heap_alloc _ _ k hk)
  have hb1 : Below w.heap.size w W1 := by rw [← hW1]; exact (hb0.alloc hb0.size _).alloc (by have := hb0.size; simp; omega) _
  have hs1 : W1.heap.size = W0.heap.size + 2 := by rw [← hW1]; simp
  have hM : EpAt w fn (.func (.func g) #[] lb) w.heap.size (W0.heap.size + 1) W0.heap.size [] W1 :=
    ⟨⟨_, (hold w.heap.size (by omega)).trans hv0, ⟨rfl, .inl ⟨rfl, rfl⟩⟩⟩,
     by rw [← hW1]; have := World.alloc_heap_new (W0.alloc (.deferred (some []))) (.loop (epRec fn (.func (.func g) #[] lb) w.heap.size W0.heap.size .ready none)); rwa [World.size_alloc] at this,
     by rw [← hW1]; exact (Below.heap_alloc _ _ _ (by simp)).trans (World.alloc_heap_new W0 _), hb1⟩
  refine ⟨W0.heap.size + 1, [{ target := .collected W0.heap.size, args := #[] }], W1, { target := .fn (.func g) lb, args := #[.func (.yield (W0.heap.size + 1)) #[] #[]] }, W1, g,
    #[.func (.yield (W0.heap.size + 1)) #[] #[]] ++ lb, W1, ?_, ?_, ?_, ?_, fun _ => h1, ?_⟩
  · rw [← hW1]; exact run_enterLoop_outer _ _ _ _ _
  · simp [resolve, go_sem]
  · intro f' hf'; trivial
  · simp [invoke, go_sem, eg]
  · refine (hseq (W0.heap.size + 1) (EpAt w fn (.func (.func g) #[] lb) w.heap.size (W0.heap.size + 1) W0.heap.size) W1 hb1 (ep_abides _ _ _ _ _ _ _ hb1.size)
      (fun pre x W hJ hl => epYield (n - 1 - 1) w fn _ w.heap.size (W0.heap.size + 1) W0.heap.size (by omega) (by omega) (by omega) (Nat.le_refl _) (by omega) N hN pre x W hJ hl) hM).mono ?_
    rintro e W2 ⟨⟨v0, rfl⟩, ss, hS, h2⟩
    obtain ⟨v, hv, hrow⟩ := h2.box
    have hend := run_endLoop (P := Try.prog) h2.L (by simp [epRec])
    obtain ⟨W3, hW3⟩ : ∃ W3, W2.putObj (W0.heap.size + 1) (.loop { epRec fn (.func (.func g) #[] lb) w.heap.size W0.heap.size .ready none with state := .exhausted }) = W3 := ⟨_, rfl⟩
    rw [hW3] at hend
    have hg3 : W2.grownBy W3 (some (W0.heap.size + 1)) := by rw [← hW3]; exact grownBy_putObj_a _ _ _
    have hv3 : W3.heap[w.heap.size]? = some (.cells #[v] 33 (0, 0)) := by rw [← hW3]; exact (World.putObj_heap_other (by omega)).trans hv
    have hK3 : W3.heap[W0.heap.size]? = some (.deferred (some [])) := by rw [← hW3]; exact (World.putObj_heap_other (by omega)).trans h2.K
    have hrow3 := hrow.kept hg3 (ownsRow_ne_a hrow h2.L (fun cur e => by cases e))
    have hb3 : Below w.heap.size w W3 := h2.below.grown hg3 h2.below.size (fun k e => by cases e; omega)
    obtain ⟨hc3, hf3⟩ := cell_of_box_a hv3
    clear hW3
    refine ⟨none, W3, hend, ?_⟩
    gi_wp2
    rw [← hs0]
    refine ⟨by simp, .inl ⟨_, _, rfl, run_takeDeferred hK3, ?_⟩⟩
    exact ⟨_, results_tmp rfl _ _ _, v, ss, rfl, hS, hrow3.kept (grownBy_putObj_a _ _ _) (ownsRow_ne_a hrow3 hK3 (fun cur e => by cases e)), hb3.grown (grownBy_putObj_a _ _ _) hb3.size (fun k e => by cases e; omega)⟩
set_option maxHeartbeats 1000000 in
theorem pCollect (n : Nat) (hn : 3 ≤ n) (g : Nat) (lb : Array Value) (eg : ∀ args w, (callFunc g args).run Try.prog w = .ok (.enter g args) w)
  (S : List (Int × Int) → Prop) (N : Nat) (hN : N ≤ 1000000) (w : World) (hseq : SeqGives Fence.wide (n - 1 - 1) Try.prog g lb pairV S N w) :
  CallsIn Fence.wide n Try.prog 22 #[.func (.func g) #[] lb] w fun e w' => ∃ (v : Value) (ss : List (Int × Int)), e = .returned v ∧ S ss ∧ w'.ownsRow w.heap.size 35 2 v ss.length (ss.flatMap celP) ∧ Below w.heap.size w w' := by
 refine callsIn_wide.2 ?_
 have hA := Lib.hid ((callsIn_wide (n := n - 1)).1 (pAppendSeq (n - 1) (by omega) g lb eg S N hN w hseq))
 clear hseq eg
 go_enter Try.func22, Try.ntmps22
 go_wp2_with (go_at_call 26; refine hA.out.mono ?_; rintro e w' ⟨v, ss, rfl, hS, hrow, hb⟩)
 go_ret
 exact ⟨v, ss, rfl, hS, hrow, hb⟩
theorem celP_get : ∀ (L : List (Int × Int)) (i : Nat), i < L.length → (L.flatMap celP)[i * 2]? = some (.int .i64 (L.getD i (0, 0)).1) ∧ (L.flatMap celP)[i * 2 + 1]? = some (.int .i64 (L.getD i (0, 0)).2)
 | [], i, h => by simp at h
 | a :: L, 0, _ => by simp [celP]
 | a :: L, i + 1, h => by
  have := celP_get L i (by simpa using h)
  have e1 : (i + 1) * 2 = i * 2 + 1 + 1 := by omega
  rw [List.flatMap_cons, e1]
  simpa [celP] using this
theorem holdsP {w : World} {g : Nat} {cur : Array Value} {e : TypeId} {ss : List (Int × Int)} (hb : w.heap[g]? = some (.cells cur e (0, 0))) (ht : cur.toList.take (ss.length * 2) = ss.flatMap celP) : HoldsK celP 2 w g 0 ss.toArray := by
 intro j hj
 rw [size_flatK] at hj
 have hj' : j < ss.length * 2 := by simpa using hj
 refine ⟨?_, by simp [World.frozen?, hb]⟩
 rw [get_flatK _ _ _ _ hj, Nat.zero_add]
 have key : w.cell? ⟨g, j, none⟩ = (ss.flatMap celP)[j]? := by
  rw [← ht, List.getElem?_take, if_pos hj']
  simp only [World.cell?, hb]
  simp
 rw [key]
 have hq : j / 2 < ss.length := by omega
 have hget : (ss.toArray)[j / 2]! = ss.getD (j / 2) (0, 0) := by
  rw [List.getD_eq_getElem?_getD, List.getElem?_eq_getElem hq]
  simp [hq]
 rw [hget]
 obtain ⟨k0, k1⟩ := celP_get ss (j / 2) hq
 rcases Nat.mod_two_eq_zero_or_one j with h | h
 ·rw [h, show j = j / 2 * 2 by omega, k0, show j / 2 * 2 / 2 = j / 2 by omega]; rfl
 ·rw [h, show j = j / 2 * 2 + 1 by omega, k1, show (j / 2 * 2 + 1) / 2 = j / 2 by omega]; rfl
theorem pairs_of_holds {w : World} {g : Nat} {ss : List (Int × Int)} (h : HoldsK celP 2 w g 0 ss.toArray) (hg : g < w.heap.size) : PairAt w (some ⟨g, 0, none⟩) ss := fun _ => by
 refine ⟨g, 0, rfl, hg, fun i hi => ?_⟩
 have hi' : i < ss.toArray.size := by simpa using hi
 have hget : (ss.toArray)[i]! = ss.getD i (0, 0) := by
  rw [List.getD_eq_getElem?_getD, List.getElem?_eq_getElem hi]
  simp [hi]
 have c0 := (h.cell hi' (c := 0) (by omega)).1
 have c1 := (h.cell hi' (c := 1) (by omega)).1
 rw [hget] at c0 c1
 exact ⟨c0, c1⟩
theorem sortK_below {α : Type} [Inhabited α] {enc : α → List Value} {k : Nat} {w : World} {blk off n : Nat} {d : Array α} {os : Array Obj} {B : Nat} (hB : B ≤ blk) (hs : B ≤ w.heap.size) : Below B w (sortWorldK enc k w blk off n d os) := by
 unfold sortWorldK putRowK
 have h1 : Below B w (putRow id (Sort.ahead w n) blk off (flatK enc k d)) := by
  refine ⟨rfl, rfl, rfl, by rw [size_putRow]; exact Nat.le_refl _, fun k hk => ?_⟩
  show (w.heap.modify blk _)[k]? = _
  rw [Array.getElem?_modify, if_neg (by omega)]
 exact h1.trans (Lib.below_grow B _ (by rw [size_putRow]; exact hs) 0 os)
theorem cmpLaysP (blk off size : Nat) (w : World) : CmpLays Try.prog 17 #[] celP 2 cmK blk off size w := fun _ _ _ _ x y => ecmp_any x y _
def AscP (K : List (Int × Int)) : Prop := K.Pairwise ltK
theorem sort_ascP {ss : List (Int × Int)} (h : ss.Nodup) : AscP (ss.mergeSort fun x y => !ltOf cmK y x) := by
 have hp := List.mergeSort_perm ss fun x y => !ltOf cmK y x
 have h1 := List.pairwise_mergeSort (le := fun x y => !ltOf cmK y x) (fun a b c h1 h2 => by
  simp only [Bool.not_eq_true', ltOf_cmK, decide_eq_false_iff_not] at *
  unfold ltK at *; omega) (fun a b => by
  simp only [ltOf_cmK, Bool.or_eq_true, Bool.not_eq_true', decide_eq_false_iff_not]
  unfold ltK; omega) ss
 have h2 : (ss.mergeSort fun x y => !ltOf cmK y x).Nodup := hp.nodup_iff.2 h
 refine (List.Pairwise.and h1 h2).imp fun {a b} hab => ?_
 obtain ⟨h3, h4⟩ := hab
 simp only [Bool.not_eq_true', ltOf_cmK, decide_eq_false_iff_not] at h3
 rcases Decidable.em (ltK a b) with h5 | h5
 ·exact h5
 ·exact absurd (ltK_tri h5 h3) h4
set_option maxRecDepth 100000 in
set_option maxHeartbeats 4000000 in
theorem sortedP_any (b n : Nat) (f : Int × Int → Option Int) (w : World) (h : MapP w b n f) (hn : n ≤ 1000000) :
  Calls Try.prog 15 #[.func (.func 24) #[] #[.pointer (some ⟨w.heap.size, 0, none⟩)], .func (.func 17) #[] #[]] (w.alloc (.cells #[.map (some b)] 31)) fun e w' => ∃ (A : Option Addr) (c : Nat) (K : List (Int × Int)), e = .returned (.slice A K.length c) ∧ PairAt w' A K ∧ AscP K ∧ (∀ k, k ∈ K ↔ (f k).isSome = true) ∧ K.length ≤ n ∧ Below w.heap.size w w' := by
 obtain ⟨D, hown, hD, hok⟩ := h
 have hbl := hown.lt
 have hszD : Maps.size D ≤ n := hown.size_le
 have hown1 : (w.alloc (.cells #[.map (some b)] 31)).ownsMap Try.prog 35 heldP b n D := hown.alloc _
 have hseq : SeqGives Fence.wide 2 Try.prog 24 #[.pointer (some ⟨w.heap.size, 0, none⟩)] pairV (fun ss => CollP D (fun _ => false) ss) (Maps.size D) (w.alloc (.cells #[.map (some b)] 31)) :=
  pkeys_gives 2 (by omega) w.heap.size b n D _ (by simp) (by simp) hown1
 have eg := enters_of Try.func24 (by kernel_rfl) rfl
 have ec := enters_of Try.func17 (by kernel_rfl) rfl
 have cC := (callsIn_wide (n := 4)).1 (pCollect 4 (by omega) _ _ eg _ _ (by omega : Maps.size D ≤ 1000000) _ hseq.bounded)
 have cS0 := fun W => AnyF.slices_SortFunc_none { Try.sortf23 with } none 0 (.func (.func 17) #[] #[]) W
 have cS := fun (blk cap : Nat) (d : Array (Int × Int)) (W : World) (hH : HoldsK celP 2 W blk 0 d) (hb : blk < W.heap.size) (hs : d.size < 4611686018427387904) =>
  AnyQ.slices_SortFunc_total Try.sortf23 2 Try.isAgg35 Try.sizeOf35 celP (fun _ => rfl) (fun x v hv => by simp [celP] at hv; rcases hv with rfl | rfl <;> rfl) cmK cmK_swo 17 #[] blk 0 cap d W ec (cmpLaysP blk 0 d.size W) hH hb hs cmK_tot
 change ∀ W, Calls Try.prog 23 _ _ _ at cS0
 change ∀ (blk cap : Nat) (d : Array (Int × Int)) (W : World) (hH : HoldsK celP 2 W blk 0 d) (hb : blk < W.heap.size) (hs : d.size < 4611686018427387904), Calls Try.prog 23 _ _ _ at cS
 have HD := Lib.hid hD
 have HOK := Lib.hid hok
 have HC := Lib.hid cC
 have HS0 := Lib.hid cS0
 have HS := Lib.hid cS
 have hB0 := Lib.hid (below_alloc_new (w := w) (.cells #[.map (some b)] 31))
 generalize hw1 : w.alloc (.cells #[.map (some b)] 31) = w1 at *
 have hs1 : w1.heap.size = w.heap.size + 1 := by rw [← hw1]; simp
 have HS1 := Lib.hid hs1
 clear hD hok cC cS0 cS hown hown1 hseq hw1 hs1
 generalize w.heap.size = s0 at *
 go_enter Try.func15, Try.ntmps15
 go_wp2_with (go_at_call 22; refine HC.out.mono ?_; rintro e w2 ⟨v, ss, rfl, ⟨hS, hlen⟩, hrow, hb2⟩)
 have hmem : ∀ k, k ∈ ss ↔ (f k).isSome = true := fun k => by
  rw [hS.2 k]
  constructor
  ·rintro ⟨h1, h2, _⟩
   rw [← (HD.out k h1).1]; exact h2
  ·intro h1
   have h2 := HOK.out k h1
   exact ⟨h2, by rw [(HD.out k h2).1]; exact h1, rfl⟩
 have hle : ss.length ≤ n := Nat.le_trans hlen hszD
 have hB2 : Below s0 w w2 := hB0.out.trans (hb2.mono (by have := HS1.out; omega))
 have HM := Lib.hid hmem
 have HSS := Lib.hid hS
 have HLE := Lib.hid hle
 have HR := Lib.hid hrow
 have HB2 := Lib.hid hB2
 have hs0l : s0 ≤ w2.heap.size := by have := hb2.size; have := HS1.out; omega
 have HSL := Lib.hid hs0l
 have hbase := Lib.hid (show s0 ≤ w1.heap.size by have := HS1.out; omega)
 clear hmem hS hle hB2 hb2 hlen hs0l
 rcases hrow.2 with ⟨rfl, hz⟩ | ⟨gb, cap, cur, rfl, hbg, hgb, r1, r2, r3, r4⟩
 ·obtain rfl : ss = [] := List.eq_nil_of_length_eq_zero hz
  clear hrow
  go_wp2_with (go_at_call 23; refine (HS0.out _).mono ?_; rintro e w3 ⟨rfl, rfl⟩)
  go_ret
  exact ⟨none, 0, [], rfl, fun h => absurd h (by simp), List.Pairwise.nil, HM.out, by simp, HB2.out⟩
 ·have hgl : gb < w2.heap.size := (Array.getElem?_eq_some_iff.1 hgb).1
  have hH := holdsP hgb r4
  have hsz : ss.toArray.size < 4611686018427387904 := by have := HLE.out; simp; omega
  have hlen : (ss.toArray.size : Nat) = ss.length := by simp
  have c1 := HS.out gb cap ss.toArray w2 hH hgl hsz
  rw [hlen] at c1
  have HC1 := Lib.hid c1
  have HH := Lib.hid hH
  have HGL := Lib.hid hgl
  have HBG := Lib.hid hbg
  clear hrow c1 hsz hlen hH r1 r2 r3 r4 hgb hgl hbg
  go_wp2_with (go_at_call 23; refine HC1.out.mono ?_; rintro e w3 ⟨rfl, nn, os, rfl⟩)
  go_ret
  have hlm : (ss.mergeSort fun x y => !ltOf cmK y x).length = ss.length := List.length_mergeSort _
  have hhold : HoldsK celP 2 (sortWorldK celP 2 w2 gb 0 nn (ss.mergeSort fun x y => !ltOf cmK y x).toArray os) gb 0 (ss.mergeSort fun x y => !ltOf cmK y x).toArray := by
   unfold sortWorldK
   refine holdsK_grow celP 2 _ os gb 0 _ (by unfold putRowK; rw [size_putRow]; exact HGL.out) ?_
   exact holdsK_putRowK celP 2 _ gb 0 ss.toArray _ (holdsK_ahead celP 2 w2 nn gb 0 _ HH.out) (by simp)
  have hsb : Below s0 w2 (sortWorldK celP 2 w2 gb 0 nn (ss.mergeSort fun x y => !ltOf cmK y x).toArray os) := sortK_below (Nat.le_trans hbase.out HBG.out) HSL.out
  refine ⟨some ⟨gb, 0, none⟩, cap, ss.mergeSort fun x y => !ltOf cmK y x, by rw [hlm]; rfl, pairs_of_holds hhold (Nat.lt_of_lt_of_le HGL.out ?_), sort_ascP HSS.out.1, fun k => ?_, by rw [hlm]; exact HLE.out, HB2.out.trans hsb⟩
  ·unfold sortWorldK putRowK
   have h1 := (Lib.below_grow 0 (putRow id (Sort.ahead w2 nn) gb 0 (flatK celP 2 (ss.mergeSort fun x y => !ltOf cmK y x).toArray)) (Nat.zero_le _) 0 os).size
   rw [size_putRow] at h1
   exact h1
  ·rw [(List.mergeSort_perm ss _).mem_iff]; exact HM.out k
open Go.RowKit
theorem sumT_snoc (L : List Lnk) (x : Lnk) : sumT (L ++ [x]) = sumT L + x.tgt := by simp [sumT]
set_option maxRecDepth 20000 in
set_option maxHeartbeats 1600000 in
theorem esum_any (A : Option Addr) (cp : Nat) (L : List Lnk) (w : World) (hz : LnkAt w A L) (hl : L.length ≤ 1000) :
  Calls Try.prog 10 #[.slice A L.length cp] w fun e w' => e = .returned (.int .i64 (wr (sumT L))) ∧ Below w.heap.size w w' := by
 have hB := Below.refl w.heap.size w
 obtain ⟨n, hn⟩ : ∃ n, L.length = n := ⟨_, rfl⟩
 rw [hn] at hl ⊢
 have HN := Lib.hid hn
 have HZ := Lib.hid hz
 clear hn hz
 go_enter Try.func10, Try.ntmps10
 go_wp2_with fail
 go_loopg [3, 8] n (fun kx s3 s8 wr => ∃ k : Nat, s3 = .int .i64 (Go.Proofs.Ytfombohomebokaa.wr (sumT (L.take k))) ∧ s8 = .int .i64 k ∧ k ≤ n ∧ n - k ≤ kx ∧ Below w.heap.size w wr)
 case atStart => exact ⟨0, by rw [List.take_zero]; exact congrArg _ wr_zero.symm, rfl, by omega, by omega, hB⟩
 case round =>
  clear hB
  obtain ⟨k, rfl, rfl, hk, hkx, hB⟩ := hrel
  by_cases hlt : k < n
  ·have hltz : (k : Int) < (n : Int) := by omega
   obtain ⟨bb, off, rfl, hbw, hcs⟩ := HZ.out (by rw [HN.out]; omega)
   obtain ⟨c0, c1, c2⟩ := (hcs k (by rw [HN.out]; exact hlt)).up hB hbw
   have hst : wrap64 (Go.Proofs.Ytfombohomebokaa.wr (sumT (L.take k)) + (L.getD k lnk0).tgt) = Go.Proofs.Ytfombohomebokaa.wr (sumT (L.take (k + 1))) := by
    rw [take_succ_getD (d := lnk0) (show k < L.length by rw [HN.out]; exact hlt), sumT_snoc]
    exact wr_add _ _
   generalize L.getD k lnk0 = x at *
   have HST := Lib.hid hst
   have HB1 := Lib.hid (below_new hB (.cells #[.int .i64 x.frm, .int .i64 x.tgt, .int .i64 x.since] 29))
   obtain ⟨⟨d0, d1, d2⟩, dlt⟩ := lb_new wr 29 x
   simp only [Nat.zero_add] at d0 d1 d2
   clear hcs hst
   generalize Go.Proofs.Ytfombohomebokaa.wr (sumT (L.take k)) = s at *
   go_wp2_with fail
   go_roundg (n - (k + 1))
   case measure => omega
   case rel => exact ⟨k + 1, by rw [← HST.out], by go_num, by omega, by omega, HB1.out⟩
  ·obtain rfl : k = n := by omega
   have hltz : ¬ (k : Int) < (k : Int) := by omega
   have E : Hid (Go.Proofs.Ytfombohomebokaa.wr (sumT (L.take k)) = Go.Proofs.Ytfombohomebokaa.wr (sumT L)) := Lib.hid (by rw [← HN.out, List.take_length])
   generalize Go.Proofs.Ytfombohomebokaa.wr (sumT (L.take k)) = z at *
   go_wp2_with fail
   go_ret
   exact ⟨by rw [E.out]; rfl, hB⟩
set_option maxRecDepth 20000 in
set_option maxHeartbeats 1600000 in
theorem rsum11_any (A : Option Addr) (cp : Nat) (L : List Lnk) (w : World) (hz : LnkAt w A L) (hl : L.length ≤ 1000) :
  Calls Try.prog 11 #[.slice A L.length cp] w fun e w' => e = .returned (.int .i64 (wr (sumT L))) ∧ Below w.heap.size w w' := by
 have hB := Below.refl w.heap.size w
 obtain ⟨n, hn⟩ : ∃ n, L.length = n := ⟨_, rfl⟩
 rw [hn] at hl ⊢
 have HN := Lib.hid hn
 have HZ := Lib.hid hz
 clear hn hz
 go_enter Try.func11, Try.ntmps11
 go_wp2_with fail
 go_loopg [3, 4] n (fun kx s3 s4 wr => ∃ k : Nat, s3 = .int .i64 (Go.Proofs.Ytfombohomebokaa.wr (sumT (L.take k))) ∧ s4 = .int .i64 k ∧ k ≤ n ∧ n - k ≤ kx ∧ Below w.heap.size w wr)
 case atStart => exact ⟨0, by rw [List.take_zero]; exact congrArg _ wr_zero.symm, rfl, by omega, by omega, hB⟩
 case round =>
  clear hB
  obtain ⟨k, rfl, rfl, hk, hkx, hB⟩ := hrel
  by_cases hlt : k < n
  ·have hltz : (k : Int) < (n : Int) := by omega
   obtain ⟨bb, off, rfl, hbw, hcs⟩ := HZ.out (by rw [HN.out]; omega)
   obtain ⟨c0, c1, c2⟩ := (hcs k (by rw [HN.out]; exact hlt)).up hB hbw
   have hst : wrap64 (Go.Proofs.Ytfombohomebokaa.wr (sumT (L.take k)) + (L.getD k lnk0).tgt) = Go.Proofs.Ytfombohomebokaa.wr (sumT (L.take (k + 1))) := by
    rw [take_succ_getD (d := lnk0) (show k < L.length by rw [HN.out]; exact hlt), sumT_snoc]
    exact wr_add _ _
   generalize L.getD k lnk0 = x at *
   have HST := Lib.hid hst
   clear hcs hst
   generalize Go.Proofs.Ytfombohomebokaa.wr (sumT (L.take k)) = s at *
   go_wp2_with fail
   go_roundg (n - (k + 1))
   case measure => omega
   case rel => exact ⟨k + 1, by rw [← HST.out], by go_num, by omega, by omega, hB⟩
  ·obtain rfl : k = n := by omega
   have hltz : ¬ (k : Int) < (k : Int) := by omega
   have E : Hid (Go.Proofs.Ytfombohomebokaa.wr (sumT (L.take k)) = Go.Proofs.Ytfombohomebokaa.wr (sumT L)) := Lib.hid (by rw [← HN.out, List.take_length])
   generalize Go.Proofs.Ytfombohomebokaa.wr (sumT (L.take k)) = z at *
   go_wp2_with fail
   go_ret
   exact ⟨by rw [E.out]; rfl, hB⟩
set_option maxRecDepth 20000 in
set_option maxHeartbeats 3200000 in
theorem esumsOf_any (A : Option Addr) (cp : Nat) (L : List Lnk) (w : World) (hz : LnkAt w A L) (hl : L.length ≤ 1000) (hwf : ∀ l ∈ L, okK (kOf l)) :
  Calls Try.prog 14 #[.slice A L.length cp] w fun e w' => ∃ b, e = .returned (.map (some b)) ∧ w.heap.size ≤ b ∧ MapP w' b L.length (fsum L) ∧ Below w.heap.size w w' := by
 obtain ⟨s0, hs0⟩ : ∃ s0, w.heap.size = s0 := ⟨_, rfl⟩
 have hB := below_alloc_new (w := w) (.map #[] 0)
 have hM := MapP.made w
 rw [hs0] at hB hM ⊢
 obtain ⟨n, hn⟩ : ∃ n, L.length = n := ⟨_, rfl⟩
 rw [hn] at hl ⊢
 have HN := Lib.hid hn
 have HZ := Lib.hid hz
 have HS0 := Lib.hid hs0
 have HM0 : Hid (MapP (w.alloc (.map #[] 0)) s0 0 (fsum (L.take 0))) := Lib.hid (hM.ext fun c => by rw [List.take_zero]; rfl)
 have HWF := Lib.hid hwf
 clear hn hz hs0 hM hwf
 have hmm := @run_makeMap Try.prog
 go_enter Try.func14, Try.ntmps14
 go_wp2_with fail
 clear hmm
 rw [HS0.out]
 go_loopg [9] n (fun kx s9 wr => ∃ k : Nat, s9 = .int .i64 k ∧ k ≤ n ∧ n - k ≤ kx ∧ Hid (MapP wr s0 k (fsum (L.take k))) ∧ Below s0 w wr)
 case atStart => exact ⟨0, rfl, by omega, by omega, HM0, hB⟩
 case round =>
  clear hB HM0
  obtain ⟨k, rfl, hk, hkx, HM, hB⟩ := hrel
  by_cases hlt : k < n
  ·have hltz : (k : Int) < (n : Int) := by omega
   obtain ⟨bb, off, rfl, hbw, hcs⟩ := HZ.out (by rw [HN.out]; omega)
   rw [HS0.out] at hbw
   obtain ⟨c0, c1, c2⟩ := (hcs k (by rw [HN.out]; exact hlt)).up hB hbw
   have hkl : k < L.length := by rw [HN.out]; exact hlt
   have hok := HWF.out _ (getD_mem_acc (d := lnk0) hkl)
   have hfs : ∀ q, fsum (L.take (k + 1)) q = if q = kOf (L.getD k lnk0) then some (wrap64 ((fsum (L.take k) (kOf (L.getD k lnk0))).getD 0 + (L.getD k lnk0).tgt)) else fsum (L.take k) q := fun q => by
    rw [take_succ_getD (d := lnk0) hkl]
    exact fsum_snoc _ _ q
   generalize L.getD k lnk0 = x at *
   have hsz : s0 ≤ wr.heap.size := by have := hB.size; rw [HS0.out] at this; exact this
   have HB1 := Lib.hid (hB.alloc hsz (.cells #[.int .i64 x.frm, .int .i64 x.tgt, .int .i64 x.since] 29))
   obtain ⟨⟨d0, d1, d2⟩, dlt⟩ := lb_new wr 29 x
   simp only [Nat.zero_add] at d0 d1 d2
   have hM1 := (HM.out.up (below_alloc_new (.cells #[.int .i64 x.frm, .int .i64 x.tgt, .int .i64 x.since] 29))).drew
   have hlk := hM1.look hok
   obtain ⟨sv, W1, e1, e2, e3⟩ := hM1.entry hok (by omega)
   obtain ⟨s, hs⟩ : ∃ s, (fsum (L.take k) (kOf x)).getD 0 = s := ⟨_, rfl⟩
   rw [hs] at hlk e1 e2 hfs
   obtain ⟨W2, e4, hM2, hg2⟩ := e3 (wrap64 (s + x.tgt))
   have HM2 : Hid (MapP W2 s0 (k + 1) (fsum (L.take (k + 1)))) := Lib.hid (hM2.ext hfs)
   have HB2 : Hid (Below s0 w W2) := Lib.hid (HB1.out.drew.grown hg2 (by simp; omega) (fun j hj => by cases hj; exact Nat.le_refl _))
   clear hcs hfs hM1 hM2 hg2 e3 HM hs
   simp only [kOf] at hlk e1 e2
   go_wp2_with fail
   go_region
   go_wp2_with fail
   go_roundg (n - (k + 1))
   case measure => omega
   case rel => exact ⟨k + 1, by go_num, by omega, by omega, HM2, HB2.out⟩
  ·obtain rfl : k = n := by omega
   have hltz : ¬ (k : Int) < (k : Int) := by omega
   have E : Hid (MapP wr s0 k (fsum L)) := Lib.hid (by have h1 : L.take k = L := by { rw [← HN.out, List.take_length] }; rw [← h1]; exact HM.out)
   clear HM
   go_wp2_with fail
   go_ret
   exact ⟨s0, rfl, Nat.le_refl _, E.out, hB⟩
def celL (a : Lnk) : List Value := [.int .i64 a.frm, .int .i64 a.tgt, .int .i64 a.since]
def OwnL (e : TypeId) (w : World) (base : Nat) (v : Value) (L : List Lnk) : Prop := w.ownsRow base e 3 v L.length (L.flatMap celL)
theorem celL_len : ∀ (L : List Lnk), (L.flatMap celL).length = L.length * 3
 | [] => rfl
 | a :: L => by have := celL_len L; simp [celL] at this ⊢; omega
theorem celL_get : ∀ (L : List Lnk) (i : Nat), i < L.length → (L.flatMap celL)[i * 3]? = some (.int .i64 (L.getD i lnk0).frm) ∧ (L.flatMap celL)[i * 3 + 1]? = some (.int .i64 (L.getD i lnk0).tgt) ∧ (L.flatMap celL)[i * 3 + 2]? = some (.int .i64 (L.getD i lnk0).since)
 | [], i, h => by simp at h
 | a :: L, 0, _ => by simp [celL]
 | a :: L, i + 1, h => by
  have := celL_get L i (by simpa using h)
  have e1 : (i + 1) * 3 = i * 3 + 1 + 1 + 1 := by omega
  rw [List.flatMap_cons, e1]
  simpa [celL] using this
theorem OwnL.nil {e : TypeId} {w : World} {base : Nat} : OwnL e w base (.slice none 0 0) [] := World.ownsRow_nil _ _ _ _
theorem OwnL.blk {e : TypeId} {w w' : World} {base : Nat} {v : Value} {L : List Lnk} (h : OwnL e w base v L) (hk : ∀ g, v.ownBlock = some g → w'.heap[g]? = w.heap[g]?) : OwnL e w' base v L := by
 obtain ⟨h1, h2⟩ := h
 refine ⟨h1, ?_⟩
 rcases h2 with h2 | ⟨g, cap, cur, rfl, hbg, hg, rest⟩
 ·exact .inl h2
 ·exact .inr ⟨g, cap, cur, rfl, hbg, (hk g rfl).trans hg, rest⟩
theorem OwnL.lt {e : TypeId} {w : World} {base : Nat} {v : Value} {L : List Lnk} (h : OwnL e w base v L) {g : Nat} (hg : v.ownBlock = some g) : base ≤ g ∧ g < w.heap.size := by
 have := World.ownsRow.lt h g hg
 exact this
theorem OwnL.up {e : TypeId} {w w' : World} {base : Nat} {v : Value} {L : List Lnk} (h : OwnL e w base v L) (hb : Below w.heap.size w w') : OwnL e w' base v L :=
 h.blk fun g hg => hb.block g (h.lt hg).2
theorem OwnL.alloc {e : TypeId} {w : World} {base : Nat} {v : Value} {L : List Lnk} (h : OwnL e w base v L) (o : Obj) : OwnL e (w.alloc o) base v L := World.ownsRow.alloc h o
theorem OwnL.empty {e : TypeId} {w : World} {base : Nat} (hb : base ≤ w.heap.size) : OwnL e (w.alloc (.cells #[] e)) base (.slice (some ⟨w.heap.size, 0, none⟩) 0 0) [] :=
 ⟨rfl, .inr ⟨w.heap.size, 0, #[], rfl, hb, heap_alloc_new _ _, Nat.le_refl _, Nat.zero_le _, rfl, rfl⟩⟩
theorem OwnL.reads {e : TypeId} {w : World} {base : Nat} {v : Value} {L : List Lnk} (h : OwnL e w base v L) : ∃ A c, v = .slice A L.length c ∧ LnkAt w A L := by
 obtain ⟨h1, h2⟩ := h
 rcases h2 with ⟨rfl, h0⟩ | ⟨g, cap, cur, rfl, hbg, hg, hn, hcap, hsz, hcur⟩
 ·obtain rfl : L = [] := List.eq_nil_of_length_eq_zero h0
  exact ⟨none, 0, rfl, fun h => absurd h (by simp)⟩
 ·refine ⟨_, cap, rfl, fun _ => ⟨g, 0, rfl, ?_, fun j hj => ?_⟩⟩
  ·rcases Nat.lt_or_ge g w.heap.size with hlt | hge
   ·exact hlt
   ·rw [Array.getElem?_eq_none hge] at hg; cases hg
  ·have key : ∀ i, i < L.length * 3 → w.cell? ⟨g, i, none⟩ = (L.flatMap celL)[i]? := by
    intro i hi
    rw [← hcur, List.getElem?_take, if_pos hi]
    simp only [World.cell?, hg]
    simp
   obtain ⟨k0, k1, k2⟩ := celL_get L j hj
   exact ⟨by rw [Nat.zero_add, key _ (by omega)]; exact k0, by rw [Nat.zero_add, key _ (by omega)]; exact k1, by rw [Nat.zero_add, key _ (by omega)]; exact k2⟩
theorem wpList_append_lk {P : Program} (w : World) {ops : Array Oper} {rest : List Oper} {o : Oper} {a : Act} {Q : Exit → Act → World → Prop} (hgd : o.guard = none) (s x : Operand) (t : TypeId)
  (ho : o.op = .call { callee := .builtin .append, args := #[s, x], argTypes := #[t, t] })
  (base : Nat) (e : TypeId) (i : TypeInfo) (bytes : Nat) (ht : P.underlying t = some (.slice e)) (hi : P.info? e = some i) (hz : i.zero = some (.agg #[.int .i64 0, .int .i64 0, .int .i64 0]))
  (hsize : i.size = 3) (hby : i.bytes = bytes) (hb8 : bytes ≤ 24)
  (v : Value) (L : List Lnk) (hs : a.eval s = v) (hown : OwnL e w base v L) (X : Lnk) (g c : Nat) (hg : g = w.heap.size) (hx : a.eval x = .slice (some ⟨g, 0, none⟩) 1 c)
  (hlen : L.length ≤ 100000000) (hbase : base ≤ w.heap.size)
  (h : ∀ v' w', Hid (OwnL e w' base v' (L ++ [X])) → Hid (w.grownBy w' v.ownBlock) → Hid (v'.ownBlock = v.ownBlock ∨ v'.ownBlock = some (w.heap.size + 1)) → Below base w w' → wpList P ops Q rest (a.put o.dst v') w') : wpList P ops Q (o :: rest) a (w.alloc (.cells #[.int .i64 X.frm, .int .i64 X.tgt, .int .i64 X.since] e)) := by
 subst hg
 refine wpList_append_own_at (w.alloc (.cells #[.int .i64 X.frm, .int .i64 X.tgt, .int .i64 X.since] e)) hgd s x t ho base e i (.agg #[.int .i64 0, .int .i64 0, .int .i64 0]) 3 bytes ht hi hz hsize hby rfl (by decide) v L.length (L.flatMap celL) hs (World.ownsRow.alloc hown _)
  ⟨w.heap.size, 0, none⟩ 1 c [.int .i64 X.frm, .int .i64 X.tgt, .int .i64 X.since] hx rfl ?_ ?_ ?_ ?_ ?_ ?_
 ·intro j u hj
  match j, hj with
  | 0, hj =>
   simp at hj; subst hj
   unfold World.cell? Addr.add
   rw [if_pos (by decide)]
   dsimp only
   rw [heap_alloc_new]
   rfl
  | 1, hj =>
   simp at hj; subst hj
   unfold World.cell? Addr.add
   rw [if_neg (by decide)]
   dsimp only
   rw [heap_alloc_new]
   rfl
  | 2, hj =>
   simp at hj; subst hj
   unfold World.cell? Addr.add
   rw [if_neg (by decide)]
   dsimp only
   rw [heap_alloc_new]
   rfl
  | j + 3, hj => simp at hj
 ·intro u hu
  simp at hu
  rcases hu with rfl | rfl | rfl <;> rfl
 ·unfold maxLen; omega
 ·have : (L.length + 1) * bytes ≤ (L.length + 1) * 24 := Nat.mul_le_mul_left _ hb8
  omega
 ·simp; omega
 ·intro v' w' h1 h2 _ h4
  have h5 : w.grownBy w' v.ownBlock := (World.grownBy_alloc w _ v.ownBlock).trans h2
  refine h v' w' ?_ (Lib.hid h5) (Lib.hid (by simpa using h4)) ?_
  ·refine Lib.hid ?_
   show World.ownsRow _ _ _ _ _ _ _
   rw [List.length_append, List.flatMap_append]
   exact h1
  ·refine (Below.refl base w).grown h5 hbase (fun j hj => ?_)
   exact (World.ownsRow.lt hown j hj).1
theorem step_append_row {P : Program} {ops : Array Oper} {o : Oper} {a : Act} {tm : Array Value} {w : World} {K : Act → World → Prop} {Q : Exit → Act → World → Prop} {E : Prop} (hgd : o.guard = none) (s x : Operand) (t : TypeId)
  (ho : o.op = .call { callee := .builtin .append, args := #[s, x], argTypes := #[t, t] })
  (base : Nat) (e : TypeId) (i : TypeInfo) (z : Value) (size bytes : Nat) (ht : P.underlying t = some (.slice e)) (hi : P.info? e = some i) (hz : i.zero = some z)
  (hsize : i.size = size) (hby : i.bytes = bytes) (hzs : z.cells.size = size) (hsz : 0 < size)
  (v : Value) (n : Nat) (xs : List Value) (hs : a.eval s = v) (hown : w.ownsRow base e size v n xs)
  (X : Option Addr) (m c : Nat) (news : List Value) (hx : a.eval x = .slice X m c) (hl : news.length = m * size) (hnews : 0 < m → ∃ ad, X = some ad ∧ ∀ j u, news[j]? = some u → w.cell? (ad.add j) = some u) (h1 : ∀ u ∈ news, u.oneCell' = true)
  (h63 : n + m ≤ maxLen) (hbytes : (n + m) * bytes ≤ 140737488355328) (hbase : base ≤ w.heap.size)
  (h : ∀ v' w', Hid (w'.ownsRow base e size v' (n + m) (xs ++ news)) → Hid (w.grownBy w' v.ownBlock) → K (a.put o.dst v') w') :
  if Region.wanted o (yielded ops tm) = true then Oper.wp P o a w K Q else E := by
 have hw1 : ∀ y, Region.wanted o y = true := fun y => by simp [Region.wanted, hgd]
 rw [if_pos (hw1 _)]
 rcases Nat.eq_zero_or_pos m with h0 | h0
 ·subst h0
  have hne : news = [] := List.eq_nil_of_length_eq_zero (by rw [hl]; simp)
  subst hne
  have hrun : (Builtin.append_ #[t, t] o.type #[v, .slice X 0 c]).run P w = .ok v w := by
   rcases hown.2 with ⟨rfl, h9⟩ | ⟨g, cap, cur, rfl, hb, hg, hn, hcap, hcs, hcur⟩
   ·cases X <;> simp [Builtin.append_, run_underlying ht, sizeOf, typeInfo, hi, Builtin.lenOf, Builtin.firstCells, loadCells, loadCellsFrom]
   ·cases X <;> simp [Builtin.append_, run_underlying ht, sizeOf, typeInfo, hi, Builtin.lenOf, Builtin.firstCells, storeCells, loadCells, loadCellsFrom, hn]
  unfold Oper.wp
  simp [execOp, ho, resolve, invoke, builtin, hs, hx, hrun, Result.andThen]
  exact h v w (Lib.hid (by simpa using hown)) (Lib.hid ⟨rfl, rfl, rfl, Nat.le_refl _, fun _ _ _ => rfl⟩)
 ·obtain ⟨ad, rfl, hn2⟩ := hnews h0
  obtain ⟨v', w', hr, h2, h3, h4, h5⟩ := run_append_own_at (P := P) w base t o.type e i z size bytes ht hi hz hsize hby hzs hsz v n xs hown ad m c news hl hn2 h1 h63 hbytes hbase
  unfold Oper.wp execOp
  simp only [ho, resolve, invoke, builtin, Sem.run_bind, Sem.run_pure, Result.andThen_ok, List.map_toArray, List.map_cons, List.map_nil, hs, hx, hr]
  exact h v' w' (Lib.hid h2) (Lib.hid h3)
theorem infoLn : (Try.prog.info? 29).map (fun i => (i.zero, i.size, i.bytes)) = some (some (.agg #[.int .i64 0, .int .i64 0, .int .i64 0]), 3, 24) := by kernel_rfl
theorem step_app_lines {P : Program} {ops : Array Oper} {o : Oper} {a : Act} {tm : Array Value} {w : World} {K : Act → World → Prop} {Q : Exit → Act → World → Prop} {E : Prop} (hgd : o.guard = none) (s x : Operand) (t : TypeId)
  (ho : o.op = .call { callee := .builtin .append, args := #[s, x], argTypes := #[t, t] })
  (base : Nat) (e : TypeId) (i : TypeInfo) (bytes : Nat) (ht : P.underlying t = some (.slice e)) (hi : P.info? e = some i) (hz : i.zero = some (.agg #[.int .i64 0, .int .i64 0, .int .i64 0])) (hsize : i.size = 3) (hby : i.bytes = bytes) (hb8 : bytes ≤ 24)
  (v : Value) (L : List Lnk) (hs : a.eval s = v) (hown : OwnL e w base v L) (X : Option Addr) (m c : Nat) (M : List Lnk) (hm : M.length = m) (hx : a.eval x = .slice X m c) (hX : LnkAt w X M)
  (hlen : L.length + m ≤ 100000000) (hbase : base ≤ w.heap.size)
  (h : ∀ v' w', Hid (OwnL e w' base v' (L ++ M)) → Hid (w.grownBy w' v.ownBlock) → Below base w w' → K (a.put o.dst v') w') :
  if Region.wanted o (yielded ops tm) = true then Oper.wp P o a w K Q else E := by
 subst hm
 have hbb : (L.length + M.length) * bytes ≤ (L.length + M.length) * 24 := Nat.mul_le_mul_left _ hb8
 refine step_append_row hgd s x t ho base e i (.agg #[.int .i64 0, .int .i64 0, .int .i64 0]) 3 bytes ht hi hz hsize hby rfl (by decide) v L.length (L.flatMap celL) hs hown X M.length c (M.flatMap celL) hx (celL_len M) ?_ ?_ (by unfold maxLen; omega) (by omega) hbase ?_
 ·intro h0
  obtain ⟨b, off, rfl, hbw, hcs⟩ := hX h0
  refine ⟨_, rfl, fun j u hj => ?_⟩
  have hjl : j < M.length * 3 := by
   rcases Nat.lt_or_ge j (M.length * 3) with h1 | h1
   ·exact h1
   ·rw [List.getElem?_eq_none (by rw [celL_len]; exact h1)] at hj; cases hj
  have hadd : (⟨b, off, none⟩ : Addr).add j = ⟨b, off + j, none⟩ := by unfold Addr.add; split <;> simp_all
  rw [hadd, ← hj]
  have h3 : j % 3 = 0 ∨ j % 3 = 1 ∨ j % 3 = 2 := by omega
  rcases h3 with h2 | h2 | h2
  ·obtain ⟨q, rfl⟩ : ∃ q, j = q * 3 := ⟨j / 3, by omega⟩
   rw [(celL_get M q (by omega)).1]
   exact (hcs q (by omega)).c0
  ·obtain ⟨q, rfl⟩ : ∃ q, j = q * 3 + 1 := ⟨j / 3, by omega⟩
   rw [(celL_get M q (by omega)).2.1, ← Nat.add_assoc]
   exact (hcs q (by omega)).c1
  ·obtain ⟨q, rfl⟩ : ∃ q, j = q * 3 + 2 := ⟨j / 3, by omega⟩
   rw [(celL_get M q (by omega)).2.2, ← Nat.add_assoc]
   exact (hcs q (by omega)).c2
 ·intro u hu
  obtain ⟨d, _, hu⟩ := List.mem_flatMap.1 hu
  simp [celL] at hu
  rcases hu with rfl | rfl | rfl <;> rfl
 ·intro v' w' h2 h3
  refine h v' w' (Lib.hid ?_) h3 ((Below.refl base w).grown h3.out hbase (fun j hj => (World.ownsRow.lt hown j hj).1))
  have h4 := h2.out
  rw [← List.flatMap_append, ← List.length_append] at h4
  exact h4
theorem lnk_one {w : World} {g : Nat} {l : Lnk} (h : LB w g l) : LnkAt w (some ⟨g, 0, none⟩) [l] := fun _ => ⟨g, 0, rfl, h.lt, fun i hi => by
 obtain rfl : i = 0 := by simp at hi; exact hi
 exact h.cells⟩
theorem LB.drew {w : World} {g : Nat} {l : Lnk} (h : LB w g l) : LB w.drew g l := ⟨⟨h.cells.c0, h.cells.c1, h.cells.c2⟩, h.lt⟩
theorem wpList_app_lines {P : Program} {w : World} {ops : Array Oper} {rest : List Oper} {o : Oper} {a : Act} {Q : Exit → Act → World → Prop} (hgd : o.guard = none) (s x : Operand) (t : TypeId)
  (ho : o.op = .call { callee := .builtin .append, args := #[s, x], argTypes := #[t, t] })
  (base : Nat) (e : TypeId) (i : TypeInfo) (bytes : Nat) (ht : P.underlying t = some (.slice e)) (hi : P.info? e = some i) (hz : i.zero = some (.agg #[.int .i64 0, .int .i64 0, .int .i64 0])) (hsize : i.size = 3) (hby : i.bytes = bytes) (hb8 : bytes ≤ 24)
  (v : Value) (L : List Lnk) (hs : a.eval s = v) (hown : OwnL e w base v L) (X : Option Addr) (m c : Nat) (M : List Lnk) (hm : M.length = m) (hx : a.eval x = .slice X m c) (hX : LnkAt w X M)
  (hlen : L.length + m ≤ 100000000) (hbase : base ≤ w.heap.size)
  (h : ∀ v' w', Hid (OwnL e w' base v' (L ++ M)) → Hid (w.grownBy w' v.ownBlock) → Below base w w' → wpList P ops Q rest (a.put o.dst v') w') : wpList P ops Q (o :: rest) a w := by
 refine wpList_plain hgd fun K hK => ?_
 have h9 := step_app_lines (ops := ops) (tm := #[]) (Q := Q) (K := K) (E := True) hgd s x t ho base e i bytes ht hi hz hsize hby hb8 v L hs hown X m c M hm hx hX hlen hbase (fun v' w' h1 h2 h3 => hK _ _ (h v' w' h1 h2 h3))
 rwa [if_pos (by simp [Region.wanted, hgd])] at h9
theorem LnkAt.take {w : World} {A : Option Addr} {D : List Lnk} (h : LnkAt w A D) (k : Nat) : LnkAt w A (D.take k) := fun h0 => by
 rw [List.length_take] at h0
 obtain ⟨b, off, e, hlt, hc⟩ := h (by omega)
 refine ⟨b, off, e, hlt, fun i hi => ?_⟩
 rw [List.length_take] at hi
 have := hc i (by omega)
 rw [List.getD_eq_getElem?_getD] at this ⊢
 rw [List.getElem?_take, if_pos (by omega)]
 exact this
theorem LnkAt.drop {w : World} {b off : Nat} {D : List Lnk} (h : LnkAt w (some ⟨b, off, none⟩) D) (k : Nat) : LnkAt w (some ⟨b, off + k * 3, none⟩) (D.drop k) := fun h0 => by
 rw [List.length_drop] at h0
 obtain ⟨b', off', e, hlt, hc⟩ := h (by omega)
 cases e
 refine ⟨b, off + k * 3, rfl, hlt, fun i hi => ?_⟩
 rw [List.length_drop] at hi
 have := hc (k + i) (by omega)
 rw [List.getD_eq_getElem?_getD] at this ⊢
 rw [List.getElem?_drop, show off + k * 3 + i * 3 = off + (k + i) * 3 by omega]
 exact this
open Go.RowKit Go.Maps
def nrmK (f : Int × Int → Option Int) (K : List (Int × Int)) : List Lnk := K.filterMap fun k => if (f k).getD 0 = 0 then none else some ⟨k.1, (f k).getD 0, k.2⟩
theorem nrmK_snoc (f : Int × Int → Option Int) (K : List (Int × Int)) (k : Int × Int) : nrmK f (K ++ [k]) = if (f k).getD 0 = 0 then nrmK f K else nrmK f K ++ [⟨k.1, (f k).getD 0, k.2⟩] := by
 unfold nrmK
 rw [List.filterMap_append]
 split <;> simp [*]
theorem nrmK_len (f : Int × Int → Option Int) (K : List (Int × Int)) : (nrmK f K).length ≤ K.length := List.length_filterMap_le _ _
theorem isnrm_keys {L : List Lnk} {K : List (Int × Int)} (hK : AscP K) (hm : ∀ k, k ∈ K ↔ (fsum L k).isSome = true) : IsNrm L (nrmK (fsum L) K) := by
 refine ⟨?_, fun l => ?_⟩
 ·refine List.Pairwise.filterMap _ (fun a a' h b hb b' hb' => ?_) hK
  split at hb
  ·cases hb
  ·split at hb'
   ·cases hb'
   ·cases hb; cases hb'; exact h
 ·unfold nrmK
  rw [List.mem_filterMap]
  constructor
  ·rintro ⟨k, hk, he⟩
   split at he
   ·cases he
   ·rename_i h0
    cases he
    rw [fsum_getD] at h0 ⊢
    exact ⟨rfl, h0⟩
  ·rintro ⟨h1, h2⟩
   refine ⟨kOf l, (hm _).2 ?_, ?_⟩
   ·unfold fsum
    split
    ·rfl
    ·rename_i h3
     rw [amtK_none h3, wr_zero] at h1
     exact absurd h1 h2
   ·rw [fsum_getD, if_neg (by rw [← h1]; exact h2), ← h1]
    rfl
theorem ekeys_any (b : Nat) (w : World) : Calls Try.prog 16 #[.map (some b)] w fun e w' => e = .returned (.func (.func 24) #[] #[.pointer (some ⟨w.heap.size, 0, none⟩)]) ∧ w' = w.alloc (.cells #[.map (some b)] 31) := by
 go_enter Try.func16, Try.ntmps16
 go_wp2_with fail
 go_ret
 exact ⟨rfl, rfl⟩
set_option maxRecDepth 100000 in
set_option maxHeartbeats 4000000 in
theorem enorm_any (A : Option Addr) (cp : Nat) (L : List Lnk) (w : World) (hz : LnkAt w A L) (hl : L.length ≤ 1000) (hwf : ∀ l ∈ L, okK (kOf l)) :
    Calls Try.prog 7 #[.slice A L.length cp] w fun e w' => ∃ B c N, e = .returned (.slice B N.length c) ∧ LnkAt w' B N ∧ IsNrm L N ∧ N.length ≤ L.length ∧ Below w.heap.size w w' := by
  have HS := Lib.hid (esumsOf_any A cp L w hz hl hwf)
  have HK := Lib.hid (fun (K : List (Int × Int)) h1 h2 => isnrm_keys (L := L) (K := K) h1 h2)
  have hfl : ∀ K : List (Int × Int), AscP K → (∀ k, k ∈ K ↔ (fsum L k).isSome = true) → (nrmK (fsum L) K).length ≤ L.length := fun K h1 h2 => by
    refine Nat.le_trans (nrmK_len _ _) ?_
    have hnd : K.Nodup := h1.imp fun {a b} hab e => by subst e; exact ltK_irrefl _ hab
    have := List.Nodup.length_le_of_subset (l₁ := K) (l₂ := L.map kOf) hnd (fun k hk => by
      have := (h2 k).1 hk
      unfold fsum at this
      split at this
      · assumption
      · cases this)
    rwa [List.length_map] at this
  have HFL := Lib.hid hfl
  have hokf : ∀ k, (fsum L k).isSome = true → okK k := fun k hk => by
    unfold fsum at hk
    split at hk
    · rename_i h
      obtain ⟨l, hl, rfl⟩ := List.mem_map.1 h
      exact hwf l hl
    · cases hk
  have HOF := Lib.hid hokf
  have HKB := Lib.hid ekeys_any
  obtain ⟨i0, hi, hz1, hz2, hz3⟩ := info_parts infoLn
  clear hz hwf hfl hokf
  generalize fsum L = f at *
  obtain ⟨n0, hn0⟩ : ∃ n0, L.length = n0 := ⟨_, rfl⟩
  rw [hn0] at hl HS HFL ⊢
  clear hn0
  go_enter Try.func7, Try.ntmps7
  go_wp2_with (first
    | (go_at_call 14; refine HS.out.mono ?_; rintro e w1 ⟨b, rfl, hb0, hM, hB1⟩; have HM := Lib.hid hM; have HB1 := Lib.hid hB1; clear hM hB1)
    | (go_at_call 16; refine (HKB.out b w1).mono ?_; rintro e w2 ⟨rfl, hw2⟩; subst hw2)
    | (go_at_call 15; refine (sortedP_any b n0 f w1 HM.out (by omega)).mono ?_; rintro e w3 ⟨AK, ck, K, rfl, hP, hA, hmem, hKl, hB3⟩))
  have HP := Lib.hid hP
  have HA := Lib.hid hA
  have HME := Lib.hid hmem
  have hM3 : MapP w3 b n0 f := HM.out.up hB3
  have HM3 := Lib.hid hM3
  have hB13 : Below w.heap.size w w3 := HB1.out.trans (hB3.mono HB1.out.size)
  have HB3 := Lib.hid hB13
  have HKL := Lib.hid hKl
  obtain ⟨n, hn⟩ : ∃ n, K.length = n := ⟨_, rfl⟩
  rw [hn] at hKl
  have HN := Lib.hid hn
  have hB := Below.refl w3.heap.size w3
  rw [hn]
  clear hP hA hmem hM3 hB13 hB3 HM HB1 hn
  go_loopg [3, 13] n (fun kx s3 s13 wr => ∃ k : Nat, s13 = .int .i64 k ∧ k ≤ n ∧ n - k ≤ kx ∧ Hid (OwnL 29 wr w3.heap.size s3 (nrmK f (K.take k))) ∧ Below w3.heap.size w3 wr)
  case atStart => exact ⟨0, rfl, by omega, by omega, Lib.hid OwnL.nil, hB⟩
  case round =>
    clear hB
    obtain ⟨k, rfl, hk, hkx, HO, hB⟩ := hrel
    by_cases hlt : k < n
    · have hltz : (k : Int) < (n : Int) := by omega
      have hkl : k < K.length := by rw [HN.out]; exact hlt
      obtain ⟨bb, off, rfl, hbw, hcs⟩ := HP.out (by omega)
      obtain ⟨c0, c1⟩ := hcs k hkl
      replace c0 := (hB.cell (p := ⟨bb, off + k * 2, none⟩) hbw).trans c0
      replace c1 := (hB.cell (p := ⟨bb, off + k * 2 + 1, none⟩) hbw).trans c1
      have hmk := (HME.out _).1 (getD_mem_acc (d := ((0, 0) : Int × Int)) hkl)
      have hok := HOF.out _ hmk
      have hst := nrmK_snoc f (K.take k) (K.getD k (0, 0))
      rw [← take_succ_getD (d := ((0, 0) : Int × Int)) hkl] at hst
      generalize K.getD k (0, 0) = q at *
      obtain ⟨q1, q2⟩ := q
      dsimp only at c0 c1 hst
      have hsz : w3.heap.size ≤ wr.heap.size := hB.size
      obtain ⟨wn, hwn⟩ : ∃ wn, wr.alloc (.cells #[.int .i64 q1, .int .i64 q2] 35) = wn := ⟨_, rfl⟩
      have hB1 : Below w3.heap.size w3 wn := by rw [← hwn]; exact hB.alloc hsz _
      have hO1 : OwnL 29 wn w3.heap.size u3 (nrmK f (K.take k)) := by rw [← hwn]; exact HO.out.alloc _
      obtain ⟨d0, d1, dlt⟩ : P2 wn wr.heap.size (q1, q2) := by rw [← hwn]; exact p2_new wr _ (q1, q2)
      dsimp only at d0 d1
      have hM1 := (HM3.out.up hB1).look hok
      obtain ⟨s, hs⟩ : ∃ s, (f (q1, q2)).getD 0 = s := ⟨_, rfl⟩
      rw [hs] at hM1 hst
      by_cases h0 : s = 0
      · subst h0
        rw [if_pos rfl] at hst
        have HO2 : Hid (OwnL 29 wn w3.heap.size u3 (nrmK f (K.take (k + 1)))) := Lib.hid (by rw [hst]; exact hO1)
        have HB2 := Lib.hid hB1
        clear hst hs hB1 hO1 hok hmk hcs
        go_wp2_with fail
        go_roundg (n - (k + 1))
        case measure => omega
        case rel => exact ⟨k + 1, by go_num, by omega, by omega, HO2, HB2.out⟩
      · rw [if_neg h0] at hst
        have hlk : (Instr.lookup 31 (.map (some b)) (.agg #[.int .i64 q1, .int .i64 q2]) false).run Try.prog wn.drew = .ok (.int .i64 s) wn.drew := (HM3.out.up hB1).drew.look hok |>.trans (by rw [hs])
        have e0 : wn.drew.cell? ⟨wr.heap.size, 0, none⟩ = some (.int .i64 q1) := d0
        have e1 : wn.drew.cell? ⟨wr.heap.size, 1, none⟩ = some (.int .i64 q2) := d1
        have hlen : (nrmK f (K.take k)).length ≤ 1000 := by
          have h1 := nrmK_len f (K.take k)
          have h2 : (K.take k).length ≤ k := by rw [List.length_take]; omega
          omega
        have HST := Lib.hid hst
        have HLEN := Lib.hid hlen
        have hsn : w3.heap.size ≤ wn.heap.size := hB1.size
        have HB1 := Lib.hid hB1
        have HO1 := Lib.hid hO1
        have hMw := HM3.out
        have hBn := fun o => HB1.out.alloc hsn o
        have hlk2 : ∀ o, (Instr.lookup 31 (.map (some b)) (.agg #[.int .i64 q1, .int .i64 q2]) false).run Try.prog ((wn.alloc o).drew) = .ok (.int .i64 s) ((wn.alloc o).drew) := fun o => (hMw.up (hBn o)).drew.look hok |>.trans (by rw [hs])
        have hc2 : ∀ o, (wn.alloc o).drew.cell? ⟨wr.heap.size, 0, none⟩ = some (.int .i64 q1) ∧ (wn.alloc o).drew.cell? ⟨wr.heap.size, 1, none⟩ = some (.int .i64 q2) := fun o => ⟨((below_alloc_new o).cell (p := ⟨wr.heap.size, 0, none⟩) dlt).trans d0, ((below_alloc_new o).cell (p := ⟨wr.heap.size, 1, none⟩) dlt).trans d1⟩
        have HFAR : Hid (some wr.heap.size ≠ u3.ownBlock) := Lib.hid (fun e => by have := (HO.out.lt e.symm).2; omega)
        have HLK2 := Lib.hid hlk2
        have HC2 := Lib.hid hc2
        have HOK := Lib.hid hok
        have HSS := Lib.hid hs
        clear hst hs hB1 hO1 hmk hcs hlen hlk2 hc2 hBn hMw hok
        go_wp2_with fail
        go_region_held_law (fun w' => w'.cell? ⟨wr.heap.size, 0, none⟩ = some (.int .i64 q1) ∧ w'.cell? ⟨wr.heap.size, 1, none⟩ = some (.int .i64 q2)) (first | exact hS5 | exact ⟨e0, e1⟩ | exact HC2.out _ | go_keep)
          (first
            | (refine step_app_lines rfl (.tmp 21) (.tmp 30) 22 rfl w3.heap.size 29 i0 24 Try.underlying22 hi hz1 hz2 hz3 (by omega) u3 (nrmK f (K.take k)) rfl (HO1.out.alloc _) (some ⟨wn.heap.size, 0, none⟩) 1 1 [⟨q1, s, q2⟩] rfl rfl (lnk_one (lb_new wn 29 ⟨q1, s, q2⟩).drew) (by have := HLEN.out; simp; omega) (by simp; omega) ?_
               intro v5 w5 ho5 hg5 hb5
               have hS5 : w5.cell? ⟨wr.heap.size, 0, none⟩ = some (.int .i64 q1) ∧ w5.cell? ⟨wr.heap.size, 1, none⟩ = some (.int .i64 q2) := ⟨hg5.out.cell (HC2.out _).1 HFAR.out, hg5.out.cell (HC2.out _).2 HFAR.out⟩))
        all_goals
          have HO5 : Hid (OwnL 29 w5 w3.heap.size v5 (nrmK f (K.take (k + 1)))) := Lib.hid (by rw [HST.out]; exact ho5.out)
          have HB5 : Hid (Below w3.heap.size w3 w5) := Lib.hid ((dc_drew (HB1.out.alloc hsn _)).trans hb5)
          clear ho5 hg5 hb5 HO1 HST
          go_wp2_with fail
          go_roundg (n - (k + 1))
          case measure => omega
          case rel => exact ⟨k + 1, by go_num, by omega, by omega, HO5, HB5.out⟩
    · obtain rfl : k = n := by omega
      have hltz : ¬ (k : Int) < (k : Int) := by omega
      have hO9 := HO.out
      have h1 : K.take k = K := by rw [← HN.out, List.take_length]
      rw [h1] at hO9
      obtain ⟨B, c, rfl, hat⟩ := hO9.reads
      have HAT := Lib.hid hat
      clear hat hO9 HO h1
      go_wp2_with fail
      go_ret
      exact ⟨B, c, _, rfl, HAT.out, HK.out K HA.out HME.out, HFL.out K HA.out HME.out, HB3.out.trans (hB.mono HB3.out.size)⟩
instance (a b : Lnk) : Decidable (a = b) :=
 if h : a.frm = b.frm ∧ a.tgt = b.tgt ∧ a.since = b.since then .isTrue (by cases a; cases b; simp at h; obtain ⟨rfl, rfl, rfl⟩ := h; rfl) else .isFalse (fun e => h (by subst e; exact ⟨rfl, rfl, rfl⟩))
set_option maxRecDepth 20000 in
set_option maxHeartbeats 1600000 in
theorem rsamel_any (A B : Option Addr) (c d : Nat) (zs ys : List Lnk) (w : World) (hz : LnkAt w A zs) (hy : LnkAt w B ys) (hl : zs.length ≤ 100000) (hl2 : ys.length ≤ 100000) :
  Calls Try.prog 8 #[.slice A zs.length c, .slice B ys.length d] w fun e w' => e = .returned (.bool (decide (zs = ys))) ∧ Below w.heap.size w w' := by
 have hB := Below.refl w.heap.size w
 obtain ⟨n, hn⟩ : ∃ n, zs.length = n := ⟨_, rfl⟩
 obtain ⟨m, hm⟩ : ∃ m, ys.length = m := ⟨_, rfl⟩
 rw [hn] at hl ⊢
 rw [hm] at hl2 ⊢
 by_cases hnm : n = m
 ·subst hnm
  have HN := Lib.hid hn
  have HM := Lib.hid hm
  have HZ := Lib.hid hz
  have HY := Lib.hid hy
  clear hn hm hz hy
  have hnn : ((n : Int) != (n : Int)) = false := by simp
  go_enter Try.func8, Try.ntmps8
  go_wp2_with fail
  go_loopg [5] n (fun kx s5 wr => ∃ k : Nat, s5 = .int .i64 k ∧ k ≤ n ∧ n - k ≤ kx ∧ Hid (zs.take k = ys.take k) ∧ Below w.heap.size w wr)
  case atStart => exact ⟨0, rfl, by omega, by omega, Lib.hid (by simp), hB⟩
  case round =>
   clear hB
   obtain ⟨k, rfl, hk, hkx, HT, hB⟩ := hrel
   by_cases hlt : k < n
   ·have hltz : (k : Int) < (n : Int) := by omega
    obtain ⟨b, off, rfl, hbw, hcs⟩ := HZ.out (by rw [HN.out]; omega)
    obtain ⟨b2, off2, rfl, hbw2, hcs2⟩ := HY.out (by rw [HM.out]; omega)
    obtain ⟨c0, c1, c2⟩ := (hcs k (by rw [HN.out]; exact hlt)).up hB hbw
    obtain ⟨d0, d1, d2⟩ := (hcs2 k (by rw [HM.out]; exact hlt)).up hB hbw2
    have ht1 := take_succ_getD (d := lnk0) (L := zs) (i := k) (by rw [HN.out]; exact hlt)
    have ht2 := take_succ_getD (d := lnk0) (L := ys) (i := k) (by rw [HM.out]; exact hlt)
    generalize zs.getD k lnk0 = x at *
    generalize ys.getD k lnk0 = y at *
    by_cases hxy : x = y
    ·subst hxy
     have HT2 : Hid (zs.take (k + 1) = ys.take (k + 1)) := Lib.hid (by rw [ht1, ht2, HT.out])
     clear ht1 ht2 hcs hcs2
     go_wp2_with fail
     go_quiet (fail)
     replace hB := below_drewN hB nq
     generalize World.drewN _ nq = W1 at *
     go_wp2_with fail
     go_roundg (n - (k + 1))
     case measure => omega
     case rel => exact ⟨k + 1, by go_num, by omega, by omega, HT2, hB⟩
    ·have hno : Hid (decide (zs = ys) = false) := Lib.hid (decide_eq_false fun e => by
      rw [e, ht2] at ht1
      have := List.append_cancel_left ht1
      simp at this; exact hxy this.symm)
     have hne : x.frm ≠ y.frm ∨ (x.frm = y.frm ∧ x.tgt ≠ y.tgt) ∨ (x.frm = y.frm ∧ x.tgt = y.tgt ∧ x.since ≠ y.since) := by
      by_cases h1 : x.frm = y.frm
      ·by_cases h2 : x.tgt = y.tgt
       ·exact .inr (.inr ⟨h1, h2, fun h3 => hxy (by cases x; cases y; simp at h1 h2 h3; rw [h1, h2, h3])⟩)
       ·exact .inr (.inl ⟨h1, h2⟩)
      ·exact .inl h1
     clear ht1 ht2 hcs hcs2 hxy
     rcases hne with h1 | ⟨h1, h2⟩ | ⟨h1, h2, h3⟩
     ·have q1 : (x.frm == y.frm) = false := by simp [h1]
      clear h1
      go_wp2_with fail
      go_quiet (fail)
      replace hB := below_drewN hB nq
      generalize World.drewN _ nq = W1 at *
      go_wp2_with fail
      go_ret
      exact ⟨by rw [hno.out]; rfl, hB⟩
     ·have q1 : (x.frm == y.frm) = true := by simp [h1]
      have q2 : (x.tgt == y.tgt) = false := by simp [h2]
      clear h1 h2
      go_wp2_with fail
      go_quiet (fail)
      replace hB := below_drewN hB nq
      generalize World.drewN _ nq = W1 at *
      go_wp2_with fail
      go_ret
      exact ⟨by rw [hno.out]; rfl, hB⟩
     ·have q1 : (x.frm == y.frm) = true := by simp [h1]
      have q2 : (x.tgt == y.tgt) = true := by simp [h2]
      have q3 : (x.since == y.since) = false := by simp [h3]
      clear h1 h2 h3
      go_wp2_with fail
      go_quiet (fail)
      replace hB := below_drewN hB nq
      generalize World.drewN _ nq = W1 at *
      go_wp2_with fail
      go_ret
      exact ⟨by rw [hno.out]; rfl, hB⟩
   ·obtain rfl : k = n := by omega
    have hltz : ¬ (k : Int) < (k : Int) := by omega
    have hyes : Hid (decide (zs = ys) = true) := Lib.hid (decide_eq_true (by have h := HT.out; rwa [List.take_of_length_le (by rw [HN.out]; omega), List.take_of_length_le (by rw [HM.out]; omega)] at h))
    go_wp2_with fail
    go_ret
    exact ⟨by rw [hyes.out]; rfl, hB⟩
 ·have hno : Hid (decide (zs = ys) = false) := Lib.hid (decide_eq_false fun e => hnm (by rw [← hn, ← hm, e]))
  have hnn : ((n : Int) != (m : Int)) = true := by simp; omega
  clear hn hm hz hy
  go_enter Try.func8, Try.ntmps8
  go_wp2_with fail
  go_ret
  exact ⟨by rw [hno.out]; rfl, hB⟩
def smL (l : Lnk) : Bool := decide (l.tgt ≤ 1125899906842624) && decide (-1125899906842624 ≤ l.tgt)
def smLB (L : List Lnk) : Bool := L.all smL && decide (L.length ≤ 100)
set_option maxRecDepth 20000 in
set_option maxHeartbeats 1600000 in
theorem esmall_any (A : Option Addr) (cp : Nat) (L : List Lnk) (w : World) (hz : LnkAt w A L) (hl : L.length ≤ 9223372036854775807) :
  Calls Try.prog 6 #[.slice A L.length cp] w fun e w' => e = .returned (.bool (smLB L)) ∧ Below w.heap.size w w' := by
 have hB := Below.refl w.heap.size w
 obtain ⟨n, hn⟩ : ∃ n, L.length = n := ⟨_, rfl⟩
 rw [hn] at hl ⊢
 have HN := Lib.hid hn
 have HZ := Lib.hid hz
 clear hn hz
 go_enter Try.func6, Try.ntmps6
 go_wp2_with fail
 go_loopg [3] n (fun kx s3 wr => ∃ k : Nat, s3 = .int .i64 k ∧ k ≤ n ∧ n - k ≤ kx ∧ Hid ((L.take k).all smL = true) ∧ Below w.heap.size w wr)
 case atStart => exact ⟨0, rfl, by omega, by omega, Lib.hid rfl, hB⟩
 case round =>
  clear hB
  obtain ⟨k, rfl, hk, hkx, HT, hB⟩ := hrel
  by_cases hlt : k < n
  ·have hltz : (k : Int) < (n : Int) := by omega
   obtain ⟨bb, off, rfl, hbw, hcs⟩ := HZ.out (by rw [HN.out]; omega)
   obtain ⟨c0, c1, c2⟩ := (hcs k (by rw [HN.out]; exact hlt)).up hB hbw
   have hkl : k < L.length := by rw [HN.out]; exact hlt
   have hst : (L.take (k + 1)).all smL = smL (L.getD k lnk0) := by
    rw [take_succ_getD (d := lnk0) hkl, List.all_append, HT.out, List.all_cons, List.all_nil, Bool.true_and, Bool.and_true]
   have hno : smL (L.getD k lnk0) = false → smLB L = false := fun h => by
    unfold smLB
    have : L.all smL = false := by
     rw [List.all_eq_false]
     exact ⟨_, getD_mem_acc hkl, by rw [h]; simp⟩
    rw [this]; rfl
   generalize L.getD k lnk0 = x at *
   have hsx : smL x = (decide (x.tgt ≤ 1125899906842624) && decide (-1125899906842624 ≤ x.tgt)) := rfl
   have HNO := Lib.hid hno
   have HST := Lib.hid hst
   clear hcs hst hno
   rcases Int.lt_or_le 1125899906842624 x.tgt with h1 | h1
   ·have E : Hid (smLB L = false) := Lib.hid (HNO.out (by rw [hsx, decide_eq_false (by omega)]; rfl))
    have e1 : decide (x.tgt ≤ 1125899906842624) = false := decide_eq_false (by omega)
    clear hsx
    go_wp2_with fail
    go_ret
    exact ⟨by rw [E.out]; rfl, hB⟩
   ·have e1 : decide (x.tgt ≤ 1125899906842624) = true := decide_eq_true h1
    have e9 : ¬ (1125899906842624 : Int) < x.tgt := by omega
    rcases Int.lt_or_le x.tgt (-1125899906842624) with h2 | h2
    ·have E : Hid (smLB L = false) := Lib.hid (HNO.out (by rw [hsx, e1, decide_eq_false (by omega)]; rfl))
     have e2 : decide (-1125899906842624 ≤ x.tgt) = false := decide_eq_false (by omega)
     clear hsx
     go_wp2_with fail
     go_ret
     exact ⟨by rw [E.out]; rfl, hB⟩
    ·have HT2 : Hid ((L.take (k + 1)).all smL = true) := Lib.hid (by rw [HST.out, hsx, e1, decide_eq_true h2]; rfl)
     have e2 : decide (-1125899906842624 ≤ x.tgt) = true := decide_eq_true h2
     have e8 : ¬ x.tgt < (-1125899906842624 : Int) := by omega
     clear hsx
     go_wp2_with fail
     go_roundg (n - (k + 1))
     case measure => omega
     case rel => exact ⟨k + 1, by go_num, by omega, by omega, HT2, hB⟩
  ·obtain rfl : k = n := by omega
   have hltz : ¬ (k : Int) < (k : Int) := by omega
   have E : Hid (smLB L = decide ((k : Int) ≤ 100)) := Lib.hid (by
    have h1 : L.take k = L := by rw [← HN.out, List.take_length]
    have h2 := HT.out
    rw [h1] at h2
    unfold smLB
    rw [h2, HN.out, Bool.true_and]
    exact decide_eq_decide.2 (by omega))
   go_wp2_with fail
   go_ret
   exact ⟨by rw [E.out]; rfl, hB⟩
theorem lnk_lit (w : World) (t : TypeId) (L : List Lnk) : LnkAt (w.alloc (.cells (L.flatMap celL).toArray t)) (some ⟨w.heap.size, 0, none⟩) L := fun _ => by
 refine ⟨w.heap.size, 0, rfl, by simp, fun j hj => ?_⟩
 have key : ∀ i, (w.alloc (.cells (L.flatMap celL).toArray t)).cell? ⟨w.heap.size, i, none⟩ = (L.flatMap celL)[i]? := by
  intro i
  simp only [World.cell?]
  rw [heap_alloc_new]
  simp
 obtain ⟨k0, k1, k2⟩ := celL_get L j hj
 exact ⟨by rw [Nat.zero_add, key]; exact k0, by rw [Nat.zero_add, key]; exact k1, by rw [Nat.zero_add, key]; exact k2⟩
def exLn : List Lnk := [⟨1000, 5, -1⟩, ⟨2000, -5, 1⟩, ⟨1000, -2, -1⟩, ⟨2000, 2, 1⟩]
def exNn : List Lnk := [⟨1000, 3, -1⟩, ⟨2000, -3, 1⟩]
theorem exLn_nrm : IsNrm exLn exNn := by
 have h := isnrm_keys (L := exLn) (K := [(1000, -1), (2000, 1)]) (by unfold AscP; simp [ltK]) (fun k => by
  unfold fsum
  constructor
  ·intro h
   rw [if_pos]
   ·rfl
   ·simp only [List.mem_cons, List.not_mem_nil, or_false] at h
    rcases h with rfl | rfl <;> decide
  ·intro h
   split at h
   ·rename_i h1
    simp [exLn, kOf] at h1
    simp only [List.mem_cons, List.not_mem_nil, or_false]
    rcases h1 with h1 | h1 | h1 | h1
    all_goals first | exact .inl h1 | exact .inr h1
   ·cases h)
 have e : nrmK (fsum exLn) [(1000, -1), (2000, 1)] = exNn := by decide +kernel
 rw [← e]; exact h
set_option maxRecDepth 20000 in
set_option maxHeartbeats 1600000 in
theorem eawake_any (w : World) : Calls Try.prog 5 #[] w fun e w' => e = .returned (.bool true) ∧ Below w.heap.size w w' := by
 have hB1 := below_alloc_new (w := w) (.cells #[.int .i64 1000, .int .i64 5, .int .i64 (-1), .int .i64 2000, .int .i64 (-5), .int .i64 1, .int .i64 1000, .int .i64 (-2), .int .i64 (-1), .int .i64 2000, .int .i64 2, .int .i64 1] 29)
 have hat : LnkAt (w.alloc (.cells #[.int .i64 1000, .int .i64 5, .int .i64 (-1), .int .i64 2000, .int .i64 (-5), .int .i64 1, .int .i64 1000, .int .i64 (-2), .int .i64 (-1), .int .i64 2000, .int .i64 2, .int .i64 1] 29)) (some ⟨w.heap.size, 0, none⟩) exLn := lnk_lit w 29 exLn
 have HN := Lib.hid (fun W (h : LnkAt W (some ⟨w.heap.size, 0, none⟩) exLn) => enorm_any (some ⟨w.heap.size, 0, none⟩) 4 exLn W h (by decide) (by unfold okK; decide +kernel))
 have HAT := Lib.hid hat
 have HB1 := Lib.hid hB1
 clear hat hB1
 go_enter Try.func5, Try.ntmps5
 go_wp2_with (first
  | (go_at_call 7; refine (HN.out _ HAT.out).mono ?_; rintro e w2 ⟨B, c, N, rfl, hl, hnm, -, hb⟩; obtain rfl := isnrm_unique hnm exLn_nrm; have HL := Lib.hid hl; have HB2 := Lib.hid (below_more HB1.out hb); clear hl hnm hb)
  | (go_at_call 8; refine (rsamel_any B (some ⟨w2.heap.size, 0, none⟩) c 2 exNn exNn _ (HL.out.up (below_alloc_new _)) (lnk_lit w2 29 exNn) (by decide) (by decide)).mono ?_; rintro e w3 ⟨rfl, hb⟩; have HB3 := Lib.hid (below_more (below_new HB2.out _) hb); clear hb))
 go_ret
 exact ⟨by simp, HB3.out⟩
def okL (l : Lnk) : Prop := okK (kOf l) ∧ (Lit.int .i64 l.tgt).wf = true
set_option maxRecDepth 20000 in
set_option maxHeartbeats 6400000 in
theorem law_eorder (A : Option Addr) (n c : Nat) (L : List Lnk) (a : Int) (w : World) (ha : 0 ≤ a ∧ a ≤ 255) (hlen : L.length = n) (hmax : n ≤ 9223372036854775807) (hcap : n ≤ c) (hz : LnkAt w A L) (hwf : ∀ l ∈ L, okL l) :
  Calls Try.prog 4 #[.slice A n c, .int .u8 a] w fun e w' => e = .returned (.bool true) ∧ Below w.heap.size w w' := by
 have HB0 := Lib.hid (Below.refl w.heap.size w)
 have HSM := Lib.hid (fun W (h : LnkAt W A L) => esmall_any A c L W h (by omega))
 have hsmv : smLB L = true → L.length ≤ 100 := fun h => by
  unfold smLB at h
  simp at h
  exact h.2
 rw [hlen] at HSM hsmv
 have HZ := Lib.hid hz
 have HLEN := Lib.hid hlen
 have HWF := Lib.hid hwf
 clear hz hlen hwf
 generalize smLB L = sm at *
 cases sm
 ·clear hsmv
  go_enter Try.func4, Try.ntmps4
  go_wp2_with (first
   | (go_at_call 5; refine (eawake_any _).mono ?_; rintro e w1 ⟨rfl, hb⟩; have HB1 := Lib.hid (below_more HB0.out hb); have HZ1 := Lib.hid (HZ.out.up hb); clear hb)
   | (go_at_call 6; refine (HSM.out _ HZ1.out).mono ?_; rintro e w2 ⟨rfl, hb⟩; have HB2 := Lib.hid (below_more HB1.out hb); have HZ2 := Lib.hid (HZ1.out.up hb); clear hb))
  go_ret
  exact ⟨rfl, HB2.out⟩
 have hn100 := hsmv rfl
 clear hsmv
 rcases Nat.eq_zero_or_pos n with h0 | h0
 ·subst h0
  go_enter Try.func4, Try.ntmps4
  go_wp2_with (first
   | (go_at_call 5; refine (eawake_any _).mono ?_; rintro e w1 ⟨rfl, hb⟩; have HB1 := Lib.hid (below_more HB0.out hb); have HZ1 := Lib.hid (HZ.out.up hb); clear hb)
   | (go_at_call 6; refine (HSM.out _ HZ1.out).mono ?_; rintro e w2 ⟨rfl, hb⟩; have HB2 := Lib.hid (below_more HB1.out hb); have HZ2 := Lib.hid (HZ1.out.up hb); clear hb))
  go_ret
  exact ⟨rfl, HB2.out⟩
 obtain ⟨k, hk⟩ : ∃ k : Nat, a.tmod (n : Int) = (k : Int) := ⟨(a.tmod n).toNat, by rw [Int.tmod_eq_emod_of_nonneg ha.1, Int.toNat_of_nonneg (Int.emod_nonneg _ (by omega))]⟩
 have hkn : k < n := by
  have := Int.emod_lt_of_pos a (show (0 : Int) < n by omega)
  rw [← Int.tmod_eq_emod_of_nonneg ha.1, hk] at this
  omega
 have hnz : ((n : Int) == 0) = false := by simp; omega
 have hnz2 : ¬ (n : Int) = 0 := by omega
 obtain ⟨i0, hi, hz1, hz2, hz3⟩ := info_parts infoLn
 have HNO := Lib.hid (fun W B cB N (h : LnkAt W B N) (hl : N.length ≤ 1000) (hw : ∀ l ∈ N, okK (kOf l)) => enorm_any B cB N W h hl hw)
 go_enter Try.func4, Try.ntmps4
 go_wp2_with (first
  | (go_at_call 5; refine (eawake_any _).mono ?_; rintro e w1 ⟨rfl, hb⟩; have HB1 := Lib.hid (below_more HB0.out hb); have HZ1 := Lib.hid (HZ.out.up hb); clear hb)
  | (go_at_call 6; refine (HSM.out _ HZ1.out).mono ?_; rintro e w2 ⟨rfl, hb⟩; have HB2 := Lib.hid (below_more HB1.out hb); have HZ2 := Lib.hid (HZ1.out.up hb); clear hb))
 have hB := Below.refl w2.heap.size w2
 have HK := Lib.hid hk
 clear hk
 go_loopg [6, 7] (n - k) (fun kx s6 s7 wr => ∃ t : Nat, s7 = .int .i64 ((n : Int) - 1 - t) ∧ t ≤ n - k ∧ n - k - t ≤ kx ∧ Hid (OwnL 29 wr w2.heap.size s6 (L.drop (n - t)).reverse) ∧ Below w2.heap.size w2 wr)
 case atStart => exact ⟨0, by first | rfl | simp, by omega, by omega, Lib.hid (by rw [Nat.sub_zero, List.drop_of_length_le (by rw [HLEN.out]; omega)]; exact OwnL.nil), hB⟩
 case round =>
  clear hB
  obtain ⟨t, rfl, ht, htx, HO, hB⟩ := hrel
  by_cases hlt : t < n - k
  ·have hltz : (k : Int) ≤ (n : Int) - 1 - t := by omega
   obtain ⟨j, hj⟩ : ∃ j : Nat, n - 1 - t = j := ⟨_, rfl⟩
   have hjz : (n : Int) - 1 - t = (j : Int) := by omega
   rw [hjz] at hltz ⊢
   have hjn : j < n := by omega
   have hjz2 : (j : Int) < (n : Int) := by omega
   obtain ⟨bb, off, rfl, hbw, hcs⟩ := HZ2.out (by rw [HLEN.out]; omega)
   obtain ⟨c0, c1, c2⟩ := (hcs j (by rw [HLEN.out]; exact hjn)).up hB hbw
   have hst : (L.drop (n - (t + 1))).reverse = (L.drop (n - t)).reverse ++ [L.getD j lnk0] := by
    have h1 := drop_getD (d := lnk0) (show j < L.length by rw [HLEN.out]; exact hjn)
    rw [show n - (t + 1) = j by omega, h1, List.reverse_cons, show j + 1 = n - t by omega]
   have hln : (L.drop (n - t)).reverse.length ≤ 100000000 := by rw [List.length_reverse, List.length_drop, HLEN.out]; omega
   generalize L.getD j lnk0 = x at *
   have HST := Lib.hid hst
   have HLN := Lib.hid hln
   have hsz : w2.heap.size ≤ wr.heap.size := hB.size
   have HSZ := Lib.hid hsz
   have HB := Lib.hid hB
   clear hcs hst hln hj
   go_wp2_with (at_builtin; refine wpList_append_lk _ rfl (.tmp 31) (.tmp 36) 22 rfl w2.heap.size 29 i0 24 Try.underlying22 hi hz1 hz2 hz3 (by omega) u6 _ (by rfl) HO.out x _ 1 (by simp) rfl HLN.out HSZ.out ?_; intro v5 w5 ho5 hg5 hl5 hb5)
   have HO5 : Hid (OwnL 29 w5 w2.heap.size v5 (L.drop (n - (t + 1))).reverse) := Lib.hid (by rw [HST.out]; exact ho5.out)
   have HB5 := Lib.hid (HB.out.trans hb5)
   clear ho5 hg5 hl5 hb5 HO HST
   go_roundg (n - k - (t + 1))
   case measure => omega
   case rel => exact ⟨t + 1, by rw [hjz.symm]; go_num, by omega, by omega, HO5, HB5.out⟩
  ·obtain rfl : t = n - k := by omega
   have hltz : ¬ (k : Int) ≤ (n : Int) - 1 - ((n - k : Nat) : Int) := by omega
   rw [show n - (n - k) = k by omega] at HO
   obtain ⟨bb, off, rfl, hbw, -⟩ := HZ2.out (by rw [HLEN.out]; omega)
   have hkc : (k : Int) ≤ (c : Int) := by omega
   have hk0 : (0 : Int) ≤ (k : Int) := by omega
   have hsz : w2.heap.size ≤ wr.heap.size := hB.size
   have hln : (L.drop k).reverse.length + k ≤ 100000000 := by rw [List.length_reverse, List.length_drop, HLEN.out]; omega
   have hZr : LnkAt wr (some ⟨bb, off, none⟩) L := HZ2.out.up hB
   have htl : (L.take k).length = k := by rw [List.length_take, HLEN.out]; omega
   have hperm : L.Perm ((L.drop k).reverse ++ L.take k) := by
    have h1 : ((L.drop k).reverse ++ L.take k).Perm (L.drop k ++ L.take k) := (List.reverse_perm _).append_right _
    have h2 : (L.drop k ++ L.take k).Perm (L.take k ++ L.drop k) := List.perm_append_comm
    rw [List.take_append_drop] at h2
    exact (h1.trans h2).symm
   have hlo : ((L.drop k).reverse ++ L.take k).length = n := by rw [← hperm.length_eq, HLEN.out]
   have HP := Lib.hid hperm
   have HLN := Lib.hid hln
   have HSZ := Lib.hid hsz
   have HB := Lib.hid hB
   have HZR := Lib.hid hZr
   have HTL := Lib.hid htl
   have HLO := Lib.hid hlo
   clear hln hsz hB hZr htl hperm hlo
   have HNA := Lib.hid (fun W (h : LnkAt W (some ⟨bb, off, none⟩) L) => enorm_any (some ⟨bb, off, none⟩) c L W h (by rw [HLEN.out]; omega) (fun l hl => (HWF.out l hl).1))
   have HNB := Lib.hid (fun W B cB (h : LnkAt W B ((L.drop k).reverse ++ L.take k)) => enorm_any B cB _ W h (by rw [HLO.out]; omega) (fun l hl => (HWF.out l (HP.out.mem_iff.2 hl)).1))
   rw [HLEN.out] at HNA
   rw [HLO.out] at HNB
   go_wp2_with (first
    | (at_builtin; refine wpList_app_lines rfl (.tmp 38) (.tmp 41) 22 rfl w2.heap.size 29 i0 24 Try.underlying22 hi hz1 hz2 hz3 (by omega) u6 _ (by rfl) HO.out (some ⟨bb, off, none⟩) k c (L.take k) HTL.out (by first | rfl | simp) (HZR.out.take k) HLN.out HSZ.out ?_; intro v5 w5 ho5 hg5 hb5; obtain ⟨B5, c5, hv5, hl5⟩ := ho5.out.reads; rw [HLO.out] at hv5; subst hv5; have HL5 := Lib.hid hl5; have HB5 := Lib.hid (HB.out.trans hb5); clear ho5 hg5 hl5 hb5)
    | (go_at_call 7; first
      | (refine (HNB.out _ B5 c5 (HL5.out.up HB6.out)).mono ?_; rintro e w7 ⟨B7, c7, N7, rfl, hl7, hn7, hle7, hb7⟩; have HL7 := Lib.hid hl7; have HN7 := Lib.hid hn7; have HE7 := Lib.hid hle7; have HB7 := Lib.hid hb7; clear hl7 hn7 hle7 hb7)
      | (with_reducible refine (HNA.out _ (HZ2.out.up HB5.out)).mono ?_; rintro e w6 ⟨B6, c6, N6, rfl, hl6, hn6, hle6, hb6⟩; have HL6 := Lib.hid hl6; have HN6 := Lib.hid hn6; have HE6 := Lib.hid hle6; have HB6 := Lib.hid hb6; clear hl6 hn6 hle6 hb6))
    | (go_at_call 8; refine (rsamel_any B6 B7 c6 c7 N6 N7 _ (HL6.out.up HB7.out) HL7.out (by have := HE6.out; omega) (by have := HE7.out; omega)).mono ?_; rintro e w8 ⟨rfl, hb8⟩; have HB8 := Lib.hid hb8; clear hb8))
   go_ret
   have he : N6 = N7 := isnrm_unique (isnrm_perm HP.out HN6.out) HN7.out
   have hw5 : Below w.heap.size w w5 := HB2.out.trans (HB5.out.mono HB2.out.size)
   exact ⟨by rw [he]; simp, below_more (below_more (below_more hw5 HB6.out) HB7.out) HB8.out⟩
open Go.ChangeShapes Go.WideShapes Go.ChangeAt Go.WideMaps Go.WideElems Go.RowKit
theorem post_plain {H : Type} {enc : TypeId × Value → H} {P : Program} {f : Func} {s : ChangeSpec} {ap fr ho ag : Bool} {W W' : World} {args : Array Value} {v : Value} {ds gs : List (DataW H)} {before pa pv : List MemPlace}
  (hW : DataW.Whole enc P f.params.toList s.vars ap W args.toList ds gs before)
  (hres : ∀ (b : Nat) (sp : Nat → Bool) (hd : Bool), DataW.TrodAll enc P W' b sp hd f.resultTypes.toList (v.resultList f.resultTypes.size) (s.fn H (ds ++ gs)).results [])
  (hargs : ∀ sp : Nat → Bool, (∀ p ∈ before, sp p.block = true) → DataW.TrodAll enc P W' 0 sp true f.params.toList args.toList (s.fn H (ds ++ gs)).args pa)
  (hvars : ∀ sp : Nat → Bool, (∀ p ∈ before, sp p.block = true) → DataW.TrodVars enc P W' sp s.vars (s.fn H (ds ++ gs)).vars pv)
  (hps : before = pa ++ pv) (hb : Below W.heap.size W W')
  (hok : ∀ (j : Nat) (t : TypeId) (r : Value), f.resultTypes[j]? = some t → (v.resultList f.resultTypes.size)[j]? = some r → Value.okWide P W' .any 0 t r) : s.post enc P f ap fr ho ag W args v W' := by
 have hlt : ∀ p ∈ before, p.block < W.heap.size := fun p hp => hW.lt p hp
 have hin : ∀ p ∈ before, (fun b => decide (b < W.heap.size)) p.block = true := fun p hp => by simpa using hlt p hp
 refine ⟨ds, gs, before, [], pa, pv, hW, hres _ _ _, hargs _ hin, hvars _ hin, World.keptBut_mono (fun p hp => ⟨hp, .inr (List.mem_append.1 (hps ▸ hp))⟩) (hb.frame (· ∈ before)), fun _ => ?_⟩
 obtain ⟨_, _, _, _, _, hz, hn⟩ := hW
 refine ⟨hok, _, _, ([] ++ pa) ++ pv, ⟨[] ++ pa, pv, trodAll_append (hargs _ (fun _ _ => rfl)) (hres _ _ _), hvars _ (fun _ _ => rfl), rfl, fun b off hp => ?_, fun ha => ?_⟩, ?_⟩
 ·have hbe : MemPlace.cell b off ∈ before := by rw [hps]; simpa using hp
  rw [hb.frozen (hlt _ hbe)]
  exact hz b off hbe
 ·have h9 := hn ha
  rw [hps] at h9
  simpa using h9
 ·intro p hp _
  rw [hps, ← List.nil_append pa]
  exact hp
open Go.ChangeShapes Go.WideShapes Go.ChangeAt Go.WideMaps Go.WideElems Go.RowKit Go.Deep
def cellNum : Option Value → Int
 | some (.int _ z) => z
 | _ => 0
open Go Go.RowKit
structure Fact where
 p : Value → World → Prop
 st : ∀ v w w', Below w.heap.size w w' → p v w → p v w'
def Fact.triv : Fact := ⟨fun _ _ => True, fun _ _ _ _ _ => trivial⟩
def look : List (Nat × Fact) → Nat → Fact
 | [], _ => Fact.triv
 | (k, f) :: rest, d => bif Nat.beq k d then f else look rest d
section
variable {P : Program} {ops : Array Oper} {Q : Exit → Act → World → Prop} {FL : List (Nat × Fact)} {J : World → Prop} {t0 : Array Value} {df : List Deferred} {ds : List Nat}
end
open Go Go.RowKit
def AS.NoInt (w : World) (b : Nat) : Prop := ∀ j k n, w.cell? ⟨b, j, none⟩ ≠ some (.int k n)
open AS (NoInt)
def Leaf (x : Value) : Prop := ∀ k n, x ≠ .int k n
structure Bx (t : TypeId) (w : World) (g : Nat) (vs : List Value) : Prop where
 blk : w.heap[g]? = some (.cells vs.toArray t (0, 0))
 leaf : ∀ v ∈ vs, Leaf v
section
variable {t : TypeId} {w w' : World} {g : Nat} {vs : List Value}
end
end Go.Proofs.Ytfombohomebokaa
namespace Go.Proofs.Ytfombohomebokaa.AS
open Go Go.RowKit
structure Keep (w w' : World) : Prop where
 size : w.heap.size ≤ w'.heap.size
 blk : ∀ i, i < w.heap.size → (∃ j k n, w.cell? ⟨i, j, none⟩ = some (.int k n)) → w'.heap[i]? = w.heap[i]?
 box : ∀ (t : TypeId) (g : Nat) (vs : List Value), 2 ≤ vs.length → Bx t w g vs → ∃ vs' : List Value, vs'.length = vs.length ∧ Bx t w' g vs'
structure Fact where
 p : Value → World → Prop
 st : ∀ v w w', Keep w w' → p v w → p v w'
def Fact.triv : Fact := ⟨fun _ _ => True, fun _ _ _ _ _ => trivial⟩
def look : List (Nat × Fact) → Nat → Fact
 | [], _ => Fact.triv
 | (k, f) :: rest, d => bif Nat.beq k d then f else look rest d
def factOf (FL : List (Nat × Fact)) (dst : Option Nat) (v : Value) (w : World) : Prop := match dst with
 | none => True
 | some d => (look FL d).p v w
def Facts (FL : List (Nat × Fact)) (u : Nat → Value) (w : World) : List Nat → Prop
 | [] => True
 | d :: ds => (look FL d).p (u d) w ∧ Facts FL u w ds
section
variable {P : Program} {ops : Array Oper} {Q : Exit → Act → World → Prop} {FL : List (Nat × Fact)} {J : Nat → List Value → World → Prop} {t0 : Array Value} {df : List Deferred} {ds : List Nat}
 {st lm al : List Nat} {js : List (List Nat)} {pt : List (List Nat)}
def aOk (al : List Nat) (dst : Option Nat) (v : Value) (w w' : World) : Prop := match dst with
 | some d => bif al.contains d then v = .pointer (some ⟨w.heap.size, 0, none⟩) ∧ w.heap.size < w'.heap.size else True
 | none => True
def Apart (al : List Nat) (u : Nat → Value) : Prop := ∀ d ∈ al, ∀ d' ∈ al, d ≠ d' → u d ≠ u d'
def StepOk (al : List Nat) (P : Program) (ops : Array Oper) (Q : Exit → Act → World → Prop) (FL : List (Nat × Fact)) (J : Nat → List Value → World → Prop) (js : List (List Nat)) (fr : (Nat → Value) → Array Value) (df : List Deferred) (o : Oper) (need : List Nat) (lim : Nat) : Prop :=
 ∀ (k : Nat) (u : Nat → Value) (w : World), k ≤ lim → J k ((js.getD k []).map u) w → Facts FL u w need → ∀ K : Act → World → Prop, Shut (∀ v w', Below w.heap.size w w' → factOf FL o.dst v w' → aOk al o.dst v w w' → K ((⟨fr u, df⟩ : Act).put o.dst v) w') →
  if Region.wanted o (yielded ops (fr u)) = true then Oper.wp P o ⟨fr u, df⟩ w K Q else K ((⟨fr u, df⟩ : Act).put o.dst undef) w
def StoreOk (al : List Nat) (P : Program) (ops : Array Oper) (Q : Exit → Act → World → Prop) (FL : List (Nat × Fact)) (J : Nat → List Value → World → Prop) (js : List (List Nat)) (fr : (Nat → Value) → Array Value) (df : List Deferred) (o : Oper) (need : List Nat) (k : Nat) : Prop :=
 ∀ (u : Nat → Value) (w : World), J k ((js.getD k []).map u) w → Apart al u → Facts FL u w need → ∀ K : Act → World → Prop, Shut (∀ v w', J (k + 1) ((js.getD (k + 1) []).map u) w' → Keep w w' → K ((⟨fr u, df⟩ : Act).put o.dst v) w') →
  if Region.wanted o (yielded ops (fr u)) = true then Oper.wp P o ⟨fr u, df⟩ w K Q else K ((⟨fr u, df⟩ : Act).put o.dst undef) w
def StepsOk (al : List Nat) (P : Program) (ops : Array Oper) (Q : Exit → Act → World → Prop) (FL : List (Nat × Fact)) (J : Nat → List Value → World → Prop) (js : List (List Nat)) (fr : (Nat → Value) → Array Value) (df : List Deferred) (pt : List (List Nat)) (st lm : List Nat) : List Oper → Nat → Prop
 | [], _ => True
 | o :: rest, i => (match st.idxOf? i with
   | some k => StoreOk al P ops Q FL J js fr df o (pt.getD i []) k
   | none => StepOk al P ops Q FL J js fr df o (pt.getD i []) (lm.getD i st.length)) ∧ StepsOk al P ops Q FL J js fr df pt st lm rest (i + 1)
theorem ss {fr : (Nat → Value) → Array Value} {o : Oper} {rest : List Oper} {i k : Nat} {need : List Nat} (h0 : st.idxOf? i = some k) (h1 : pt.getD i [] = need)
  (h : StoreOk al P ops Q FL J js fr df o need k) (hs : StepsOk al P ops Q FL J js fr df pt st lm rest (i + 1)) : StepsOk al P ops Q FL J js fr df pt st lm (o :: rest) i := ⟨by rw [h0, h1]; exact h, hs⟩
end
end Go.Proofs.Ytfombohomebokaa.AS
namespace Go.Proofs.Ytfombohomebokaa
open Go.RowKit Go.Maps
structure WfL (l : Lnk) : Prop where
 frm : (Lit.int .i64 l.frm).wf = true
 tgt : (Lit.int .i64 l.tgt).wf = true
 since : (Lit.int .i64 l.since).wf = true
def WfC (L : List Acc) : Prop := ∀ a ∈ L, (Lit.int .i64 a.code).wf = true
section
variable {w wb w2 w4 : World} {base mb : Nat} {GA GB : Int → Value} {L : List Acc} {K : List Lnk} {v : Value}
end
open Go.ChangeShapes Go.WideShapes Go.ChangeAt Go.WideMaps Go.WideElems Go.RowKit Go.Deep Go.Joins
section
variable {H : Type} {enc : TypeId × Value → H} {P : Program} {W : World}
theorem open_wrows {T E I : TypeId} {fs : Array Field} {fuel : Nat} {cs : List Value} {x : DataW H × List MemPlace} (hT : P.underlying T = some (.slice E)) (hE : P.underlying E = some (.struct fs))
  (hone : oneCellFields P fs = true) (hC : P.cellsOf E = fs.size) (hty : (fs.toList.all fun f => f.type == I) = true) (hI : P.underlying I = some (.int .i64)) (hn : 0 < fs.size)
  (hf : DataW.trod enc P W 0 (fun _ => true) true fuel T cs = some x) :
  ∃ A len cap, cs = [.slice A len cap] ∧ len ≤ 9223372036854775807 ∧ ∃ X : Nat → Nat → Int, 0 < len → ∃ b off, A = some ⟨b, off, none⟩ ∧ b < W.heap.size ∧ ∀ k, k < len → ∀ j, j < fs.size → W.cell? ⟨b, off + (k * fs.size + j), none⟩ = some (.int .i64 (X k j)) ∧ (Lit.int .i64 (X k j)).wf = true := by
 rcases open_slice hT hf with ⟨hcs, -⟩ | ⟨a, len, cap, m, n, D, Pl, hcs, -, hl, hm, hmm, -, hx⟩
 ·exact ⟨none, 0, 0, hcs, by omega, fun _ _ => 0, fun h => by omega⟩
 ·simp only [if_true] at hmm
  subst hmm
  unfold maxLen at hm
  have key : ∀ k, k < len → ∀ j, j < fs.size → ∃ z : Int, W.cell? (a.add (k * fs.size + j)) = some (.int .i64 z) ∧ (Lit.int .i64 z).wf = true := by
   intro k hk j hj
   obtain ⟨cs', h1, h2⟩ := hx k (by omega)
   rw [hC] at h1
   obtain ⟨_, hlen, hcell⟩ := World.cells?_some h1
   obtain ⟨xs, n', -, -, -, hxl, hff⟩ := DataW.trod_struct hE h2
   have hfj : fs[j]? = some fs[j] := Array.getElem?_eq_getElem hj
   obtain ⟨ho, hk1⟩ := hone_of hone j _ hfj
   have ht : fs[j].type = I := by
    have := List.all_eq_true.1 hty fs[j] (by simp)
    simpa using this
   have hxj : xs[j]? = some (xs[j]'(by omega)) := List.getElem?_eq_getElem (by omega)
   have h3 := hff j _ hfj
   rw [ho, hk1, ht, hxj] at h3
   obtain ⟨z, hz, -, hw⟩ := DataW.trod_int hI h3
   refine ⟨z, ?_, hw⟩
   have h4 := hcell j hj
   rw [add_add] at h4
   rw [h4]
   have h5 : (cs'.drop j).take 1 = [cs'[j]'(by omega)] := by
    rw [List.drop_eq_getElem_cons (by omega)]; rfl
   rw [h5] at hz
   rw [List.getElem?_eq_getElem (by omega)]
   injection hz with hz
   rw [hz]
  obtain ⟨b, off, spot⟩ := a
  refine ⟨_, len, _, hcs, by omega, fun k j => cellNum (W.cell? (Addr.add ⟨b, off, spot⟩ (k * fs.size + j))), fun h0 => ?_⟩
  obtain ⟨z0, hz0, -⟩ := key 0 h0 0 hn
  have hspot : spot = none := by simpa [Addr.add] using World.cell?_spot hz0
  subst hspot
  have hlt : b < W.heap.size := by
   rcases Nat.lt_or_ge b W.heap.size with hlt | hge
   ·exact hlt
   ·unfold World.cell? at hz0
    rw [show (Addr.add ⟨b, off, none⟩ (0 * fs.size + 0)).block = b from by rw [block_add], Array.getElem?_eq_none hge] at hz0
    simp at hz0
  refine ⟨b, off, rfl, hlt, fun k hk j hj => ?_⟩
  obtain ⟨z, hz, hw⟩ := key k hk j hj
  dsimp only
  rw [hz]
  rw [Go.WideShapes.add_plain] at hz
  exact ⟨hz, hw⟩
theorem open_waccs {T E I : TypeId} {f0 f1 f2 f3 : Field} {fuel : Nat} {cs : List Value} {x : DataW H × List MemPlace} (hT : P.underlying T = some (.slice E)) (hE : P.underlying E = some (.struct #[f0, f1, f2, f3]))
  (hone : oneCellFields P #[f0, f1, f2, f3] = true) (hC : P.cellsOf E = 4) (hty : ([f0, f1, f2, f3].all fun f => f.type == I) = true) (hI : P.underlying I = some (.int .i64))
  (hf : DataW.trod enc P W 0 (fun _ => true) true fuel T cs = some x) :
  ∃ A len cap L, cs = [.slice A len cap] ∧ L.length = len ∧ len ≤ 9223372036854775807 ∧ AccAt W A L ∧ WfC L := by
 obtain ⟨A, len, cap, rfl, hmax, X, hX⟩ := open_wrows hT hE hone hC hty hI (by simp) hf
 have hg : ∀ i, i < len → ((List.range len).map fun k => (⟨X k 0, X k 1, X k 2, X k 3⟩ : Acc)).getD i acc0 = ⟨X i 0, X i 1, X i 2, X i 3⟩ := fun i hi2 => by
  rw [List.getD_eq_getElem?_getD, List.getElem?_map, List.getElem?_range hi2]; rfl
 refine ⟨A, len, cap, (List.range len).map fun k => ⟨X k 0, X k 1, X k 2, X k 3⟩, rfl, by simp, hmax, fun h0 => ?_, fun a ha => ?_⟩
 ·obtain ⟨b, off, e, hlt, hc⟩ := hX (by simpa using h0)
  refine ⟨b, off, e, hlt, fun i hi => ?_⟩
  have hi2 : i < len := by simpa using hi
  rw [hg i hi2]
  exact ⟨(hc i hi2 0 (by simp)).1, (hc i hi2 1 (by simp)).1, (hc i hi2 2 (by simp)).1, (hc i hi2 3 (by simp)).1⟩
 ·obtain ⟨k, hk, rfl⟩ := List.mem_map.1 ha
  have hk2 : k < len := by simpa using hk
  obtain ⟨b, off, e, hlt, hc⟩ := hX (by omega)
  exact (hc k hk2 0 (by simp)).2
theorem open_wlnks {T E I : TypeId} {f0 f1 f2 : Field} {fuel : Nat} {cs : List Value} {x : DataW H × List MemPlace} (hT : P.underlying T = some (.slice E)) (hE : P.underlying E = some (.struct #[f0, f1, f2]))
  (hone : oneCellFields P #[f0, f1, f2] = true) (hC : P.cellsOf E = 3) (hty : ([f0, f1, f2].all fun f => f.type == I) = true) (hI : P.underlying I = some (.int .i64))
  (hf : DataW.trod enc P W 0 (fun _ => true) true fuel T cs = some x) :
  ∃ A len cap K, cs = [.slice A len cap] ∧ K.length = len ∧ len ≤ 9223372036854775807 ∧ LnkAt W A K ∧ ∀ l ∈ K, WfL l := by
 obtain ⟨A, len, cap, rfl, hmax, X, hX⟩ := open_wrows hT hE hone hC hty hI (by simp) hf
 have hg : ∀ i, i < len → ((List.range len).map fun k => (⟨X k 0, X k 1, X k 2⟩ : Lnk)).getD i lnk0 = ⟨X i 0, X i 1, X i 2⟩ := fun i hi2 => by
  rw [List.getD_eq_getElem?_getD, List.getElem?_map, List.getElem?_range hi2]; rfl
 refine ⟨A, len, cap, (List.range len).map fun k => ⟨X k 0, X k 1, X k 2⟩, rfl, by simp, hmax, fun h0 => ?_, fun a ha => ?_⟩
 ·obtain ⟨b, off, e, hlt, hc⟩ := hX (by simpa using h0)
  refine ⟨b, off, e, hlt, fun i hi => ?_⟩
  have hi2 : i < len := by simpa using hi
  rw [hg i hi2]
  exact ⟨(hc i hi2 0 (by simp)).1, (hc i hi2 1 (by simp)).1, (hc i hi2 2 (by simp)).1⟩
 ·obtain ⟨k, hk, rfl⟩ := List.mem_map.1 ha
  have hk2 : k < len := by simpa using hk
  obtain ⟨b, off, e, hlt, hc⟩ := hX (by omega)
  exact ⟨(hc k hk2 0 (by simp)).2, (hc k hk2 1 (by simp)).2, (hc k hk2 2 (by simp)).2⟩
end
section
variable {H : Type} {enc : TypeId × Value → H} {W : World}
end
end Go.Proofs.Ytfombohomebokaa
