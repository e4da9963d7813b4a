/- Contracts of the functions that the statements reach, part 1: what was proved of each, callees first. -/
import Derived.Test.YtmahnpbjjadipaaProg
import Derived.WalkKit
import Derived.WalkSpells
import Derived.Lib.Hide
import Derived.Deep.QuietTactic
import Derived.BigQuiet
import Derived.Deep.Draws
import Derived.Laws.Rows
import Derived.Laws.CopyOwn
import Derived.Deep.OwnRows
import Derived.Outline
import Derived.Laws.AppendOwnNone
import Derived.OwnWalk
import Derived.Handed
import Derived.ProofKit
import Derived.ChangeSlices
import Derived.OpenShut
import Derived.Carry
import Derived.ChangeSame
import Derived.Laws.StructEq
import Derived.Deep.LoopGhost
import Derived.Deep.CutRange
import Derived.Deep.Slices
import Derived.Deep.Fields
import Derived.Maps.AppendAt
import Derived.Maps.OwnSet
import Derived.Deep.RegionHeld
import Derived.Below
import Derived.StillTail
import Derived.DeepKeys5
import Derived.LoopTactic
import Derived.Lib.SmallJoins
namespace Go.Proofs.Ytmahnpbjjadipaa
open Go.RowKit
section
variable {k : IntKind} {t : TypeId} {w w' : World} {b o g B : Nat} {L : List Nat}
end
section
variable {k : IntKind} {t : TypeId} {w w' : World} {g B B' c : Nat} {A : Option Addr} {L : List Nat}
end
theorem below_alloc_new {w : World} (o : Obj) : Below w.heap.size w (w.alloc o) := (Below.refl _ _).alloc (Nat.le_refl _) _
theorem grown_below {B g : Nat} {a w w' : World} (h : Below B a w) (hg : w.grownBy w' (some g)) (hB : B ≤ g) (hs : B ≤ w.heap.size) : Below B a w' :=
 ⟨hg.os.trans h.os, hg.tape.trans h.tape, hg.output.trans h.output, Nat.le_trans h.size hg.size, fun i hi => (hg.block i (by omega) (by intro e; injection e; omega)).trans (h.block i hi)⟩
theorem below_drewN {B : Nat} {a w : World} (h : Below B a w) (n : Nat) : Below B a (w.drewN n) := ⟨h.os, h.tape, h.output, h.size, h.block⟩
theorem dc_drew {B : Nat} {a w : World} (h : Below B a w) : Below B a w.drew := ⟨h.os, h.tape, h.output, h.size, h.block⟩
theorem below_more {W w w' : World} (h : Below W.heap.size W w) (hb : Below w.heap.size w w') : Below W.heap.size W w' := h.trans (hb.mono h.size)
open Go.RowKit
def IntsAt (k : IntKind) (w : World) (A : Option Addr) (zs : List Int) : Prop := 0 < zs.length → ∃ b off, A = some ⟨b, off, none⟩ ∧ b < w.heap.size ∧ ∀ i, i < zs.length → w.cell? ⟨b, off + i, none⟩ = some (.int k (zs.getD i 0))
def OwnI (k : IntKind) (e : TypeId) (w : World) (base : Nat) (v : Value) (L : List Int) : Prop := w.ownsRow base e 1 v L.length (L.map fun d => Value.int k d)
section
variable {k : IntKind} {e : TypeId} {w w' : World} {base B : Nat} {v : Value} {A : Option Addr} {L M zs : List Int}
theorem IntsAt.nil : IntsAt k w A [] := fun h => absurd h (by simp)
theorem OwnI.ints (h : OwnI k e w base v L) : ∃ A c, v = .slice A L.length c ∧ IntsAt k w A L := by
 obtain ⟨h1, h2⟩ := h
 rcases h2 with ⟨rfl, h0⟩ | ⟨g, cap, cur, rfl, hbg, hg, hn, hcap, hsz, hcur⟩
 ·obtain rfl : L = [] := List.eq_nil_of_length_eq_zero h0
  exact ⟨none, 0, rfl, IntsAt.nil⟩
 ·refine ⟨_, cap, rfl, fun _ => ⟨g, 0, rfl, ?_, fun j hj => ?_⟩⟩
  ·rcases Nat.lt_or_ge g w.heap.size with hlt | hge
   ·exact hlt
   ·rw [Array.getElem?_eq_none hge] at hg; cases hg
  ·have h3 : cur.toList[j]? = some (Value.int k (L.getD j 0)) := by
    have : (cur.toList.take (L.length * 1))[j]? = some (Value.int k (L.getD j 0)) := by
     rw [hcur, List.getElem?_map, List.getElem?_eq_getElem hj, List.getD_eq_getElem?_getD, List.getElem?_eq_getElem hj]; rfl
    rw [List.getElem?_take] at this
    split at this
    ·exact this
    ·cases this
   simp only [World.cell?, hg, Nat.zero_add]
   simpa using h3
end
open Go.ChangeShapes Go.WideShapes Go.ChangeAt Go.WideMaps Go.WideElems Go.RowKit
theorem laid_out : laidOutB Try.prog = true := by kernel_rfl
theorem trodAll_stays {H : Type} {enc : TypeId × Value → H} {P : Program} (hl : laidOutB P = true) {W W' : World} (hb : Below W.heap.size W W') {sp : Nat → Bool} :
  ∀ {ts : List TypeId} {vs : List Value} {ds : List (DataW H)} {ps : List MemPlace}, (ts.all fun t => P.readableRec t && decide (t < P.types.size)) = true → DataW.TrodAll enc P W 0 (fun _ => true) true ts vs ds ps →
   (∀ x ∈ ps, x.block < W.heap.size) → (∀ x ∈ ps, sp x.block = true) → DataW.TrodAll enc P W' 0 sp true ts vs ds ps
 | [], vs, ds, ps, _, h, _, _ => by
  cases vs <;> cases ds <;> simp [DataW.TrodAll] at h ⊢
  exact h
 | t :: ts, vs, ds, ps, ht, h, hlt, hs => by
  obtain ⟨v, vs', d, ds', p, q, rfl, rfl, rfl, h1, h2⟩ := trodAll_cons h
  simp only [List.all_cons, Bool.and_eq_true, decide_eq_true_eq] at ht
  refine trodAll_cons_mk (WideElems.Trod_stays hl ht.1.1 ht.1.2 h1 (fun x hx => hb.same (hlt x (by simp [hx]))) fun x hx => hs x (by simp [hx])) ?_
  exact trodAll_stays hl hb ht.2 h2 (fun x hx => hlt x (by simp [hx])) fun x hx => hs x (by simp [hx])
theorem post_plain {H : Type} {enc : TypeId × Value → H} {P : Program} {f : Func} {s : ChangeSpec} {ap fr ho ag : Bool} {W W' : World} {args : Array Value} {v : Value} {ds gs : List (DataW H)} {before pa pv : List MemPlace}
  (hW : DataW.Whole enc P f.params.toList s.vars ap W args.toList ds gs before)
  (hres : ∀ (b : Nat) (sp : Nat → Bool) (hd : Bool), DataW.TrodAll enc P W' b sp hd f.resultTypes.toList (v.resultList f.resultTypes.size) (s.fn H (ds ++ gs)).results [])
  (hargs : ∀ sp : Nat → Bool, (∀ p ∈ before, sp p.block = true) → DataW.TrodAll enc P W' 0 sp true f.params.toList args.toList (s.fn H (ds ++ gs)).args pa)
  (hvars : ∀ sp : Nat → Bool, (∀ p ∈ before, sp p.block = true) → DataW.TrodVars enc P W' sp s.vars (s.fn H (ds ++ gs)).vars pv)
  (hps : before = pa ++ pv) (hb : Below W.heap.size W W')
  (hok : ∀ (j : Nat) (t : TypeId) (r : Value), f.resultTypes[j]? = some t → (v.resultList f.resultTypes.size)[j]? = some r → Value.okWide P W' .any 0 t r) : s.post enc P f ap fr ho ag W args v W' := by
 have hlt : ∀ p ∈ before, p.block < W.heap.size := fun p hp => hW.lt p hp
 have hin : ∀ p ∈ before, (fun b => decide (b < W.heap.size)) p.block = true := fun p hp => by simpa using hlt p hp
 refine ⟨ds, gs, before, [], pa, pv, hW, hres _ _ _, hargs _ hin, hvars _ hin, World.keptBut_mono (fun p hp => ⟨hp, .inr (List.mem_append.1 (hps ▸ hp))⟩) (hb.frame (· ∈ before)), fun _ => ?_⟩
 obtain ⟨_, _, _, _, _, hz, hn⟩ := hW
 refine ⟨hok, _, _, ([] ++ pa) ++ pv, ⟨[] ++ pa, pv, trodAll_append (hargs _ (fun _ _ => rfl)) (hres _ _ _), hvars _ (fun _ _ => rfl), rfl, fun b off hp => ?_, fun ha => ?_⟩, ?_⟩
 ·have hbe : MemPlace.cell b off ∈ before := by rw [hps]; simpa using hp
  rw [hb.frozen (hlt _ hbe)]
  exact hz b off hbe
 ·have h9 := hn ha
  rw [hps] at h9
  simpa using h9
 ·intro p hp _
  rw [hps, ← List.nil_append pa]
  exact hp
structure Acc where
 code : Int
 kind : Int
 basis : Int
 par : Int
structure Bal where
 acct : Int
 amt : Int
instance : DecidableEq Bal := fun a b => decidable_of_iff (a.acct = b.acct ∧ a.amt = b.amt) (by cases a; cases b; simp)
abbrev acc0 : Acc := ⟨0, 0, 0, 0⟩
theorem getD_mem_acc {α : Type} {d : α} {L : List α} {i : Nat} (h : i < L.length) : L.getD i d ∈ L := by
 rw [List.getD_eq_getElem?_getD, List.getElem?_eq_getElem h]; exact List.getElem_mem h
theorem mem_getD_acc {α : Type} {d : α} {L : List α} {a : α} (h : a ∈ L) : ∃ i, i < L.length ∧ L.getD i d = a := by
 obtain ⟨i, hi, rfl⟩ := List.getElem_of_mem h
 exact ⟨i, hi, by rw [List.getD_eq_getElem?_getD, List.getElem?_eq_getElem hi]; rfl⟩
theorem take_succ_getD {α : Type} {d : α} {L : List α} {i : Nat} (h : i < L.length) : L.take (i + 1) = L.take i ++ [L.getD i d] := by
 rw [List.take_succ_eq_append_getElem h, List.getD_eq_getElem?_getD, List.getElem?_eq_getElem h]; rfl
def fnd (L : List Acc) (c : Int) : Option Acc := L.find? fun a => decide (a.code = c)
theorem nodup_subset_len {α : Type} [DecidableEq α] : ∀ {l m : List α}, l.Nodup → (∀ x ∈ l, x ∈ m) → l.length ≤ m.length
 | [], m, _, _ => by simp
 | a :: l, m, hn, hs => by
  have ha := hs a (List.mem_cons_self ..)
  rw [List.nodup_cons] at hn
  have := nodup_subset_len (l := l) (m := m.erase a) hn.2 (fun x hx => by
   rw [List.mem_erase_of_ne (by rintro rfl; exact hn.1 hx)]
   exact hs x (List.mem_cons_of_mem _ hx))
  rw [List.length_erase_of_mem ha] at this
  have h0 : 0 < m.length := List.length_pos_of_mem ha
  simp; omega
theorem all_false_getD {α : Type} {d : α} {p : α → Bool} {L : List α} {k : Nat} (hk : k < L.length) (h : p (L.getD k d) = false) : L.all p = false := by
 rw [List.all_eq_false]
 exact ⟨_, getD_mem_acc hk, by rw [h]; simp⟩
theorem take_all_getD {α : Type} {d : α} {p : α → Bool} (L : List α) (k : Nat) (h : k < L.length) : (L.take (k + 1)).all p = ((L.take k).all p && p (L.getD k d)) := by
 rw [take_succ_getD (d := d) h, List.all_append]; simp
def cmI (x y : Int) : Int := if x < y then -1 else if y < x then 1 else 0
def fndA (L : List Acc) (c : Int) : Acc := (fnd L c).getD acc0
theorem fnd_take_succ {L : List Acc} {c : Int} {k : Nat} (hk : k < L.length) (h : fnd (L.take k) c = none) : fnd (L.take (k + 1)) c = if (L.getD k acc0).code = c then some (L.getD k acc0) else none := by
 rw [take_succ_getD (d := acc0) hk]
 unfold fnd at h ⊢
 rw [List.find?_append, h]
 simp only [Option.none_or, List.find?_cons, List.find?_nil]
 split <;> split <;> simp_all
theorem fnd_take {L : List Acc} {c : Int} {k : Nat} {a : Acc} (h : fnd (L.take k) c = some a) : fnd L c = some a := by
 unfold fnd at h ⊢
 rw [← List.take_append_drop k L, List.find?_append, h]
 rfl
open Go.RowKit
abbrev accV (a : Acc) : Value := .agg #[.int .i64 a.code, .int .i64 a.kind, .int .i64 a.basis, .int .i64 a.par]
structure A4 (w : World) (b o : Nat) (a : Acc) : Prop where
 c0 : w.cell? ⟨b, o, none⟩ = some (.int .i64 a.code)
 c1 : w.cell? ⟨b, o + 1, none⟩ = some (.int .i64 a.kind)
 c2 : w.cell? ⟨b, o + 2, none⟩ = some (.int .i64 a.basis)
 c3 : w.cell? ⟨b, o + 3, none⟩ = some (.int .i64 a.par)
def AccAt (w : World) (A : Option Addr) (L : List Acc) : Prop := 0 < L.length → ∃ b off, A = some ⟨b, off, none⟩ ∧ b < w.heap.size ∧ ∀ i, i < L.length → A4 w b (off + i * 4) (L.getD i acc0)
structure AB (w : World) (g : Nat) (a : Acc) : Prop where
 cells : A4 w g 0 a
 lt : g < w.heap.size
 fz : ∀ i, w.frozen? ⟨g, i, none⟩ = false
section
variable {w w' : World} {b o g B : Nat} {a : Acc} {x : Bal} {A : Option Addr} {L : List Acc} {M : List Bal}
theorem A4.up (h : A4 w b o a) (hb : Below B w w') (hlt : b < B) : A4 w' b o a :=
 ⟨(hb.cell (p := ⟨b, o, none⟩) hlt).trans h.c0, (hb.cell (p := ⟨b, o + 1, none⟩) hlt).trans h.c1, (hb.cell (p := ⟨b, o + 2, none⟩) hlt).trans h.c2, (hb.cell (p := ⟨b, o + 3, none⟩) hlt).trans h.c3⟩
theorem AccAt.up (h : AccAt w A L) (hb : Below w.heap.size w w') : AccAt w' A L := fun h0 => by
 obtain ⟨b, off, e, hlt, hc⟩ := h h0
 exact ⟨b, off, e, Nat.lt_of_lt_of_le hlt hb.size, fun i hi => (hc i hi).up hb hlt⟩
theorem AB.up (h : AB w g a) (hb : Below w.heap.size w w') : AB w' g a :=
 ⟨h.cells.up hb h.lt, Nat.lt_of_lt_of_le h.lt hb.size, fun i => (hb.frozen (p := ⟨g, i, none⟩) h.lt).trans (h.fz i)⟩
end
theorem ab_new (w : World) (t : TypeId) (a : Acc) : AB (w.alloc (.cells #[.int .i64 a.code, .int .i64 a.kind, .int .i64 a.basis, .int .i64 a.par] t)) w.heap.size a := by
 refine ⟨⟨?_, ?_, ?_, ?_⟩, by simp, fun i => by simp only [World.frozen?]; rw [heap_alloc_new]; simp⟩ <;> (simp only [World.cell?]; rw [heap_alloc_new]; rfl)
def SlI (w : World) (v : Value) (L : List Int) : Prop := ∃ A c, v = .slice A L.length c ∧ IntsAt .i64 w A L
theorem OwnI.sli {e : TypeId} {w : World} {base : Nat} {v : Value} {L : List Int} (h : OwnI .i64 e w base v L) : SlI w v L := h.ints
open Go.ChangeShapes Go.WideShapes Go.ChangeAt Go.WideMaps Go.WideElems Go.RowKit Go.Deep
def cellNum : Option Value → Int
 | some (.int _ z) => z
 | _ => 0
def vdB (n : Int) : Bool := decide (-25567 ≤ n) && decide (n ≤ 84005)
open Go.RowKit
structure Lnk where
 frm : Int
 tgt : Int
 since : Int
abbrev lnk0 : Lnk := ⟨0, 0, 0⟩
abbrev lnkV (l : Lnk) : Value := .agg #[.int .i64 l.frm, .int .i64 l.tgt, .int .i64 l.since]
structure L3 (w : World) (b o : Nat) (l : Lnk) : Prop where
 c0 : w.cell? ⟨b, o, none⟩ = some (.int .i64 l.frm)
 c1 : w.cell? ⟨b, o + 1, none⟩ = some (.int .i64 l.tgt)
 c2 : w.cell? ⟨b, o + 2, none⟩ = some (.int .i64 l.since)
def LnkAt (w : World) (A : Option Addr) (L : List Lnk) : Prop := 0 < L.length → ∃ b off, A = some ⟨b, off, none⟩ ∧ b < w.heap.size ∧ ∀ i, i < L.length → L3 w b (off + i * 3) (L.getD i lnk0)
structure LB (w : World) (g : Nat) (l : Lnk) : Prop where
 cells : L3 w g 0 l
 lt : g < w.heap.size
abbrev entV (nm cur : ByteArray) (A : Option Addr) (n c : Nat) (B : Option Addr) (m d : Nat) (jt : Bool) : Value := .agg #[.string nm, .string cur, .slice A n c, .slice B m d, .bool jt]
structure EB (w : World) (g : Nat) (nm cur : ByteArray) (A : Option Addr) (n c : Nat) (B : Option Addr) (m d : Nat) (jt : Bool) : Prop where
 c0 : w.cell? ⟨g, 0, none⟩ = some (.string nm)
 c1 : w.cell? ⟨g, 1, none⟩ = some (.string cur)
 c2 : w.cell? ⟨g, 2, none⟩ = some (.slice A n c)
 c3 : w.cell? ⟨g, 3, none⟩ = some (.slice B m d)
 c4 : w.cell? ⟨g, 4, none⟩ = some (.bool jt)
 lt : g < w.heap.size
section
variable {w w' : World} {b o g Bs m d n c : Nat} {l : Lnk} {A B : Option Addr} {L : List Lnk} {nm cur : ByteArray} {jt : Bool}
theorem L3.up (h : L3 w b o l) (hb : Below Bs w w') (hlt : b < Bs) : L3 w' b o l :=
 ⟨(hb.cell (p := ⟨b, o, none⟩) hlt).trans h.c0, (hb.cell (p := ⟨b, o + 1, none⟩) hlt).trans h.c1, (hb.cell (p := ⟨b, o + 2, none⟩) hlt).trans h.c2⟩
theorem LnkAt.up (h : LnkAt w A L) (hb : Below w.heap.size w w') : LnkAt w' A L := fun h0 => by
 obtain ⟨b, off, e, hlt, hc⟩ := h h0
 exact ⟨b, off, e, Nat.lt_of_lt_of_le hlt hb.size, fun i hi => (hc i hi).up hb hlt⟩
theorem LB.up (h : LB w g l) (hb : Below w.heap.size w w') : LB w' g l := ⟨h.cells.up hb h.lt, Nat.lt_of_lt_of_le h.lt hb.size⟩
theorem EB.up (h : EB w g nm cur A n c B m d jt) (hb : Below w.heap.size w w') : EB w' g nm cur A n c B m d jt :=
 ⟨(hb.cell (p := ⟨g, 0, none⟩) h.lt).trans h.c0, (hb.cell (p := ⟨g, 1, none⟩) h.lt).trans h.c1, (hb.cell (p := ⟨g, 2, none⟩) h.lt).trans h.c2, (hb.cell (p := ⟨g, 3, none⟩) h.lt).trans h.c3, (hb.cell (p := ⟨g, 4, none⟩) h.lt).trans h.c4, Nat.lt_of_lt_of_le h.lt hb.size⟩
end
theorem lb_new (w : World) (t : TypeId) (l : Lnk) : LB (w.alloc (.cells #[.int .i64 l.frm, .int .i64 l.tgt, .int .i64 l.since] t)) w.heap.size l := by
 refine ⟨⟨?_, ?_, ?_⟩, by simp⟩ <;> (simp only [World.cell?]; rw [heap_alloc_new]; rfl)
theorem eb_new (w : World) (t : TypeId) (nm cur : ByteArray) (A : Option Addr) (n c : Nat) (B : Option Addr) (m d : Nat) (jt : Bool) :
  EB (w.alloc (.cells #[.string nm, .string cur, .slice A n c, .slice B m d, .bool jt] t)) w.heap.size nm cur A n c B m d jt := by
 refine ⟨?_, ?_, ?_, ?_, ?_, by simp⟩ <;> (simp only [World.cell?]; rw [heap_alloc_new]; rfl)
def atHit (code day : Int) (o : Option Lnk) (l : Lnk) : Bool := decide (l.frm = code) && (decide (l.since ≤ day) && match o with
 | none => true
 | some b => decide (b.since < l.since))
def atStep (code day : Int) (o : Option Lnk) (l : Lnk) : Option Lnk := if atHit code day o l = true then some l else o
def atO (links : List Lnk) (code day : Int) : Option Lnk := links.foldl (atStep code day) none
def atE (L : List Acc) (links : List Lnk) (code day : Int) : Int := if vdB day = true then if (fnd L code).isSome = true then match atO links code day with
  | none => 15
  | some _ => 0
 else 8 else 2
def atV (L : List Acc) (links : List Lnk) (code day : Int) : Int := if vdB day = true then if (fnd L code).isSome = true then match atO links code day with
  | none => 0
  | some l => l.tgt
 else 0 else 0
open Go.RowKit
def celL (a : Lnk) : List Value := [.int .i64 a.frm, .int .i64 a.tgt, .int .i64 a.since]
def OwnL (e : TypeId) (w : World) (base : Nat) (v : Value) (L : List Lnk) : Prop := w.ownsRow base e 3 v L.length (L.flatMap celL)
theorem celL_get : ∀ (L : List Lnk) (i : Nat), i < L.length → (L.flatMap celL)[i * 3]? = some (.int .i64 (L.getD i lnk0).frm) ∧ (L.flatMap celL)[i * 3 + 1]? = some (.int .i64 (L.getD i lnk0).tgt) ∧ (L.flatMap celL)[i * 3 + 2]? = some (.int .i64 (L.getD i lnk0).since)
 | [], i, h => by simp at h
 | a :: L, 0, _ => by simp [celL]
 | a :: L, i + 1, h => by
  have := celL_get L i (by simpa using h)
  have e1 : (i + 1) * 3 = i * 3 + 1 + 1 + 1 := by omega
  rw [List.flatMap_cons, e1]
  simpa [celL] using this
theorem OwnL.nil {e : TypeId} {w : World} {base : Nat} : OwnL e w base (.slice none 0 0) [] := World.ownsRow_nil _ _ _ _
theorem OwnL.alloc {e : TypeId} {w : World} {base : Nat} {v : Value} {L : List Lnk} (h : OwnL e w base v L) (o : Obj) : OwnL e (w.alloc o) base v L := World.ownsRow.alloc h o
theorem OwnL.reads {e : TypeId} {w : World} {base : Nat} {v : Value} {L : List Lnk} (h : OwnL e w base v L) : ∃ A c, v = .slice A L.length c ∧ LnkAt w A L := by
 obtain ⟨h1, h2⟩ := h
 rcases h2 with ⟨rfl, h0⟩ | ⟨g, cap, cur, rfl, hbg, hg, hn, hcap, hsz, hcur⟩
 ·obtain rfl : L = [] := List.eq_nil_of_length_eq_zero h0
  exact ⟨none, 0, rfl, fun h => absurd h (by simp)⟩
 ·refine ⟨_, cap, rfl, fun _ => ⟨g, 0, rfl, ?_, fun j hj => ?_⟩⟩
  ·rcases Nat.lt_or_ge g w.heap.size with hlt | hge
   ·exact hlt
   ·rw [Array.getElem?_eq_none hge] at hg; cases hg
  ·have key : ∀ i, i < L.length * 3 → w.cell? ⟨g, i, none⟩ = (L.flatMap celL)[i]? := by
    intro i hi
    rw [← hcur, List.getElem?_take, if_pos hi]
    simp only [World.cell?, hg]
    simp
   obtain ⟨k0, k1, k2⟩ := celL_get L j hj
   exact ⟨by rw [Nat.zero_add, key _ (by omega)]; exact k0, by rw [Nat.zero_add, key _ (by omega)]; exact k1, by rw [Nat.zero_add, key _ (by omega)]; exact k2⟩
theorem infoL : (Try.prog.info? 46).map (fun i => (i.zero, i.size, i.bytes)) = some (some (.agg #[.int .i64 0, .int .i64 0, .int .i64 0]), 3, 24) := by kernel_rfl
theorem wpList_append_lk {P : Program} (w : World) {ops : Array Oper} {rest : List Oper} {o : Oper} {a : Act} {Q : Exit → Act → World → Prop} (hgd : o.guard = none) (s x : Operand) (t : TypeId)
  (ho : o.op = .call { callee := .builtin .append, args := #[s, x], argTypes := #[t, t] })
  (base : Nat) (e : TypeId) (i : TypeInfo) (bytes : Nat) (ht : P.underlying t = some (.slice e)) (hi : P.info? e = some i) (hz : i.zero = some (.agg #[.int .i64 0, .int .i64 0, .int .i64 0]))
  (hsize : i.size = 3) (hby : i.bytes = bytes) (hb8 : bytes ≤ 24)
  (v : Value) (L : List Lnk) (hs : a.eval s = v) (hown : OwnL e w base v L) (X : Lnk) (g c : Nat) (hg : g = w.heap.size) (hx : a.eval x = .slice (some ⟨g, 0, none⟩) 1 c)
  (hlen : L.length ≤ 100000000) (hbase : base ≤ w.heap.size)
  (h : ∀ v' w', Hid (OwnL e w' base v' (L ++ [X])) → Hid (w.grownBy w' v.ownBlock) → Hid (v'.ownBlock = v.ownBlock ∨ v'.ownBlock = some (w.heap.size + 1)) → Below base w w' → wpList P ops Q rest (a.put o.dst v') w') : wpList P ops Q (o :: rest) a (w.alloc (.cells #[.int .i64 X.frm, .int .i64 X.tgt, .int .i64 X.since] e)) := by
 subst hg
 refine wpList_append_own_at (w.alloc (.cells #[.int .i64 X.frm, .int .i64 X.tgt, .int .i64 X.since] e)) hgd s x t ho base e i (.agg #[.int .i64 0, .int .i64 0, .int .i64 0]) 3 bytes ht hi hz hsize hby rfl (by decide) v L.length (L.flatMap celL) hs (World.ownsRow.alloc hown _)
  ⟨w.heap.size, 0, none⟩ 1 c [.int .i64 X.frm, .int .i64 X.tgt, .int .i64 X.since] hx rfl ?_ ?_ ?_ ?_ ?_ ?_
 ·intro j u hj
  match j, hj with
  | 0, hj =>
   simp at hj; subst hj
   unfold World.cell? Addr.add
   rw [if_pos (by decide)]
   dsimp only
   rw [heap_alloc_new]
   rfl
  | 1, hj =>
   simp at hj; subst hj
   unfold World.cell? Addr.add
   rw [if_neg (by decide)]
   dsimp only
   rw [heap_alloc_new]
   rfl
  | 2, hj =>
   simp at hj; subst hj
   unfold World.cell? Addr.add
   rw [if_neg (by decide)]
   dsimp only
   rw [heap_alloc_new]
   rfl
  | j + 3, hj => simp at hj
 ·intro u hu
  simp at hu
  rcases hu with rfl | rfl | rfl <;> rfl
 ·unfold maxLen; omega
 ·have : (L.length + 1) * bytes ≤ (L.length + 1) * 24 := Nat.mul_le_mul_left _ hb8
  omega
 ·simp; omega
 ·intro v' w' h1 h2 _ h4
  have h5 : w.grownBy w' v.ownBlock := (World.grownBy_alloc w _ v.ownBlock).trans h2
  refine h v' w' ?_ (Lib.hid h5) (Lib.hid (by simpa using h4)) ?_
  ·refine Lib.hid ?_
   show World.ownsRow _ _ _ _ _ _ _
   rw [List.length_append, List.flatMap_append]
   exact h1
  ·refine (Below.refl base w).grown h5 hbase (fun j hj => ?_)
   exact (World.ownsRow.lt hown j hj).1
theorem below_new {W w : World} (h : Below W.heap.size W w) (o : Obj) : Below W.heap.size W (w.alloc o) := below_more h (below_alloc_new o)
theorem ccmp_any (x y : Int) (w : World) : Calls Try.prog 33 #[.int .i64 x, .int .i64 y] w fun e w' => e = .returned (.int .i64 (cmI x y)) ∧ w = w' := by
 have hn : ∀ (x : Int) (w : World), Calls Try.prog 49 #[.int .i64 x] w fun e w' => e = .returned (.bool false) ∧ w = w' := by
  intro x w
  have h : (x != x) = false := by simp
  go_enter Try.func49, Try.ntmps49
  go_wp2_with fail
  go_ret
  exact ⟨rfl, rfl⟩
 have HN := Lib.hid hn
 clear hn
 unfold cmI
 rcases Int.lt_trichotomy x y with h | h | h
 ·rw [if_pos h]
  go_enter Try.func33, Try.ntmps33
  go_wp2_with (go_at_call 49; refine (HN.out _ _).mono ?_; rintro e w' ⟨rfl, rfl⟩)
  go_ret
  exact ⟨rfl, rfl⟩
 ·subst h
  rw [if_neg (Int.lt_irrefl _), if_neg (Int.lt_irrefl _)]
  have h1 : decide (x < x) = false := decide_eq_false (Int.lt_irrefl _)
  go_enter Try.func33, Try.ntmps33
  go_wp2_with (go_at_call 49; refine (HN.out _ _).mono ?_; rintro e w' ⟨rfl, rfl⟩)
  go_ret
  exact ⟨rfl, rfl⟩
 ·have h2 : ¬ x < y := by omega
  rw [if_neg h2, if_pos h]
  have h1 : decide (x < y) = false := decide_eq_false (by omega)
  go_enter Try.func33, Try.ntmps33
  go_wp2_with (go_at_call 49; refine (HN.out _ _).mono ?_; rintro e w' ⟨rfl, rfl⟩)
  go_ret
  exact ⟨rfl, rfl⟩
open Go.RowKit Go.Maps
theorem ti_keyed : Keyed Try.prog 3 := int_keyed Try.underlying3
theorem bset4 {B : Nat} {w0 w1 : World} {g : Nat} (h : Below B w0 w1) (hg : B ≤ g) (a b c d : Value) : Below B w0 ((((w1.setCell ⟨g, 0, none⟩ a).setCell ⟨g, 1, none⟩ b).setCell ⟨g, 2, none⟩ c).setCell ⟨g, 3, none⟩ d) :=
 Below.setCell (p := ⟨g, 3, none⟩) (Below.setCell (p := ⟨g, 2, none⟩) (Below.setCell (p := ⟨g, 1, none⟩) (Below.setCell (p := ⟨g, 0, none⟩) h hg a) hg b) hg c) hg d
set_option maxRecDepth 20000 in
set_option maxHeartbeats 1600000 in
theorem cfind_any (A : Option Addr) (cp : Nat) (L : List Acc) (c : Int) (w : World) (hz : AccAt w A L) (hl : L.length ≤ 1000) :
  Calls Try.prog 29 #[.slice A L.length cp, .int .i64 c] w fun e w' => e = .returned (.tuple #[accV (fndA L c), .bool (fnd L c).isSome]) ∧ Below w.heap.size w w' := by
 have hB := below_alloc_new (w := w) (.cells #[.int .i64 acc0.code, .int .i64 acc0.kind, .int .i64 acc0.basis, .int .i64 acc0.par] 50)
 have hA4 := ab_new w 50 acc0
 obtain ⟨n, hn⟩ : ∃ n, L.length = n := ⟨_, rfl⟩
 obtain ⟨s0, hs0⟩ : ∃ s0, w.heap.size = s0 := ⟨_, rfl⟩
 rw [hn] at hl ⊢
 rw [hs0] at hB hA4 ⊢
 have HN := Lib.hid hn
 have HZ := Lib.hid hz
 have HS0 := Lib.hid hs0
 have HA := Lib.hid hA4
 clear hn hz hA4
 go_enter Try.func29, Try.ntmps29
 go_wp2_with fail
 go_loopg [10] n (fun kx s10 wr => ∃ k : Nat, s10 = .int .i64 k ∧ k ≤ n ∧ n - k ≤ kx ∧ Hid (fnd (L.take k) c = none) ∧ Hid (AB wr s0 acc0) ∧ Below s0 w wr)
 case atStart => exact ⟨0, rfl, by omega, by omega, Lib.hid (by rw [List.take_zero]; rfl), HA, hB⟩
 case round =>
  clear hB HA
  obtain ⟨k, rfl, hk, hkx, HF, HA, hB⟩ := hrel
  by_cases hlt : k < n
  ·have hltz : (k : Int) < (n : Int) := by omega
   obtain ⟨b, off, rfl, hbw, hcs⟩ := HZ.out (by rw [HN.out]; omega)
   obtain ⟨c0, c1, c2, c3⟩ := (hcs k (by rw [HN.out]; exact hlt)).up hB (by have := HS0.out; omega)
   obtain ⟨x, hx⟩ : ∃ x, L.getD k acc0 = x := ⟨_, rfl⟩
   rw [hx] at c0 c1 c2 c3
   have HX := Lib.hid hx
   have hf := fnd_take_succ (L := L) (c := c) (k := k) (by rw [HN.out]; exact hlt) HF.out
   rw [hx] at hf
   have HA1 := Lib.hid (HA.out.up (below_alloc_new (.cells #[.int .i64 x.code, .int .i64 x.kind, .int .i64 x.basis, .int .i64 x.par] 50)))
   clear hx hcs
   by_cases he : x.code = c
   ·rw [if_pos he] at hf
    have hf2 := fnd_take hf
    have e1 : Hid (fndA L c = x) := Lib.hid (by unfold fndA; rw [hf2]; rfl)
    have e2 : Hid ((fnd L c).isSome = true) := Lib.hid (by rw [hf2]; rfl)
    have e3 : (x.code == c) = true := by simp [he]
    obtain ⟨⟨z0, z1, z2, z3⟩, zlt, zf⟩ := HA.out
    have zf0 := zf 0
    have zf1 := zf 1
    have zf2 := zf 2
    have zf3 := zf 3
    simp only [Nat.zero_add] at z1 z2 z3
    clear zf
    clear hf hf2 he
    go_wp2_with fail
    rw [e1.out, e2.out]
    exact bodyPost_ret (v := .tuple #[accV x, .bool true]) (by simp [results, Try.results29, go_sem, z0, z1, z2, z3, zlt]) rfl ⟨rfl, (bset4 hB (Nat.le_refl _) _ _ _ _).alloc (by have := hB.size; have := HS0.out; simp; omega) _⟩
   ·rw [if_neg he] at hf
    have HF2 := Lib.hid hf
    have e3 : (x.code == c) = false := by simp [he]
    clear hf he
    go_wp2_with fail
    go_roundg (n - (k + 1))
    case measure => omega
    case rel => exact ⟨k + 1, by go_num, by omega, by omega, HF2, HA1, hB.trans ((below_alloc_new _).mono (by have := hB.size; have := HS0.out; omega))⟩
  ·obtain rfl : k = n := by omega
   have hltz : ¬ (k : Int) < (k : Int) := by omega
   have hf := HF.out
   rw [List.take_of_length_le (by rw [HN.out]; omega)] at hf
   have e1 : Hid (fndA L c = acc0) := Lib.hid (by unfold fndA; rw [hf]; rfl)
   have e2 : Hid ((fnd L c).isSome = false) := Lib.hid (by rw [hf]; rfl)
   obtain ⟨⟨z0, z1, z2, z3⟩, zlt, zf⟩ := HA.out
   have zf0 := zf 0
   have zf1 := zf 1
   have zf2 := zf 2
   have zf3 := zf 3
   simp only [Nat.zero_add] at z1 z2 z3
   clear zf
   clear hf
   go_wp2_with fail
   rw [e1.out, e2.out]
   exact bodyPost_ret (v := .tuple #[accV acc0, .bool false]) (by simp [results, Try.results29, go_sem, z0, z1, z2, z3]) rfl ⟨rfl, bset4 hB (Nat.le_refl _) _ _ _ _⟩
open Go Go.RowKit
structure Fact where
 p : Value → World → Prop
 st : ∀ v w w', Below w.heap.size w w' → p v w → p v w'
def Fact.triv : Fact := ⟨fun _ _ => True, fun _ _ _ _ _ => trivial⟩
def look : List (Nat × Fact) → Nat → Fact
 | [], _ => Fact.triv
 | (k, f) :: rest, d => bif Nat.beq k d then f else look rest d
def factOf (FL : List (Nat × Fact)) (dst : Option Nat) (v : Value) (w : World) : Prop := match dst with
 | none => True
 | some d => (look FL d).p v w
def fillL (u : Nat → Value) : List Nat → Array Value → Array Value
 | [], t => t
 | d :: ds, t => fillL u ds (t.setIfInBounds d (u d))
def upd (u : Nat → Value) (d : Option Nat) (v : Value) (n : Nat) : Value := match d with
 | none => u n
 | some d => if n = d then v else u n
theorem fillL_size (u : Nat → Value) (ds : List Nat) : ∀ t : Array Value, (fillL u ds t).size = t.size := by
 induction ds with
 | nil => intro t; rfl
 | cons d ds ih => intro t; rw [fillL, ih]; simp
theorem fillL_get (u : Nat → Value) (ds : List Nat) : ∀ (t : Array Value) (n : Nat), (fillL u ds t)[n]? = if n < t.size then (if n ∈ ds then some (u n) else t[n]?) else none := by
 induction ds with
 | nil => intro t n; by_cases h : n < t.size <;> simp [fillL, h]
 | cons d ds ih =>
  intro t n
  rw [fillL, ih]
  by_cases h : n < t.size
  ·simp only [Array.size_setIfInBounds, h, if_true, List.mem_cons]
   by_cases h1 : n ∈ ds
   ·simp [h1]
   ·by_cases h2 : n = d
    ·subst h2; simp [h1, h]
    ·simp only [h1, h2, if_false, or_self]; rw [Array.getElem?_setIfInBounds_ne (Ne.symm h2)]
  ·simp [h]
theorem fillL_upd (u : Nat → Value) (ds : List Nat) (t : Array Value) (d : Nat) (v : Value) (hd : d ∈ ds) : (fillL u ds t).setIfInBounds d v = fillL (upd u (some d) v) ds t := by
 apply Array.ext_getElem?
 intro n
 rw [Array.getElem?_setIfInBounds, fillL_get, fillL_get, fillL_size]
 by_cases h : n < t.size
 ·by_cases h2 : d = n
  ·subst h2; simp [h, hd, upd]
  ·simp only [h, h2, if_true, if_false]
   by_cases h3 : n ∈ ds
   ·simp [h3, upd, Ne.symm h2]
   ·simp [h3]
 ·simp only [h, if_false]
  by_cases h2 : d = n
  ·subst h2; simp [h]
  ·simp [h2]
theorem fillL_self (ds : List Nat) (t : Array Value) : fillL (fun d => t.getD d undef) ds t = t := by
 apply Array.ext_getElem?
 intro n
 rw [fillL_get]
 by_cases h : n < t.size
 ·simp [h]
 ·simp [h]
theorem filter_less {p q : Nat → Bool} {i : Nat} (hpi : p i = true) (hqi : q i = false) (h : ∀ j, q j = true → p j = true) : ∀ l : List Nat, i ∈ l → (l.filter q).length < (l.filter p).length := by
 have hle : ∀ l : List Nat, (l.filter q).length ≤ (l.filter p).length := by
  intro l
  induction l with
  | nil => simp
  | cons x l ih =>
   rw [List.filter_cons, List.filter_cons]
   by_cases hq : q x = true
   ·simp [hq, h x hq]; exact ih
   ·by_cases hp : p x = true <;> simp [hq, hp] <;> omega
 intro l hl
 induction l with
 | nil => cases hl
 | cons x l ih =>
  rw [List.filter_cons, List.filter_cons]
  rcases List.mem_cons.1 hl with rfl | hl
  ·simp [hpi, hqi]; have := hle l; omega
  ·have := ih hl
   by_cases hq : q x = true
   ·simp [hq, h x hq]; exact this
   ·by_cases hp : p x = true <;> simp [hq, hp] <;> omega
section
variable {P : Program} {ops : Array Oper} {Q : Exit → Act → World → Prop} {FL : List (Nat × Fact)} {J : World → Prop} {t0 : Array Value} {df : List Deferred} {ds : List Nat}
theorem put_fill (u : Nat → Value) (o : Oper) (v : Value) (hd : ∀ d, o.dst = some d → d ∈ ds) : (⟨fillL u ds t0, df⟩ : Act).put o.dst v = ⟨fillL (upd u o.dst v) ds t0, df⟩ := by
 cases h : o.dst with
 | none => rfl
 | some d =>
  show Act.mk ((fillL u ds t0).setIfInBounds d v) df = _
  rw [fillL_upd _ _ _ _ _ (hd d h)]
theorem none_listed (n j : Nat) : (Array.replicate n false).getD j false = false := by
 by_cases h : j < n <;> simp [h]
end
open Go Go.RowKit
def AS.NoInt (w : World) (b : Nat) : Prop := ∀ j k n, w.cell? ⟨b, j, none⟩ ≠ some (.int k n)
open AS (NoInt)
def Leaf (x : Value) : Prop := ∀ k n, x ≠ .int k n
structure Bx (t : TypeId) (w : World) (g : Nat) (vs : List Value) : Prop where
 blk : w.heap[g]? = some (.cells vs.toArray t (0, 0))
 leaf : ∀ v ∈ vs, Leaf v
section
variable {t : TypeId} {w w' : World} {g : Nat} {vs : List Value}
theorem Bx.lt (h : Bx t w g vs) : g < w.heap.size := by
 rcases Nat.lt_or_ge g w.heap.size with hlt | hge
 ·exact hlt
 ·have := h.blk; rw [Array.getElem?_eq_none hge] at this; cases this
theorem Bx.up (h : Bx t w g vs) (hb : Below w.heap.size w w') : Bx t w' g vs := ⟨(hb.block g h.lt).trans h.blk, h.leaf⟩
theorem hup (h : Hid (Bx t w g vs)) (hb : Below w.heap.size w w') : Hid (Bx t w' g vs) := Lib.hid (h.out.up hb)
end
end Go.Proofs.Ytmahnpbjjadipaa
namespace Go.Proofs.Ytmahnpbjjadipaa.AS
open Go Go.RowKit
open Go.Proofs.Ytmahnpbjjadipaa (fillL upd fillL_size fillL_get fillL_upd fillL_self filter_less none_listed put_fill)
structure Keep (w w' : World) : Prop where
 size : w.heap.size ≤ w'.heap.size
 blk : ∀ i, i < w.heap.size → (∃ j k n, w.cell? ⟨i, j, none⟩ = some (.int k n)) → w'.heap[i]? = w.heap[i]?
 box : ∀ (t : TypeId) (g : Nat) (vs : List Value), 2 ≤ vs.length → Bx t w g vs → ∃ vs' : List Value, vs'.length = vs.length ∧ Bx t w' g vs'
theorem Keep.ofBelow {w w' : World} (h : Below w.heap.size w w') : Keep w w' := ⟨h.size, fun i hi _ => h.block i hi, fun _ _ vs _ hb => ⟨vs, rfl, hb.up h⟩⟩
structure Fact where
 p : Value → World → Prop
 st : ∀ v w w', Keep w w' → p v w → p v w'
def Fact.triv : Fact := ⟨fun _ _ => True, fun _ _ _ _ _ => trivial⟩
def Fact.is (x : Value) : Fact := ⟨fun v _ => v = x, fun _ _ _ _ h => h⟩
def look : List (Nat × Fact) → Nat → Fact
 | [], _ => Fact.triv
 | (k, f) :: rest, d => bif Nat.beq k d then f else look rest d
def temps (FL : List (Nat × Fact)) : List Nat := FL.map (·.1)
def factOf (FL : List (Nat × Fact)) (dst : Option Nat) (v : Value) (w : World) : Prop := match dst with
 | none => True
 | some d => (look FL d).p v w
def Facts (FL : List (Nat × Fact)) (u : Nat → Value) (w : World) : List Nat → Prop
 | [] => True
 | d :: ds => (look FL d).p (u d) w ∧ Facts FL u w ds
theorem facts_mk {FL : List (Nat × Fact)} {u : Nat → Value} {w : World} {ds : List Nat} (h : ∀ d ∈ ds, (look FL d).p (u d) w) : Facts FL u w ds := by
 induction ds with
 | nil => trivial
 | cons d ds ih => exact ⟨h d (List.mem_cons_self ..), ih fun e he => h e (List.mem_cons_of_mem _ he)⟩
theorem facts_get {FL : List (Nat × Fact)} {u : Nat → Value} {w : World} {ds : List Nat} (h : Facts FL u w ds) (d : Nat) (hd : d ∈ ds) : (look FL d).p (u d) w := by
 induction ds with
 | nil => cases hd
 | cons e ds ih =>
  rcases List.mem_cons.1 hd with rfl | hd
  ·exact h.1
  ·exact ih h.2 hd
def edgesOk (ops : Array Oper) : Bool := (List.range ops.size).all fun i => match ops[i]? with
 | none => true
 | some o => o.after.all fun e => !Region.binds .any e || decide (e.on < i)
def needsOk (ops : Array Oper) (pt : List (List Nat)) (ds : List Nat) : Bool :=
 (List.range ops.size).all fun i => match ops[i]? with
  | none => true
  | some o => (match o.dst with | some d => ds.contains d | none => true) &&
   (pt.getD i []).all fun d => o.after.any fun e => Region.binds .any e && ((match ops[e.on]? with | some o' => o'.dst == some d | none => false) || (pt.getD e.on []).contains d)
def onceOk (ops : Array Oper) : Bool := (List.range ops.size).all fun i => (List.range ops.size).all fun j => match ops[i]?, ops[j]? with
 | some o, some o' => Nat.beq i j || (match o.dst, o'.dst with | some d, some d' => !Nat.beq d d' | _, _ => true)
 | _, _ => true
def storesOk (ops : Array Oper) (pt : List (List Nat)) (st : List Nat) (js : List (List Nat)) : Bool :=
 (List.range st.length).all fun m => decide (st.getD m 0 < ops.size) && (match ops[st.getD m 0]? with | some o => o.dst == none | none => false) &&
  (Nat.beq m 0 || Region.waitsFor .any ops (st.getD m 0) (st.getD (m - 1) 0)) && (js.getD (m + 1) []).all fun d => (pt.getD (st.getD m 0) []).contains d || (js.getD m []).contains d
def waits2 (ops : Array Oper) (s i : Nat) : Bool := Region.waitsFor .any ops s i || (List.range ops.size).any fun j => Region.waitsFor .any ops s j && Region.waitsFor .any ops j i
def limOk (ops : Array Oper) (st lm : List Nat) : Bool :=
 (List.range ops.size).all fun i => Nat.beq (lm.getD i st.length) st.length || waits2 ops (st.getD (lm.getD i st.length) ops.size) i
def allWritten (ops : Array Oper) (ds : List Nat) : Bool := ds.all fun d => ops.any fun o => o.dst == some d
def allocsOk (ops : Array Oper) (al st : List Nat) : Bool := al.all fun d => st.all fun s => (List.range ops.size).any fun i => (match ops[i]? with | some o => o.dst == some d | none => false) && waits2 ops s i
def chk (al : List Nat) (ops : Array Oper) (pt : List (List Nat)) (ds st : List Nat) (js : List (List Nat)) (lm : List Nat) : Bool :=
 allocsOk ops al st && al.all ds.contains && edgesOk ops && needsOk ops pt ds && onceOk ops && storesOk ops pt st js && limOk ops st lm && allWritten ops ds && (js.getD 0 []).isEmpty
section
variable {P : Program} {ops : Array Oper} {Q : Exit → Act → World → Prop} {FL : List (Nat × Fact)} {J : Nat → List Value → World → Prop} {t0 : Array Value} {df : List Deferred} {ds : List Nat}
 {st lm al : List Nat} {js : List (List Nat)} {pt : List (List Nat)}
def aOk (al : List Nat) (dst : Option Nat) (v : Value) (w w' : World) : Prop := match dst with
 | some d => bif al.contains d then v = .pointer (some ⟨w.heap.size, 0, none⟩) ∧ w.heap.size < w'.heap.size else True
 | none => True
def Apart (al : List Nat) (u : Nat → Value) : Prop := ∀ d ∈ al, ∀ d' ∈ al, d ≠ d' → u d ≠ u d'
def StepOk (al : List Nat) (P : Program) (ops : Array Oper) (Q : Exit → Act → World → Prop) (FL : List (Nat × Fact)) (J : Nat → List Value → World → Prop) (js : List (List Nat)) (fr : (Nat → Value) → Array Value) (df : List Deferred) (o : Oper) (need : List Nat) (lim : Nat) : Prop :=
 ∀ (k : Nat) (u : Nat → Value) (w : World), k ≤ lim → J k ((js.getD k []).map u) w → Facts FL u w need → ∀ K : Act → World → Prop, Shut (∀ v w', Below w.heap.size w w' → factOf FL o.dst v w' → aOk al o.dst v w w' → K ((⟨fr u, df⟩ : Act).put o.dst v) w') →
  if Region.wanted o (yielded ops (fr u)) = true then Oper.wp P o ⟨fr u, df⟩ w K Q else K ((⟨fr u, df⟩ : Act).put o.dst undef) w
def StoreOk (al : List Nat) (P : Program) (ops : Array Oper) (Q : Exit → Act → World → Prop) (FL : List (Nat × Fact)) (J : Nat → List Value → World → Prop) (js : List (List Nat)) (fr : (Nat → Value) → Array Value) (df : List Deferred) (o : Oper) (need : List Nat) (k : Nat) : Prop :=
 ∀ (u : Nat → Value) (w : World), J k ((js.getD k []).map u) w → Apart al u → Facts FL u w need → ∀ K : Act → World → Prop, Shut (∀ v w', J (k + 1) ((js.getD (k + 1) []).map u) w' → Keep w w' → K ((⟨fr u, df⟩ : Act).put o.dst v) w') →
  if Region.wanted o (yielded ops (fr u)) = true then Oper.wp P o ⟨fr u, df⟩ w K Q else K ((⟨fr u, df⟩ : Act).put o.dst undef) w
def StepsOk (al : List Nat) (P : Program) (ops : Array Oper) (Q : Exit → Act → World → Prop) (FL : List (Nat × Fact)) (J : Nat → List Value → World → Prop) (js : List (List Nat)) (fr : (Nat → Value) → Array Value) (df : List Deferred) (pt : List (List Nat)) (st lm : List Nat) : List Oper → Nat → Prop
 | [], _ => True
 | o :: rest, i => (match st.idxOf? i with
   | some k => StoreOk al P ops Q FL J js fr df o (pt.getD i []) k
   | none => StepOk al P ops Q FL J js fr df o (pt.getD i []) (lm.getD i st.length)) ∧ StepsOk al P ops Q FL J js fr df pt st lm rest (i + 1)
theorem StepsOk.nil {fr : (Nat → Value) → Array Value} {i : Nat} : StepsOk al P ops Q FL J js fr df pt st lm [] i := trivial
theorem sc {fr : (Nat → Value) → Array Value} {o : Oper} {rest : List Oper} {i : Nat} {need : List Nat} {lim : Nat} (h0 : st.idxOf? i = none) (h1 : pt.getD i [] = need) (h2 : lm.getD i st.length = lim)
  (h : StepOk al P ops Q FL J js fr df o need lim) (hs : StepsOk al P ops Q FL J js fr df pt st lm rest (i + 1)) : StepsOk al P ops Q FL J js fr df pt st lm (o :: rest) i := ⟨by rw [h0, h1, h2]; exact h, hs⟩
theorem steps_at {fr : (Nat → Value) → Array Value} : ∀ (l : List Oper) (i0 : Nat), StepsOk al P ops Q FL J js fr df pt st lm l i0 → ∀ i o, l[i]? = some o → (match st.idxOf? (i0 + i) with
      | some k => StoreOk al P ops Q FL J js fr df o (pt.getD (i0 + i) []) k
      | none => StepOk al P ops Q FL J js fr df o (pt.getD (i0 + i) []) (lm.getD (i0 + i) st.length)) := by
  intro l
  induction l with
  | nil => intro i0 _ i o h; simp at h
  | cons x l ih =>
    intro i0 hs i o h
    cases i with
    | zero => simp at h; subst h; exact hs.1
    | succ i =>
      have := ih (i0 + 1) hs.2 i o (by simpa using h)
      rwa [show i0 + 1 + i = i0 + (i + 1) by omega] at this
def Written (ops : Array Oper) (listed : Array Bool) (d : Nat) : Prop := ∃ j o', listed.getD j false = true ∧ ops[j]? = some o' ∧ o'.dst = some d
structure Inv (al : List Nat) (ops : Array Oper) (FL : List (Nat × Fact)) (J : Nat → List Value → World → Prop) (js : List (List Nat)) (t0 : Array Value) (df : List Deferred) (ds : List Nat) (pt : List (List Nat)) (st : List Nat) (listed : Array Bool) (a : Act) (w : World) : Prop where
 fr : ∃ k u, a = ⟨fillL u ds t0, df⟩ ∧ (∀ d, Written ops listed d → (look FL d).p (u d) w) ∧ J k ((js.getD k []).map u) w ∧ k ≤ st.length ∧ (∀ m, m < k → listed.getD (st.getD m 0) false = true) ∧
  (∀ m, k ≤ m → m < st.length → listed.getD (st.getD m 0) false = false) ∧ (∀ d ∈ js.getD k [], Written ops listed d) ∧ (∀ d ∈ al, Written ops listed d → ∃ g, u d = .pointer (some ⟨g, 0, none⟩) ∧ g < w.heap.size) ∧
  (∀ d ∈ al, ∀ d' ∈ al, d ≠ d' → Written ops listed d → Written ops listed d' → u d ≠ u d')
 cl : ∀ i, listed.getD i false = true → ∀ d ∈ pt.getD i [], Written ops listed d
 cs : ∀ j oj, ops[j]? = some oj → listed.getD j false = true → ∀ e ∈ oj.after, Region.binds .any e = true → listed.getD e.on false = true
 sz : listed.size = ops.size
theorem Written.more {listed : Array Bool} {d i : Nat} (h : Written ops listed d) : Written ops (listed.setIfInBounds i true) d := by
 obtain ⟨j, o', h1, h2, h3⟩ := h
 exact ⟨j, o', getD_set_true h1, h2, h3⟩
theorem getD_flag {listed : Array Bool} {i : Nat} (h : i < listed.size) : listed.getD i true = listed.getD i false := by simp [h]
structure Chk (al : List Nat) (ops : Array Oper) (pt : List (List Nat)) (ds st : List Nat) (js : List (List Nat)) (lm : List Nat) : Prop where
 edge : ∀ (i : Nat) (o : Oper), ops[i]? = some o → ∀ e ∈ o.after, Region.binds .any e = true → e.on < i
 dst : ∀ (i : Nat) (o : Oper), ops[i]? = some o → ∀ d, o.dst = some d → d ∈ ds
 need : ∀ (i : Nat) (o : Oper), ops[i]? = some o → ∀ d ∈ pt.getD i [], ∃ e ∈ o.after, Region.binds .any e = true ∧ ((∃ o' : Oper, ops[e.on]? = some o' ∧ o'.dst = some d) ∨ d ∈ pt.getD e.on [])
 once : ∀ (i j : Nat) (o o' : Oper) (d : Nat), ops[i]? = some o → ops[j]? = some o' → o.dst = some d → o'.dst = some d → i = j
 slt : ∀ m, m < st.length → st.getD m 0 < ops.size
 sdst : ∀ m, m < st.length → ∀ o : Oper, ops[st.getD m 0]? = some o → o.dst = none
 schain : ∀ m, 0 < m → m < st.length → Region.waitsFor .any ops (st.getD m 0) (st.getD (m - 1) 0) = true
 sjs : ∀ m, m < st.length → ∀ d ∈ js.getD (m + 1) [], d ∈ pt.getD (st.getD m 0) [] ∨ d ∈ js.getD m []
 lim : ∀ i, i < ops.size → lm.getD i st.length = st.length ∨ waits2 ops (st.getD (lm.getD i st.length) ops.size) i = true
 wr : ∀ d ∈ ds, ∃ (i : Nat) (o : Oper), ops[i]? = some o ∧ o.dst = some d
 js0 : js.getD 0 [] = []
 alw : ∀ d ∈ al, ∀ m, m < st.length → ∃ (i : Nat) (o : Oper), ops[i]? = some o ∧ o.dst = some d ∧ waits2 ops (st.getD m 0) i = true
 ald : ∀ d ∈ al, d ∈ ds
theorem chk_spec (h : chk al ops pt ds st js lm = true) : Chk al ops pt ds st js lm := by
 unfold chk at h
 simp only [Bool.and_eq_true] at h
 obtain ⟨⟨⟨⟨⟨⟨⟨⟨h8, h9⟩, h1⟩, h2⟩, h3⟩, h4⟩, h5⟩, h6⟩, h7⟩ := h
 have lt : ∀ (i : Nat) (o : Oper), ops[i]? = some o → i ∈ List.range ops.size := fun i o ho => List.mem_range.2 (Array.getElem?_eq_some_iff.1 ho).1
 constructor
 ·intro i o ho e he hb
  have h := List.all_eq_true.1 h1 i (lt i o ho)
  rw [ho] at h
  dsimp only at h
  rw [Array.all_eq_true_iff_forall_mem] at h
  have h := h e he
  rw [hb] at h
  simpa using h
 ·intro i o ho d hd
  have h := List.all_eq_true.1 h2 i (lt i o ho)
  rw [ho] at h
  dsimp only at h
  rw [hd] at h
  simp only [Bool.and_eq_true] at h
  simpa using h.1
 ·intro i o ho d hd
  have h := List.all_eq_true.1 h2 i (lt i o ho)
  rw [ho] at h
  simp only [Bool.and_eq_true] at h
  have h := List.all_eq_true.1 h.2 d hd
  rw [Array.any_eq_true] at h
  obtain ⟨k, hk, h⟩ := h
  rw [Bool.and_eq_true, Bool.or_eq_true] at h
  refine ⟨o.after[k], Array.getElem_mem _, h.1, ?_⟩
  rcases h.2 with h4 | h4
  ·left
   cases h5 : ops[(o.after[k]).on]? with
   | none => rw [h5] at h4; cases h4
   | some o' => rw [h5] at h4; exact ⟨o', rfl, by simpa using h4⟩
  ·right; simpa using h4
 ·intro i j o o' d ho ho' hd hd'
  have h := List.all_eq_true.1 (List.all_eq_true.1 h3 i (lt i o ho)) j (lt j o' ho')
  rw [ho, ho'] at h
  dsimp only at h
  rw [hd, hd'] at h
  simpa using h
 ·intro m hm
  have h := List.all_eq_true.1 h4 m (List.mem_range.2 hm)
  simp only [Bool.and_eq_true, decide_eq_true_eq] at h
  exact h.1.1.1
 ·intro m hm o ho
  have h := List.all_eq_true.1 h4 m (List.mem_range.2 hm)
  simp only [Bool.and_eq_true, decide_eq_true_eq] at h
  have h := h.1.1.2
  rw [ho] at h
  simpa using h
 ·intro m h0 hm
  have h := List.all_eq_true.1 h4 m (List.mem_range.2 hm)
  simp only [Bool.and_eq_true, decide_eq_true_eq, Bool.or_eq_true, Nat.beq_eq] at h
  rcases h.1.2 with h | h
  ·omega
  ·exact h
 ·intro m hm d hd
  have h := List.all_eq_true.1 h4 m (List.mem_range.2 hm)
  simp only [Bool.and_eq_true] at h
  have h := List.all_eq_true.1 h.2 d hd
  simpa using h
 ·intro i hi
  have h := List.all_eq_true.1 h5 i (List.mem_range.2 hi)
  simp only [Bool.or_eq_true, Nat.beq_eq] at h
  exact h
 ·intro d hd
  have h := List.all_eq_true.1 h6 d hd
  rw [Array.any_eq_true] at h
  obtain ⟨k, hk, h⟩ := h
  exact ⟨k, ops[k], by simp [hk], by simpa using h⟩
 ·simpa using h7
 ·intro d hd m hm
  have h := List.all_eq_true.1 (List.all_eq_true.1 h8 d hd) (st.getD m 0) (by simp [hm])
  obtain ⟨i, hi, h⟩ := List.any_eq_true.1 h
  rw [Bool.and_eq_true] at h
  cases ho : ops[i]? with
  | none => rw [ho] at h; cases h.1
  | some o => rw [ho] at h; exact ⟨i, o, ho, by simpa using h.1, h.2⟩
 ·intro d hd
  have h := List.all_eq_true.1 h9 d hd
  simpa using h
theorem inv_step (hc : Chk al ops pt ds st js lm) (hst : ∀ k l w w', Below w.heap.size w w' → J k l w → J k l w') (hs : StepsOk al P ops Q FL J js (fun u => fillL u ds t0) df pt st lm ops.toList 0) {listed : Array Bool} {a : Act} {w : World}
    (hI : Inv al ops FL J js t0 df ds pt st listed a w) {i : Nat} (hi : i ∈ Region.ready .any ops listed) :
    wpOp P ops Q i (Inv al ops FL J js t0 df ds pt st (listed.setIfInBounds i true)) a w := by
  obtain ⟨h0, o, ho, hall⟩ := mem_ready.1 hi
  have hlt : i < ops.size := (Array.getElem?_eq_some_iff.1 ho).1
  have hil : i < listed.size := by rw [hI.sz]; exact hlt
  have hun : listed.getD i false = false := by rw [← getD_flag hil]; exact h0
  obtain ⟨k, u, rfl, hfac, hJ, hk, hk1, hk2, hk3, hk4, hk5⟩ := hI.fr
  have hneed : ∀ d ∈ pt.getD i [], Written ops listed d := by
    intro d hd
    obtain ⟨e, he, hb, h1⟩ := hc.need i o ho d hd
    have h2 := hall e he hb
    rcases h1 with ⟨o', h3, h4⟩ | h3
    · exact ⟨e.on, o', h2, h3, h4⟩
    · exact hI.cl e.on h2 d h3
  have hstep := steps_at _ _ hs i o (by simpa using ho)
  rw [Nat.zero_add] at hstep
  have hcs : ∀ j oj, ops[j]? = some oj → (listed.setIfInBounds i true).getD j false = true → ∀ e ∈ oj.after, Region.binds .any e = true → (listed.setIfInBounds i true).getD e.on false = true := by
    intro j oj hj hl e he hb
    by_cases hij : i = j
    · subst hij
      have : oj = o := Option.some.inj (hj.symm.trans ho)
      subst this
      exact getD_set_true (hall e he hb)
    · rw [getD_set_ne false hij] at hl
      exact getD_set_true (hI.cs j oj hj hl e he hb)
  have hcl : ∀ j, (listed.setIfInBounds i true).getD j false = true → ∀ d ∈ pt.getD j [], Written ops (listed.setIfInBounds i true) d := by
    intro j hj d hd
    by_cases hij : i = j
    · subst hij; exact (hneed d hd).more
    · rw [getD_set_ne false hij] at hj
      exact (hI.cl j hj d hd).more
  have hwait : ∀ m, m < k → ∀ j, Region.waitsFor .any ops (st.getD m 0) j = true → listed.getD j false = true := by
    intro m hm j hw
    obtain ⟨oj, hoj, e, he, hb, hon⟩ := Region.waitsFor_spec hw
    rw [← hon]
    exact hI.cs _ oj hoj (hk1 m hm) e he hb
  have hwait2 : ∀ m, m < k → ∀ j, waits2 ops (st.getD m 0) j = true → listed.getD j false = true := by
    intro m hm j hw
    unfold waits2 at hw
    rw [Bool.or_eq_true] at hw
    rcases hw with hw | hw
    · exact hwait m hm j hw
    · obtain ⟨x, -, hx⟩ := List.any_eq_true.1 hw
      rw [Bool.and_eq_true] at hx
      obtain ⟨oj, hoj, e, he, hb, hon⟩ := Region.waitsFor_spec hx.2
      rw [← hon]
      exact hI.cs _ oj hoj (hwait m hm x hx.1) e he hb
  cases hsi : st.idxOf? i with
  | none =>
    rw [hsi] at hstep
    have hns : ∀ m, m < st.length → st.getD m 0 ≠ i := by
      intro m hm e
      have h1 : i ∈ st := by rw [← e]; simp [hm]
      have h2 := List.idxOf?_eq_none_iff.1 hsi
      exact h2 h1
    have hlim : k ≤ lm.getD i st.length := by
      rcases hc.lim i hlt with h1 | h1
      · omega
      · rcases Nat.lt_or_ge (lm.getD i st.length) k with h2 | h2
        · exfalso
          have h3 := hwait2 _ h2 i (by
            have e : st.getD (lm.getD i st.length) ops.size = st.getD (lm.getD i st.length) 0 := by
              have : lm.getD i st.length < st.length := by omega
              generalize lm.getD i st.length = z at *
              simp [this]
            rw [← e]; exact h1)
          rw [hun] at h3; cases h3
        · exact h2
    refine wpOp_step ho (fun K' hK => hstep k u w hlim hJ (facts_mk fun d hd => hfac d (hneed d hd)) K' ?_)
    intro v w' hb hf hao
    have hwi : ∀ d, Written ops (listed.setIfInBounds i true) d → o.dst = some d ∨ Written ops listed d := by
      rintro d ⟨j, o', h1, h2, h3⟩
      by_cases hij : i = j
      · subst hij
        rw [ho] at h2
        injection h2 with h2
        subst h2
        exact .inl h3
      · rw [getD_set_ne false hij] at h1
        exact .inr ⟨j, o', h1, h2, h3⟩
    have hnw : ∀ d, o.dst = some d → ¬ Written ops listed d := by
      rintro d hd ⟨j, o', h1, h2, h3⟩
      have := hc.once i j o o' d ho h2 hd h3
      subst this
      rw [hun] at h1; cases h1
    have hne : ∀ d, o.dst ≠ some d → upd u o.dst v d = u d := by
      intro d hd
      cases h : o.dst with
      | none => rfl
      | some d' => rw [h] at hd; simp only [upd]; rw [if_neg (fun h => hd (by rw [h]))]
    have hal : ∀ d ∈ al, o.dst = some d → v = .pointer (some ⟨w.heap.size, 0, none⟩) ∧ w.heap.size < w'.heap.size := by
      intro d hd h
      unfold aOk at hao
      rw [h] at hao
      dsimp only at hao
      rw [show al.contains d = true by simpa using hd] at hao
      exact hao
    refine hK _ _ ⟨⟨k, upd u o.dst v, put_fill u o v (hc.dst i o ho), ?_, ?_, hk, fun m hm => getD_set_true (hk1 m hm), fun m hm hm' => ?_, fun d hd => (hk3 d hd).more, fun d hd hw => ?_, fun d hd d' hd' hdd hw hw' => ?_⟩, hcl, hcs, by simpa using hI.sz⟩
    · rintro d ⟨j, o', h1, h2, h3⟩
      by_cases hd : o.dst = some d
      · rw [hd] at hf ⊢
        have e : upd u (some d) v d = v := by simp [upd]
        rw [e]; exact hf
      · have hw : Written ops listed d := by
          by_cases hij : i = j
          · subst hij
            rw [ho] at h2
            injection h2 with h2
            subst h2
            exact absurd h3 hd
          · rw [getD_set_ne false hij] at h1
            exact ⟨j, o', h1, h2, h3⟩
        have e : upd u o.dst v d = u d := by
          cases h : o.dst with
          | none => rfl
          | some d' => rw [h] at hd; simp only [upd]; rw [if_neg (fun h => hd (by rw [h]))]
        rw [e]
        exact (look FL d).st _ _ _ (Keep.ofBelow hb) (hfac d hw)
    · have e : (js.getD k []).map (upd u o.dst v) = (js.getD k []).map u := by
        apply List.map_congr_left
        intro d hd
        cases h : o.dst with
        | none => rfl
        | some d' =>
          simp only [upd]
          rw [if_neg]
          rintro rfl
          obtain ⟨j, o', h1, h2, h3⟩ := hk3 d hd
          have := hc.once i j o o' d ho h2 h h3
          subst this
          rw [hun] at h1; cases h1
      rw [e]
      exact hst _ _ _ _ hb hJ
    · rw [getD_set_ne false (Ne.symm (hns m hm'))]; exact hk2 m hm hm'
    · by_cases h : o.dst = some d
      · obtain ⟨h1, h2⟩ := hal d hd h
        exact ⟨w.heap.size, by rw [h]; simp [upd, h1], h2⟩
      · rcases hwi d hw with h1 | h1
        · exact absurd h1 h
        · obtain ⟨g, h2, h3⟩ := hk4 d hd h1
          exact ⟨g, by rw [hne d h]; exact h2, Nat.lt_of_lt_of_le h3 hb.size⟩
    · by_cases h : o.dst = some d
      · have h' : o.dst ≠ some d' := fun h2 => hdd (by rw [h] at h2; injection h2)
        rcases hwi d' hw' with h1 | h1
        · exact absurd h1 h'
        · obtain ⟨g, h2, h3⟩ := hk4 d' hd' h1
          rw [hne d' h', h2, h]
          simp only [upd, if_pos]
          rw [(hal d hd h).1]
          intro he
          simp at he <;> omega
      · rcases hwi d hw with h1 | h1
        · exact absurd h1 h
        · by_cases h' : o.dst = some d'
          · obtain ⟨g, h2, h3⟩ := hk4 d hd h1
            rw [hne d h, h2, h']
            simp only [upd, if_pos]
            rw [(hal d' hd' h').1]
            intro he
            simp at he <;> omega
          · rcases hwi d' hw' with h2 | h2
            · exact absurd h2 h'
            · rw [hne d h, hne d' h']; exact hk5 d hd d' hd' hdd h1 h2
  | some m =>
    rw [hsi] at hstep
    obtain ⟨hm, hmi, -⟩ := List.idxOf?_eq_some_iff.1 hsi
    have hmi' : st.getD m 0 = i := by simp [hm]; exact hmi
    have hmk : m = k := by
      rcases Nat.lt_trichotomy m k with h1 | h1 | h1
      · have := hk1 m h1; rw [hmi', hun] at this; cases this
      · exact h1
      · exfalso
        have h2 := hc.schain m (by omega) hm
        rw [hmi'] at h2
        obtain ⟨oj, hoj, e, he, hb, hon⟩ := Region.waitsFor_spec h2
        have : oj = o := Option.some.inj (hoj.symm.trans ho)
        subst this
        have h3 := hall e he hb
        rw [hon, hk2 (m - 1) (by omega) (by omega)] at h3
        cases h3
    subst hmk
    have hdn : o.dst = none := hc.sdst m hm o (by rw [hmi']; exact ho)
    have hwal : ∀ d ∈ al, Written ops listed d := by
      intro d hd
      obtain ⟨j, o', h1, h2, h3⟩ := hc.alw d hd m hm
      rw [hmi'] at h3
      refine ⟨j, o', ?_, h1, h2⟩
      unfold waits2 at h3
      rw [Bool.or_eq_true] at h3
      rcases h3 with h3 | h3
      · obtain ⟨oj, hoj, e, he, hb, hon⟩ := Region.waitsFor_spec h3
        have : oj = o := Option.some.inj (hoj.symm.trans ho)
        subst this
        rw [← hon]; exact hall e he hb
      · obtain ⟨x, -, hx⟩ := List.any_eq_true.1 h3
        rw [Bool.and_eq_true] at hx
        obtain ⟨oj, hoj, e, he, hb, hon⟩ := Region.waitsFor_spec hx.1
        have : oj = o := Option.some.inj (hoj.symm.trans ho)
        subst this
        have h4 := hall e he hb
        rw [hon] at h4
        obtain ⟨oj2, hoj2, e2, he2, hb2, hon2⟩ := Region.waitsFor_spec hx.2
        rw [← hon2]
        exact hI.cs _ oj2 hoj2 h4 e2 he2 hb2
    refine wpOp_step ho (fun K' hK => hstep u w hJ (fun d hd d' hd' hdd => hk5 d hd d' hd' hdd (hwal d hd) (hwal d' hd')) (facts_mk fun d hd => hfac d (hneed d hd)) K' ?_)
    intro v w' hJ' hb
    refine hK _ _ ⟨⟨m + 1, u, by rw [hdn]; rfl, ?_, hJ', hm, fun j hj => ?_, fun j hj hj' => ?_, fun d hd => ?_, fun d hd hw => ?_, fun d hd d' hd' hdd hw hw' => hk5 d hd d' hd' hdd (hwal d hd) (hwal d' hd')⟩, hcl, hcs, by simpa using hI.sz⟩
    · rintro d ⟨j, o', h1, h2, h3⟩
      have hij : i ≠ j := by
        rintro rfl
        rw [ho] at h2
        injection h2 with h2
        subst h2
        rw [hdn] at h3; cases h3
      rw [getD_set_ne false hij] at h1
      exact (look FL d).st _ _ _ hb (hfac d ⟨j, o', h1, h2, h3⟩)
    · by_cases h1 : j = m
      · subst h1; rw [hmi']; simp [hil]
      · exact getD_set_true (hk1 j (by omega))
    · have h1 := hk2 j (by omega) hj'
      by_cases h2 : st.getD j 0 = i
      · exfalso
        have h3 : ∀ n, m ≤ n → n < st.length → i ≤ st.getD n 0 ∧ (m < n → i < st.getD n 0) := by
          intro n
          induction n with
          | zero => intro h4 h5; exact ⟨by have : m = 0 := by omega
                                           subst this; rw [hmi']; exact Nat.le_refl _, fun h => by omega⟩
          | succ n ih =>
            intro h4 h5
            by_cases h6 : m = n + 1
            · subst h6; exact ⟨by rw [hmi']; exact Nat.le_refl _, fun h => by omega⟩
            · have h7 := ih (by omega) (by omega)
              have h8 := hc.schain (n + 1) (by omega) h5
              obtain ⟨oj, hoj, e, he, hb', hon⟩ := Region.waitsFor_spec h8
              have h9 := hc.edge _ oj hoj e he hb'
              rw [hon, Nat.add_sub_cancel] at h9
              exact ⟨by omega, fun _ => by omega⟩
        have := (h3 j (by omega) hj').2 (by omega)
        omega
      · rw [getD_set_ne false (Ne.symm h2)]; exact h1
    · rcases hc.sjs m hm d hd with h1 | h1
      · rw [hmi'] at h1; exact (hneed d h1).more
      · exact (hk3 d h1).more
    · obtain ⟨g, h1, h2⟩ := hk4 d hd (hwal d hd)
      exact ⟨g, h1, Nat.lt_of_lt_of_le h2 hb.size⟩
theorem ready_nil_all (hc : Chk al ops pt ds st js lm) {listed : Array Bool} (hsz : listed.size = ops.size) (hr : Region.ready .any ops listed = []) : ∀ n i, i < n → i < ops.size → listed.getD i false = true := by
 intro n
 induction n with
 | zero => intro i h; omega
 | succ n ih =>
  intro i hin hi
  have hil : i < listed.size := by omega
  cases hv : listed.getD i false with
  | true => rfl
  | false =>
   exfalso
   have ho : ops[i]? = some ops[i] := by simp [hi]
   have : i ∈ Region.ready .any ops listed := by
    rw [mem_ready]
    refine ⟨by simp [hil] at hv ⊢; exact hv, _, ho, fun e he hb => ?_⟩
    have h1 := hc.edge i _ ho e he hb
    exact ih e.on (by omega) (by omega)
   rw [hr] at this
   cases this
theorem wpAny_inv (hc : Chk al ops pt ds st js lm) (hst : ∀ k l w w', Below w.heap.size w w' → J k l w → J k l w') (hs : StepsOk al P ops Q FL J js (fun u => fillL u ds t0) df pt st lm ops.toList 0)
  (hend : ∀ u w, J st.length ((js.getD st.length []).map u) w → Facts FL u w ds → Q .normal ⟨fillL u ds t0, df⟩ w) :
  ∀ (fuel : Nat) (listed : Array Bool) (a : Act) (w : World), ((List.range ops.size).filter fun j => !listed.getD j true).length ≤ fuel → Inv al ops FL J js t0 df ds pt st listed a w → wpAny P .any ops Q fuel listed a w := by
 have hfin : ∀ (listed : Array Bool) (a : Act) (w : World), Inv al ops FL J js t0 df ds pt st listed a w → Region.ready .any ops listed = [] → Q .normal a w := by
  intro listed a w hI hr
  obtain ⟨k, u, rfl, hfac, hJ, hk, hk1, hk2, hk3, hk4, hk5⟩ := hI.fr
  have hall := ready_nil_all hc hI.sz hr
  have hkl : k = st.length := by
   rcases Nat.lt_or_ge k st.length with h | h
   ·have h1 := hk2 k (Nat.le_refl _) h
    rw [hall (st.getD k 0 + 1) _ (by omega) (hc.slt k h)] at h1
    cases h1
   ·omega
  subst hkl
  refine hend u w hJ (facts_mk fun d hd => hfac d ?_)
  obtain ⟨i, o, h1, h2⟩ := hc.wr d hd
  exact ⟨i, o, hall (i + 1) i (by omega) (Array.getElem?_eq_some_iff.1 h1).1, h1, h2⟩
 intro fuel
 induction fuel with
 | zero =>
  intro listed a w hcnt hI
  have hr : Region.ready .any ops listed = [] := by
   rw [List.eq_nil_iff_forall_not_mem]
   intro j hj
   obtain ⟨h0, o, ho, -⟩ := mem_ready.1 hj
   have hlt : j < ops.size := (Array.getElem?_eq_some_iff.1 ho).1
   have hm : j ∈ (List.range ops.size).filter fun j => !listed.getD j true := by
    rw [List.mem_filter]
    exact ⟨List.mem_range.2 hlt, by rw [h0]; rfl⟩
   have := List.length_pos_of_mem hm
   omega
  exact ⟨hr, hfin _ _ _ hI hr⟩
 | succ fuel ih =>
  intro listed a w hcnt hI
  refine ⟨fun hr => hfin _ _ _ hI hr, fun i hi => ?_⟩
  obtain ⟨h0, o, ho, -⟩ := mem_ready.1 hi
  have hlt : i < ops.size := (Array.getElem?_eq_some_iff.1 ho).1
  refine wpOp_mono (fun a' w' hI' => ih _ a' w' ?_ hI') (inv_step hc hst hs hI hi)
  have := filter_less (p := fun j => !listed.getD j true) (q := fun j => !(listed.setIfInBounds i true).getD j true) (i := i) (by simp only [h0]; rfl) (by
   have hil : i < listed.size := by rw [hI.sz]; exact hlt
   simp [hil]) (fun j hj => by
   by_cases hij : i = j
   ·subst hij
    exfalso
    have hil : i < listed.size := by rw [hI.sz]; exact hlt
    simp [hil] at hj
   ·rw [getD_set_ne true hij] at hj; exact hj) (List.range ops.size) (List.mem_range.2 hlt)
  omega
theorem region_facts {id : Nat} {w : World} {opl : List Oper} (FL : List (Nat × Fact)) (J : Nat → List Value → World → Prop) (pt : List (List Nat)) (st : List Nat) (js : List (List Nat)) (lm : List Nat) (al : List Nat) {fr : (Nat → Value) → Array Value} (hfr : ∀ u, fillL u (temps FL) t0 = fr u)
  (hm : P.follows .mixedOrders = true) (hchk : chk al opl.toArray pt (temps FL) st js lm = true) (hst : ∀ k l w w', Below w.heap.size w w' → J k l w → J k l w') (hJ : J 0 [] w.drew)
  (hs : StepsOk al P opl.toArray Q FL J js fr df pt st lm opl 0)
  (hend : ∀ u w, J st.length ((js.getD st.length []).map u) w → Facts FL u w (temps FL) → Q .normal ⟨fr u, df⟩ w) : (Code.region id opl.toArray true).wp P Q ⟨t0, df⟩ w := by
 obtain rfl : (fun u => fillL u (temps FL) t0) = fr := funext hfr
 have hc := chk_spec hchk
 refine wp_region_any hm (wpAny_inv (t0 := t0) hc hst hs hend opl.toArray.size _ _ _ ?_ ⟨⟨0, fun d => t0.getD d undef, by rw [fillL_self], ?_, by rw [hc.js0]; exact hJ, Nat.zero_le _, fun m h => by omega, fun m _ _ => none_listed _ _, fun d hd => (by rw [hc.js0] at hd; cases hd), fun d _ hw => (by obtain ⟨j, o', h1, _, _⟩ := hw; rw [none_listed] at h1; cases h1), fun d _ d' _ _ hw => by obtain ⟨j, o', h1, _, _⟩ := hw; rw [none_listed] at h1; cases h1⟩, ?_, ?_, by simp⟩)
 ·exact Nat.le_trans (List.length_filter_le _ _) (by simp)
 ·rintro d ⟨j, o', h1, -, -⟩
  rw [none_listed] at h1; cases h1
 ·intro i hi
  rw [none_listed] at hi; cases hi
 ·intro j oj _ hl
  rw [none_listed] at hl; cases hl
end
end Go.Proofs.Ytmahnpbjjadipaa.AS
namespace Go.Proofs.Ytmahnpbjjadipaa
open Go.RowKit
def HNo (W : World) : Nat → List Value → World → Prop := fun _ _ w => Below W.heap.size W w
theorem HNo.st (W : World) : ∀ k l w w', Below w.heap.size w w' → HNo W k l w → HNo W k l w' := fun _ _ _ _ hb h => below_more h hb
def allTo (p : Nat → Bool) : Nat → Bool
 | 0 => true
 | k + 1 => allTo p k && p k
theorem allTo_is {p : Nat → Bool} : ∀ {k : Nat}, allTo p k = true ↔ ∀ i, i < k → p i = true
 | 0 => ⟨fun _ i hi => by omega, fun _ => rfl⟩
 | k + 1 => by
  rw [allTo, Bool.and_eq_true, allTo_is]
  constructor
  ·rintro ⟨h1, h2⟩ i hi
   rcases Nat.lt_or_ge i k with h3 | h3
   ·exact h1 i h3
   ·obtain rfl : i = k := by omega
    exact h2
  ·intro h; exact ⟨fun i hi => h i (by omega), h k (by omega)⟩
theorem allTo_no {p : Nat → Bool} {k n : Nat} (hk : k < n) (h : p k = false) : allTo p n = false := by
 cases h1 : allTo p n with
 | false => rfl
 | true => rw [allTo_is.1 h1 k hk] at h; cases h
open Go.RowKit Go.Maps
abbrev heldE : Value → Option (DataW Value × List MemPlace) := fun v => some (.held v, [])
section
variable {w w' : World} {b n m : Nat} {f : Int → Option Value}
end
open Go.RowKit
theorem vd_any (n : Int) (w : World) : Calls Try.prog 28 #[.int .i64 n] w fun e w' => e = .returned (.bool (vdB n)) ∧ w = w' := by
 unfold vdB
 by_cases h1 : (-25567 : Int) ≤ n
 ·rw [decide_eq_true h1]
  go_enter Try.func28, Try.ntmps28
  go_wp2
  go_ret
  exact ⟨rfl, rfl⟩
 ·rw [decide_eq_false h1]
  have h3 : decide ((-25567 : Int) ≤ n) = false := decide_eq_false h1
  clear h1
  go_enter Try.func28, Try.ntmps28
  go_wp2
  go_ret
  exact ⟨rfl, rfl⟩
def fltL (code day : Int) (K : List Lnk) : List Lnk := K.filter fun l => decide (l.frm = code) && decide (l.since ≤ day)
theorem fltL_take {code day : Int} {K : List Lnk} {k : Nat} (hk : k < K.length) : fltL code day (K.take (k + 1)) = if (decide ((K.getD k lnk0).frm = code) && decide ((K.getD k lnk0).since ≤ day)) = true then fltL code day (K.take k) ++ [K.getD k lnk0] else fltL code day (K.take k) := by
 unfold fltL
 rw [take_succ_getD (d := lnk0) hk, List.filter_append]
 split
 ·rename_i h; simp only [List.filter_cons, h, if_true, List.filter_nil]
 ·rename_i h; simp only [List.filter_cons, h, List.filter_nil]; simp
theorem fltL_len {code day : Int} {K : List Lnk} : (fltL code day K).length ≤ K.length := List.length_filter_le _ _
def mxS (m x : Lnk) : Lnk := if m.since < x.since then x else m
def mxL (K : List Lnk) : Lnk := K.tail.foldl mxS (K.getD 0 lnk0)
theorem mxL_one {K : List Lnk} (h : 0 < K.length) : mxL (K.take 1) = K.getD 0 lnk0 := by
 cases K with
 | nil => simp at h
 | cons a K => rfl
theorem mxL_succ {K : List Lnk} {k : Nat} (h0 : 0 < k) (hk : k < K.length) : mxL (K.take (k + 1)) = mxS (mxL (K.take k)) (K.getD k lnk0) := by
 cases K with
 | nil => simp at hk
 | cons a K =>
  obtain ⟨j, rfl⟩ : ∃ j, k = j + 1 := ⟨k - 1, by omega⟩
  simp only [List.take_succ_cons, mxL, List.tail_cons, List.getD_cons_zero, List.getD_cons_succ]
  rw [take_succ_getD (d := lnk0) (by simpa using hk), List.foldl_append]
  rfl
theorem atO_flt {K : List Lnk} {code day : Int} : atO K code day = if (fltL code day K).length = 0 then none else some (mxL (fltL code day K)) := by
 have key : ∀ (K : List Lnk) (o : Option Lnk), K.foldl (atStep code day) o = (match o with
   | none => (match fltL code day K with
    | [] => none
    | a :: l => some (l.foldl mxS a))
   | some m => some ((fltL code day K).foldl mxS m)) := by
  intro K
  induction K with
  | nil => intro o; cases o <;> rfl
  | cons x K ih =>
   intro o
   rw [List.foldl_cons, ih]
   by_cases h1 : x.frm = code
   ·by_cases h2 : x.since ≤ day
    ·have hf : fltL code day (x :: K) = x :: fltL code day K := by unfold fltL; rw [List.filter_cons, decide_eq_true h1, decide_eq_true h2]; rfl
     cases o with
     | none =>
      have : atStep code day none x = some x := by unfold atStep atHit; rw [decide_eq_true h1, decide_eq_true h2]; rfl
      rw [this, hf]
     | some m =>
      have : atStep code day (some m) x = some (mxS m x) := by
       unfold atStep atHit mxS; rw [decide_eq_true h1, decide_eq_true h2]; simp only [Bool.true_and, decide_eq_true_eq]; split <;> rfl
      rw [this, hf]; rfl
    ·have hf : fltL code day (x :: K) = fltL code day K := by unfold fltL; rw [List.filter_cons, decide_eq_false h2, Bool.and_false]; rfl
     have : atStep code day o x = o := by unfold atStep atHit; rw [decide_eq_false h2]; simp
     rw [this, hf]
   ·have hf : fltL code day (x :: K) = fltL code day K := by unfold fltL; rw [List.filter_cons, decide_eq_false h1]; rfl
    have : atStep code day o x = o := by unfold atStep atHit; rw [decide_eq_false h1]; simp
    rw [this, hf]
 have h := key K none
 unfold atO
 rw [h]
 cases hf : fltL code day K with
 | nil => rfl
 | cons a l => rfl
set_option maxRecDepth 20000 in
set_option maxHeartbeats 1600000 in
theorem cuntil_any (A : Option Addr) (cp : Nat) (K : List Lnk) (code day : Int) (w : World) (hz : LnkAt w A K) (hl : K.length ≤ 100000) :
  Calls Try.prog 30 #[.slice A K.length cp, .int .i64 code, .int .i64 day] w fun e w' => ∃ v, e = .returned v ∧ OwnL 46 w' w.heap.size v (fltL code day K) ∧ Below w.heap.size w w' := by
 have hB := Below.refl w.heap.size w
 obtain ⟨n, hn⟩ : ∃ n, K.length = n := ⟨_, rfl⟩
 obtain ⟨s0, hs0⟩ : ∃ s0, w.heap.size = s0 := ⟨_, rfl⟩
 rw [hn] at hl ⊢
 rw [hs0] at hB ⊢
 have HN := Lib.hid hn
 have HZ := Lib.hid hz
 have HS0 := Lib.hid hs0
 obtain ⟨i0, hi, hz0, hz1, hz2⟩ := info_parts infoL
 clear hn hz hs0
 go_enter Try.func30, Try.ntmps30
 go_wp2_with fail
 have hO : Hid (OwnL 46 w s0 (.slice none 0 0) (fltL code day (K.take 0))) := Lib.hid OwnL.nil
 go_loopg [7, 12] n (fun kx s7 s12 wr => ∃ k : Nat, s12 = .int .i64 k ∧ k ≤ n ∧ n - k ≤ kx ∧ Hid (OwnL 46 wr s0 s7 (fltL code day (K.take k))) ∧ Below s0 w wr)
 case atStart => exact ⟨0, rfl, by omega, by omega, hO, hB⟩
 case round =>
  clear hB hO
  obtain ⟨k, rfl, hk, hkx, hO, hB⟩ := hrel
  have hsz : s0 ≤ wr.heap.size := by have := hB.size; have := HS0.out; omega
  by_cases hlt : k < n
  ·have hltz : (k : Int) < (n : Int) := by omega
   obtain ⟨b, off, rfl, hbw, hcs⟩ := HZ.out (by rw [HN.out]; omega)
   obtain ⟨c0, c1, c2⟩ := (hcs k (by rw [HN.out]; exact hlt)).up hB (by have := HS0.out; omega)
   obtain ⟨x, hx⟩ : ∃ x, K.getD k lnk0 = x := ⟨_, rfl⟩
   rw [hx] at c0 c1 c2
   have hf := fltL_take (K := K) (code := code) (day := day) (k := k) (by rw [HN.out]; exact hlt)
   rw [hx] at hf
   have hln : Hid ((fltL code day (K.take k)).length ≤ 100000000) := Lib.hid (by have := fltL_len (K := K.take k) (code := code) (day := day); rw [List.length_take] at this; omega)
   have hB1 : Below s0 w (wr.alloc (.cells #[.int .i64 x.frm, .int .i64 x.tgt, .int .i64 x.since] 46)) := hB.alloc hsz _
   have hO1 := Lib.hid (hO.out.alloc (.cells #[.int .i64 x.frm, .int .i64 x.tgt, .int .i64 x.since] 46))
   have hsz1 : s0 ≤ (wr.alloc (.cells #[.int .i64 x.frm, .int .i64 x.tgt, .int .i64 x.since] 46)).heap.size := by simp; omega
   clear hx hcs
   by_cases h1 : x.frm = code
   ·have q1 : (x.frm == code) = true := by simp [h1]
    by_cases h2 : x.since ≤ day
    ·have q2 : decide (x.since ≤ day) = true := decide_eq_true h2
     rw [if_pos (by rw [decide_eq_true h1, q2]; rfl)] at hf
     have HF := Lib.hid hf
     have HSZ := Lib.hid hsz1
     clear hf h1 h2 hsz1
     go_wp2_with (at_builtin; refine wpList_append_lk _ rfl (.tmp 26) (.tmp 28) 23 rfl s0 46 i0 24 Try.underlying23 hi hz0 hz1 hz2 (by omega) u7 _ (by rfl) hO1.out x _ 1 (by simp) rfl hln.out HSZ.out ?_; intro v2 w2 ho2 hg2 hl2 hb2; clear hg2 hl2; replace ho2 := ho2.out; rw [← HF.out] at ho2; replace ho2 := Lib.hid ho2; replace hB := hB1.trans hb2; clear hb2)
     go_roundg (n - (k + 1))
     case measure => omega
     case rel => exact ⟨k + 1, by go_num, by omega, by omega, ho2, hB⟩
    ·have q2 : decide (x.since ≤ day) = false := decide_eq_false h2
     rw [if_neg (by rw [q2, Bool.and_false]; simp)] at hf
     rw [← hf] at hO1
     clear hf h1 h2
     go_wp2_with fail
     go_roundg (n - (k + 1))
     case measure => omega
     case rel => exact ⟨k + 1, by go_num, by omega, by omega, hO1, hB1⟩
   ·have q1 : (x.frm == code) = false := by simp [h1]
    rw [if_neg (by rw [decide_eq_false h1]; simp)] at hf
    rw [← hf] at hO1
    clear hf h1
    go_wp2_with fail
    go_roundg (n - (k + 1))
    case measure => omega
    case rel => exact ⟨k + 1, by go_num, by omega, by omega, hO1, hB1⟩
  ·obtain rfl : k = n := by omega
   have hltz : ¬ (k : Int) < (k : Int) := by omega
   have ho := hO.out
   rw [List.take_of_length_le (by rw [HN.out]; omega)] at ho
   have HO := Lib.hid ho
   clear ho
   go_wp2_with fail
   go_ret
   exact ⟨_, rfl, HO.out, hB⟩
set_option maxRecDepth 20000 in
set_option maxHeartbeats 1600000 in
theorem cat1_any (x y : Lnk) (w : World) : Calls Try.prog 32 #[lnkV x, lnkV y] w fun e w' => e = .returned (.int .i64 (cmI x.since y.since)) ∧ Below w.heap.size w w' := by
 have hB := ((Below.refl w.heap.size w).alloc (Nat.le_refl _) (.cells #[.int .i64 x.frm, .int .i64 x.tgt, .int .i64 x.since] 46)).alloc (by simp) (.cells #[.int .i64 y.frm, .int .i64 y.tgt, .int .i64 y.since] 46)
 have hx := (lb_new w 46 x).up (below_alloc_new (.cells #[.int .i64 y.frm, .int .i64 y.tgt, .int .i64 y.since] 46))
 have hy := lb_new (w.alloc (.cells #[.int .i64 x.frm, .int .i64 x.tgt, .int .i64 x.since] 46)) 46 y
 obtain ⟨⟨c0, c1, c2⟩, clt⟩ := hx
 obtain ⟨⟨d0, d1, d2⟩, dlt⟩ := hy
 simp only [Nat.zero_add] at c1 c2 d1 d2
 go_enter Try.func32, Try.ntmps32
 go_wp2_with (go_at_call 33; refine (ccmp_any _ _ _).mono ?_; rintro e w' ⟨rfl, rfl⟩)
 go_ret
 exact ⟨rfl, hB⟩
def mxF (b off n cp k _g : Nat) (x m : Lnk) (z : Int) : List (Nat × AS.Fact) := [(20, AS.Fact.is (.func (.func 32) #[] #[])), (21, AS.Fact.is (.slice (some ⟨b, off, none⟩) (n : Nat) cp)), (22, AS.Fact.is (.int .i64 (k : Int))), (23, AS.Fact.is (.pointer (some ⟨b, off + k * 3, none⟩))), (24, AS.Fact.is (lnkV x)), (25, AS.Fact.is (lnkV m)), (26, AS.Fact.is (.int .i64 z)), (27, AS.Fact.is (.bool (decide (0 < z))))]
theorem cmI_lt9 {x y : Int} : decide (0 < cmI x y) = decide (y < x) := by
 unfold cmI
 split
 ·simp; omega
 ·split
  ·rename_i h; simp [h]
  ·rename_i h; simp [h]
structure LF (w : World) (g : Nat) (l : Lnk) : Prop where
 cells : L3 w g 0 l
 lt : g < w.heap.size
 fz : ∀ i, w.frozen? ⟨g, i, none⟩ = false
theorem LF.up {w w' : World} {g : Nat} {l : Lnk} (h : LF w g l) (hb : Below w.heap.size w w') : LF w' g l :=
 ⟨h.cells.up hb h.lt, Nat.lt_of_lt_of_le h.lt hb.size, fun i => (hb.frozen (p := ⟨g, i, none⟩) h.lt).trans (h.fz i)⟩
theorem lf_new (w : World) (t : TypeId) (a : Lnk) : LF (w.alloc (.cells #[.int .i64 a.frm, .int .i64 a.tgt, .int .i64 a.since] t)) w.heap.size a := by
 refine ⟨⟨?_, ?_, ?_⟩, by simp, fun i => by simp only [World.frozen?]; rw [heap_alloc_new]; simp⟩ <;> (simp only [World.cell?]; rw [heap_alloc_new]; rfl)
theorem lf_set {w : World} {g : Nat} {p : Lnk} (h : LF w g p) (x : Lnk) : LF (((w.setCell ⟨g, 0, none⟩ (.int .i64 x.frm)).setCell ⟨g, 1, none⟩ (.int .i64 x.tgt)).setCell ⟨g, 2, none⟩ (.int .i64 x.since)) g x := by
 have hc : ∀ (w : World) (i j : Nat) (v u : Value), w.cell? ⟨g, i, none⟩ = some u → (w.setCell ⟨g, j, none⟩ v).cell? ⟨g, i, none⟩ = if i = j then some v else some u := by
  intro w i j v u hu
  split
  ·rename_i e; subst e; exact World.cell?_setCell_same w _ v hu
  ·rename_i e; rw [World.cell?_setCell_other w _ _ v (fun h => e (by injection h with _ h2; exact h2.symm))]; exact hu
 have z0 := h.cells.c0
 have z1 := h.cells.c1
 have z2 := h.cells.c2
 simp only [Nat.zero_add] at z1 z2
 have hf : ∀ (w : World) (p : Addr) (v : Value) (i : Nat), (w.setCell p v).frozen? ⟨g, i, none⟩ = w.frozen? ⟨g, i, none⟩ := fun w p v i => World.frozen?_setCell w p _ v
 refine ⟨⟨?_, ?_, ?_⟩, by simpa [World.setCell] using h.lt, fun i => by rw [hf, hf, hf]; exact h.fz i⟩
 ·rw [hc _ 0 2 _ _ (hc _ 0 1 _ _ (hc _ 0 0 _ _ z0))]; rfl
 ·rw [Nat.zero_add, hc _ 1 2 _ _ (hc _ 1 1 _ _ (hc _ 1 0 _ _ z1))]; rfl
 ·rw [Nat.zero_add, hc _ 2 2 _ _ (hc _ 2 1 _ _ (hc _ 2 0 _ _ z2))]; rfl
theorem bset3 {B : Nat} {w0 w1 : World} {g : Nat} (h : Below B w0 w1) (hg : B ≤ g) (a b c : Value) : Below B w0 (((w1.setCell ⟨g, 0, none⟩ a).setCell ⟨g, 1, none⟩ b).setCell ⟨g, 2, none⟩ c) :=
 Below.setCell (p := ⟨g, 2, none⟩) (Below.setCell (p := ⟨g, 1, none⟩) (Below.setCell (p := ⟨g, 0, none⟩) h hg a) hg b) hg c
theorem lf_far {w : World} {g g' : Nat} {p : Lnk} (h : LF w g p) (hne : g' ≠ g) (x : Lnk) : LF (((w.setCell ⟨g', 0, none⟩ (.int .i64 x.frm)).setCell ⟨g', 1, none⟩ (.int .i64 x.tgt)).setCell ⟨g', 2, none⟩ (.int .i64 x.since)) g p := by
 have hb : ∀ (w : World) (i : Nat) (v : Value), (w.setCell ⟨g', i, none⟩ v).heap[g]? = w.heap[g]? := fun w i v => Below.heap_setCell w _ v g (Ne.symm hne)
 have hk : (((w.setCell ⟨g', 0, none⟩ (.int .i64 x.frm)).setCell ⟨g', 1, none⟩ (.int .i64 x.tgt)).setCell ⟨g', 2, none⟩ (.int .i64 x.since)).heap[g]? = w.heap[g]? := by rw [hb, hb, hb]
 exact ⟨⟨(World.cell?_of_block hk).trans h.cells.c0, (World.cell?_of_block hk).trans h.cells.c1, (World.cell?_of_block hk).trans h.cells.c2⟩, by have := h.lt; simpa [World.setCell] using this, fun i => by simp only [World.frozen?, hk]; exact h.fz i⟩
set_option maxRecDepth 20000 in
set_option maxHeartbeats 3200000 in
theorem cmax_any (A : Option Addr) (cp : Nat) (K : List Lnk) (w : World) (hz : LnkAt w A K) (h0 : 0 < K.length) (hl : K.length ≤ 100000) :
  Calls Try.prog 31 #[.slice A K.length cp, .func (.func 32) #[] #[]] w fun e w' => e = .returned (lnkV (mxL K)) ∧ Below w.heap.size w w' := by
 obtain ⟨b, off, rfl, hbw, hcs⟩ := hz h0
 have HC := Lib.hid (fun x y w => cat1_any x y w)
 have h3 := hcs 0 h0
 have hone := mxL_one h0
 obtain ⟨x0, hx0⟩ : ∃ x, K.getD 0 lnk0 = x := ⟨_, rfl⟩
 rw [hx0] at h3 hone
 obtain ⟨n, hn⟩ : ∃ n, K.length = n := ⟨_, rfl⟩
 have HONE := Lib.hid hone
 have HN := Lib.hid hn
 have HCS := Lib.hid hcs
 have hbz := Lib.hid hbw
 rw [hn] at hl h0 ⊢
 have hB := ((Below.refl w.heap.size w).alloc (Nat.le_refl _) (.cells #[.int .i64 lnk0.frm, .int .i64 lnk0.tgt, .int .i64 lnk0.since] 46)).alloc (by simp) (.cells #[.int .i64 x0.frm, .int .i64 x0.tgt, .int .i64 x0.since] 46)
 have hM := lf_new (w.alloc (.cells #[.int .i64 lnk0.frm, .int .i64 lnk0.tgt, .int .i64 lnk0.since] 46)) 46 x0
 have hR := (lf_new w 46 lnk0).up (below_alloc_new (.cells #[.int .i64 x0.frm, .int .i64 x0.tgt, .int .i64 x0.since] 46))
 obtain ⟨d0, d1, d2⟩ := h3.up ((Below.refl w.heap.size w).alloc (Nat.le_refl _) (.cells #[.int .i64 lnk0.frm, .int .i64 lnk0.tgt, .int .i64 lnk0.since] 46)) hbw
 simp only [Nat.zero_mul, Nat.add_zero] at d0 d1 d2
 have hd1 : decide ((n : Int) < 1) = false := decide_eq_false (by omega)
 have h0z : (0 : Int) < (n : Int) := by omega
 have eR : (w.alloc (.cells #[.int .i64 lnk0.frm, .int .i64 lnk0.tgt, .int .i64 lnk0.since] 46)).heap.size = w.heap.size + 1 := by simp
 obtain ⟨s0, hs0⟩ : ∃ s0, w.heap.size = s0 := ⟨_, rfl⟩
 rw [eR] at hM
 rw [hs0] at hB hM hR ⊢
 have HS0 := Lib.hid hs0
 have HM := Lib.hid hM
 have HR := Lib.hid hR
 clear hn hz hcs h3 hone hx0 hM hR hs0 eR
 go_enter Try.func31, Try.ntmps31
 go_wp2_with fail
 go_loopg [6] n (fun kx s6 wr => ∃ k : Nat, s6 = .int .i64 k ∧ 1 ≤ k ∧ k ≤ n ∧ n - k ≤ kx ∧ Hid (LF wr (s0 + 1) (mxL (K.take k))) ∧ Hid (LF wr s0 lnk0) ∧ Below s0 w wr)
 case atStart => exact ⟨1, rfl, by omega, by omega, by omega, Lib.hid (by rw [HONE.out]; exact HM.out), HR, hB⟩
 case round =>
  clear hB HM HR
  obtain ⟨k, rfl, hk1, hk, hkx, HM, HR, hB⟩ := hrel
  have hsz : s0 ≤ wr.heap.size := by have := hB.size; have := HS0.out; omega
  by_cases hlt : k < n
  ·have hltz : (k : Int) < (n : Int) := by omega
   have hX3 := (HCS.out k (by rw [HN.out]; exact hlt)).up hB (by have := hbz.out; have := HS0.out; omega)
   have hst := mxL_succ (K := K) (k := k) (by omega) (by rw [HN.out]; exact hlt)
   obtain ⟨x, hx⟩ : ∃ x, K.getD k lnk0 = x := ⟨_, rfl⟩
   obtain ⟨m, hm⟩ : ∃ m, mxL (K.take k) = m := ⟨_, rfl⟩
   rw [hx] at hX3 hst
   rw [hm] at HM hst
   have hbW : b < wr.heap.size := by have := hbz.out; have := hB.size; omega
   have HX3 := Lib.hid hX3
   have HMB := HM
   have hz9 := HC.out x m
   obtain ⟨z, hze⟩ : ∃ z, cmI x.since m.since = z := ⟨_, rfl⟩
   rw [hze] at hz9
   have HZE := Lib.hid hze
   have HC9 := HC
   have HC := Lib.hid hz9
   have HST := Lib.hid hst
   obtain ⟨g, hg⟩ : ∃ g, s0 + 1 = g := ⟨_, rfl⟩
   rw [hg] at HM HMB
   have HG := Lib.hid hg
   clear hx hm hst hX3 hz9 hze
   have e9 : w.heap.size + 1 = g := by rw [HS0.out]; exact hg
   go_wp2_with fail
   rw [e9]
   clear hg e9
   refine AS.region_facts (mxF b off n cp k g x m z) (HNo wr) [[], [], [], [21, 22], [23], [], [20, 24, 25], [26]] [] [[]] [0, 0, 0, 0, 0, 0, 0, 0] [] (fun u => by simp only [mxF, AS.temps, List.map_cons, List.map_nil, fillL, List.setIfInBounds_toArray, List.set_cons_zero, List.set_cons_succ]; rfl) (by kernel_rfl) (by kernel_rfl) (HNo.st wr) (dc_drew (Below.refl _ _)) ?_ ?_
   ·refine AS.sc rfl rfl rfl ?_ ?_
    ·intro k_ u w_ hk_ hJ hF K hK
     clear hF
     go_simp
     exact hK.out _ _ (Below.refl _ _) (rfl) trivial
    refine AS.sc rfl rfl rfl ?_ ?_
    ·intro k_ u w_ hk_ hJ hF K hK
     clear hF
     go_simp
     exact hK.out _ _ (Below.refl _ _) (rfl) trivial
    refine AS.sc rfl rfl rfl ?_ ?_
    ·intro k_ u w_ hk_ hJ hF K hK
     clear hF
     go_simp
     exact hK.out _ _ (Below.refl _ _) (rfl) trivial
    refine AS.sc rfl rfl rfl ?_ ?_
    ·intro k_ u w_ hk_ hJ hF K hK
     have h21 : u 21 = .slice (some ⟨b, off, none⟩) (n : Nat) cp := AS.facts_get hF 21 (by simp)
     have h22 : u 22 = .int .i64 (k : Int) := AS.facts_get hF 22 (by simp)
     clear hF
     simp only [h21, h22] at hK ⊢
     clear h21 h22
     go_simp
     exact hK.out _ _ (Below.refl _ _) (rfl) trivial
    refine AS.sc rfl rfl rfl ?_ ?_
    ·intro k_ u w_ hk_ hJ hF K hK
     have h23 : u 23 = .pointer (some ⟨b, off + k * 3, none⟩) := AS.facts_get hF 23 (by simp)
     have hJ0 : Below wr.heap.size wr w_ := hJ
     clear hF
     simp only [h23] at hK ⊢
     clear h23
     obtain ⟨c0, c1, c2⟩ := HX3.out.up hJ0 hbW
     go_simp
     exact hK.out _ _ (Below.refl _ _) (rfl) trivial
    refine AS.sc rfl rfl rfl ?_ ?_
    ·intro k_ u w_ hk_ hJ hF K hK
     have hJ0 : Below wr.heap.size wr w_ := hJ
     clear hF
     obtain ⟨⟨c0, c1, c2⟩, clt⟩ := HMB.out.up hJ0
     simp only [Nat.zero_add] at c1 c2
     go_simp
     exact hK.out _ _ (Below.refl _ _) (rfl) trivial
    refine AS.sc rfl rfl rfl ?_ ?_
    ·intro k_ u w_ hk_ hJ hF K hK
     have h20 : u 20 = .func (.func 32) #[] #[] := AS.facts_get hF 20 (by simp)
     have h24 : u 24 = lnkV x := AS.facts_get hF 24 (by simp)
     have h25 : u 25 = lnkV m := AS.facts_get hF 25 (by simp)
     clear hF
     simp only [h20, h24, h25] at hK ⊢
     clear h20 h24 h25
     go_simp
     refine (HC.out _).mono ?_
     rintro e w3 ⟨rfl, h9⟩
     exact hK.out _ _ h9 (rfl) trivial
    refine AS.sc rfl rfl rfl ?_ ?_
    ·intro k_ u w_ hk_ hJ hF K hK
     have h26 : u 26 = .int .i64 z := AS.facts_get hF 26 (by simp)
     clear hF
     simp only [h26] at hK ⊢
     clear h26
     go_simp
     exact hK.out _ _ (Below.refl _ _) (rfl) trivial
    exact AS.StepsOk.nil
   ·intro u W9 hJ9 hF
    have h27 : u 27 = .bool (decide (0 < z)) := AS.facts_get hF 27 (by simp [mxF, AS.temps])
    have hB9 : Below wr.heap.size wr W9 := hJ9
    clear hF hJ9
    obtain ⟨q, hq⟩ : ∃ q, decide (0 < z) = q := ⟨_, rfl⟩
    rw [hq] at h27
    have HM9 := Lib.hid (HM.out.up hB9)
    have HR9 := Lib.hid (HR.out.up hB9)
    have hX9 := HX3.out.up hB9 hbW
    have hBn := hB.trans (hB9.mono hsz)
    clear hB9
    simp only [h27]
    clear h27
    cases q
    ·have HL : Hid (LF W9 (s0 + 1) (mxL (K.take (k + 1)))) := Lib.hid (by
      rw [HST.out, HG.out]; unfold mxS
      have h5 : ¬ m.since < x.since := by
       have := hq; rw [← HZE.out, cmI_lt9] at this; simpa using this
      rw [if_neg h5]; exact HM9.out)
     clear hq hX9
     go_wp2_with fail
     have e8 : g = w.heap.size + 1 := by rw [HS0.out]; exact HG.out.symm
     subst e8
     go_roundg (n - (k + 1))
     case measure => omega
     case rel => exact ⟨k + 1, by go_num, by omega, by omega, by omega, HL, HR9, hBn⟩
    ·have HL : Hid (LF (((W9.setCell ⟨g, 0, none⟩ (.int .i64 x.frm)).setCell ⟨g, 1, none⟩ (.int .i64 x.tgt)).setCell ⟨g, 2, none⟩ (.int .i64 x.since)) (s0 + 1) (mxL (K.take (k + 1)))) := Lib.hid (by
      rw [HST.out, HG.out]; unfold mxS
      have h5 : m.since < x.since := by
       have := hq; rw [← HZE.out, cmI_lt9] at this; simpa using this
      rw [if_pos h5]; exact lf_set HM9.out x)
     have HR8 : Hid (LF (((W9.setCell ⟨g, 0, none⟩ (.int .i64 x.frm)).setCell ⟨g, 1, none⟩ (.int .i64 x.tgt)).setCell ⟨g, 2, none⟩ (.int .i64 x.since)) s0 lnk0) := Lib.hid (lf_far HR9.out (by have := HG.out; omega) x)
     have hB8 := bset3 hBn (by have := HG.out; omega) (.int .i64 x.frm) (.int .i64 x.tgt) (.int .i64 x.since) (g := g)
     obtain ⟨d0, d1, d2⟩ := hX9
     obtain ⟨⟨e0, e1, e2⟩, elt, ef⟩ := HM9.out
     simp only [Nat.zero_add] at e1 e2
     have ef0 := ef 0
     have ef1 := ef 1
     have ef2 := ef 2
     clear hq ef
     go_wp2_with fail
     have e8 : g = w.heap.size + 1 := by rw [HS0.out]; exact HG.out.symm
     subst e8
     go_roundg (n - (k + 1))
     case measure => omega
     case rel => exact ⟨k + 1, by go_num, by omega, by omega, by omega, HL, HR8, hB8⟩
  ·obtain rfl : k = n := by omega
   have hltz : ¬ (k : Int) < (k : Int) := by omega
   have ho := HM.out
   rw [List.take_of_length_le (by rw [HN.out]; omega)] at ho
   obtain ⟨m, hm⟩ : ∃ m, mxL K = m := ⟨_, rfl⟩
   rw [hm] at ho
   have HMM := Lib.hid hm
   have e9 : w.heap.size + 1 = s0 + 1 := by rw [HS0.out]
   obtain ⟨⟨e0, e1, e2⟩, elt, -⟩ := ho
   obtain ⟨⟨z0, z1, z2⟩, zlt, zf⟩ := HR.out
   have zf0 := zf 0
   have zf1 := zf 1
   have zf2 := zf 2
   simp only [Nat.zero_add] at z1 z2 e1 e2
   clear zf hm
   rw [← HS0.out] at z0 z1 z2 zlt zf0 zf1 zf2 e0 e1 e2 elt
   clear e9
   go_wp2_with fail
   exact bodyPost_ret (v := lnkV m) (by simp [results, Try.results31, go_sem, z0, z1, z2]) rfl ⟨by rw [HMM.out], by rw [← HS0.out]; exact bset3 (by rw [HS0.out]; exact hB) (Nat.le_refl _) _ _ _⟩
open Go.RowKit Go.Maps
structure WfL (l : Lnk) : Prop where
 frm : (Lit.int .i64 l.frm).wf = true
 tgt : (Lit.int .i64 l.tgt).wf = true
 since : (Lit.int .i64 l.since).wf = true
def WfC (L : List Acc) : Prop := ∀ a ∈ L, (Lit.int .i64 a.code).wf = true
section
variable {w wb w2 w4 : World} {base mb : Nat} {GA GB : Int → Value} {L : List Acc} {K : List Lnk} {v : Value}
end
open Go.ChangeShapes Go.WideShapes Go.ChangeAt Go.WideMaps Go.WideElems Go.RowKit Go.Deep Go.Joins
section
variable {H : Type} {enc : TypeId × Value → H} {P : Program} {W : World}
theorem open_wrows {T E I : TypeId} {fs : Array Field} {fuel : Nat} {cs : List Value} {x : DataW H × List MemPlace} (hT : P.underlying T = some (.slice E)) (hE : P.underlying E = some (.struct fs))
  (hone : oneCellFields P fs = true) (hC : P.cellsOf E = fs.size) (hty : (fs.toList.all fun f => f.type == I) = true) (hI : P.underlying I = some (.int .i64)) (hn : 0 < fs.size)
  (hf : DataW.trod enc P W 0 (fun _ => true) true fuel T cs = some x) :
  ∃ A len cap, cs = [.slice A len cap] ∧ len ≤ 9223372036854775807 ∧ ∃ X : Nat → Nat → Int, 0 < len → ∃ b off, A = some ⟨b, off, none⟩ ∧ b < W.heap.size ∧ ∀ k, k < len → ∀ j, j < fs.size → W.cell? ⟨b, off + (k * fs.size + j), none⟩ = some (.int .i64 (X k j)) ∧ (Lit.int .i64 (X k j)).wf = true := by
 rcases open_slice hT hf with ⟨hcs, -⟩ | ⟨a, len, cap, m, n, D, Pl, hcs, -, hl, hm, hmm, -, hx⟩
 ·exact ⟨none, 0, 0, hcs, by omega, fun _ _ => 0, fun h => by omega⟩
 ·simp only [if_true] at hmm
  subst hmm
  unfold maxLen at hm
  have key : ∀ k, k < len → ∀ j, j < fs.size → ∃ z : Int, W.cell? (a.add (k * fs.size + j)) = some (.int .i64 z) ∧ (Lit.int .i64 z).wf = true := by
   intro k hk j hj
   obtain ⟨cs', h1, h2⟩ := hx k (by omega)
   rw [hC] at h1
   obtain ⟨_, hlen, hcell⟩ := World.cells?_some h1
   obtain ⟨xs, n', -, -, -, hxl, hff⟩ := DataW.trod_struct hE h2
   have hfj : fs[j]? = some fs[j] := Array.getElem?_eq_getElem hj
   obtain ⟨ho, hk1⟩ := hone_of hone j _ hfj
   have ht : fs[j].type = I := by
    have := List.all_eq_true.1 hty fs[j] (by simp)
    simpa using this
   have hxj : xs[j]? = some (xs[j]'(by omega)) := List.getElem?_eq_getElem (by omega)
   have h3 := hff j _ hfj
   rw [ho, hk1, ht, hxj] at h3
   obtain ⟨z, hz, -, hw⟩ := DataW.trod_int hI h3
   refine ⟨z, ?_, hw⟩
   have h4 := hcell j hj
   rw [add_add] at h4
   rw [h4]
   have h5 : (cs'.drop j).take 1 = [cs'[j]'(by omega)] := by
    rw [List.drop_eq_getElem_cons (by omega)]; rfl
   rw [h5] at hz
   rw [List.getElem?_eq_getElem (by omega)]
   injection hz with hz
   rw [hz]
  obtain ⟨b, off, spot⟩ := a
  refine ⟨_, len, _, hcs, by omega, fun k j => cellNum (W.cell? (Addr.add ⟨b, off, spot⟩ (k * fs.size + j))), fun h0 => ?_⟩
  obtain ⟨z0, hz0, -⟩ := key 0 h0 0 hn
  have hspot : spot = none := by simpa [Addr.add] using World.cell?_spot hz0
  subst hspot
  have hlt : b < W.heap.size := by
   rcases Nat.lt_or_ge b W.heap.size with hlt | hge
   ·exact hlt
   ·unfold World.cell? at hz0
    rw [show (Addr.add ⟨b, off, none⟩ (0 * fs.size + 0)).block = b from by rw [block_add], Array.getElem?_eq_none hge] at hz0
    simp at hz0
  refine ⟨b, off, rfl, hlt, fun k hk j hj => ?_⟩
  obtain ⟨z, hz, hw⟩ := key k hk j hj
  dsimp only
  rw [hz]
  rw [Go.WideShapes.add_plain] at hz
  exact ⟨hz, hw⟩
theorem open_waccs {T E I : TypeId} {f0 f1 f2 f3 : Field} {fuel : Nat} {cs : List Value} {x : DataW H × List MemPlace} (hT : P.underlying T = some (.slice E)) (hE : P.underlying E = some (.struct #[f0, f1, f2, f3]))
  (hone : oneCellFields P #[f0, f1, f2, f3] = true) (hC : P.cellsOf E = 4) (hty : ([f0, f1, f2, f3].all fun f => f.type == I) = true) (hI : P.underlying I = some (.int .i64))
  (hf : DataW.trod enc P W 0 (fun _ => true) true fuel T cs = some x) :
  ∃ A len cap L, cs = [.slice A len cap] ∧ L.length = len ∧ len ≤ 9223372036854775807 ∧ AccAt W A L ∧ WfC L := by
 obtain ⟨A, len, cap, rfl, hmax, X, hX⟩ := open_wrows hT hE hone hC hty hI (by simp) hf
 have hg : ∀ i, i < len → ((List.range len).map fun k => (⟨X k 0, X k 1, X k 2, X k 3⟩ : Acc)).getD i acc0 = ⟨X i 0, X i 1, X i 2, X i 3⟩ := fun i hi2 => by
  rw [List.getD_eq_getElem?_getD, List.getElem?_map, List.getElem?_range hi2]; rfl
 refine ⟨A, len, cap, (List.range len).map fun k => ⟨X k 0, X k 1, X k 2, X k 3⟩, rfl, by simp, hmax, fun h0 => ?_, fun a ha => ?_⟩
 ·obtain ⟨b, off, e, hlt, hc⟩ := hX (by simpa using h0)
  refine ⟨b, off, e, hlt, fun i hi => ?_⟩
  have hi2 : i < len := by simpa using hi
  rw [hg i hi2]
  exact ⟨(hc i hi2 0 (by simp)).1, (hc i hi2 1 (by simp)).1, (hc i hi2 2 (by simp)).1, (hc i hi2 3 (by simp)).1⟩
 ·obtain ⟨k, hk, rfl⟩ := List.mem_map.1 ha
  have hk2 : k < len := by simpa using hk
  obtain ⟨b, off, e, hlt, hc⟩ := hX (by omega)
  exact (hc k hk2 0 (by simp)).2
theorem open_wlnks {T E I : TypeId} {f0 f1 f2 : Field} {fuel : Nat} {cs : List Value} {x : DataW H × List MemPlace} (hT : P.underlying T = some (.slice E)) (hE : P.underlying E = some (.struct #[f0, f1, f2]))
  (hone : oneCellFields P #[f0, f1, f2] = true) (hC : P.cellsOf E = 3) (hty : ([f0, f1, f2].all fun f => f.type == I) = true) (hI : P.underlying I = some (.int .i64))
  (hf : DataW.trod enc P W 0 (fun _ => true) true fuel T cs = some x) :
  ∃ A len cap K, cs = [.slice A len cap] ∧ K.length = len ∧ len ≤ 9223372036854775807 ∧ LnkAt W A K ∧ ∀ l ∈ K, WfL l := by
 obtain ⟨A, len, cap, rfl, hmax, X, hX⟩ := open_wrows hT hE hone hC hty hI (by simp) hf
 have hg : ∀ i, i < len → ((List.range len).map fun k => (⟨X k 0, X k 1, X k 2⟩ : Lnk)).getD i lnk0 = ⟨X i 0, X i 1, X i 2⟩ := fun i hi2 => by
  rw [List.getD_eq_getElem?_getD, List.getElem?_map, List.getElem?_range hi2]; rfl
 refine ⟨A, len, cap, (List.range len).map fun k => ⟨X k 0, X k 1, X k 2⟩, rfl, by simp, hmax, fun h0 => ?_, fun a ha => ?_⟩
 ·obtain ⟨b, off, e, hlt, hc⟩ := hX (by simpa using h0)
  refine ⟨b, off, e, hlt, fun i hi => ?_⟩
  have hi2 : i < len := by simpa using hi
  rw [hg i hi2]
  exact ⟨(hc i hi2 0 (by simp)).1, (hc i hi2 1 (by simp)).1, (hc i hi2 2 (by simp)).1⟩
 ·obtain ⟨k, hk, rfl⟩ := List.mem_map.1 ha
  have hk2 : k < len := by simpa using hk
  obtain ⟨b, off, e, hlt, hc⟩ := hX (by omega)
  exact ⟨(hc k hk2 0 (by simp)).2, (hc k hk2 1 (by simp)).2, (hc k hk2 2 (by simp)).2⟩
structure EntK (W : World) (A : Option Addr) (n : Nat) (L : List Acc) (B : Option Addr) (m : Nat) (K : List Lnk) : Prop where
 ln : L.length = n
 lm : K.length = m
 hz : AccAt W A L
 hy : LnkAt W B K
 wa : WfC L
 wl : ∀ l ∈ K, WfL l
end
theorem cells5 {cs : List Value} (h : cs.length = 5) : ∃ c0 c1 c2 c3 c4, cs = [c0, c1, c2, c3, c4] := by
 match cs, h with
 | [c0, c1, c2, c3, c4], _ => exact ⟨c0, c1, c2, c3, c4, rfl⟩
section
variable {H : Type} {enc : TypeId × Value → H} {W : World}
set_option maxRecDepth 100000 in
theorem open_entC {fuel : Nat} {cs : List Value} {x : DataW H × List MemPlace} (hf : DataW.trod enc Try.prog W 0 (fun _ => true) true fuel 25 cs = some x) :
  ∃ nm cur A n c L B m d K jt, cs = [.string nm, .string cur, .slice A n c, .slice B m d, .bool jt] ∧ EntK W A n L B m K := by
 obtain ⟨xs, n', -, -, hlen, hxl, hff⟩ := DataW.trod_struct Try.underlying25 hf
 have hC : Try.prog.cellsOf 25 = 5 := by kernel_rfl
 rw [hC] at hlen
 obtain ⟨c0, c1, c2, c3, c4, rfl⟩ := cells5 hlen
 have k9 : Try.prog.cellsOf 9 = 1 := by kernel_rfl
 have k22 : Try.prog.cellsOf 22 = 1 := by kernel_rfl
 have k23 : Try.prog.cellsOf 23 = 1 := by kernel_rfl
 have k4 : Try.prog.cellsOf 4 = 1 := by kernel_rfl
 have hxl' : xs.length = 5 := hxl
 have hget : ∀ i, i < 5 → ∃ y, xs[i]? = some y := fun i hi => ⟨_, List.getElem?_eq_getElem (by omega)⟩
 have h0 : DataW.trod enc Try.prog W 0 (fun _ => true) true n' 9 (([c0, c1, c2, c3, c4].drop 0).take (Try.prog.cellsOf 9)) = xs[0]? := hff 0 _ rfl
 have h1 : DataW.trod enc Try.prog W 0 (fun _ => true) true n' 9 (([c0, c1, c2, c3, c4].drop 1).take (Try.prog.cellsOf 9)) = xs[1]? := hff 1 _ rfl
 have h2 : DataW.trod enc Try.prog W 0 (fun _ => true) true n' 22 (([c0, c1, c2, c3, c4].drop 2).take (Try.prog.cellsOf 22)) = xs[2]? := hff 2 _ rfl
 have h3 : DataW.trod enc Try.prog W 0 (fun _ => true) true n' 23 (([c0, c1, c2, c3, c4].drop 3).take (Try.prog.cellsOf 23)) = xs[3]? := hff 3 _ rfl
 have h4 : DataW.trod enc Try.prog W 0 (fun _ => true) true n' 4 (([c0, c1, c2, c3, c4].drop 4).take (Try.prog.cellsOf 4)) = xs[4]? := hff 4 _ rfl
 obtain ⟨y0, e0⟩ := hget 0 (by omega)
 obtain ⟨y1, e1⟩ := hget 1 (by omega)
 obtain ⟨y2, e2⟩ := hget 2 (by omega)
 obtain ⟨y3, e3⟩ := hget 3 (by omega)
 obtain ⟨y4, e4⟩ := hget 4 (by omega)
 rw [e0] at h0
 rw [e1] at h1
 rw [e2] at h2
 rw [e3] at h3
 rw [e4] at h4
 rw [k9] at h0 h1
 rw [k22] at h2
 rw [k23] at h3
 rw [k4] at h4
 obtain ⟨nm, q0, -⟩ := DataW.trod_string Try.underlying9 h0
 obtain ⟨cur, q1, -⟩ := DataW.trod_string Try.underlying9 h1
 obtain ⟨A, n, c, L, q2, ln, -, hz, wa⟩ := open_waccs Try.underlying22 Try.underlying50 (by kernel_rfl) (by kernel_rfl) (by kernel_rfl) Try.underlying3 h2
 obtain ⟨B, m, d, K, q3, lm, -, hy, wl⟩ := open_wlnks Try.underlying23 Try.underlying46 (by kernel_rfl) (by kernel_rfl) (by kernel_rfl) Try.underlying3 h3
 obtain ⟨jt, q4, -⟩ := DataW.trod_bool Try.underlying4 h4
 simp at q0 q1 q2 q3 q4
 subst q0 q1 q2 q3 q4
 exact ⟨nm, cur, A, n, c, L, B, m, d, K, jt, rfl, ln, lm, hz, hy, wa, wl⟩
end
open Go.RowKit
def fewB (nm cur : ByteArray) (n m : Nat) : Bool := decide (n ≤ 60) && (decide (m ≤ 60) && (decide (nm.size ≤ 100) && decide (cur.size ≤ 100)))
set_option maxRecDepth 20000 in
theorem rfew9_any (nm cur : ByteArray) (A : Option Addr) (n c : Nat) (B : Option Addr) (m d : Nat) (jt : Bool) (w : World) :
  Calls Try.prog 10 #[entV nm cur A n c B m d jt] w fun e w' => e = .returned (.bool (fewB nm cur n m)) ∧ Below w.heap.size w w' := by
 have hn := eb_new w 25 nm cur A n c B m d jt
 have hB := below_alloc_new (w := w) (.cells #[.string nm, .string cur, .slice A n c, .slice B m d, .bool jt] 25)
 obtain ⟨c0, c1, c2, c3, c4, lt⟩ := hn
 unfold fewB
 rcases Nat.lt_or_ge 60 n with h1 | h1
 ·have e1 : decide (n ≤ 60) = false := decide_eq_false (by omega)
  have e2 : decide ((n : Int) ≤ 60) = false := decide_eq_false (by omega)
  rw [e1]
  clear h1
  go_enter Try.func10, Try.ntmps10
  go_wp2_with fail
  go_ret
  exact ⟨rfl, hB⟩
 have e1 : decide (n ≤ 60) = true := decide_eq_true h1
 have e2 : decide ((n : Int) ≤ 60) = true := decide_eq_true (by omega)
 rw [e1]
 clear h1
 rcases Nat.lt_or_ge 60 m with h1 | h1
 ·have f1 : decide (m ≤ 60) = false := decide_eq_false (by omega)
  have f2 : decide ((m : Int) ≤ 60) = false := decide_eq_false (by omega)
  rw [f1]
  clear h1
  go_enter Try.func10, Try.ntmps10
  go_wp2_with fail
  go_ret
  exact ⟨rfl, hB⟩
 have f1 : decide (m ≤ 60) = true := decide_eq_true h1
 have f2 : decide ((m : Int) ≤ 60) = true := decide_eq_true (by omega)
 rw [f1]
 clear h1
 rcases Nat.lt_or_ge 100 nm.size with h1 | h1
 ·have g1 : decide (nm.size ≤ 100) = false := decide_eq_false (by omega)
  have g2 : decide ((nm.size : Int) ≤ 100) = false := decide_eq_false (by omega)
  rw [g1]
  clear h1
  go_enter Try.func10, Try.ntmps10
  go_wp2_with fail
  go_ret
  exact ⟨rfl, hB⟩
 have g1 : decide (nm.size ≤ 100) = true := decide_eq_true h1
 have g2 : decide ((nm.size : Int) ≤ 100) = true := decide_eq_true (by omega)
 rw [g1]
 clear h1
 rcases Nat.lt_or_ge 100 cur.size with h1 | h1
 ·have k1 : decide (cur.size ≤ 100) = false := decide_eq_false (by omega)
  have k2 : decide ((cur.size : Int) ≤ 100) = false := decide_eq_false (by omega)
  rw [k1]
  clear h1
  go_enter Try.func10, Try.ntmps10
  go_wp2_with fail
  go_ret
  exact ⟨rfl, hB⟩
 ·have k1 : decide (cur.size ≤ 100) = true := decide_eq_true h1
  have k2 : decide ((cur.size : Int) ≤ 100) = true := decide_eq_true (by omega)
  rw [k1]
  clear h1
  go_enter Try.func10, Try.ntmps10
  go_wp2_with fail
  go_ret
  exact ⟨rfl, hB⟩
set_option maxRecDepth 20000 in
set_option maxHeartbeats 3200000 in
theorem cat9_any (nm cur : ByteArray) (A : Option Addr) (c : Nat) (L : List Acc) (B : Option Addr) (d : Nat) (K : List Lnk) (jt : Bool) (code day : Int) (w : World) (hz : AccAt w A L) (hy : LnkAt w B K) (hl : L.length ≤ 1000) (hm : K.length ≤ 1000) :
  Calls Try.prog 13 #[entV nm cur A L.length c B K.length d jt, .int .i64 code, .int .i64 day] w fun e w' => e = .returned (.tuple #[.int .i64 (atV L K code day), .int .i64 (atE L K code day)]) ∧ Below w.heap.size w w' := by
 have hn := eb_new w 25 nm cur A L.length c B K.length d jt
 have hB := below_alloc_new (w := w) (.cells #[.string nm, .string cur, .slice A L.length c, .slice B K.length d, .bool jt] 25)
 have HEB := Lib.hid hn
 have hz2 := hz.up hB
 have hy2 := hy.up hB
 have hf := fun w h => cfind_any A c L code w h hl
 have hu := fun w h => cuntil_any B d K code day w h (by omega)
 have hv := fun w => vd_any day w
 have hE : atE L K code day = if vdB day = true then if (fnd L code).isSome = true then match atO K code day with
  | none => 15
  | some _ => 0
 else 8 else 2 := rfl
 have hV : atV L K code day = if vdB day = true then if (fnd L code).isSome = true then match atO K code day with
  | none => 0
  | some l => l.tgt
 else 0 else 0 := rfl
 have hO := atO_flt (K := K) (code := code) (day := day)
 have hfl := fltL_len (K := K) (code := code) (day := day)
 generalize atE L K code day = re at *
 generalize atV L K code day = rv at *
 generalize fndA L code = fa at *
 generalize L.length = n at *
 generalize fltL code day K = FK at *
 obtain ⟨m, hm2⟩ : ∃ m, K.length = m := ⟨_, rfl⟩
 rw [hm2] at hm HEB hB hz2 hy2 hn hu hfl ⊢
 obtain ⟨c0, c1, c2, c3, c4, lt⟩ := hn
 have HZ := Lib.hid hz2
 have HY := Lib.hid hy2
 have HU := Lib.hid hu
 have HFL := Lib.hid hfl
 clear hm2 hz hy hy2 hz2 hu hfl
 cases hq : vdB day
 ·rw [hq] at hv hE hV
  have HE := Lib.hid hE
  have HV := Lib.hid hV
  have HVd := Lib.hid hv
  clear hv hE hV hq hf hO
  go_enter Try.func13, Try.ntmps13
  go_wp2_with (go_at_call 28; refine (HVd.out _).mono ?_; rintro e w1 ⟨rfl, rfl⟩)
  go_ret2
  exact ⟨by rw [HE.out, HV.out]; rfl, hB⟩
 rw [hq, if_pos rfl] at hE hV
 rw [hq] at hv
 have HVd := Lib.hid hv
 clear hq hv
 cases hfs : (fnd L code).isSome
 ·rw [hfs] at hf hE hV
  have HE := Lib.hid hE
  have HV := Lib.hid hV
  have HF := Lib.hid hf
  clear hE hV hf hfs hO
  go_enter Try.func13, Try.ntmps13
  go_wp2_with (first
   | (go_at_call 28; refine (HVd.out _).mono ?_; rintro e w1 ⟨rfl, rfl⟩)
   | (go_at_call 29; refine (HF.out _ HZ.out).mono ?_; rintro e w2 ⟨rfl, hb⟩; replace hB := below_new (below_more hB hb) (.cells #[.int .i64 fa.code, .int .i64 fa.kind, .int .i64 fa.basis, .int .i64 fa.par] 50); clear hb))
  go_ret2
  exact ⟨by rw [HE.out, HV.out]; rfl, hB⟩
 rw [hfs, if_pos rfl] at hE hV
 rw [hfs] at hf
 have HF := Lib.hid hf
 clear hf hfs
 by_cases h0 : FK.length = 0
 ·rw [if_pos h0] at hO
  rw [hO] at hE hV
  have HE := Lib.hid hE
  have HV := Lib.hid hV
  have e0 : ((FK.length : Int) == 0) = true := by simp [h0]
  clear hO hE hV h0
  go_enter Try.func13, Try.ntmps13
  go_wp2_with (first
   | (go_at_call 28; refine (HVd.out _).mono ?_; rintro e w1 ⟨rfl, rfl⟩)
   | (go_at_call 29; refine (HF.out _ HZ.out).mono ?_; rintro e w2 ⟨rfl, hb⟩; replace HEB := Lib.hid ((HEB.out.up hb).up (below_alloc_new (.cells #[.int .i64 fa.code, .int .i64 fa.kind, .int .i64 fa.basis, .int .i64 fa.par] 50))); replace HY := Lib.hid ((HY.out.up hb).up (below_alloc_new (.cells #[.int .i64 fa.code, .int .i64 fa.kind, .int .i64 fa.basis, .int .i64 fa.par] 50))); replace hB := below_new (below_more hB hb) (.cells #[.int .i64 fa.code, .int .i64 fa.kind, .int .i64 fa.basis, .int .i64 fa.par] 50); clear hb c0 c1 c2 c3 c4 lt; obtain ⟨c0, c1, c2, c3, c4, lt⟩ := HEB.out)
   | (go_at_call 30; refine (HU.out _ HY.out).mono ?_; rintro e w3 ⟨v, rfl, ho, hb⟩; obtain ⟨A3, c3', rfl, hr3⟩ := ho.reads; replace hB := below_more hB hb; clear ho hr3 hb))
  go_ret2
  exact ⟨by rw [HE.out, HV.out]; rfl, hB⟩
 ·rw [if_neg h0] at hO
  rw [hO] at hE hV
  have hE2 : re = 0 := hE
  have hV2 : rv = (mxL FK).tgt := hV
  have HE := Lib.hid hE2
  have HV := Lib.hid hV2
  have e0 : ((FK.length : Int) == 0) = false := by simp; intro h; exact h0 (by rw [h]; rfl)
  have hmx := fun A cp w h => cmax_any A cp FK w h (by omega) (by have := HFL.out; omega)
  obtain ⟨z, hzz⟩ : ∃ z, mxL FK = z := ⟨_, rfl⟩
  rw [hzz] at hmx
  have HZZ := Lib.hid hzz
  have HMX := Lib.hid hmx
  have HFK : Hid (FK.length ≠ 0) := Lib.hid h0
  clear hO hE hV h0 hE2 hV2 hmx hzz
  obtain ⟨k, hk⟩ : ∃ k, FK.length = k := ⟨_, rfl⟩
  rw [hk] at e0 HMX
  have HK := Lib.hid hk
  clear hk
  go_enter Try.func13, Try.ntmps13
  go_wp2_with (first
   | (go_at_call 28; refine (HVd.out _).mono ?_; rintro e w1 ⟨rfl, rfl⟩)
   | (go_at_call 29; refine (HF.out _ HZ.out).mono ?_; rintro e w2 ⟨rfl, hb⟩; replace HEB := Lib.hid ((HEB.out.up hb).up (below_alloc_new (.cells #[.int .i64 fa.code, .int .i64 fa.kind, .int .i64 fa.basis, .int .i64 fa.par] 50))); replace HY := Lib.hid ((HY.out.up hb).up (below_alloc_new (.cells #[.int .i64 fa.code, .int .i64 fa.kind, .int .i64 fa.basis, .int .i64 fa.par] 50))); replace hB := below_new (below_more hB hb) (.cells #[.int .i64 fa.code, .int .i64 fa.kind, .int .i64 fa.basis, .int .i64 fa.par] 50); clear hb c0 c1 c2 c3 c4 lt; obtain ⟨c0, c1, c2, c3, c4, lt⟩ := HEB.out)
   | (go_at_call 30; refine (HU.out _ HY.out).mono ?_; rintro e w3 ⟨v, rfl, ho, hb⟩; obtain ⟨A3, c3', hve, hr3⟩ := ho.reads; rw [HK.out] at hve; subst hve; replace hB := below_more hB hb; have HR3 := Lib.hid hr3; clear ho hr3 hb)
   | (go_at_call 31; refine (HMX.out _ _ _ HR3.out).mono ?_; rintro e w4 ⟨rfl, hb⟩; have HL4 := lb_new w4 46 z; obtain ⟨⟨y0, y1, y2⟩, ylt⟩ := HL4; simp only [Nat.zero_add] at y1 y2; replace hB := below_new (below_more hB hb) (.cells #[.int .i64 z.frm, .int .i64 z.tgt, .int .i64 z.since] 46); clear hb))
  go_ret2
  exact ⟨by rw [HE.out, HV.out, HZZ.out]; rfl, hB⟩
abbrev mexA : List Acc := [⟨100, 1, 0, 0⟩]
abbrev mexK : List Lnk := [⟨100, 1000, 0⟩, ⟨100, 1100, 50⟩]
theorem mex_v1 : atV mexA mexK 100 49 = 1000 := by kernel_rfl
theorem mex_e1 : atE mexA mexK 100 49 = 0 := by kernel_rfl
theorem mex_v2 : atV mexA mexK 100 (-1) = 0 := by kernel_rfl
theorem mex_e2 : atE mexA mexK 100 (-1) = 15 := by kernel_rfl
theorem mexA_at (w : World) (t : TypeId) : AccAt (w.alloc (.cells #[.int .i64 100, .int .i64 1, .int .i64 0, .int .i64 0] t)) (some ⟨w.heap.size, 0, none⟩) mexA := fun _ => by
 refine ⟨w.heap.size, 0, rfl, by simp, fun i hi => ?_⟩
 match i, hi with
 | 0, _ => constructor <;> (simp only [World.cell?]; rw [heap_alloc_new]; rfl)
theorem mexK_at (w : World) (t : TypeId) : LnkAt (w.alloc (.cells #[.int .i64 100, .int .i64 1000, .int .i64 0, .int .i64 100, .int .i64 1100, .int .i64 50] t)) (some ⟨w.heap.size, 0, none⟩) mexK := fun _ => by
 refine ⟨w.heap.size, 0, rfl, by simp, fun i hi => ?_⟩
 match i, hi with
 | 0, _ => constructor <;> (simp only [World.cell?]; rw [heap_alloc_new]; rfl)
 | 1, _ => constructor <;> (simp only [World.cell?]; rw [heap_alloc_new]; rfl)
set_option maxRecDepth 20000 in
set_option maxHeartbeats 1600000 in
theorem mpawake_any (w : World) : Calls Try.prog 9 #[] w fun e w' => e = .returned (.bool true) ∧ Below w.heap.size w w' := by
 have hz := mexA_at w 50
 have hB1 := below_alloc_new (w := w) (.cells #[.int .i64 100, .int .i64 1, .int .i64 0, .int .i64 0] 50)
 have hy := mexK_at (w.alloc (.cells #[.int .i64 100, .int .i64 1, .int .i64 0, .int .i64 0] 50)) 46
 have e1 : (w.alloc (.cells #[.int .i64 100, .int .i64 1, .int .i64 0, .int .i64 0] 50)).heap.size = w.heap.size + 1 := by simp
 rw [e1] at hy
 have hB2 := below_new hB1 (.cells #[.int .i64 100, .int .i64 1000, .int .i64 0, .int .i64 100, .int .i64 1100, .int .i64 50] 46)
 have hz2 := hz.up (below_alloc_new (.cells #[.int .i64 100, .int .i64 1000, .int .i64 0, .int .i64 100, .int .i64 1100, .int .i64 50] 46))
 have e2 : ((w.alloc (.cells #[.int .i64 100, .int .i64 1, .int .i64 0, .int .i64 0] 50)).alloc (.cells #[.int .i64 100, .int .i64 1000, .int .i64 0, .int .i64 100, .int .i64 1100, .int .i64 50] 46)).heap.size = w.heap.size + 2 := by simp
 have hE := eb_new ((w.alloc (.cells #[.int .i64 100, .int .i64 1, .int .i64 0, .int .i64 0] 50)).alloc (.cells #[.int .i64 100, .int .i64 1000, .int .i64 0, .int .i64 100, .int .i64 1100, .int .i64 50] 46)) 25 ⟨#[]⟩ ⟨#[]⟩ (some ⟨w.heap.size, 0, none⟩) 1 1 (some ⟨w.heap.size + 1, 0, none⟩) 2 2 false
 rw [e2] at hE
 have hup := below_alloc_new (w := (w.alloc (.cells #[.int .i64 100, .int .i64 1, .int .i64 0, .int .i64 0] 50)).alloc (.cells #[.int .i64 100, .int .i64 1000, .int .i64 0, .int .i64 100, .int .i64 1100, .int .i64 50] 46)) (.cells #[.string ⟨#[]⟩, .string ⟨#[]⟩, .slice (some ⟨w.heap.size, 0, none⟩) 1 1, .slice (some ⟨w.heap.size + 1, 0, none⟩) 2 2, .bool false] 25)
 have hB := below_more hB2 hup
 have HZ := Lib.hid (hz2.up hup)
 have HY := Lib.hid (hy.up hup)
 have HE := Lib.hid hE
 have h1 := fun w9 h h' => cat9_any ⟨#[]⟩ ⟨#[]⟩ (some ⟨w.heap.size, 0, none⟩) 1 mexA (some ⟨w.heap.size + 1, 0, none⟩) 2 mexK false 100 49 w9 h h' (by decide) (by decide)
 have h2 := fun w9 h h' => cat9_any ⟨#[]⟩ ⟨#[]⟩ (some ⟨w.heap.size, 0, none⟩) 1 mexA (some ⟨w.heap.size + 1, 0, none⟩) 2 mexK false 100 (-1) w9 h h' (by decide) (by decide)
 have hl1 : mexA.length = 1 := rfl
 have hl2 : mexK.length = 2 := rfl
 rw [mex_v1, mex_e1, hl1, hl2] at h1
 rw [mex_v2, mex_e2, hl1, hl2] at h2
 have H1 := Lib.hid h1
 have H2 := Lib.hid h2
 clear hz hB1 hy e1 hB2 hz2 e2 hE hup h1 h2 hl1 hl2
 obtain ⟨c0, c1, c2, c3, c4, lt⟩ := HE.out
 go_enter Try.func9, Try.ntmps9
 go_wp2_with (go_at_call 13; first
  | ((with_reducible refine (H1.out _ HZ.out HY.out).mono ?_); rintro e w1 ⟨rfl, hb⟩; replace HZ := Lib.hid (HZ.out.up hb); replace HY := Lib.hid (HY.out.up hb); replace HE := Lib.hid (HE.out.up hb); replace hB := below_more hB hb; clear hb c0 c1 c2 c3 c4 lt; obtain ⟨c0, c1, c2, c3, c4, lt⟩ := HE.out)
  | ((with_reducible refine (H2.out _ HZ.out HY.out).mono ?_); rintro e w1 ⟨rfl, hb⟩; replace hB := below_more hB hb; clear hb c0 c1 c2 c3 c4 lt))
 go_ret
 exact ⟨rfl, hB⟩
theorem fewB_is {nm cur : ByteArray} {n m : Nat} (h : fewB nm cur n m = true) : n ≤ 60 ∧ m ≤ 60 := by
 unfold fewB at h
 simp only [Bool.and_eq_true, decide_eq_true_eq] at h
 exact ⟨h.1, h.2.1⟩
end Go.Proofs.Ytmahnpbjjadipaa
