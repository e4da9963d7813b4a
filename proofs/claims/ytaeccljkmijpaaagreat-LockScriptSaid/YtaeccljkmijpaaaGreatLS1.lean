/- Contracts of the functions that the statements reach, part 1: what was proved of each, callees first. -/
import Derived.Test.YtaeccljkmijpaaaGreatProg
import Derived.WalkKit
import Derived.WalkSpells
import Derived.Lib.Hide
import Derived.Deep.QuietTactic
import Derived.BigQuiet
import Derived.Deep.Draws
import Derived.Laws.Rows
import Derived.Laws.CopyOwn
import Derived.Deep.OwnRows
import Derived.Outline
import Derived.Laws.AppendOwnNone
import Derived.OwnWalk
import Derived.Laws.StructEq
import Derived.Deep.LoopGhost
import Derived.Deep.CutRange
import Derived.Handed
import Derived.ProofKit
import Derived.ChangeSlices
import Derived.OpenShut
import Derived.Carry
import Derived.LoopTactic
import Derived.Laws.Cells
import Derived.Below
import Derived.Lib.ItoaNum
import Derived.Deep.RegionHeld
import Derived.StillTail
namespace Go.Proofs.YtaeccljkmijpaaaGreat
open Go.RowKit
section
variable {k : IntKind} {t : TypeId} {w w' : World} {b o g B : Nat} {L : List Nat}
end
section
variable {k : IntKind} {t : TypeId} {w w' : World} {g B B' c : Nat} {A : Option Addr} {L : List Nat}
end
theorem below_alloc_new {w : World} (o : Obj) : Below w.heap.size w (w.alloc o) := (Below.refl _ _).alloc (Nat.le_refl _) _
theorem grown_below {B g : Nat} {a w w' : World} (h : Below B a w) (hg : w.grownBy w' (some g)) (hB : B ≤ g) (hs : B ≤ w.heap.size) : Below B a w' :=
 ⟨hg.os.trans h.os, hg.tape.trans h.tape, hg.output.trans h.output, Nat.le_trans h.size hg.size, fun i hi => (hg.block i (by omega) (by intro e; injection e; omega)).trans (h.block i hi)⟩
theorem below_drewN {B : Nat} {a w : World} (h : Below B a w) (n : Nat) : Below B a (w.drewN n) := ⟨h.os, h.tape, h.output, h.size, h.block⟩
theorem dc_drew {B : Nat} {a w : World} (h : Below B a w) : Below B a w.drew := ⟨h.os, h.tape, h.output, h.size, h.block⟩
theorem below_more {W w w' : World} (h : Below W.heap.size W w) (hb : Below w.heap.size w w') : Below W.heap.size W w' := h.trans (hb.mono h.size)
theorem dret_bool {a b : Bool} (h : a = b) : Ending.returned (.bool a) = .returned (.bool b) := by rw [h]
open Go.RowKit
def IntsAt (k : IntKind) (w : World) (A : Option Addr) (zs : List Int) : Prop := 0 < zs.length → ∃ b off, A = some ⟨b, off, none⟩ ∧ b < w.heap.size ∧ ∀ i, i < zs.length → w.cell? ⟨b, off + i, none⟩ = some (.int k (zs.getD i 0))
def OwnI (k : IntKind) (e : TypeId) (w : World) (base : Nat) (v : Value) (L : List Int) : Prop := w.ownsRow base e 1 v L.length (L.map fun d => Value.int k d)
section
variable {k : IntKind} {e : TypeId} {w w' : World} {base B : Nat} {v : Value} {A : Option Addr} {L M zs : List Int}
theorem IntsAt.nil : IntsAt k w A [] := fun h => absurd h (by simp)
theorem OwnI.nil : OwnI k e w base (.slice none 0 0) [] := World.ownsRow_nil _ _ _ _
theorem OwnI.alloc (h : OwnI k e w base v L) (o : Obj) : OwnI k e (w.alloc o) base v L := World.ownsRow.alloc h o
theorem OwnI.up (h : OwnI k e w base v L) (hb : Below w.heap.size w w') : OwnI k e w' base v L := by
 obtain ⟨h1, h2⟩ := h
 refine ⟨h1, ?_⟩
 rcases h2 with h2 | ⟨g, cap, cur, rfl, hbg, hg, rest⟩
 ·exact .inl h2
 ·have hlt : g < w.heap.size := by
   rcases Nat.lt_or_ge g w.heap.size with hlt | hge
   ·exact hlt
   ·rw [Array.getElem?_eq_none hge] at hg; cases hg
  exact .inr ⟨g, cap, cur, rfl, hbg, (hb.block g hlt).trans hg, rest⟩
theorem OwnI.ints (h : OwnI k e w base v L) : ∃ A c, v = .slice A L.length c ∧ IntsAt k w A L := by
 obtain ⟨h1, h2⟩ := h
 rcases h2 with ⟨rfl, h0⟩ | ⟨g, cap, cur, rfl, hbg, hg, hn, hcap, hsz, hcur⟩
 ·obtain rfl : L = [] := List.eq_nil_of_length_eq_zero h0
  exact ⟨none, 0, rfl, IntsAt.nil⟩
 ·refine ⟨_, cap, rfl, fun _ => ⟨g, 0, rfl, ?_, fun j hj => ?_⟩⟩
  ·rcases Nat.lt_or_ge g w.heap.size with hlt | hge
   ·exact hlt
   ·rw [Array.getElem?_eq_none hge] at hg; cases hg
  ·have h3 : cur.toList[j]? = some (Value.int k (L.getD j 0)) := by
    have : (cur.toList.take (L.length * 1))[j]? = some (Value.int k (L.getD j 0)) := by
     rw [hcur, List.getElem?_map, List.getElem?_eq_getElem hj, List.getD_eq_getElem?_getD, List.getElem?_eq_getElem hj]; rfl
    rw [List.getElem?_take] at this
    split at this
    ·exact this
    ·cases this
   simp only [World.cell?, hg, Nat.zero_add]
   simpa using h3
end
theorem infoI_int : (Tryz.prog.info? 3).map (fun i => (i.zero, i.size, i.bytes)) = some (some (.int .i64 0), 1, 8) := by kernel_rfl
structure Acc where
 code : Int
 kind : Int
 basis : Int
 par : Int
structure Bal where
 acct : Int
 amt : Int
instance : DecidableEq Bal := fun a b => decidable_of_iff (a.acct = b.acct ∧ a.amt = b.amt) (by cases a; cases b; simp)
abbrev acc0 : Acc := ⟨0, 0, 0, 0⟩
theorem getD_mem_acc {α : Type} {d : α} {L : List α} {i : Nat} (h : i < L.length) : L.getD i d ∈ L := by
 rw [List.getD_eq_getElem?_getD, List.getElem?_eq_getElem h]; exact List.getElem_mem h
theorem mem_getD_acc {α : Type} {d : α} {L : List α} {a : α} (h : a ∈ L) : ∃ i, i < L.length ∧ L.getD i d = a := by
 obtain ⟨i, hi, rfl⟩ := List.getElem_of_mem h
 exact ⟨i, hi, by rw [List.getD_eq_getElem?_getD, List.getElem?_eq_getElem hi]; rfl⟩
theorem take_succ_getD {α : Type} {d : α} {L : List α} {i : Nat} (h : i < L.length) : L.take (i + 1) = L.take i ++ [L.getD i d] := by
 rw [List.take_succ_eq_append_getElem h, List.getD_eq_getElem?_getD, List.getElem?_eq_getElem h]; rfl
theorem drop_getD {α : Type} {d : α} {L : List α} {i : Nat} (h : i < L.length) : L.drop i = L.getD i d :: L.drop (i + 1) := by
 rw [List.drop_eq_getElem_cons h, List.getD_eq_getElem?_getD, List.getElem?_eq_getElem h]; rfl
theorem all_getD {α : Type} {d : α} {p : α → Bool} {L : List α} : L.all p = true ↔ ∀ i, i < L.length → p (L.getD i d) = true := by
 rw [List.all_eq_true]
 constructor
 ·intro h i hi; exact h _ (getD_mem_acc hi)
 ·intro h x hx
  obtain ⟨i, hi, rfl⟩ := mem_getD_acc (d := d) hx
  exact h i hi
def fnd (L : List Acc) (c : Int) : Option Acc := L.find? fun a => decide (a.code = c)
theorem fnd_some {L : List Acc} {c : Int} {a : Acc} (h : fnd L c = some a) : a ∈ L ∧ a.code = c := by
 unfold fnd at h
 exact ⟨List.mem_of_find?_eq_some h, by simpa using List.find?_some h⟩
theorem fnd_none {L : List Acc} {c : Int} : fnd L c = none ↔ ∀ a ∈ L, a.code ≠ c := by
 unfold fnd; rw [List.find?_eq_none]; simp
theorem fnd_is {L : List Acc} {a : Acc} (h : a ∈ L) : ∃ b, fnd L a.code = some b := by
 cases hf : fnd L a.code with
 | some b => exact ⟨b, rfl⟩
 | none => exact absurd rfl (fnd_none.1 hf a h)
def climbN (L : List Acc) : Nat → Int → List Int
 | 0, _ => []
 | n + 1, c => match fnd L c with
  | none => []
  | some a => c :: climbN L n a.par
def climb (L : List Acc) (c : Int) : List Int := climbN L (L.length + 1) c
theorem climbN_none {L : List Acc} {n : Nat} {c : Int} (h : fnd L c = none) : climbN L n c = [] := by
 cases n with
 | zero => rfl
 | succ n => simp [climbN, h]
theorem climbN_some {L : List Acc} {n : Nat} {c : Int} {a : Acc} (h : fnd L c = some a) : climbN L (n + 1) c = c :: climbN L n a.par := by simp [climbN, h]
theorem climbN_le {L : List Acc} : ∀ {n : Nat} {c : Int}, (climbN L n c).length ≤ n
 | 0, _ => by simp [climbN]
 | n + 1, c => by
  cases h : fnd L c with
  | none => rw [climbN_none h]; simp
  | some a => rw [climbN_some h]; have := climbN_le (L := L) (n := n) (c := a.par); simp; exact this
theorem climbN_take {L : List Acc} : ∀ {m n : Nat} {c : Int}, m ≤ n → climbN L m c = (climbN L n c).take m
 | 0, n, c, _ => by simp [climbN]
 | m + 1, 0, c, h => by omega
 | m + 1, n + 1, c, h => by
  cases hf : fnd L c with
  | none => rw [climbN_none hf, climbN_none hf]; simp
  | some a => rw [climbN_some hf, climbN_some hf, climbN_take (m := m) (n := n) (by omega)]; rfl
theorem climbN_more {L : List Acc} {m n : Nat} {c : Int} (h : (climbN L n c).length < n) (hm : n ≤ m) : climbN L m c = climbN L n c := by
 have h1 := climbN_take (L := L) (c := c) hm
 have h2 : (climbN L n c).length = min n (climbN L m c).length := by rw [h1, List.length_take]
 rw [h1, List.take_of_length_le (by omega)]
theorem climbN_drop {L : List Acc} : ∀ {k n : Nat} {c : Int}, k < (climbN L n c).length → (climbN L n c).drop k = climbN L (n - k) ((climbN L n c).getD k 0)
 | k, 0, c, h => by simp [climbN] at h
 | 0, n + 1, c, h => by
  cases hf : fnd L c with
  | none => rw [climbN_none hf] at h; simp at h
  | some a => rw [climbN_some hf]; simp [climbN_some hf]
 | k + 1, n + 1, c, h => by
  cases hf : fnd L c with
  | none => rw [climbN_none hf] at h; simp at h
  | some a =>
   rw [climbN_some hf] at h ⊢
   have := climbN_drop (L := L) (k := k) (n := n) (c := a.par) (by simpa using h)
   simpa [Nat.succ_sub_succ] using this
theorem climbN_mem {L : List Acc} : ∀ {n : Nat} {c x : Int}, x ∈ climbN L n c → ∃ a ∈ L, a.code = x
 | 0, c, x, h => by simp [climbN] at h
 | n + 1, c, x, h => by
  cases hf : fnd L c with
  | none => rw [climbN_none hf] at h; simp at h
  | some a =>
   rw [climbN_some hf] at h
   rcases List.mem_cons.1 h with rfl | h
   ·exact ⟨a, (fnd_some hf).1, (fnd_some hf).2⟩
   ·exact climbN_mem h
theorem climbN_nodup {L : List Acc} {n : Nat} {c : Int} (h : (climbN L n c).length < n) : (climbN L n c).Nodup := by
 rw [List.nodup_iff_pairwise_ne, List.pairwise_iff_getElem]
 intro i j hi hj hij e
 have d1 := climbN_drop (L := L) (n := n) (c := c) hi
 have d2 := climbN_drop (L := L) (n := n) (c := c) hj
 rw [List.getD_eq_getElem?_getD, List.getElem?_eq_getElem hi] at d1
 rw [List.getD_eq_getElem?_getD, List.getElem?_eq_getElem hj] at d2
 simp only [Option.getD_some] at d1 d2
 rw [← e] at d2
 have l1 := congrArg List.length d1
 have l2 := congrArg List.length d2
 rw [List.length_drop] at l1 l2
 have := climbN_more (L := L) (m := n - i) (n := n - j) (c := (climbN L n c)[i]) (by omega) (by omega)
 rw [this] at l1
 omega
theorem nodup_subset_len {α : Type} [DecidableEq α] : ∀ {l m : List α}, l.Nodup → (∀ x ∈ l, x ∈ m) → l.length ≤ m.length
 | [], m, _, _ => by simp
 | a :: l, m, hn, hs => by
  have ha := hs a (List.mem_cons_self ..)
  rw [List.nodup_cons] at hn
  have := nodup_subset_len (l := l) (m := m.erase a) hn.2 (fun x hx => by
   rw [List.mem_erase_of_ne (by rintro rfl; exact hn.1 hx)]
   exact hs x (List.mem_cons_of_mem _ hx))
  rw [List.length_erase_of_mem ha] at this
  have h0 : 0 < m.length := List.length_pos_of_mem ha
  simp; omega
def Ends (L : List Acc) (c : Int) : Prop := ∃ n, (climbN L n c).length < n
theorem ends_climb {L : List Acc} {c : Int} (h : Ends L c) : (climb L c).length ≤ L.length := by
 obtain ⟨n, h⟩ := h
 unfold climb
 have hl : (climbN L n c).length ≤ L.length := by
  have := nodup_subset_len (l := climbN L n c) (m := L.map Acc.code) (climbN_nodup h) (fun x hx => by
   obtain ⟨a, ha, e⟩ := climbN_mem hx
   exact List.mem_map.2 ⟨a, ha, e⟩)
  simpa using this
 rcases Nat.lt_or_ge (L.length + 1) n with h1 | h1
 ·rw [climbN_take (Nat.le_of_lt h1), List.length_take]; omega
 ·rw [climbN_more h h1]; exact hl
theorem climb_ends {L : List Acc} {c : Int} (h : (climb L c).length ≤ L.length) : Ends L c := ⟨L.length + 1, by unfold climb at h; omega⟩
theorem ends_iff {L : List Acc} {c : Int} : (climb L c).length ≤ L.length ↔ Ends L c := ⟨climb_ends, ends_climb⟩
theorem ends_out {L : List Acc} {c : Int} (h : fnd L c = none) : Ends L c := ⟨1, by rw [climbN_none h]; simp⟩
theorem ends_up {L : List Acc} {c : Int} {a : Acc} (h : fnd L c = some a) (he : Ends L a.par) : Ends L c := by
 obtain ⟨n, he⟩ := he
 exact ⟨n + 1, by rw [climbN_some h]; simp; exact he⟩
def stepN (L : List Acc) : Nat → Int → Option Int
 | 0, c => some c
 | k + 1, c => match fnd L c with
  | none => none
  | some a => stepN L k a.par
theorem stepN_snoc {L : List Acc} : ∀ {k : Nat} {c d : Int} {a : Acc}, stepN L k c = some d → fnd L d = some a → stepN L (k + 1) c = some a.par
 | 0, c, d, a, h, ha => by simp [stepN] at h; subst h; simp [stepN, ha]
 | k + 1, c, d, a, h, ha => by
  cases hf : fnd L c with
  | none => simp [stepN, hf] at h
  | some x =>
   have h1 : stepN L k x.par = some d := by simpa [stepN, hf] using h
   have := stepN_snoc h1 ha
   rw [show stepN L (k + 1 + 1) c = stepN L (k + 1) x.par from by simp [stepN, hf]]
   exact this
theorem step_ends {L : List Acc} : ∀ {k : Nat} {c d : Int}, stepN L k c = some d → Ends L d → Ends L c
 | 0, c, d, h, he => by simp [stepN] at h; subst h; exact he
 | k + 1, c, d, h, he => by
  cases hf : fnd L c with
  | none => simp [stepN, hf] at h
  | some x =>
   have h1 : stepN L k x.par = some d := by simpa [stepN, hf] using h
   exact ends_up hf (step_ends h1 he)
theorem step_len {L : List Acc} : ∀ {k : Nat} {c d : Int} (n : Nat), stepN L k c = some d → (climbN L (n + k) c).length = k + (climbN L n d).length
 | 0, c, d, n, h => by simp [stepN] at h; subst h; simp
 | k + 1, c, d, n, h => by
  cases hf : fnd L c with
  | none => simp [stepN, hf] at h
  | some x =>
   have h1 : stepN L k x.par = some d := by simpa [stepN, hf] using h
   rw [show n + (k + 1) = (n + k) + 1 from rfl, climbN_some hf]
   have := step_len n h1
   simp; omega
theorem loop_no_end {L : List Acc} {k : Nat} {c : Int} (h : stepN L (k + 1) c = some c) : ¬ Ends L c := by
 rintro ⟨n, he⟩
 have h1 := step_len n h
 rw [climbN_more he (Nat.le_add_right _ _)] at h1
 omega
def lastC (L : List Acc) : Nat → Int
 | 0 => 0
 | k + 1 => (L.getD k acc0).code
theorem lastC_succ {L : List Acc} {k : Nat} : lastC L (k + 1) = (L.getD k acc0).code := rfl
def codesTo (L : List Acc) : Nat → Bool
 | 0 => true
 | k + 1 => codesTo L k && decide (lastC L k < (L.getD k acc0).code)
theorem codes_succ {L : List Acc} {k : Nat} : codesTo L (k + 1) = (codesTo L k && decide (lastC L k < (L.getD k acc0).code)) := rfl
theorem codesTo_le {L : List Acc} : ∀ {k m : Nat}, k ≤ m → codesTo L m = true → codesTo L k = true
  | k, m, h, hm => by
    induction m with
    | zero => obtain rfl : k = 0 := by omega
              exact hm
    | succ m ih =>
      rcases Nat.lt_or_ge k (m + 1) with h1 | h1
      · rw [codes_succ, Bool.and_eq_true] at hm
        exact ih (by omega) hm.1
      · obtain rfl : k = m + 1 := by omega
        exact hm
def codesB (L : List Acc) : Bool := codesTo L L.length && decide (lastC L L.length ≤ 99999)
theorem codesB_no {L : List Acc} {k : Nat} (hk : k < L.length) (h : (L.getD k acc0).code ≤ lastC L k) : codesB L = false := by
 cases h1 : codesTo L L.length with
 | false => unfold codesB; rw [h1]; rfl
 | true =>
  have := codesTo_le (k := k + 1) (by omega) h1
  rw [codes_succ, Bool.and_eq_true, decide_eq_true_eq] at this
  omega
theorem codesB_end {L : List Acc} (h : codesTo L L.length = true) : codesB L = decide (lastC L L.length ≤ 99999) := by unfold codesB; rw [h]; rfl
structure Srt (L : List Acc) : Prop where
 pos : ∀ i, i < L.length → 1 ≤ (L.getD i acc0).code
 mono : ∀ i j, i < j → j < L.length → (L.getD i acc0).code < (L.getD j acc0).code
theorem codesTo_is {L : List Acc} : ∀ {k : Nat}, codesTo L k = true → (∀ i, i < k → lastC L i < (L.getD i acc0).code)
 | 0, _ => fun i hi => by omega
 | k + 1, h => fun i hi => by
  rw [codes_succ, Bool.and_eq_true, decide_eq_true_eq] at h
  rcases Nat.lt_or_ge i k with h1 | h1
  ·exact codesTo_is h.1 i h1
  ·obtain rfl : i = k := by omega
   exact h.2
theorem codesTo_srt {L : List Acc} (h : codesTo L L.length = true) : Srt L := by
 have h1 := codesTo_is h
 have h2 : ∀ j, j < L.length → 1 ≤ (L.getD j acc0).code ∧ ∀ i, i < j → (L.getD i acc0).code < (L.getD j acc0).code := by
  intro j
  induction j with
  | zero =>
   intro hj
   have := h1 0 hj
   simp only [lastC] at this
   exact ⟨by omega, fun i hi => by omega⟩
  | succ j ih =>
   intro hj
   have h3 := h1 (j + 1) hj
   obtain ⟨h4, h5⟩ := ih (by omega)
   rw [lastC_succ] at h3
   refine ⟨by omega, fun i hi => ?_⟩
   rcases Nat.lt_or_ge i j with h6 | h6
   ·have := h5 i h6; omega
   ·obtain rfl : i = j := by omega
    exact h3
 exact ⟨fun i hi => (h2 i hi).1, fun i j hij hj => (h2 j hj).2 i hij⟩
theorem codesB_srt {L : List Acc} (h : codesB L = true) : Srt L := by
 unfold codesB at h; rw [Bool.and_eq_true] at h; exact codesTo_srt h.1
theorem Srt.inj {L : List Acc} (h : Srt L) {i j : Nat} (hi : i < L.length) (hj : j < L.length) (e : (L.getD i acc0).code = (L.getD j acc0).code) : i = j := by
 rcases Nat.lt_trichotomy i j with h1 | h1 | h1
 ·have := h.mono i j h1 hj; omega
 ·exact h1
 ·have := h.mono j i h1 hi; omega
theorem Srt.fnd_at {L : List Acc} (h : Srt L) {i : Nat} (hi : i < L.length) : fnd L (L.getD i acc0).code = some (L.getD i acc0) := by
 obtain ⟨b, hb⟩ := fnd_is (getD_mem_acc (d := acc0) hi)
 obtain ⟨h1, h2⟩ := fnd_some hb
 obtain ⟨j, hj, rfl⟩ := mem_getD_acc (d := acc0) h1
 obtain rfl := h.inj hj hi h2
 exact hb
theorem Srt.fnd_mem {L : List Acc} (h : Srt L) {a : Acc} (ha : a ∈ L) : fnd L a.code = some a := by
 obtain ⟨i, hi, rfl⟩ := mem_getD_acc (d := acc0) ha
 exact h.fnd_at hi
theorem Srt.fnd_zero {L : List Acc} (h : Srt L) : fnd L 0 = none := by
 rw [fnd_none]
 intro a ha e
 obtain ⟨i, hi, rfl⟩ := mem_getD_acc (d := acc0) ha
 have := h.pos i hi
 omega
theorem Srt.cut {L : List Acc} (h : Srt L) {c : Int} {m : Nat} (hm : m ≤ L.length) (h1 : ∀ t, t < m → (L.getD t acc0).code < c) (h2 : ∀ t, m ≤ t → t < L.length → c ≤ (L.getD t acc0).code) :
  (m < L.length ∧ (L.getD m acc0).code = c ∧ fnd L c = some (L.getD m acc0)) ∨ ((m = L.length ∨ (m < L.length ∧ c < (L.getD m acc0).code)) ∧ fnd L c = none) := by
 rcases Nat.lt_or_ge m L.length with h3 | h3
 ·rcases Int.lt_or_le c (L.getD m acc0).code with h4 | h4
  ·refine .inr ⟨.inr ⟨h3, h4⟩, ?_⟩
   rw [fnd_none]
   intro a ha e
   obtain ⟨i, hi, rfl⟩ := mem_getD_acc (d := acc0) ha
   rcases Nat.lt_or_ge i m with h5 | h5
   ·have := h1 i h5; omega
   ·rcases Nat.lt_or_ge m i with h6 | h6
    ·have := h.mono m i h6 hi; omega
    ·obtain rfl : i = m := by omega
     omega
  ·have h5 := h2 m (Nat.le_refl _) h3
   have h6 : (L.getD m acc0).code = c := by omega
   exact .inl ⟨h3, h6, by rw [← h6]; exact h.fnd_at h3⟩
 ·refine .inr ⟨.inl (by omega), ?_⟩
  rw [fnd_none]
  intro a ha e
  obtain ⟨i, hi, rfl⟩ := mem_getD_acc (d := acc0) ha
  have := h1 i (by omega); omega
def loB (g : Bool) : Int := if g then 1 else 0
def hiB (g : Bool) : Int := if g then 3 else 0
def kinB (g : Bool) (a : Acc) : Bool := decide (1 ≤ a.kind) && decide (a.kind ≤ 5) && decide (loB g ≤ a.basis) && decide (a.basis ≤ hiB g)
theorem kinB_is {g : Bool} {a : Acc} (h : kinB g a = true) : 1 ≤ a.kind ∧ a.kind ≤ 5 ∧ loB g ≤ a.basis ∧ a.basis ≤ hiB g := by
 unfold kinB at h; simp only [Bool.and_eq_true, decide_eq_true_eq] at h; exact ⟨h.1.1.1, h.1.1.2, h.1.2, h.2⟩
theorem kinB_no {g : Bool} {a : Acc} (h : kinB g a = false) : a.kind < 1 ∨ (1 ≤ a.kind ∧ 5 < a.kind) ∨ (1 ≤ a.kind ∧ a.kind ≤ 5 ∧ a.basis < loB g) ∨ (1 ≤ a.kind ∧ a.kind ≤ 5 ∧ loB g ≤ a.basis ∧ hiB g < a.basis) := by
 rcases Int.lt_or_le a.kind 1 with h1 | h1
 ·exact .inl h1
 rcases Int.lt_or_le 5 a.kind with h2 | h2
 ·exact .inr (.inl ⟨h1, h2⟩)
 rcases Int.lt_or_le a.basis (loB g) with h3 | h3
 ·exact .inr (.inr (.inl ⟨h1, h2, h3⟩))
 rcases Int.lt_or_le (hiB g) a.basis with h4 | h4
 ·exact .inr (.inr (.inr ⟨h1, h2, h3, h4⟩))
 ·unfold kinB at h
  rw [decide_eq_true h1, decide_eq_true h2, decide_eq_true h3, decide_eq_true h4] at h
  cases h
def kindsB (L : List Acc) (g : Bool) : Bool := L.all (kinB g)
def parB (L : List Acc) (a : Acc) : Bool := decide (a.par = 0) || match fnd L a.par with
 | none => false
 | some p => decide (p.kind = a.kind)
def parentsB (L : List Acc) : Bool := L.all (parB L)
def topB (L : List Acc) (a : Acc) : Bool := decide ((climb L a.code).length ≤ L.length)
def topsB (L : List Acc) : Bool := L.all (topB L)
def vB (L : List Acc) (g : Bool) : Bool := decide (L.length ≤ 200) && codesB L && kindsB L g && parentsB L && topsB L
theorem all_false_getD {α : Type} {d : α} {p : α → Bool} {L : List α} {k : Nat} (hk : k < L.length) (h : p (L.getD k d) = false) : L.all p = false := by
 rw [List.all_eq_false]
 exact ⟨_, getD_mem_acc hk, by rw [h]; simp⟩
theorem take_all_getD {α : Type} {d : α} {p : α → Bool} (L : List α) (k : Nat) (h : k < L.length) : (L.take (k + 1)).all p = ((L.take k).all p && p (L.getD k d)) := by
 rw [take_succ_getD (d := d) h, List.all_append]; simp
def cmI (x y : Int) : Int := if x < y then -1 else if y < x then 1 else 0
def fndA (L : List Acc) (c : Int) : Acc := (fnd L c).getD acc0
theorem fnd_take_succ {L : List Acc} {c : Int} {k : Nat} (hk : k < L.length) (h : fnd (L.take k) c = none) : fnd (L.take (k + 1)) c = if (L.getD k acc0).code = c then some (L.getD k acc0) else none := by
 rw [take_succ_getD (d := acc0) hk]
 unfold fnd at h ⊢
 rw [List.find?_append, h]
 simp only [Option.none_or, List.find?_cons, List.find?_nil]
 split <;> split <;> simp_all
theorem fnd_take {L : List Acc} {c : Int} {k : Nat} {a : Acc} (h : fnd (L.take k) c = some a) : fnd L c = some a := by
 unfold fnd at h ⊢
 rw [← List.take_append_drop k L, List.find?_append, h]
 rfl
def prB (L : List Acc) (a : Acc) : Bool := decide (a.par = 0) || match fnd L a.par with
 | none => false
 | some p => decide (p.code ≠ a.code) && decide (p.kind = a.kind)
def properB (L : List Acc) (g : Bool) (a : Acc) : Bool := decide (1 ≤ a.code) && decide (a.code ≤ 99999) && kinB g a && prB L a
def rowB (L : List Acc) (g : Bool) (i : Nat) : Bool := properB L g (L.getD i acc0) && (decide (i = 0) || decide ((L.getD (i - 1) acc0).code < (L.getD i acc0).code)) && topB L (L.getD i acc0)
def rowsTo (L : List Acc) (g : Bool) : Nat → Bool
 | 0 => true
 | k + 1 => rowsTo L g k && rowB L g k
theorem rowsTo_le {L : List Acc} {g : Bool} : ∀ {k m : Nat}, k ≤ m → rowsTo L g m = true → rowsTo L g k = true
  | k, m, h, hm => by
    induction m with
    | zero => obtain rfl : k = 0 := by omega
              exact hm
    | succ m ih =>
      rcases Nat.lt_or_ge k (m + 1) with h1 | h1
      · rw [rowsTo, Bool.and_eq_true] at hm
        exact ih (by omega) hm.1
      · obtain rfl : k = m + 1 := by omega
        exact hm
def rvB (L : List Acc) (g : Bool) : Bool := decide (L.length ≤ 200) && rowsTo L g L.length
theorem rvB_no {L : List Acc} {g : Bool} {k : Nat} (hk : k < L.length) (h : rowB L g k = false) : rvB L g = false := by
 cases h1 : rowsTo L g L.length with
 | false => unfold rvB; rw [h1, Bool.and_false]
 | true =>
  have := rowsTo_le (k := k + 1) (by omega) h1
  rw [rowsTo, h, Bool.and_false] at this; cases this
theorem rowsTo_is {L : List Acc} {g : Bool} : ∀ {k : Nat}, rowsTo L g k = true ↔ ∀ i, i < k → rowB L g i = true
 | 0 => ⟨fun _ i hi => by omega, fun _ => rfl⟩
 | k + 1 => by
  rw [rowsTo, Bool.and_eq_true, rowsTo_is]
  constructor
  ·rintro ⟨h1, h2⟩ i hi
   rcases Nat.lt_or_ge i k with h3 | h3
   ·exact h1 i h3
   ·obtain rfl : i = k := by omega
    exact h2
  ·intro h; exact ⟨fun i hi => h i (by omega), h k (by omega)⟩
theorem parB_is {L : List Acc} {a : Acc} : parB L a = true ↔ a.par = 0 ∨ ∃ p, fnd L a.par = some p ∧ p.kind = a.kind := by
 unfold parB
 cases fnd L a.par with
 | none => simp
 | some p => simp
theorem prB_is {L : List Acc} {a : Acc} : prB L a = true ↔ a.par = 0 ∨ ∃ p, fnd L a.par = some p ∧ p.code ≠ a.code ∧ p.kind = a.kind := by
 unfold prB
 cases fnd L a.par with
 | none => simp
 | some p => simp
theorem topB_is {L : List Acc} {a : Acc} : topB L a = true ↔ Ends L a.code := by unfold topB; rw [decide_eq_true_eq]; exact ends_iff
theorem vB_eq (L : List Acc) (g : Bool) : vB L g = rvB L g := by
 rw [Bool.eq_iff_iff]
 unfold vB rvB kindsB parentsB topsB
 simp only [Bool.and_eq_true, decide_eq_true_eq]
 rw [rowsTo_is]
 constructor
 ·rintro ⟨⟨⟨⟨h0, hc⟩, hk⟩, hp⟩, ht⟩
  refine ⟨h0, fun i hi => ?_⟩
  have hs := codesB_srt hc
  have hm := getD_mem_acc (d := acc0) hi
  unfold rowB properB
  simp only [Bool.and_eq_true, Bool.or_eq_true, decide_eq_true_eq]
  rw [List.all_eq_true] at hk hp ht
  have h1 := ht _ hm
  refine ⟨⟨⟨⟨⟨hs.pos i hi, ?_⟩, hk _ hm⟩, ?_⟩, ?_⟩, h1⟩
  ·unfold codesB at hc
   rw [Bool.and_eq_true, decide_eq_true_eq] at hc
   have h2 := hc.2
   rcases Nat.lt_or_ge i (L.length - 1) with h3 | h3
   ·have h4 := hs.mono i (L.length - 1) h3 (by omega)
    have h5 : lastC L L.length = (L.getD (L.length - 1) acc0).code := by
     obtain ⟨n, hn⟩ : ∃ n, L.length = n + 1 := ⟨L.length - 1, by omega⟩
     rw [hn]; rfl
    rw [h5] at h2; omega
   ·obtain ⟨n, hn⟩ : ∃ n, L.length = n + 1 := ⟨L.length - 1, by omega⟩
    obtain rfl : i = n := by omega
    rw [hn] at h2; exact h2
  ·rw [prB_is]
   rcases parB_is.1 (hp _ hm) with h2 | ⟨p, h2, h3⟩
   ·exact .inl h2
   ·refine .inr ⟨p, h2, fun e => ?_, h3⟩
    have h4 := (fnd_some h2).2
    have h5 : stepN L 1 (L.getD i acc0).code = some (L.getD i acc0).code := by
     simp only [stepN, hs.fnd_at hi]
     rw [← h4, e]
    exact loop_no_end h5 (topB_is.1 h1)
  ·rcases Nat.eq_zero_or_pos i with h2 | h2
   ·exact .inl h2
   ·exact .inr (hs.mono (i - 1) i (by omega) hi)
 ·rintro ⟨h0, hr⟩
  have hr2 : ∀ i, i < L.length → (properB L g (L.getD i acc0) = true ∧ (i = 0 ∨ (L.getD (i - 1) acc0).code < (L.getD i acc0).code)) ∧ topB L (L.getD i acc0) = true := by
   intro i hi
   have := hr i hi
   unfold rowB at this
   simpa only [Bool.and_eq_true, Bool.or_eq_true, decide_eq_true_eq] using this
  have hp2 : ∀ i, i < L.length → ((1 ≤ (L.getD i acc0).code ∧ (L.getD i acc0).code ≤ 99999) ∧ kinB g (L.getD i acc0) = true) ∧ prB L (L.getD i acc0) = true := by
   intro i hi
   have := (hr2 i hi).1.1
   unfold properB at this
   simpa only [Bool.and_eq_true, decide_eq_true_eq] using this
  refine ⟨⟨⟨⟨h0, ?_⟩, ?_⟩, ?_⟩, ?_⟩
  ·unfold codesB
   rw [Bool.and_eq_true, decide_eq_true_eq]
   have hct : ∀ k, k ≤ L.length → codesTo L k = true := by
    intro k
    induction k with
    | zero => intro _; rfl
    | succ k ih =>
     intro hk
     rw [codes_succ, ih (by omega), Bool.true_and, decide_eq_true_eq]
     cases k with
     | zero => have := (hp2 0 (by omega)).1.1.1; simp only [lastC]; omega
     | succ k =>
      rw [lastC_succ]
      rcases (hr2 (k + 1) (by omega)).1.2 with h1 | h1
      ·omega
      ·exact h1
   refine ⟨hct _ (Nat.le_refl _), ?_⟩
   rcases Nat.eq_zero_or_pos L.length with h1 | h1
   ·rw [h1]; simp [lastC]
   ·obtain ⟨n, hn⟩ : ∃ n, L.length = n + 1 := ⟨L.length - 1, by omega⟩
    rw [hn, lastC_succ]
    exact (hp2 n (by omega)).1.1.2
  ·rw [all_getD (d := acc0)]; intro i hi; exact (hp2 i hi).1.2
  ·rw [all_getD (d := acc0)]
   intro i hi
   rw [parB_is]
   rcases prB_is.1 (hp2 i hi).2 with h1 | ⟨p, h1, _, h3⟩
   ·exact .inl h1
   ·exact .inr ⟨p, h1, h3⟩
  ·rw [all_getD (d := acc0)]; intro i hi; exact (hr2 i hi).2
open Go.RowKit
abbrev accV (a : Acc) : Value := .agg #[.int .i64 a.code, .int .i64 a.kind, .int .i64 a.basis, .int .i64 a.par]
structure A4 (w : World) (b o : Nat) (a : Acc) : Prop where
 c0 : w.cell? ⟨b, o, none⟩ = some (.int .i64 a.code)
 c1 : w.cell? ⟨b, o + 1, none⟩ = some (.int .i64 a.kind)
 c2 : w.cell? ⟨b, o + 2, none⟩ = some (.int .i64 a.basis)
 c3 : w.cell? ⟨b, o + 3, none⟩ = some (.int .i64 a.par)
def AccAt (w : World) (A : Option Addr) (L : List Acc) : Prop := 0 < L.length → ∃ b off, A = some ⟨b, off, none⟩ ∧ b < w.heap.size ∧ ∀ i, i < L.length → A4 w b (off + i * 4) (L.getD i acc0)
structure AB (w : World) (g : Nat) (a : Acc) : Prop where
 cells : A4 w g 0 a
 lt : g < w.heap.size
 fz : ∀ i, w.frozen? ⟨g, i, none⟩ = false
section
variable {w w' : World} {b o g B : Nat} {a : Acc} {x : Bal} {A : Option Addr} {L : List Acc} {M : List Bal}
theorem A4.up (h : A4 w b o a) (hb : Below B w w') (hlt : b < B) : A4 w' b o a :=
 ⟨(hb.cell (p := ⟨b, o, none⟩) hlt).trans h.c0, (hb.cell (p := ⟨b, o + 1, none⟩) hlt).trans h.c1, (hb.cell (p := ⟨b, o + 2, none⟩) hlt).trans h.c2, (hb.cell (p := ⟨b, o + 3, none⟩) hlt).trans h.c3⟩
theorem AccAt.up (h : AccAt w A L) (hb : Below w.heap.size w w') : AccAt w' A L := fun h0 => by
 obtain ⟨b, off, e, hlt, hc⟩ := h h0
 exact ⟨b, off, e, Nat.lt_of_lt_of_le hlt hb.size, fun i hi => (hc i hi).up hb hlt⟩
theorem AB.up (h : AB w g a) (hb : Below w.heap.size w w') : AB w' g a :=
 ⟨h.cells.up hb h.lt, Nat.lt_of_lt_of_le h.lt hb.size, fun i => (hb.frozen (p := ⟨g, i, none⟩) h.lt).trans (h.fz i)⟩
end
theorem ab_new (w : World) (t : TypeId) (a : Acc) : AB (w.alloc (.cells #[.int .i64 a.code, .int .i64 a.kind, .int .i64 a.basis, .int .i64 a.par] t)) w.heap.size a := by
 refine ⟨⟨?_, ?_, ?_, ?_⟩, by simp, fun i => by simp only [World.frozen?]; rw [heap_alloc_new]; simp⟩ <;> (simp only [World.cell?]; rw [heap_alloc_new]; rfl)
def SlI (w : World) (v : Value) (L : List Int) : Prop := ∃ A c, v = .slice A L.length c ∧ IntsAt .i64 w A L
theorem OwnI.sli {e : TypeId} {w : World} {base : Nat} {v : Value} {L : List Int} (h : OwnI .i64 e w base v L) : SlI w v L := h.ints
theorem wpList_append_ik {P : Program} (w : World) {ops : Array Oper} {rest : List Oper} {o : Oper} {a : Act} {Q : Exit → Act → World → Prop} (hgd : o.guard = none) (s x : Operand) (t : TypeId)
  (ho : o.op = .call { callee := .builtin .append, args := #[s, x], argTypes := #[t, t] })
  (k : IntKind) (base : Nat) (e : TypeId) (i : TypeInfo) (bytes : Nat) (ht : P.underlying t = some (.slice e)) (hi : P.info? e = some i) (hz : i.zero = some (.int k 0))
  (hsize : i.size = 1) (hby : i.bytes = bytes) (hb8 : bytes ≤ 8)
  (v : Value) (L : List Int) (hs : a.eval s = v) (hown : OwnI k e w base v L) (X : Int) (g c : Nat) (hg : g = w.heap.size) (hx : a.eval x = .slice (some ⟨g, 0, none⟩) 1 c)
  (hlen : L.length ≤ 100000000) (hbase : base ≤ w.heap.size)
  (h : ∀ v' w', Hid (OwnI k e w' base v' (L ++ [X])) → Below base w w' → Hid (∀ b, b < w.heap.size → v.ownBlock ≠ some b → w'.heap[b]? = w.heap[b]?) → wpList P ops Q rest (a.put o.dst v') w') : wpList P ops Q (o :: rest) a (w.alloc (.cells #[.int k X] e)) := by
 subst hg
 refine wpList_append_own (w.alloc (.cells #[.int k X] e)) hgd s x t ho base e i (.int k 0) 1 bytes ht hi hz hsize hby rfl (by decide) v L.length (L.map fun d => Value.int k d) hs (World.ownsRow.alloc hown _)
  ⟨w.heap.size, 0, none⟩ 1 c [.int k X] hx rfl ?_ ?_ ?_ ?_ ?_ ?_
 ·intro j u hj
  match j, hj with
  | 0, hj =>
   simp at hj; subst hj
   unfold World.cell? Addr.add
   rw [if_pos rfl]
   dsimp only
   rw [heap_alloc_new]
   rfl
 ·intro u hu; simp at hu; subst hu; rfl
 ·unfold maxLen; omega
 ·have : (L.length + 1) * bytes ≤ (L.length + 1) * 8 := Nat.mul_le_mul_left _ hb8
  omega
 ·simp; omega
 ·intro v' w' h1 h2 _
  refine h v' w' ?_ ?_ ?_
  ·show World.ownsRow _ _ _ _ _ _ _
   rw [List.length_append, List.map_append]
   exact h1
  ·refine ((Below.refl base w).alloc hbase _).grown h2 (by simp; omega) (fun j hj => ?_)
   exact (World.ownsRow.lt hown j hj).1
  ·intro b hb hne
   rw [h2.block b (by simp; omega) (Ne.symm hne)]
   exact Below.heap_alloc w _ b hb
theorem OwnI.ne_new {k : IntKind} {e : TypeId} {w : World} {base : Nat} {v : Value} {L : List Int} (h : OwnI k e w base v L) {b : Nat} (hb : w.heap.size ≤ b) : v.ownBlock ≠ some b := fun e9 => by
 have := (World.ownsRow.lt h _ e9).2
 omega
theorem AB.blk {w w' : World} {g : Nat} {a : Acc} (h : AB w g a) (hk : w'.heap[g]? = w.heap[g]?) : AB w' g a := by
 have hc : ∀ i, w'.cell? ⟨g, i, none⟩ = w.cell? ⟨g, i, none⟩ := fun i => World.cell?_of_block hk
 refine ⟨⟨(hc _).trans h.cells.c0, (hc _).trans h.cells.c1, (hc _).trans h.cells.c2, (hc _).trans h.cells.c3⟩, ?_, fun i => ?_⟩
 ·rcases Nat.lt_or_ge g w'.heap.size with h1 | h1
  ·exact h1
  ·rw [Array.getElem?_eq_none h1] at hk
   have := hk.symm
   rw [Array.getElem?_eq_none_iff] at this
   have := h.lt; omega
 ·have := h.fz i
  unfold World.frozen? at this ⊢
  dsimp only at this ⊢
  rw [hk]; exact this
def lpB (y : Int) : Bool := decide (y % 4 = 0) && (decide (y % 100 ≠ 0) || decide (y % 400 = 0))
def lpI (y : Int) : Int := if lpB y then 1 else 0
def mdy (y m : Int) : Int := if m = 2 then 28 + lpI y else if m = 4 ∨ m = 6 ∨ m = 9 ∨ m = 11 then 30 else 31
def inYM (y m : Int) : Bool := decide (1900 ≤ y) && decide (y ≤ 2199) && decide (1 ≤ m) && decide (m ≤ 12)
def dys (y m : Int) : Int := if inYM y m then mdy y m else 0
def lpN (y : Int) : Int := (y - 1) / 4 - (y - 1) / 100 + (y - 1) / 400
def nyr (y : Int) : Int := -25567 + 365 * (y - 1900) + lpN y - 460
def mon (y m : Int) : Int := if m ≤ 1 then 0 else if m = 2 then 31 else (if m = 3 then 59 else if m = 4 then 90 else if m = 5 then 120 else if m = 6 then 151 else if m = 7 then 181 else if m = 8 then 212 else if m = 9 then 243 else if m = 10 then 273 else if m = 11 then 304 else if m = 12 then 334 else 365) + lpI y
def dno (y m d : Int) : Int := nyr y + mon y m + d - 1
theorem lpB_iff (y : Int) : lpB y = true ↔ y % 4 = 0 ∧ (y % 100 ≠ 0 ∨ y % 400 = 0) := by simp [lpB]
theorem lpI_01 (y : Int) : lpI y = 0 ∨ lpI y = 1 := by unfold lpI; split <;> simp
theorem inYM_iff {y m : Int} : inYM y m = true ↔ 1900 ≤ y ∧ y ≤ 2199 ∧ 1 ≤ m ∧ m ≤ 12 := by simp [inYM, and_assoc]
theorem nyr_succ (y : Int) (_h0 : 1900 ≤ y) : nyr (y + 1) = nyr y + 365 + lpI y := by
 unfold nyr lpN
 by_cases h : lpB y = true
 ·have h1 := (lpB_iff y).1 h
  rw [show lpI y = 1 by rw [lpI, if_pos h]]
  omega
 ·have h1 : ¬ (y % 4 = 0 ∧ (y % 100 ≠ 0 ∨ y % 400 = 0)) := fun e => h ((lpB_iff y).2 e)
  rw [show lpI y = 0 by rw [lpI, if_neg h]]
  omega
theorem nyr_1900 : nyr 1900 = -25567 := by decide
theorem nyr_2200 : nyr 2200 = 84006 := by decide
theorem nyr_step (y : Int) (k : Nat) (h0 : 1900 ≤ y) : nyr y + 365 * k ≤ nyr (y + k) := by
 induction k with
 | zero => simp
 | succ k ih =>
  have h1 := nyr_succ (y + k) (by omega)
  have h2 := lpI_01 (y + k)
  rw [show y + ((k + 1 : Nat) : Int) = y + k + 1 by omega, h1]
  omega
theorem nyr_mono {y z : Int} (h0 : 1900 ≤ y) (h : y ≤ z) : nyr y + 365 * (z - y) ≤ nyr z := by
 have h1 := nyr_step y (z - y).toNat h0
 have h2 : ((z - y).toNat : Int) = z - y := Int.toNat_of_nonneg (by omega)
 rw [h2, show y + (z - y) = z by omega] at h1
 exact h1
theorem nyr_bd {y : Int} (h0 : 1900 ≤ y) (h1 : y ≤ 2200) : -25567 ≤ nyr y ∧ nyr y ≤ 84006 := by
 have h2 := nyr_mono (Int.le_refl 1900) h0
 have h3 := nyr_mono h0 h1
 rw [nyr_1900] at h2
 rw [nyr_2200] at h3
 omega
theorem mdy_bd (y m : Int) : 28 ≤ mdy y m ∧ mdy y m ≤ 31 := by
 have := lpI_01 y
 unfold mdy
 split <;> (try split) <;> omega
theorem twelve {m : Int} (h0 : 1 ≤ m) (h1 : m ≤ 12) : m = 1 ∨ m = 2 ∨ m = 3 ∨ m = 4 ∨ m = 5 ∨ m = 6 ∨ m = 7 ∨ m = 8 ∨ m = 9 ∨ m = 10 ∨ m = 11 ∨ m = 12 := by omega
theorem mon_1 (y : Int) : mon y 1 = 0 := rfl
theorem mon_13 (y : Int) : mon y 13 = 365 + lpI y := rfl
theorem mon_succ (y m : Int) (h0 : 1 ≤ m) (h1 : m ≤ 12) : mon y (m + 1) = mon y m + mdy y m := by
 rcases twelve h0 h1 with rfl | rfl | rfl | rfl | rfl | rfl | rfl | rfl | rfl | rfl | rfl | rfl <;> simp [mon, mdy] <;> omega
theorem mon_step (y m : Int) (k : Nat) (h0 : 1 ≤ m) (h1 : m + k ≤ 13) : mon y m + 28 * k ≤ mon y (m + k) := by
 induction k with
 | zero => simp
 | succ k ih =>
  have h2 := mon_succ y (m + k) (by omega) (by omega)
  have h3 := mdy_bd y (m + k)
  have h4 := ih (by omega)
  rw [show m + ((k + 1 : Nat) : Int) = m + k + 1 by omega, h2]
  omega
theorem mon_mono {y m n : Int} (h0 : 1 ≤ m) (h : m ≤ n) (h1 : n ≤ 13) : mon y m + 28 * (n - m) ≤ mon y n := by
 have h2 : ((n - m).toNat : Int) = n - m := Int.toNat_of_nonneg (by omega)
 have h3 := mon_step y m (n - m).toNat h0 (by omega)
 rw [h2, show m + (n - m) = n by omega] at h3
 exact h3
theorem mon_bd {y m : Int} (h0 : 1 ≤ m) (h1 : m ≤ 13) : 0 ≤ mon y m ∧ mon y m ≤ 365 + lpI y := by
 have h2 := mon_mono (y := y) (Int.le_refl 1) h0 h1
 have h3 := mon_mono (y := y) h0 h1 (Int.le_refl 13)
 rw [mon_1] at h2
 rw [mon_13] at h3
 omega
structure IsCiv (n y m d : Int) : Prop where
 y0 : 1900 ≤ y
 y1 : y ≤ 2199
 m0 : 1 ≤ m
 m1 : m ≤ 12
 d0 : 1 ≤ d
 d1 : d ≤ mdy y m
 eq : n = dno y m d
theorem IsCiv.yr {n y m d : Int} (h : IsCiv n y m d) : nyr y ≤ n ∧ n < nyr (y + 1) := by
 obtain ⟨a, b, c, e, f, g, rfl⟩ := h
 have h1 := nyr_succ y a
 have h2 := mon_succ y m c e
 have h3 := mon_bd (y := y) (m := m + 1) (by omega) (by omega)
 have h4 := mon_bd (y := y) (m := m) (by omega) (by omega)
 unfold dno
 omega
theorem IsCiv.bd {n y m d : Int} (h : IsCiv n y m d) : -25567 ≤ n ∧ n ≤ 84005 := by
 have h1 := h.yr
 have h2 := nyr_bd h.y0 (by have := h.y1; omega)
 have h3 := nyr_bd (y := y + 1) (by have := h.y0; omega) (by have := h.y1; omega)
 omega
theorem IsCiv.uniq {n y m d y' m' d' : Int} (h : IsCiv n y m d) (h' : IsCiv n y' m' d') : y = y' ∧ m = m' ∧ d = d' := by
 have hy := h.yr
 have hy' := h'.yr
 obtain ⟨a, b, c, e, f, g, k⟩ := h
 obtain ⟨a', b', c', e', f', g', k'⟩ := h'
 have e1 : y = y' := by
  rcases Int.lt_trichotomy y y' with hl | hl | hl
  ·have := nyr_mono (y := y + 1) (z := y') (by omega) (by omega); omega
  ·exact hl
  ·have := nyr_mono (y := y' + 1) (z := y) (by omega) (by omega); omega
 subst e1
 unfold dno at k k'
 have s := mon_succ y m c e
 have s' := mon_succ y m' c' e'
 have e2 : m = m' := by
  rcases Int.lt_trichotomy m m' with hl | hl | hl
  ·have := mon_mono (y := y) (m := m + 1) (n := m') (by omega) (by omega) (by omega); omega
  ·exact hl
  ·have := mon_mono (y := y) (m := m' + 1) (n := m) (by omega) (by omega) (by omega); omega
 subst e2
 exact ⟨rfl, rfl, by omega⟩

/- The year, the month and the day of a number of days. -/
def civY0 (n : Int) : Int := 1900 + (n + 25567) / 365
def civY (n : Int) : Int := if n < nyr (civY0 n) then civY0 n - 1 else civY0 n
def civR (n : Int) : Int := n - nyr (civY n)
def monOf (l r : Int) : Int := if r < 31 then 1 else if r < 59 + l then 2 else if r < 90 + l then 3 else if r < 120 + l then 4 else if r < 151 + l then 5 else if r < 181 + l then 6 else if r < 212 + l then 7 else if r < 243 + l then 8 else if r < 273 + l then 9 else if r < 304 + l then 10 else if r < 334 + l then 11 else 12
def civM (n : Int) : Int := monOf (lpI (civY n)) (civR n)
def civD (n : Int) : Int := civR n - mon (civY n) (civM n) + 1
def vdB (n : Int) : Bool := decide (-25567 ≤ n) && decide (n ≤ 84005)
theorem vdB_iff {n : Int} : vdB n = true ↔ -25567 ≤ n ∧ n ≤ 84005 := by simp [vdB]
theorem lpN_bd {y : Int} (h0 : 1900 ≤ y) (h1 : y ≤ 2201) : 460 ≤ lpN y ∧ lpN y ≤ 533 := by unfold lpN; omega
theorem civY_bd {n : Int} (h0 : -25567 ≤ n) (h1 : n ≤ 84005) : 1900 ≤ civY n ∧ civY n ≤ 2199 ∧ nyr (civY n) ≤ n ∧ n < nyr (civY n + 1) := by
 unfold civY
 have e : civY0 n = 1900 + (n + 25567) / 365 := rfl
 have hk0 : 1900 ≤ civY0 n := by omega
 have hk1 : civY0 n ≤ 2200 := by omega
 have b0 := lpN_bd hk0 (by omega)
 have u : nyr (civY0 n) = -25567 + 365 * (civY0 n - 1900) + lpN (civY0 n) - 460 := rfl
 split
 ·rename_i hlt
  have hk2 : 1901 ≤ civY0 n := by
   rcases Int.lt_or_le (civY0 n) 1901 with hc | hc
   ·have hc2 : civY0 n = 1900 := by omega
    rw [hc2, nyr_1900] at hlt
    omega
   ·exact hc
  have s := nyr_succ (civY0 n - 1) (by omega)
  rw [show civY0 n - 1 + 1 = civY0 n by omega] at s ⊢
  have l := lpI_01 (civY0 n - 1)
  refine ⟨by omega, by omega, by omega, by omega⟩
 ·rename_i hge
  have s := nyr_succ (civY0 n) (by omega)
  have l := lpI_01 (civY0 n)
  refine ⟨by omega, ?_, by omega, by omega⟩
  rcases Int.lt_or_le 2199 (civY0 n) with hc | hc
  ·have hc2 : civY0 n = 2200 := by omega
   rw [hc2, nyr_2200] at hge
   omega
  ·exact hc
theorem monOf_is {l r : Int} (y : Int) (hl : lpI y = l) (h0 : 0 ≤ r) (h1 : r < 365 + l) : (1 ≤ monOf l r ∧ monOf l r ≤ 12) ∧ mon y (monOf l r) ≤ r ∧ r < mon y (monOf l r) + mdy y (monOf l r) := by
 have h01 := lpI_01 y
 rw [hl] at h01
 unfold monOf
 repeat' split
 all_goals (simp [mon, mdy, hl]; omega)
theorem civ_is {n : Int} (h : vdB n = true) : IsCiv n (civY n) (civM n) (civD n) := by
 obtain ⟨h0, h1⟩ := vdB_iff.1 h
 obtain ⟨a, b, c, d⟩ := civY_bd h0 h1
 have s := nyr_succ (civY n) a
 have r0 : 0 ≤ civR n := by unfold civR; omega
 have r1 : civR n < 365 + lpI (civY n) := by unfold civR; omega
 obtain ⟨⟨m0, m1⟩, k0, k1⟩ := monOf_is (civY n) rfl r0 r1
 have em : civM n = monOf (lpI (civY n)) (civR n) := rfl
 rw [← em] at m0 m1 k0 k1
 have ed : civD n = civR n - mon (civY n) (civM n) + 1 := rfl
 have er : civR n = n - nyr (civY n) := rfl
 refine ⟨a, b, m0, m1, by omega, by omega, ?_⟩
 unfold dno
 omega
theorem civ_eq {n y m d : Int} (h : IsCiv n y m d) : civY n = y ∧ civM n = m ∧ civD n = d :=
 (civ_is (vdB_iff.2 h.bd)).uniq h
def dayB (y m d : Int) : Bool := decide (1 ≤ d) && decide (d ≤ dys y m)
theorem dys_in {y m : Int} (h : inYM y m = true) : dys y m = mdy y m := by rw [dys, if_pos h]
theorem dys_out {y m : Int} (h : inYM y m = false) : dys y m = 0 := by rw [dys, h]; rfl
theorem dys_bd (y m : Int) : 0 ≤ dys y m ∧ dys y m ≤ 31 := by
 have := mdy_bd y m
 unfold dys
 split <;> omega
theorem dayB_iff {y m d : Int} : dayB y m d = true ↔ IsCiv (dno y m d) y m d := by
 unfold dayB
 rw [Bool.and_eq_true, decide_eq_true_eq, decide_eq_true_eq]
 constructor
 ·intro ⟨h0, h1⟩
  cases hi : inYM y m
  ·rw [dys_out hi] at h1; omega
  ·rw [dys_in hi] at h1
   obtain ⟨a, b, c, d⟩ := inYM_iff.1 hi
   exact ⟨a, b, c, d, h0, h1, rfl⟩
 ·intro h
  have hi : inYM y m = true := inYM_iff.2 ⟨h.y0, h.y1, h.m0, h.m1⟩
  rw [dys_in hi]
  exact ⟨h.d0, h.d1⟩
theorem dayB_of {n y m d : Int} (h : IsCiv n y m d) : dayB y m d = true := dayB_iff.2 (by have := h.eq; subst this; exact h)
/- What Of answers. -/
def ofN (y m d : Int) : Int := if dayB y m d then dno y m d else 0
def ofE (y m d : Int) : Int := if dayB y m d then 0 else 2
open Go.RowKit
structure Lnk where
 frm : Int
 tgt : Int
 since : Int
abbrev lnk0 : Lnk := ⟨0, 0, 0⟩
abbrev lnkV (l : Lnk) : Value := .agg #[.int .i64 l.frm, .int .i64 l.tgt, .int .i64 l.since]
structure L3 (w : World) (b o : Nat) (l : Lnk) : Prop where
 c0 : w.cell? ⟨b, o, none⟩ = some (.int .i64 l.frm)
 c1 : w.cell? ⟨b, o + 1, none⟩ = some (.int .i64 l.tgt)
 c2 : w.cell? ⟨b, o + 2, none⟩ = some (.int .i64 l.since)
def LnkAt (w : World) (A : Option Addr) (L : List Lnk) : Prop := 0 < L.length → ∃ b off, A = some ⟨b, off, none⟩ ∧ b < w.heap.size ∧ ∀ i, i < L.length → L3 w b (off + i * 3) (L.getD i lnk0)
structure LB (w : World) (g : Nat) (l : Lnk) : Prop where
 cells : L3 w g 0 l
 lt : g < w.heap.size
abbrev entV (nm cur : ByteArray) (A : Option Addr) (n c : Nat) (B : Option Addr) (m d : Nat) (jt : Bool) : Value := .agg #[.string nm, .string cur, .slice A n c, .slice B m d, .bool jt]
structure EB (w : World) (g : Nat) (nm cur : ByteArray) (A : Option Addr) (n c : Nat) (B : Option Addr) (m d : Nat) (jt : Bool) : Prop where
 c0 : w.cell? ⟨g, 0, none⟩ = some (.string nm)
 c1 : w.cell? ⟨g, 1, none⟩ = some (.string cur)
 c2 : w.cell? ⟨g, 2, none⟩ = some (.slice A n c)
 c3 : w.cell? ⟨g, 3, none⟩ = some (.slice B m d)
 c4 : w.cell? ⟨g, 4, none⟩ = some (.bool jt)
 lt : g < w.heap.size
section
variable {w w' : World} {b o g Bs m d n c : Nat} {l : Lnk} {A B : Option Addr} {L : List Lnk} {nm cur : ByteArray} {jt : Bool}
theorem L3.up (h : L3 w b o l) (hb : Below Bs w w') (hlt : b < Bs) : L3 w' b o l :=
 ⟨(hb.cell (p := ⟨b, o, none⟩) hlt).trans h.c0, (hb.cell (p := ⟨b, o + 1, none⟩) hlt).trans h.c1, (hb.cell (p := ⟨b, o + 2, none⟩) hlt).trans h.c2⟩
theorem LnkAt.up (h : LnkAt w A L) (hb : Below w.heap.size w w') : LnkAt w' A L := fun h0 => by
 obtain ⟨b, off, e, hlt, hc⟩ := h h0
 exact ⟨b, off, e, Nat.lt_of_lt_of_le hlt hb.size, fun i hi => (hc i hi).up hb hlt⟩
theorem LB.up (h : LB w g l) (hb : Below w.heap.size w w') : LB w' g l := ⟨h.cells.up hb h.lt, Nat.lt_of_lt_of_le h.lt hb.size⟩
theorem EB.up (h : EB w g nm cur A n c B m d jt) (hb : Below w.heap.size w w') : EB w' g nm cur A n c B m d jt :=
 ⟨(hb.cell (p := ⟨g, 0, none⟩) h.lt).trans h.c0, (hb.cell (p := ⟨g, 1, none⟩) h.lt).trans h.c1, (hb.cell (p := ⟨g, 2, none⟩) h.lt).trans h.c2, (hb.cell (p := ⟨g, 3, none⟩) h.lt).trans h.c3, (hb.cell (p := ⟨g, 4, none⟩) h.lt).trans h.c4, Nat.lt_of_lt_of_le h.lt hb.size⟩
end
theorem lb_new (w : World) (t : TypeId) (l : Lnk) : LB (w.alloc (.cells #[.int .i64 l.frm, .int .i64 l.tgt, .int .i64 l.since] t)) w.heap.size l := by
 refine ⟨⟨?_, ?_, ?_⟩, by simp⟩ <;> (simp only [World.cell?]; rw [heap_alloc_new]; rfl)
theorem eb_new (w : World) (t : TypeId) (nm cur : ByteArray) (A : Option Addr) (n c : Nat) (B : Option Addr) (m d : Nat) (jt : Bool) :
  EB (w.alloc (.cells #[.string nm, .string cur, .slice A n c, .slice B m d, .bool jt] t)) w.heap.size nm cur A n c B m d jt := by
 refine ⟨?_, ?_, ?_, ?_, ?_, by simp⟩ <;> (simp only [World.cell?]; rw [heap_alloc_new]; rfl)
open Go.RowKit
abbrev wr (x : Int) : Int := wrap64 x
def kOf (l : Lnk) : Int × Int := (l.frm, l.since)
def ltK (a b : Int × Int) : Prop := a.1 < b.1 ∨ a.1 = b.1 ∧ a.2 < b.2
instance (a b : Int × Int) : Decidable (ltK a b) := by unfold ltK; infer_instance
theorem ltK_irrefl (a : Int × Int) : ¬ ltK a a := by unfold ltK; omega
theorem ltK_trans {a b c : Int × Int} (h : ltK a b) (h2 : ltK b c) : ltK a c := by unfold ltK at *; omega
theorem ltK_tri {a b : Int × Int} (h : ¬ ltK a b) (h2 : ¬ ltK b a) : a = b := by
 unfold ltK at *
 exact Prod.ext (by omega) (by omega)
open Go.ChangeShapes Go.WideShapes Go.ChangeAt Go.WideMaps Go.WideElems Go.RowKit
theorem laid_out : laidOutB Tryz.prog = true := by kernel_rfl
theorem trodAll_stays {H : Type} {enc : TypeId × Value → H} {P : Program} (hl : laidOutB P = true) {W W' : World} (hb : Below W.heap.size W W') {sp : Nat → Bool} :
  ∀ {ts : List TypeId} {vs : List Value} {ds : List (DataW H)} {ps : List MemPlace}, (ts.all fun t => P.readableRec t && decide (t < P.types.size)) = true → DataW.TrodAll enc P W 0 (fun _ => true) true ts vs ds ps →
   (∀ x ∈ ps, x.block < W.heap.size) → (∀ x ∈ ps, sp x.block = true) → DataW.TrodAll enc P W' 0 sp true ts vs ds ps
 | [], vs, ds, ps, _, h, _, _ => by
  cases vs <;> cases ds <;> simp [DataW.TrodAll] at h ⊢
  exact h
 | t :: ts, vs, ds, ps, ht, h, hlt, hs => by
  obtain ⟨v, vs', d, ds', p, q, rfl, rfl, rfl, h1, h2⟩ := trodAll_cons h
  simp only [List.all_cons, Bool.and_eq_true, decide_eq_true_eq] at ht
  refine trodAll_cons_mk (WideElems.Trod_stays hl ht.1.1 ht.1.2 h1 (fun x hx => hb.same (hlt x (by simp [hx]))) fun x hx => hs x (by simp [hx])) ?_
  exact trodAll_stays hl hb ht.2 h2 (fun x hx => hlt x (by simp [hx])) fun x hx => hs x (by simp [hx])
open Go.RowKit Go.Maps Go.ChangeMaps
abbrev pairV (k : Int × Int) : Value := .agg #[.int .i64 k.1, .int .i64 k.2]
def okK (k : Int × Int) : Prop := (Lit.int .i64 k.1).wf = true ∧ (Lit.int .i64 k.2).wf = true
def klit (k : Int × Int) : Lit := .string (keyBytes [.int .i64 k.1, .int .i64 k.2])
abbrev heldP : Value → Option (DataW Value × List MemPlace) := fun v => some (.held v, [])
set_option maxRecDepth 100000 in
theorem keyLits_int {d : Nat} {x : Value} {l : List Lit} (h : Tryz.prog.keyLits (d + 1) 3 [x] = some l) : ∃ a, x = .int .i64 a ∧ l = [.int .i64 a] ∧ (Lit.int .i64 a).wf = true := by
 unfold Program.keyLits at h
 rw [Tryz.underlying3] at h
 cases x <;> simp at h
 obtain ⟨⟨rfl, h1⟩, rfl⟩ := h
 exact ⟨_, rfl, rfl, h1⟩
section
variable {w w' : World} {b n m : Nat} {f : Int × Int → Option Int}
end
open Go.RowKit
theorem lpB_eq (y : Int) : lpB y = ((y % 4 == 0) && ((y % 100 != 0) || (y % 400 == 0))) := by
 rw [Bool.eq_iff_iff, lpB_iff]; simp
theorem isLeap_any (y : Int) (w : World) (h0 : 0 ≤ y) : Calls Tryz.prog 131 #[.int .i64 y] w fun e w' => e = .returned (.bool (lpB y)) ∧ w = w' := by
 rw [lpB_eq]
 cases h1 : (y % 4 == 0)
 ·go_enter Tryz.func131, Tryz.ntmps131
  go_wp2
  go_ret
  exact ⟨rfl, rfl⟩
 ·cases h2 : (y % 100 == 0)
  ·have h2' : (y % 100 != 0) = true := by rw [bne, h2]; rfl
   rw [h2']
   go_enter Tryz.func131, Tryz.ntmps131
   go_wp2
   go_ret
   exact ⟨rfl, rfl⟩
  ·have h2' : (y % 100 != 0) = false := by rw [bne, h2]; rfl
   rw [h2']
   go_enter Tryz.func131, Tryz.ntmps131
   go_wp2
   go_ret
   exact ⟨by simp, rfl⟩
theorem rleap_any (y : Int) (w : World) (h0 : 0 ≤ y) : Calls Tryz.prog 137 #[.int .i64 y] w fun e w' => e = .returned (.bool (lpB y)) ∧ w = w' := by
 rw [lpB_eq]
 cases h1 : (y % 4 == 0)
 ·go_enter Tryz.func137, Tryz.ntmps137
  go_wp2
  go_ret
  exact ⟨rfl, rfl⟩
 ·cases h2 : (y % 100 == 0)
  ·have h2' : (y % 100 != 0) = true := by rw [bne, h2]; rfl
   rw [h2']
   go_enter Tryz.func137, Tryz.ntmps137
   go_wp2
   go_ret
   exact ⟨rfl, rfl⟩
  ·have h2' : (y % 100 != 0) = false := by rw [bne, h2]; rfl
   rw [h2']
   go_enter Tryz.func137, Tryz.ntmps137
   go_wp2
   go_ret
   exact ⟨by simp, rfl⟩
theorem vd_any (n : Int) (w : World) : Calls Tryz.prog 203 #[.int .i64 n] w fun e w' => e = .returned (.bool (vdB n)) ∧ w = w' := by
 unfold vdB
 by_cases h1 : (-25567 : Int) ≤ n
 ·rw [decide_eq_true h1]
  go_enter Tryz.func203, Tryz.ntmps203
  go_wp2
  go_ret
  exact ⟨rfl, rfl⟩
 ·rw [decide_eq_false h1]
  have h3 : decide ((-25567 : Int) ≤ n) = false := decide_eq_false h1
  clear h1
  go_enter Tryz.func203, Tryz.ntmps203
  go_wp2
  go_ret
  exact ⟨rfl, rfl⟩
theorem rvd_any (n : Int) (w : World) : Calls Tryz.prog 136 #[.int .i64 n] w fun e w' => e = .returned (.bool (vdB n)) ∧ w = w' := by
 unfold vdB
 by_cases h1 : (-25567 : Int) ≤ n
 ·rw [decide_eq_true h1]
  go_enter Tryz.func136, Tryz.ntmps136
  go_wp2
  go_ret
  exact ⟨rfl, rfl⟩
 ·rw [decide_eq_false h1]
  have h3 : decide ((-25567 : Int) ≤ n) = false := decide_eq_false h1
  clear h1
  go_enter Tryz.func136, Tryz.ntmps136
  go_wp2
  go_ret
  exact ⟨rfl, rfl⟩
theorem leapDays_any (y : Int) (w : World) (h0 : 1 ≤ y) (h1 : y ≤ 1000000) : Calls Tryz.prog 162 #[.int .i64 y] w fun e w' => e = .returned (.int .i64 (lpN y)) ∧ w = w' := by
 go_enter Tryz.func162, Tryz.ntmps162
 go_wp2
 go_ret
 exact ⟨rfl, rfl⟩
theorem newYear_any (y : Int) (w : World) (h0 : 1900 ≤ y) (h1 : y ≤ 2201) : Calls Tryz.prog 130 #[.int .i64 y] w fun e w' => e = .returned (.int .i64 (nyr y)) ∧ w = w' := by
 have hb := lpN_bd h0 h1
 have hc := lpN_bd (y := 1900) (by omega) (by omega)
 have he : nyr y = -25567 + 365 * (y - 1900) + lpN y - lpN 1900 := rfl
 rw [he]
 clear he
 go_enter Tryz.func130, Tryz.ntmps130
 go_wp2_with (go_at_call 162; refine (leapDays_any _ _ (by omega) (by omega)).mono ?_; rintro e w' ⟨rfl, rfl⟩)
 go_ret
 exact ⟨rfl, rfl⟩
theorem days_out (y m : Int) (w : World) (h : inYM y m = false) : Calls Tryz.prog 86 #[.int .i64 y, .int .i64 m] w fun e w' => e = .returned (.int .i64 0) ∧ Below w.heap.size w w' := by
 have hx : y < 1900 ∨ ¬ y < 1900 ∧ 2199 < y ∨ ¬ y < 1900 ∧ ¬ 2199 < y ∧ m < 1 ∨ ¬ y < 1900 ∧ ¬ 2199 < y ∧ ¬ m < 1 ∧ 12 < m := by
  have h2 : ¬ (1900 ≤ y ∧ y ≤ 2199 ∧ 1 ≤ m ∧ m ≤ 12) := fun e => by rw [inYM_iff.2 e] at h; cases h
  omega
 clear h
 rcases hx with h1 | ⟨h0, h1⟩ | ⟨h0, h1, h2⟩ | ⟨h0, h1, h2, h3⟩
 ·go_enter Tryz.func86, Tryz.ntmps86
  go_wp2
  go_ret
  exact ⟨rfl, (Below.refl _ _).alloc (Nat.le_refl _) _⟩
 all_goals
  go_enter Tryz.func86, Tryz.ntmps86
  go_wp2
  go_ret
  exact ⟨rfl, (Below.refl _ _).alloc (Nat.le_refl _) _⟩
theorem days_two (y : Int) (w : World) (h0 : 1900 ≤ y) (h1 : y ≤ 2199) : Calls Tryz.prog 86 #[.int .i64 y, .int .i64 2] w fun e w' => e = .returned (.int .i64 (28 + lpI y)) ∧ Below w.heap.size w w' := by
 cases hl : lpB y
 ·have hi := fun w => isLeap_any y w (by omega)
  rw [hl] at hi
  rw [show lpI y = 0 by rw [lpI, hl]; rfl]
  have HI := Lib.hid hi
  clear hi hl
  go_enter Tryz.func86, Tryz.ntmps86
  go_wp2_with (go_at_call 131; refine (HI.out _).mono ?_; rintro e w' ⟨rfl, rfl⟩)
  go_ret
  exact ⟨rfl, (Below.refl _ _).alloc (Nat.le_refl _) _⟩
 ·have hi := fun w => isLeap_any y w (by omega)
  rw [hl] at hi
  rw [show lpI y = 1 by rw [lpI, hl]; rfl]
  have HI := Lib.hid hi
  clear hi hl
  go_enter Tryz.func86, Tryz.ntmps86
  go_wp2_with (go_at_call 131; refine (HI.out _).mono ?_; rintro e w' ⟨rfl, rfl⟩)
  go_ret
  exact ⟨rfl, (Below.refl _ _).alloc (Nat.le_refl _) _⟩
theorem days_1 (y : Int) (w : World) (h0 : 1900 ≤ y) (h1 : y ≤ 2199) : Calls Tryz.prog 86 #[.int .i64 y, .int .i64 1] w fun e w' => e = .returned (.int .i64 31) ∧ Below w.heap.size w w' := by
 go_enter Tryz.func86, Tryz.ntmps86
 go_wp2
 go_ret
 exact ⟨rfl, (Below.refl _ _).alloc (Nat.le_refl _) _⟩
theorem days_3 (y : Int) (w : World) (h0 : 1900 ≤ y) (h1 : y ≤ 2199) : Calls Tryz.prog 86 #[.int .i64 y, .int .i64 3] w fun e w' => e = .returned (.int .i64 31) ∧ Below w.heap.size w w' := by
 go_enter Tryz.func86, Tryz.ntmps86
 go_wp2
 go_ret
 exact ⟨rfl, (Below.refl _ _).alloc (Nat.le_refl _) _⟩
theorem days_4 (y : Int) (w : World) (h0 : 1900 ≤ y) (h1 : y ≤ 2199) : Calls Tryz.prog 86 #[.int .i64 y, .int .i64 4] w fun e w' => e = .returned (.int .i64 30) ∧ Below w.heap.size w w' := by
 go_enter Tryz.func86, Tryz.ntmps86
 go_wp2
 go_ret
 exact ⟨rfl, (Below.refl _ _).alloc (Nat.le_refl _) _⟩
theorem days_5 (y : Int) (w : World) (h0 : 1900 ≤ y) (h1 : y ≤ 2199) : Calls Tryz.prog 86 #[.int .i64 y, .int .i64 5] w fun e w' => e = .returned (.int .i64 31) ∧ Below w.heap.size w w' := by
 go_enter Tryz.func86, Tryz.ntmps86
 go_wp2
 go_ret
 exact ⟨rfl, (Below.refl _ _).alloc (Nat.le_refl _) _⟩
theorem days_6 (y : Int) (w : World) (h0 : 1900 ≤ y) (h1 : y ≤ 2199) : Calls Tryz.prog 86 #[.int .i64 y, .int .i64 6] w fun e w' => e = .returned (.int .i64 30) ∧ Below w.heap.size w w' := by
 go_enter Tryz.func86, Tryz.ntmps86
 go_wp2
 go_ret
 exact ⟨rfl, (Below.refl _ _).alloc (Nat.le_refl _) _⟩
theorem days_7 (y : Int) (w : World) (h0 : 1900 ≤ y) (h1 : y ≤ 2199) : Calls Tryz.prog 86 #[.int .i64 y, .int .i64 7] w fun e w' => e = .returned (.int .i64 31) ∧ Below w.heap.size w w' := by
 go_enter Tryz.func86, Tryz.ntmps86
 go_wp2
 go_ret
 exact ⟨rfl, (Below.refl _ _).alloc (Nat.le_refl _) _⟩
theorem days_8 (y : Int) (w : World) (h0 : 1900 ≤ y) (h1 : y ≤ 2199) : Calls Tryz.prog 86 #[.int .i64 y, .int .i64 8] w fun e w' => e = .returned (.int .i64 31) ∧ Below w.heap.size w w' := by
 go_enter Tryz.func86, Tryz.ntmps86
 go_wp2
 go_ret
 exact ⟨rfl, (Below.refl _ _).alloc (Nat.le_refl _) _⟩
theorem days_9 (y : Int) (w : World) (h0 : 1900 ≤ y) (h1 : y ≤ 2199) : Calls Tryz.prog 86 #[.int .i64 y, .int .i64 9] w fun e w' => e = .returned (.int .i64 30) ∧ Below w.heap.size w w' := by
 go_enter Tryz.func86, Tryz.ntmps86
 go_wp2
 go_ret
 exact ⟨rfl, (Below.refl _ _).alloc (Nat.le_refl _) _⟩
theorem days_10 (y : Int) (w : World) (h0 : 1900 ≤ y) (h1 : y ≤ 2199) : Calls Tryz.prog 86 #[.int .i64 y, .int .i64 10] w fun e w' => e = .returned (.int .i64 31) ∧ Below w.heap.size w w' := by
 go_enter Tryz.func86, Tryz.ntmps86
 go_wp2
 go_ret
 exact ⟨rfl, (Below.refl _ _).alloc (Nat.le_refl _) _⟩
theorem days_11 (y : Int) (w : World) (h0 : 1900 ≤ y) (h1 : y ≤ 2199) : Calls Tryz.prog 86 #[.int .i64 y, .int .i64 11] w fun e w' => e = .returned (.int .i64 30) ∧ Below w.heap.size w w' := by
 go_enter Tryz.func86, Tryz.ntmps86
 go_wp2
 go_ret
 exact ⟨rfl, (Below.refl _ _).alloc (Nat.le_refl _) _⟩
theorem days_12 (y : Int) (w : World) (h0 : 1900 ≤ y) (h1 : y ≤ 2199) : Calls Tryz.prog 86 #[.int .i64 y, .int .i64 12] w fun e w' => e = .returned (.int .i64 31) ∧ Below w.heap.size w w' := by
 go_enter Tryz.func86, Tryz.ntmps86
 go_wp2
 go_ret
 exact ⟨rfl, (Below.refl _ _).alloc (Nat.le_refl _) _⟩
theorem days_any (y m : Int) (w : World) : Calls Tryz.prog 86 #[.int .i64 y, .int .i64 m] w fun e w' => e = .returned (.int .i64 (dys y m)) ∧ Below w.heap.size w w' := by
 cases h : inYM y m
 ·rw [dys_out h]; exact days_out y m w h
 ·rw [dys_in h]
  obtain ⟨a, b, c, d⟩ := inYM_iff.1 h
  clear h
  rcases twelve c d with rfl | rfl | rfl | rfl | rfl | rfl | rfl | rfl | rfl | rfl | rfl | rfl
  ·exact days_1 y w a b
  ·exact days_two y w a b
  ·exact days_3 y w a b
  ·exact days_4 y w a b
  ·exact days_5 y w a b
  ·exact days_6 y w a b
  ·exact days_7 y w a b
  ·exact days_8 y w a b
  ·exact days_9 y w a b
  ·exact days_10 y w a b
  ·exact days_11 y w a b
  ·exact days_12 y w a b
def mlens : Array Value := #[.int .i64 31, .int .i64 28, .int .i64 31, .int .i64 30, .int .i64 31, .int .i64 30, .int .i64 31, .int .i64 31, .int .i64 30, .int .i64 31, .int .i64 30, .int .i64 31]
theorem run_index_arr {P : Program} (t e : TypeId) (n : Nat) (cs : Array Value) (k : IntKind) (i : Nat) (v : Value) (w : World) (h : P.underlying t = some (.array n e)) (hi : i < n) (hv : cs[i]? = some v)
  (hs : ∀ w, (sizeOf e).run P w = .ok 1 w) (ha : ∀ w, (isAgg e).run P w = .ok false w) :
  (Instr.index t (.agg cs) (.int k i)).run P w = .ok v w := by
 simp [Instr.index, run_underlying h, asIntOf, hv, hi, hs, ha, go_sem]
theorem size_int (w : World) : (sizeOf 3).run Tryz.prog w = .ok 1 w := by
 have h : Tryz.t3.size = 1 := by kernel_rfl
 simp [sizeOf, h, go_sem]
theorem agg_int (w : World) : (isAgg 3).run Tryz.prog w = .ok false w := by
 simp [isAgg, run_underlying Tryz.underlying3, go_sem]
theorem rdays_out (y m : Int) (w : World) (h : inYM y m = false) : Calls Tryz.prog 97 #[.int .i64 y, .int .i64 m] w fun e w' => e = .returned (.int .i64 0) ∧ w = w' := by
 have hx : m < 1 ∨ ¬ m < 1 ∧ 12 < m ∨ ¬ m < 1 ∧ ¬ 12 < m ∧ y < 1900 ∨ ¬ m < 1 ∧ ¬ 12 < m ∧ ¬ y < 1900 ∧ 2199 < y := by
  have h2 : ¬ (1900 ≤ y ∧ y ≤ 2199 ∧ 1 ≤ m ∧ m ≤ 12) := fun e => by rw [inYM_iff.2 e] at h; cases h
  omega
 clear h
 rcases hx with h1 | ⟨h0, h1⟩ | ⟨h0, h1, h2⟩ | ⟨h0, h1, h2, h3⟩
 all_goals
  go_enter Tryz.func97, Tryz.ntmps97
  go_wp2
  go_ret
  exact ⟨rfl, rfl⟩
theorem rdays_two (y : Int) (w : World) (h0 : 1900 ≤ y) (h1 : y ≤ 2199) : Calls Tryz.prog 97 #[.int .i64 y, .int .i64 2] w fun e w' => e = .returned (.int .i64 (28 + lpI y)) ∧ w = w' := by
 have hi := fun w => rleap_any y w (by omega)
 unfold lpI
 cases hl : lpB y
 all_goals
  rw [hl] at hi
  have HI := Lib.hid hi
  clear hi hl
  have hx : ∀ W : World, (Instr.index 175 (.agg #[.int .i64 31, .int .i64 28, .int .i64 31, .int .i64 30, .int .i64 31, .int .i64 30, .int .i64 31, .int .i64 31, .int .i64 30, .int .i64 31, .int .i64 30, .int .i64 31]) (.int .i64 1)).run Tryz.prog W = .ok (.int .i64 28) W := fun W => run_index_arr (P := Tryz.prog) 175 3 12 mlens .i64 1 (.int .i64 28) W Tryz.underlying175 (by omega) rfl size_int agg_int
  go_enter Tryz.func97, Tryz.ntmps97
  go_wp2_with (go_at_call 137; refine (HI.out _).mono ?_; rintro e w' ⟨rfl, rfl⟩)
  go_ret
  exact ⟨rfl, rfl⟩
theorem rdays_1 (y : Int) (w : World) (h0 : 1900 ≤ y) (h1 : y ≤ 2199) : Calls Tryz.prog 97 #[.int .i64 y, .int .i64 1] w fun e w' => e = .returned (.int .i64 31) ∧ w = w' := by
 have hx : ∀ W : World, (Instr.index 175 (.agg #[.int .i64 31, .int .i64 28, .int .i64 31, .int .i64 30, .int .i64 31, .int .i64 30, .int .i64 31, .int .i64 31, .int .i64 30, .int .i64 31, .int .i64 30, .int .i64 31]) (.int .i64 0)).run Tryz.prog W = .ok (.int .i64 31) W := fun W => run_index_arr (P := Tryz.prog) 175 3 12 mlens .i64 0 (.int .i64 31) W Tryz.underlying175 (by omega) rfl size_int agg_int
 go_enter Tryz.func97, Tryz.ntmps97
 go_wp2
 go_ret
 exact ⟨rfl, rfl⟩
theorem rdays_3 (y : Int) (w : World) (h0 : 1900 ≤ y) (h1 : y ≤ 2199) : Calls Tryz.prog 97 #[.int .i64 y, .int .i64 3] w fun e w' => e = .returned (.int .i64 31) ∧ w = w' := by
 have hx : ∀ W : World, (Instr.index 175 (.agg #[.int .i64 31, .int .i64 28, .int .i64 31, .int .i64 30, .int .i64 31, .int .i64 30, .int .i64 31, .int .i64 31, .int .i64 30, .int .i64 31, .int .i64 30, .int .i64 31]) (.int .i64 2)).run Tryz.prog W = .ok (.int .i64 31) W := fun W => run_index_arr (P := Tryz.prog) 175 3 12 mlens .i64 2 (.int .i64 31) W Tryz.underlying175 (by omega) rfl size_int agg_int
 go_enter Tryz.func97, Tryz.ntmps97
 go_wp2
 go_ret
 exact ⟨rfl, rfl⟩
theorem rdays_4 (y : Int) (w : World) (h0 : 1900 ≤ y) (h1 : y ≤ 2199) : Calls Tryz.prog 97 #[.int .i64 y, .int .i64 4] w fun e w' => e = .returned (.int .i64 30) ∧ w = w' := by
 have hx : ∀ W : World, (Instr.index 175 (.agg #[.int .i64 31, .int .i64 28, .int .i64 31, .int .i64 30, .int .i64 31, .int .i64 30, .int .i64 31, .int .i64 31, .int .i64 30, .int .i64 31, .int .i64 30, .int .i64 31]) (.int .i64 3)).run Tryz.prog W = .ok (.int .i64 30) W := fun W => run_index_arr (P := Tryz.prog) 175 3 12 mlens .i64 3 (.int .i64 30) W Tryz.underlying175 (by omega) rfl size_int agg_int
 go_enter Tryz.func97, Tryz.ntmps97
 go_wp2
 go_ret
 exact ⟨rfl, rfl⟩
theorem rdays_5 (y : Int) (w : World) (h0 : 1900 ≤ y) (h1 : y ≤ 2199) : Calls Tryz.prog 97 #[.int .i64 y, .int .i64 5] w fun e w' => e = .returned (.int .i64 31) ∧ w = w' := by
 have hx : ∀ W : World, (Instr.index 175 (.agg #[.int .i64 31, .int .i64 28, .int .i64 31, .int .i64 30, .int .i64 31, .int .i64 30, .int .i64 31, .int .i64 31, .int .i64 30, .int .i64 31, .int .i64 30, .int .i64 31]) (.int .i64 4)).run Tryz.prog W = .ok (.int .i64 31) W := fun W => run_index_arr (P := Tryz.prog) 175 3 12 mlens .i64 4 (.int .i64 31) W Tryz.underlying175 (by omega) rfl size_int agg_int
 go_enter Tryz.func97, Tryz.ntmps97
 go_wp2
 go_ret
 exact ⟨rfl, rfl⟩
theorem rdays_6 (y : Int) (w : World) (h0 : 1900 ≤ y) (h1 : y ≤ 2199) : Calls Tryz.prog 97 #[.int .i64 y, .int .i64 6] w fun e w' => e = .returned (.int .i64 30) ∧ w = w' := by
 have hx : ∀ W : World, (Instr.index 175 (.agg #[.int .i64 31, .int .i64 28, .int .i64 31, .int .i64 30, .int .i64 31, .int .i64 30, .int .i64 31, .int .i64 31, .int .i64 30, .int .i64 31, .int .i64 30, .int .i64 31]) (.int .i64 5)).run Tryz.prog W = .ok (.int .i64 30) W := fun W => run_index_arr (P := Tryz.prog) 175 3 12 mlens .i64 5 (.int .i64 30) W Tryz.underlying175 (by omega) rfl size_int agg_int
 go_enter Tryz.func97, Tryz.ntmps97
 go_wp2
 go_ret
 exact ⟨rfl, rfl⟩
theorem rdays_7 (y : Int) (w : World) (h0 : 1900 ≤ y) (h1 : y ≤ 2199) : Calls Tryz.prog 97 #[.int .i64 y, .int .i64 7] w fun e w' => e = .returned (.int .i64 31) ∧ w = w' := by
 have hx : ∀ W : World, (Instr.index 175 (.agg #[.int .i64 31, .int .i64 28, .int .i64 31, .int .i64 30, .int .i64 31, .int .i64 30, .int .i64 31, .int .i64 31, .int .i64 30, .int .i64 31, .int .i64 30, .int .i64 31]) (.int .i64 6)).run Tryz.prog W = .ok (.int .i64 31) W := fun W => run_index_arr (P := Tryz.prog) 175 3 12 mlens .i64 6 (.int .i64 31) W Tryz.underlying175 (by omega) rfl size_int agg_int
 go_enter Tryz.func97, Tryz.ntmps97
 go_wp2
 go_ret
 exact ⟨rfl, rfl⟩
theorem rdays_8 (y : Int) (w : World) (h0 : 1900 ≤ y) (h1 : y ≤ 2199) : Calls Tryz.prog 97 #[.int .i64 y, .int .i64 8] w fun e w' => e = .returned (.int .i64 31) ∧ w = w' := by
 have hx : ∀ W : World, (Instr.index 175 (.agg #[.int .i64 31, .int .i64 28, .int .i64 31, .int .i64 30, .int .i64 31, .int .i64 30, .int .i64 31, .int .i64 31, .int .i64 30, .int .i64 31, .int .i64 30, .int .i64 31]) (.int .i64 7)).run Tryz.prog W = .ok (.int .i64 31) W := fun W => run_index_arr (P := Tryz.prog) 175 3 12 mlens .i64 7 (.int .i64 31) W Tryz.underlying175 (by omega) rfl size_int agg_int
 go_enter Tryz.func97, Tryz.ntmps97
 go_wp2
 go_ret
 exact ⟨rfl, rfl⟩
theorem rdays_9 (y : Int) (w : World) (h0 : 1900 ≤ y) (h1 : y ≤ 2199) : Calls Tryz.prog 97 #[.int .i64 y, .int .i64 9] w fun e w' => e = .returned (.int .i64 30) ∧ w = w' := by
 have hx : ∀ W : World, (Instr.index 175 (.agg #[.int .i64 31, .int .i64 28, .int .i64 31, .int .i64 30, .int .i64 31, .int .i64 30, .int .i64 31, .int .i64 31, .int .i64 30, .int .i64 31, .int .i64 30, .int .i64 31]) (.int .i64 8)).run Tryz.prog W = .ok (.int .i64 30) W := fun W => run_index_arr (P := Tryz.prog) 175 3 12 mlens .i64 8 (.int .i64 30) W Tryz.underlying175 (by omega) rfl size_int agg_int
 go_enter Tryz.func97, Tryz.ntmps97
 go_wp2
 go_ret
 exact ⟨rfl, rfl⟩
theorem rdays_10 (y : Int) (w : World) (h0 : 1900 ≤ y) (h1 : y ≤ 2199) : Calls Tryz.prog 97 #[.int .i64 y, .int .i64 10] w fun e w' => e = .returned (.int .i64 31) ∧ w = w' := by
 have hx : ∀ W : World, (Instr.index 175 (.agg #[.int .i64 31, .int .i64 28, .int .i64 31, .int .i64 30, .int .i64 31, .int .i64 30, .int .i64 31, .int .i64 31, .int .i64 30, .int .i64 31, .int .i64 30, .int .i64 31]) (.int .i64 9)).run Tryz.prog W = .ok (.int .i64 31) W := fun W => run_index_arr (P := Tryz.prog) 175 3 12 mlens .i64 9 (.int .i64 31) W Tryz.underlying175 (by omega) rfl size_int agg_int
 go_enter Tryz.func97, Tryz.ntmps97
 go_wp2
 go_ret
 exact ⟨rfl, rfl⟩
theorem rdays_11 (y : Int) (w : World) (h0 : 1900 ≤ y) (h1 : y ≤ 2199) : Calls Tryz.prog 97 #[.int .i64 y, .int .i64 11] w fun e w' => e = .returned (.int .i64 30) ∧ w = w' := by
 have hx : ∀ W : World, (Instr.index 175 (.agg #[.int .i64 31, .int .i64 28, .int .i64 31, .int .i64 30, .int .i64 31, .int .i64 30, .int .i64 31, .int .i64 31, .int .i64 30, .int .i64 31, .int .i64 30, .int .i64 31]) (.int .i64 10)).run Tryz.prog W = .ok (.int .i64 30) W := fun W => run_index_arr (P := Tryz.prog) 175 3 12 mlens .i64 10 (.int .i64 30) W Tryz.underlying175 (by omega) rfl size_int agg_int
 go_enter Tryz.func97, Tryz.ntmps97
 go_wp2
 go_ret
 exact ⟨rfl, rfl⟩
theorem rdays_12 (y : Int) (w : World) (h0 : 1900 ≤ y) (h1 : y ≤ 2199) : Calls Tryz.prog 97 #[.int .i64 y, .int .i64 12] w fun e w' => e = .returned (.int .i64 31) ∧ w = w' := by
 have hx : ∀ W : World, (Instr.index 175 (.agg #[.int .i64 31, .int .i64 28, .int .i64 31, .int .i64 30, .int .i64 31, .int .i64 30, .int .i64 31, .int .i64 31, .int .i64 30, .int .i64 31, .int .i64 30, .int .i64 31]) (.int .i64 11)).run Tryz.prog W = .ok (.int .i64 31) W := fun W => run_index_arr (P := Tryz.prog) 175 3 12 mlens .i64 11 (.int .i64 31) W Tryz.underlying175 (by omega) rfl size_int agg_int
 go_enter Tryz.func97, Tryz.ntmps97
 go_wp2
 go_ret
 exact ⟨rfl, rfl⟩
theorem rdays_any (y m : Int) (w : World) : Calls Tryz.prog 97 #[.int .i64 y, .int .i64 m] w fun e w' => e = .returned (.int .i64 (dys y m)) ∧ w = w' := by
 cases h : inYM y m
 ·rw [dys_out h]; exact rdays_out y m w h
 ·rw [dys_in h]
  obtain ⟨a, b, c, d⟩ := inYM_iff.1 h
  clear h
  rcases twelve c d with rfl | rfl | rfl | rfl | rfl | rfl | rfl | rfl | rfl | rfl | rfl | rfl
  ·exact rdays_1 y w a b
  ·exact rdays_two y w a b
  ·exact rdays_3 y w a b
  ·exact rdays_4 y w a b
  ·exact rdays_5 y w a b
  ·exact rdays_6 y w a b
  ·exact rdays_7 y w a b
  ·exact rdays_8 y w a b
  ·exact rdays_9 y w a b
  ·exact rdays_10 y w a b
  ·exact rdays_11 y w a b
  ·exact rdays_12 y w a b

/- The tests of Of, as they show. -/
theorem dayB_no {y m d : Int} (h : dayB y m d = false) : d < 1 ∨ ¬ d < 1 ∧ dys y m < d := by
 have h2 : ¬ (1 ≤ d ∧ d ≤ dys y m) := fun e => by
  have h3 : dayB y m d = true := by unfold dayB; rw [decide_eq_true e.1, decide_eq_true e.2]; rfl
  rw [h3] at h; cases h
 omega
theorem dayB_yes {y m d : Int} (h : dayB y m d = true) : ¬ d < 1 ∧ ¬ dys y m < d := by
 unfold dayB at h
 rw [Bool.and_eq_true, decide_eq_true_eq, decide_eq_true_eq] at h
 omega
theorem of_no (y m d : Int) (w : World) (h : dayB y m d = false) : Calls Tryz.prog 85 #[.int .i64 y, .int .i64 m, .int .i64 d] w fun e w' => e = .returned (.tuple #[.int .i64 0, .int .i64 2]) ∧ Below w.heap.size w w' := by
 have hx := dayB_no h
 clear h
 have hB := Below.refl w.heap.size w
 rcases hx with h1 | ⟨h1, h2⟩
 ·go_enter Tryz.func85, Tryz.ntmps85
  go_wp2
  go_ret2
  exact ⟨rfl, hB⟩
 ·go_enter Tryz.func85, Tryz.ntmps85
  go_wp2_with (go_at_call 86; refine (days_any _ _ _).mono ?_; rintro e w' ⟨rfl, hb⟩; replace hB := below_more hB hb; clear hb)
  go_ret2
  exact ⟨rfl, hB⟩
theorem of_yes (y m d : Int) (w : World) (h : dayB y m d = true) : Calls Tryz.prog 85 #[.int .i64 y, .int .i64 m, .int .i64 d] w fun e w' => e = .returned (.tuple #[.int .i64 (dno y m d), .int .i64 0]) ∧ Below w.heap.size w w' := by
 have hc := dayB_iff.1 h
 obtain ⟨h1, h2⟩ := dayB_yes h
 obtain ⟨y0, y1, m0, m1, d0, d1, -⟩ := hc
 clear h
 have hB := Below.refl w.heap.size w
 have hn := nyr_bd (y := y) (by omega) (by omega)
 have hd := mdy_bd y m
 go_enter Tryz.func85, Tryz.ntmps85
 go_wp2_with (first | (go_at_call 86; refine (days_any _ _ _).mono ?_; rintro e w' ⟨rfl, hb⟩; replace hB := below_more hB hb; clear hb) | (go_at_call 130; refine (newYear_any _ _ (by omega) (by omega)).mono ?_; rintro e w' ⟨rfl, rfl⟩))
 go_loopw [8, 9] (fun v1 v2 w1 => ∃ b : Int, 1 ≤ b ∧ b ≤ m ∧ v2 = .int .i64 b ∧ v1 = .int .i64 (nyr y + d - 1 + mon y b) ∧ Below w.heap.size w w1) (fun v1 v2 w1 => (m - intOf v2).toNat)
 case atStart => exact ⟨1, by omega, by omega, rfl, by rw [mon_1]; go_num, hB⟩
 case round =>
  obtain ⟨b, b0, b1, rfl, rfl, hB1⟩ := hrel
  have hm := mon_bd (y := y) (m := b) (by omega) (by omega)
  have hl := lpI_01 y
  by_cases hlt : b < m
  ·have hs := mon_succ y b (by omega) (by omega)
   have hb0 := mdy_bd y b
   have hi : inYM y b = true := inYM_iff.2 ⟨by omega, by omega, by omega, by omega⟩
   have hy := fun w => days_any y b w
   rw [dys_in hi] at hy
   have HY := Lib.hid hy
   have HS := Lib.hid hs
   clear hy hs hi
   go_wp2_with (go_at_call 86; refine (HY.out _).mono ?_; rintro e w' ⟨rfl, hb⟩; replace hB1 := below_more hB1 hb; clear hb)
   go_roundw
   case rel => exact ⟨b + 1, by omega, by omega, rfl, by rw [HS.out]; go_num, hB1⟩
   case measure => simp [intOf]; omega
  ·obtain rfl : b = m := by omega
   go_wp2
   go_ret2
   exact ⟨by unfold dno; go_num, hB1⟩
theorem dtof_any (y m d : Int) (w : World) : Calls Tryz.prog 85 #[.int .i64 y, .int .i64 m, .int .i64 d] w fun e w' => e = .returned (.tuple #[.int .i64 (ofN y m d), .int .i64 (ofE y m d)]) ∧ Below w.heap.size w w' := by
 unfold ofN ofE
 cases h : dayB y m d
 ·exact of_no y m d w h
 ·exact of_yes y m d w h
theorem rof_no (y m d : Int) (w : World) (h : dayB y m d = false) : Calls Tryz.prog 134 #[.int .i64 y, .int .i64 m, .int .i64 d] w fun e w' => e = .returned (.tuple #[.int .i64 0, .int .i64 2]) ∧ w = w' := by
 have hx := dayB_no h
 clear h
 rcases hx with h1 | ⟨h1, h2⟩
 ·go_enter Tryz.func134, Tryz.ntmps134
  go_wp2
  go_ret2
  exact ⟨rfl, rfl⟩
 ·go_enter Tryz.func134, Tryz.ntmps134
  go_wp2_with (go_at_call 97; refine (rdays_any _ _ _).mono ?_; rintro e w' ⟨rfl, rfl⟩)
  go_ret2
  exact ⟨rfl, rfl⟩
theorem rof_yes (y m d : Int) (w : World) (h : dayB y m d = true) : Calls Tryz.prog 134 #[.int .i64 y, .int .i64 m, .int .i64 d] w fun e w' => e = .returned (.tuple #[.int .i64 (dno y m d), .int .i64 0]) ∧ w = w' := by
 have hc := dayB_iff.1 h
 obtain ⟨h1, h2⟩ := dayB_yes h
 obtain ⟨y0, y1, m0, m1, d0, d1, -⟩ := hc
 clear h
 have hn := nyr_bd (y := y) (by omega) (by omega)
 have hd := mdy_bd y m
 go_enter Tryz.func134, Tryz.ntmps134
 go_wp2_with (go_at_call 97; refine (rdays_any _ _ _).mono ?_; rintro e w' ⟨rfl, rfl⟩)
 go_loop [8, 9] (fun v1 v2 => ∃ a : Int, 1900 ≤ a ∧ a ≤ y ∧ v2 = .int .i64 a ∧ v1 = .int .i64 (nyr a)) (fun v1 v2 => (y - intOf v2).toNat)
 case atStart => exact ⟨1900, by omega, by omega, rfl, rfl⟩
 case round =>
  obtain ⟨a, a0, a1, rfl, rfl⟩ := hrel
  have hb := nyr_bd (y := a) (by omega) (by omega)
  by_cases hlt : a < y
  ·have hs := nyr_succ a (by omega)
   have hi := fun w => rleap_any a w (by omega)
   unfold lpI at hs
   have HS := Lib.hid hs
   clear hs
   cases hl : lpB a
   all_goals
    rw [hl] at hi HS
    have HI := Lib.hid hi
    clear hi hl
    go_wp2_with (go_at_call 137; refine (HI.out _).mono ?_; rintro e w' ⟨rfl, rfl⟩)
    go_round
    case rel => exact ⟨a + 1, by omega, by omega, rfl, by first | (rw [HS.out]; done) | (rw [HS.out]; simp)⟩
    case measure => simp [intOf]; omega
  ·obtain rfl : a = y := by omega
   go_wp2
   go_loop [8, 10] (fun v1 v2 => ∃ b : Int, 1 ≤ b ∧ b ≤ m ∧ v2 = .int .i64 b ∧ v1 = .int .i64 (nyr a + mon a b)) (fun v1 v2 => (m - intOf v2).toNat)
   case atStart => exact ⟨1, by omega, by omega, rfl, by rw [mon_1]; go_num⟩
   case round =>
    obtain ⟨b, b0, b1, rfl, rfl⟩ := hrel
    have hm := mon_bd (y := a) (m := b) (by omega) (by omega)
    have hl := lpI_01 a
    by_cases hlt : b < m
    ·have hs := mon_succ a b (by omega) (by omega)
     have hb0 := mdy_bd a b
     have hi : inYM a b = true := inYM_iff.2 ⟨by omega, by omega, by omega, by omega⟩
     have hy := fun w => rdays_any a b w
     rw [dys_in hi] at hy
     have HY := Lib.hid hy
     have HS := Lib.hid hs
     clear hy hs hi
     go_wp2_with (go_at_call 97; refine (HY.out _).mono ?_; rintro e w' ⟨rfl, rfl⟩)
     go_round
     case rel => exact ⟨b + 1, by omega, by omega, rfl, by rw [HS.out]; go_num⟩
     case measure => simp [intOf]; omega
    ·obtain rfl : b = m := by omega
     go_wp2
     go_ret2
     exact ⟨by unfold dno; go_num, rfl⟩
theorem dtrof_any (y m d : Int) (w : World) : Calls Tryz.prog 134 #[.int .i64 y, .int .i64 m, .int .i64 d] w fun e w' => e = .returned (.tuple #[.int .i64 (ofN y m d), .int .i64 (ofE y m d)]) ∧ w = w' := by
 unfold ofN ofE
 cases h : dayB y m d
 ·exact rof_no y m d w h
 ·exact rof_yes y m d w h
theorem civ_no (n : Int) (w : World) (h : vdB n = false) : Calls Tryz.prog 205 #[.int .i64 n] w fun e w' => e = .returned (.tuple #[.int .i64 0, .int .i64 0, .int .i64 0, .int .i64 2]) ∧ w = w' := by
 have hv := fun w => vd_any n w
 rw [h] at hv
 have HV := Lib.hid hv
 clear hv h
 go_enter Tryz.func205, Tryz.ntmps205
 go_wp2_with (go_at_call 203; refine (HV.out _).mono ?_; rintro e w' ⟨rfl, rfl⟩)
 exact bodyPost_ret (v := .tuple #[.int .i64 0, .int .i64 0, .int .i64 0, .int .i64 2]) (by simp [results, Tryz.results205, go_sem]) rfl ⟨rfl, rfl⟩
theorem civ_loop {n y m d : Int} (h : IsCiv n y m d) {b : Int} (b0 : 1 ≤ b) (b1 : b ≤ m) : (b < m → mdy y b < n - nyr y - mon y b + 1) ∧ (b = m → ¬ mdy y b < n - nyr y - mon y b + 1) := by
 obtain ⟨y0, y1, m0, m1, d0, d1, rfl⟩ := h
 unfold dno
 constructor
 ·intro hlt
  have h1 := mon_succ y b b0 (by omega)
  have h2 := mon_mono (y := y) (m := b + 1) (n := m) (by omega) (by omega) (by omega)
  omega
 ·rintro rfl
  omega
theorem civ_yes (n y m d : Int) (w : World) (h : IsCiv n y m d) : Calls Tryz.prog 205 #[.int .i64 n] w fun e w' => e = .returned (.tuple #[.int .i64 y, .int .i64 m, .int .i64 d, .int .i64 0]) ∧ Below w.heap.size w w' := by
 have hv := fun w => vd_any n w
 have hv1 := vdB_iff.2 h.bd
 rw [hv1] at hv
 have HV := Lib.hid hv
 obtain ⟨n0, n1⟩ := h.bd
 obtain ⟨c0, c1, c2, c3⟩ := civY_bd n0 n1
 have hY := (civ_eq h).1
 have HC := Lib.hid h
 have hd : n - nyr y - mon y m + 1 = d := by have := h.eq; unfold dno at this; omega
 obtain ⟨y0, y1, m0, m1, d0, d1, -⟩ := h
 have hB := Below.refl w.heap.size w
 have e0 : civY0 n = 1900 + (n + 25567) / 365 := rfl
 have k0 : 1900 ≤ civY0 n := by omega
 have k1 : civY0 n ≤ 2200 := by omega
 have e1 : civY n = if n < nyr (civY0 n) then civY0 n - 1 else civY0 n := rfl
 clear hv hv1
 by_cases hg : n < nyr (civY0 n)
 ·rw [if_pos hg] at e1
  have e2 : civY0 n - 1 = y := by omega
  rw [e0] at hg e2 k0 k1
  have k2 : -25567 ≤ nyr (1900 + (n + 25567) / 365) ∧ nyr (1900 + (n + 25567) / 365) ≤ 84006 := nyr_bd k0 (by omega)
  have k3 : 1900 ≤ 1900 + (n + 25567) / 365 - 1 := by omega
  have k4 : -25567 ≤ nyr (1900 + (n + 25567) / 365 - 1) ∧ nyr (1900 + (n + 25567) / 365 - 1) ≤ 84006 := nyr_bd k3 (by omega)
  have E2 := Lib.hid e2
  have HD := Lib.hid hd
  clear e0 e1 e2 hY hd
  go_enter Tryz.func205, Tryz.ntmps205
  go_wp2_with (first | (go_at_call 203; refine (HV.out _).mono ?_; rintro e w' ⟨rfl, rfl⟩) | (go_at_call 130; refine (newYear_any _ _ (by omega) (by omega)).mono ?_; rintro e w' ⟨rfl, rfl⟩))
  rw [E2.out]
  go_loopw [3, 4] (fun v1 v2 w1 => ∃ b : Int, 1 ≤ b ∧ b ≤ m ∧ v1 = .int .i64 b ∧ v2 = .int .i64 (n - nyr y - mon y b + 1) ∧ Below w.heap.size w w1) (fun v1 v2 w1 => (m - intOf v1).toNat)
  case atStart => exact ⟨1, by omega, by omega, rfl, by rw [mon_1]; go_num, hB⟩
  case round =>
   obtain ⟨b, b0, b1, rfl, rfl, hB1⟩ := hrel
   have hm := mon_bd (y := y) (m := b) (by omega) (by omega)
   have hlp := lpI_01 y
   have hnb := nyr_bd (y := y) (by omega) (by omega)
   have hL := civ_loop HC.out b0 b1
   have hb0 := mdy_bd y b
   have hi : inYM y b = true := inYM_iff.2 ⟨by omega, by omega, by omega, by omega⟩
   have hy := fun w => days_any y b w
   rw [dys_in hi] at hy
   have HY := Lib.hid hy
   clear hy hi
   by_cases hlt : b < m
   ·have hs := mon_succ y b (by omega) (by omega)
    have hL2 := hL.1 hlt
    have HS := Lib.hid hs
    clear hs hL
    go_wp2_with (go_at_call 86; refine (HY.out _).mono ?_; rintro e w' ⟨rfl, hb⟩; replace hB1 := below_more hB1 hb; clear hb)
    go_roundw
    case rel => exact ⟨b + 1, by omega, by omega, rfl, by rw [HS.out]; go_num, hB1⟩
    case measure => simp [intOf]; omega
   ·obtain rfl : b = m := by omega
    have hL2 := hL.2 rfl
    clear hL hlt
    go_wp2_with (go_at_call 86; refine (HY.out _).mono ?_; rintro e w' ⟨rfl, hb⟩; replace hB1 := below_more hB1 hb; clear hb)
    exact bodyPost_ret (v := .tuple #[.int .i64 y, .int .i64 b, .int .i64 (n - nyr y - mon y b + 1), .int .i64 0]) (by simp [results, Tryz.results205, go_sem]) rfl ⟨by rw [HD.out], hB1⟩
 ·rw [if_neg hg] at e1
  have e2 : civY0 n = y := by omega
  rw [e0] at hg e2 k0 k1
  have k2 : -25567 ≤ nyr (1900 + (n + 25567) / 365) ∧ nyr (1900 + (n + 25567) / 365) ≤ 84006 := nyr_bd k0 (by omega)
  have E2 := Lib.hid e2
  have HD := Lib.hid hd
  clear e0 e1 e2 hY hd
  go_enter Tryz.func205, Tryz.ntmps205
  go_wp2_with (first | (go_at_call 203; refine (HV.out _).mono ?_; rintro e w' ⟨rfl, rfl⟩) | (go_at_call 130; refine (newYear_any _ _ (by omega) (by omega)).mono ?_; rintro e w' ⟨rfl, rfl⟩))
  rw [E2.out]
  go_loopw [3, 4] (fun v1 v2 w1 => ∃ b : Int, 1 ≤ b ∧ b ≤ m ∧ v1 = .int .i64 b ∧ v2 = .int .i64 (n - nyr y - mon y b + 1) ∧ Below w.heap.size w w1) (fun v1 v2 w1 => (m - intOf v1).toNat)
  case atStart => exact ⟨1, by omega, by omega, rfl, by rw [mon_1]; go_num, hB⟩
  case round =>
   obtain ⟨b, b0, b1, rfl, rfl, hB1⟩ := hrel
   have hm := mon_bd (y := y) (m := b) (by omega) (by omega)
   have hlp := lpI_01 y
   have hnb := nyr_bd (y := y) (by omega) (by omega)
   have hL := civ_loop HC.out b0 b1
   have hb0 := mdy_bd y b
   have hi : inYM y b = true := inYM_iff.2 ⟨by omega, by omega, by omega, by omega⟩
   have hy := fun w => days_any y b w
   rw [dys_in hi] at hy
   have HY := Lib.hid hy
   clear hy hi
   by_cases hlt : b < m
   ·have hs := mon_succ y b (by omega) (by omega)
    have hL2 := hL.1 hlt
    have HS := Lib.hid hs
    clear hs hL
    go_wp2_with (go_at_call 86; refine (HY.out _).mono ?_; rintro e w' ⟨rfl, hb⟩; replace hB1 := below_more hB1 hb; clear hb)
    go_roundw
    case rel => exact ⟨b + 1, by omega, by omega, rfl, by rw [HS.out]; go_num, hB1⟩
    case measure => simp [intOf]; omega
   ·obtain rfl : b = m := by omega
    have hL2 := hL.2 rfl
    clear hL hlt
    go_wp2_with (go_at_call 86; refine (HY.out _).mono ?_; rintro e w' ⟨rfl, hb⟩; replace hB1 := below_more hB1 hb; clear hb)
    exact bodyPost_ret (v := .tuple #[.int .i64 y, .int .i64 b, .int .i64 (n - nyr y - mon y b + 1), .int .i64 0]) (by simp [results, Tryz.results205, go_sem]) rfl ⟨by rw [HD.out], hB1⟩
theorem rciv_no (n : Int) (w : World) (h : vdB n = false) : Calls Tryz.prog 96 #[.int .i64 n] w fun e w' => e = .returned (.tuple #[.int .i64 0, .int .i64 0, .int .i64 0, .int .i64 2]) ∧ w = w' := by
 have hv := fun w => rvd_any n w
 rw [h] at hv
 have HV := Lib.hid hv
 clear hv h
 go_enter Tryz.func96, Tryz.ntmps96
 go_wp2_with (go_at_call 136; refine (HV.out _).mono ?_; rintro e w' ⟨rfl, rfl⟩)
 exact bodyPost_ret (v := .tuple #[.int .i64 0, .int .i64 0, .int .i64 0, .int .i64 2]) (by simp [results, Tryz.results96, go_sem]) rfl ⟨rfl, rfl⟩
theorem rciv_year {n y m d : Int} (h : IsCiv n y m d) {a : Int} (a0 : 1900 ≤ a) (a1 : a ≤ y) : (a < y → 365 + lpI a ≤ n - nyr a) ∧ (a = y → n - nyr a < 365 + lpI a ∧ 0 ≤ n - nyr a) ∧ 0 ≤ n - nyr a := by
 have hy := h.yr
 have hs := nyr_succ a a0
 refine ⟨fun hlt => ?_, ?_, ?_⟩
 ·have h1 := nyr_mono (y := a + 1) (z := y) (by omega) (by omega)
  omega
 ·rintro rfl
  omega
 ·have h1 := nyr_mono (y := a) (z := y) (by omega) (by omega)
  omega
theorem rciv_yes (n y m d : Int) (w : World) (h : IsCiv n y m d) : Calls Tryz.prog 96 #[.int .i64 n] w fun e w' => e = .returned (.tuple #[.int .i64 y, .int .i64 m, .int .i64 d, .int .i64 0]) ∧ w = w' := by
 have hv := fun w => rvd_any n w
 have hv1 := vdB_iff.2 h.bd
 rw [hv1] at hv
 have HV := Lib.hid hv
 have HC := Lib.hid h
 obtain ⟨n0, n1⟩ := h.bd
 have hd : n - nyr y - mon y m + 1 = d := by have := h.eq; unfold dno at this; omega
 have HD := Lib.hid hd
 obtain ⟨y0, y1, m0, m1, d0, d1, -⟩ := h
 clear hv hv1 hd
 go_enter Tryz.func96, Tryz.ntmps96
 go_wp2_with (go_at_call 136; refine (HV.out _).mono ?_; rintro e w' ⟨rfl, rfl⟩)
 go_loop [6, 8] (fun v1 v2 => ∃ a : Int, 1900 ≤ a ∧ a ≤ y ∧ v1 = .int .i64 a ∧ v2 = .int .i64 (n - nyr a)) (fun v1 v2 => (y - intOf v1).toNat)
 case atStart => exact ⟨1900, by omega, by omega, rfl, by rw [nyr_1900]; go_num⟩
 case round =>
  obtain ⟨a, a0, a1, rfl, rfl⟩ := hrel
  obtain ⟨hA1, hA2, hA3⟩ := rciv_year HC.out a0 a1
  have hab := nyr_bd (y := a) (by omega) (by omega)
  have hs := nyr_succ a (by omega)
  have hi := fun w => rleap_any a w (by omega)
  by_cases hlt : a < y
  ·replace hA1 := hA1 hlt
   clear hA2
   unfold lpI at hs hA1
   have HS := Lib.hid hs
   clear hs
   cases hl : lpB a
   all_goals
    rw [hl] at hi HS hA1
    have HI := Lib.hid hi
    clear hi hl
    simp only [Bool.false_eq_true, if_false, if_true] at hA1
    go_wp2_with (go_at_call 137; refine (HI.out _).mono ?_; rintro e w' ⟨rfl, rfl⟩)
    go_round
    case rel => exact ⟨a + 1, by omega, by omega, rfl, by rw [HS.out]; go_num⟩
    case measure => simp [intOf]; omega
  ·obtain rfl : a = y := by omega
   obtain ⟨hA4, -⟩ := hA2 rfl
   clear hA2 hA1 hs hlt
   have hlp := lpI_01 a
   have hfin : ∀ (P : Prop), P → P := fun _ h => h
   unfold lpI at hA4
   cases hl : lpB a
   all_goals
    rw [hl] at hi hA4
    have HI := Lib.hid hi
    clear hi hl hfin
    simp only [Bool.false_eq_true, if_false, if_true] at hA4
    go_wp2_with (go_at_call 137; refine (HI.out _).mono ?_; rintro e w' ⟨rfl, rfl⟩)
    go_loop [7, 8] (fun v1 v2 => ∃ b : Int, 1 ≤ b ∧ b ≤ m ∧ v1 = .int .i64 b ∧ v2 = .int .i64 (n - nyr a - mon a b)) (fun v1 v2 => (m - intOf v1).toNat)
    case atStart => exact ⟨1, by omega, by omega, rfl, by rw [mon_1]; go_num⟩
    case round =>
     obtain ⟨b, b0, b1, rfl, rfl⟩ := hrel
     have hm := mon_bd (y := a) (m := b) (by omega) (by omega)
     have hL := civ_loop HC.out b0 b1
     have hb0 := mdy_bd a b
     have hi : inYM a b = true := inYM_iff.2 ⟨by omega, by omega, by omega, by omega⟩
     have hy := fun w => rdays_any a b w
     rw [dys_in hi] at hy
     have HY := Lib.hid hy
     clear hy hi
     by_cases hlt : b < m
     ·have hs := mon_succ a b (by omega) (by omega)
      have hL2 : mdy a b ≤ n - nyr a - mon a b := by have := hL.1 hlt; omega
      have HS := Lib.hid hs
      clear hs hL
      go_wp2_with (go_at_call 97; refine (HY.out _).mono ?_; rintro e w' ⟨rfl, rfl⟩)
      go_round
      case rel => exact ⟨b + 1, by omega, by omega, rfl, by rw [HS.out]; go_num⟩
      case measure => simp [intOf]; omega
     ·obtain rfl : b = m := by omega
      have hL2 : n - nyr a - mon a b < mdy a b := by have := hL.2 rfl; omega
      clear hL hlt
      go_wp2_with (go_at_call 97; refine (HY.out _).mono ?_; rintro e w' ⟨rfl, rfl⟩)
      exact bodyPost_ret (v := .tuple #[.int .i64 a, .int .i64 b, .int .i64 (n - nyr a - mon a b + 1), .int .i64 0]) (by simp [results, Tryz.results96, go_sem]) rfl ⟨by rw [HD.out], rfl⟩
theorem rciv_any (n : Int) (w : World) (h : vdB n = true) : Calls Tryz.prog 96 #[.int .i64 n] w fun e w' => e = .returned (.tuple #[.int .i64 (civY n), .int .i64 (civM n), .int .i64 (civD n), .int .i64 0]) ∧ w = w' := rciv_yes n _ _ _ w (civ_is h)
theorem ret_two {a b c d : Int} (h1 : a = c) (h2 : b = d) : Ending.returned (.tuple #[.int .i64 a, .int .i64 b]) = .returned (.tuple #[.int .i64 c, .int .i64 d]) := by rw [h1, h2]
/- The month that lies k months after that of n. -/
def amT (n k : Int) : Int := 12 * civY n + civM n - 1 + k
def nearB (k : Int) : Bool := decide (-3600 ≤ k) && decide (k ≤ 3600)
theorem nearB_iff {k : Int} : nearB k = true ↔ -3600 ≤ k ∧ k ≤ 3600 := by simp [nearB]
def adY (n k : Int) : Int := amT n k / 12
def adM (n k : Int) : Int := amT n k % 12 + 1
def adD (n k : Int) : Int := min (civD n) (dys (adY n k) (adM n k))
def adB (n k : Int) : Bool := vdB n && nearB k
def adN (n k : Int) : Int := if adB n k then ofN (adY n k) (adM n k) (adD n k) else 0
def adE (n k : Int) : Int := if adB n k then ofE (adY n k) (adM n k) (adD n k) else 2
theorem no_days {Y M e : Int} (h : dys Y M = 0) : ofN Y M e = 0 ∧ ofE Y M e = 2 := by
 have hd : dayB Y M e = false := by
  cases hc : dayB Y M e
  ·rfl
  ·have := dayB_yes hc; omega
 unfold ofN ofE
 rw [hd]
 exact ⟨rfl, rfl⟩
theorem radd_no (n k : Int) (w : World) (h : vdB n = false) : Calls Tryz.prog 135 #[.int .i64 n, .int .i64 k] w fun e w' => e = .returned (.tuple #[.int .i64 (adN n k), .int .i64 (adE n k)]) ∧ w = w' := by
 have hv := fun w => rciv_no n w h
 rw [show adN n k = 0 by unfold adN adB; rw [h]; rfl, show adE n k = 2 by unfold adE adB; rw [h]; rfl]
 have HV := Lib.hid hv
 clear hv h
 go_enter Tryz.func135, Tryz.ntmps135
 go_wp2_with (go_at_call 96; refine (HV.out _).mono ?_; rintro e w' ⟨rfl, rfl⟩)
 go_ret2
 exact ⟨rfl, rfl⟩
theorem radd_far (n k : Int) (w : World) (h : vdB n = true) (hk : nearB k = false) : Calls Tryz.prog 135 #[.int .i64 n, .int .i64 k] w fun e w' => e = .returned (.tuple #[.int .i64 (adN n k), .int .i64 (adE n k)]) ∧ w = w' := by
 have hv := fun w => rciv_any n w h
 rw [show adN n k = 0 by unfold adN adB; rw [h, hk]; rfl, show adE n k = 2 by unfold adE adB; rw [h, hk]; rfl]
 have hk2 : k < -3600 ∨ ¬ k < -3600 ∧ 3600 < k := by
  have h2 : ¬ (-3600 ≤ k ∧ k ≤ 3600) := fun e => by rw [nearB_iff.2 e] at hk; cases hk
  omega
 have HV := Lib.hid hv
 clear hv h hk
 rcases hk2 with hk2 | ⟨hk2, hk3⟩
 all_goals
  go_enter Tryz.func135, Tryz.ntmps135
  go_wp2_with (go_at_call 96; refine (HV.out _).mono ?_; rintro e w' ⟨rfl, rfl⟩)
  go_ret2
  exact ⟨rfl, rfl⟩
theorem radd_near (n k : Int) (w : World) (h : vdB n = true) (hk : nearB k = true) : Calls Tryz.prog 135 #[.int .i64 n, .int .i64 k] w fun e w' => e = .returned (.tuple #[.int .i64 (adN n k), .int .i64 (adE n k)]) ∧ w = w' := by
 have hv := fun w => rciv_any n w h
 rw [show adN n k = ofN (adY n k) (adM n k) (adD n k) by unfold adN adB; rw [h, hk]; rfl, show adE n k = ofE (adY n k) (adM n k) (adD n k) by unfold adE adB; rw [h, hk]; rfl]
 obtain ⟨y0, y1, m0, m1, d0, d1, -⟩ := civ_is h
 obtain ⟨k0, k1⟩ := nearB_iff.1 hk
 have hmd := mdy_bd (civY n) (civM n)
 have hdy := dys_bd (adY n k) (adM n k)
 have hno : inYM (adY n k) (adM n k) = false → ∀ e, ofN (adY n k) (adM n k) e = 0 ∧ ofE (adY n k) (adM n k) e = 2 := fun h e => no_days (dys_out h)
 have hin : inYM (adY n k) (adM n k) = false → (adY n k < 1900 ∨ 2199 < adY n k) := fun hi => by
  have h2 : ¬ (1900 ≤ adY n k ∧ adY n k ≤ 2199 ∧ 1 ≤ adM n k ∧ adM n k ≤ 12) := fun e => by rw [inYM_iff.2 e] at hi; cases hi
  have h3 : 0 ≤ amT n k % 12 ∧ amT n k % 12 < 12 := by omega
  have h4 : adM n k = amT n k % 12 + 1 := rfl
  omega
 have hin2 : inYM (adY n k) (adM n k) = true → (1900 ≤ adY n k ∧ adY n k ≤ 2199) := fun hi => by
  have := inYM_iff.1 hi
  omega
 cases hi : inYM (adY n k) (adM n k)
 ·rw [(hno hi _).1, (hno hi _).2]
  have hx : adY n k < 1900 ∨ ¬ adY n k < 1900 ∧ 2199 < adY n k := by have := hin hi; omega
  unfold adY amT at hx
  clear hno hin hin2 hi hdy hmd
  generalize civY n = y at *
  generalize civM n = m at *
  generalize civD n = d at *
  have HV := Lib.hid hv
  clear hv h hk
  rcases hx with hx | ⟨hx, hx2⟩
  all_goals
   go_enter Tryz.func135, Tryz.ntmps135
   go_wp2_with (go_at_call 96; refine (HV.out _).mono ?_; rintro e w' ⟨rfl, rfl⟩)
   go_ret2
   exact ⟨rfl, rfl⟩
 ·obtain ⟨z0, z1⟩ := hin2 hi
  clear hno hin hin2 hi
  unfold adD adY adM amT at *
  generalize civY n = y at *
  generalize civM n = m at *
  generalize civD n = d at *
  have HV := Lib.hid hv
  clear hv h hk
  go_enter Tryz.func135, Tryz.ntmps135
  go_wp2_with (first | (go_at_call 96; refine (HV.out _).mono ?_; rintro e w' ⟨rfl, rfl⟩) | (go_at_call 97; refine (rdays_any _ _ _).mono ?_; rintro e w' ⟨rfl, rfl⟩) | (go_at_call 134; refine (dtrof_any _ _ _ _).mono ?_; rintro e w' ⟨rfl, rfl⟩))
  all_goals
   go_ret2
   exact ⟨ret_two (by congr 1; omega) (by congr 1; omega), rfl⟩
theorem dtradd_any (n k : Int) (w : World) : Calls Tryz.prog 135 #[.int .i64 n, .int .i64 k] w fun e w' => e = .returned (.tuple #[.int .i64 (adN n k), .int .i64 (adE n k)]) ∧ w = w' := by
 cases h : vdB n
 ·exact radd_no n k w h
 ·cases hk : nearB k
  ·exact radd_far n k w h hk
  ·exact radd_near n k w h hk
open Go.Lib (decDigits)
def padk : Nat → Nat → List UInt8
 | 0, _ => []
 | k + 1, r => padk k (r / 10) ++ [UInt8.ofNat (48 + r % 10)]
def codes (l : List UInt8) : List Nat := l.map (·.toNat)
open Go Go.RowKit
structure Fact where
 p : Value → World → Prop
 st : ∀ v w w', Below w.heap.size w w' → p v w → p v w'
def Fact.triv : Fact := ⟨fun _ _ => True, fun _ _ _ _ _ => trivial⟩
def look : List (Nat × Fact) → Nat → Fact
 | [], _ => Fact.triv
 | (k, f) :: rest, d => bif Nat.beq k d then f else look rest d
def factOf (FL : List (Nat × Fact)) (dst : Option Nat) (v : Value) (w : World) : Prop := match dst with
 | none => True
 | some d => (look FL d).p v w
def fillL (u : Nat → Value) : List Nat → Array Value → Array Value
 | [], t => t
 | d :: ds, t => fillL u ds (t.setIfInBounds d (u d))
def upd (u : Nat → Value) (d : Option Nat) (v : Value) (n : Nat) : Value := match d with
 | none => u n
 | some d => if n = d then v else u n
theorem fillL_size (u : Nat → Value) (ds : List Nat) : ∀ t : Array Value, (fillL u ds t).size = t.size := by
 induction ds with
 | nil => intro t; rfl
 | cons d ds ih => intro t; rw [fillL, ih]; simp
theorem fillL_get (u : Nat → Value) (ds : List Nat) : ∀ (t : Array Value) (n : Nat), (fillL u ds t)[n]? = if n < t.size then (if n ∈ ds then some (u n) else t[n]?) else none := by
 induction ds with
 | nil => intro t n; by_cases h : n < t.size <;> simp [fillL, h]
 | cons d ds ih =>
  intro t n
  rw [fillL, ih]
  by_cases h : n < t.size
  ·simp only [Array.size_setIfInBounds, h, if_true, List.mem_cons]
   by_cases h1 : n ∈ ds
   ·simp [h1]
   ·by_cases h2 : n = d
    ·subst h2; simp [h1, h]
    ·simp only [h1, h2, if_false, or_self]; rw [Array.getElem?_setIfInBounds_ne (Ne.symm h2)]
  ·simp [h]
theorem fillL_upd (u : Nat → Value) (ds : List Nat) (t : Array Value) (d : Nat) (v : Value) (hd : d ∈ ds) : (fillL u ds t).setIfInBounds d v = fillL (upd u (some d) v) ds t := by
 apply Array.ext_getElem?
 intro n
 rw [Array.getElem?_setIfInBounds, fillL_get, fillL_get, fillL_size]
 by_cases h : n < t.size
 ·by_cases h2 : d = n
  ·subst h2; simp [h, hd, upd]
  ·simp only [h, h2, if_true, if_false]
   by_cases h3 : n ∈ ds
   ·simp [h3, upd, Ne.symm h2]
   ·simp [h3]
 ·simp only [h, if_false]
  by_cases h2 : d = n
  ·subst h2; simp [h]
  ·simp [h2]
theorem fillL_self (ds : List Nat) (t : Array Value) : fillL (fun d => t.getD d undef) ds t = t := by
 apply Array.ext_getElem?
 intro n
 rw [fillL_get]
 by_cases h : n < t.size
 ·simp [h]
 ·simp [h]
def allWritten (ops : Array Oper) (ds : List Nat) : Bool := ds.all fun d => ops.any fun o => o.dst == some d
theorem filter_less {p q : Nat → Bool} {i : Nat} (hpi : p i = true) (hqi : q i = false) (h : ∀ j, q j = true → p j = true) : ∀ l : List Nat, i ∈ l → (l.filter q).length < (l.filter p).length := by
 have hle : ∀ l : List Nat, (l.filter q).length ≤ (l.filter p).length := by
  intro l
  induction l with
  | nil => simp
  | cons x l ih =>
   rw [List.filter_cons, List.filter_cons]
   by_cases hq : q x = true
   ·simp [hq, h x hq]; exact ih
   ·by_cases hp : p x = true <;> simp [hq, hp] <;> omega
 intro l hl
 induction l with
 | nil => cases hl
 | cons x l ih =>
  rw [List.filter_cons, List.filter_cons]
  rcases List.mem_cons.1 hl with rfl | hl
  ·simp [hpi, hqi]; have := hle l; omega
  ·have := ih hl
   by_cases hq : q x = true
   ·simp [hq, h x hq]; exact this
   ·by_cases hp : p x = true <;> simp [hq, hp] <;> omega
section
variable {P : Program} {ops : Array Oper} {Q : Exit → Act → World → Prop} {FL : List (Nat × Fact)} {J : World → Prop} {t0 : Array Value} {df : List Deferred} {ds : List Nat}
def Written (ops : Array Oper) (listed : Array Bool) (d : Nat) : Prop := ∃ j o', listed.getD j false = true ∧ ops[j]? = some o' ∧ o'.dst = some d
theorem Written.more {listed : Array Bool} {d i : Nat} (h : Written ops listed d) : Written ops (listed.setIfInBounds i true) d := by
 obtain ⟨j, o', h1, h2, h3⟩ := h
 exact ⟨j, o', getD_set_true h1, h2, h3⟩
theorem put_fill (u : Nat → Value) (o : Oper) (v : Value) (hd : ∀ d, o.dst = some d → d ∈ ds) : (⟨fillL u ds t0, df⟩ : Act).put o.dst v = ⟨fillL (upd u o.dst v) ds t0, df⟩ := by
 cases h : o.dst with
 | none => rfl
 | some d =>
  show Act.mk ((fillL u ds t0).setIfInBounds d v) df = _
  rw [fillL_upd _ _ _ _ _ (hd d h)]
theorem none_listed (n j : Nat) : (Array.replicate n false).getD j false = false := by
 by_cases h : j < n <;> simp [h]
end
open Go Go.RowKit
def AS.NoInt (w : World) (b : Nat) : Prop := ∀ j k n, w.cell? ⟨b, j, none⟩ ≠ some (.int k n)
open AS (NoInt)
def Leaf (x : Value) : Prop := ∀ k n, x ≠ .int k n
structure Bx (t : TypeId) (w : World) (g : Nat) (vs : List Value) : Prop where
 blk : w.heap[g]? = some (.cells vs.toArray t (0, 0))
 leaf : ∀ v ∈ vs, Leaf v
section
variable {t : TypeId} {w w' : World} {g : Nat} {vs : List Value}
theorem Bx.lt (h : Bx t w g vs) : g < w.heap.size := by
 rcases Nat.lt_or_ge g w.heap.size with hlt | hge
 ·exact hlt
 ·have := h.blk; rw [Array.getElem?_eq_none hge] at this; cases this
theorem Bx.up (h : Bx t w g vs) (hb : Below w.heap.size w w') : Bx t w' g vs := ⟨(hb.block g h.lt).trans h.blk, h.leaf⟩
end
end Go.Proofs.YtaeccljkmijpaaaGreat
namespace Go.Proofs.YtaeccljkmijpaaaGreat.AS
open Go Go.RowKit
open Go.Proofs.YtaeccljkmijpaaaGreat (fillL upd fillL_size fillL_get fillL_upd fillL_self filter_less none_listed put_fill)
structure Keep (w w' : World) : Prop where
 size : w.heap.size ≤ w'.heap.size
 blk : ∀ i, i < w.heap.size → (∃ j k n, w.cell? ⟨i, j, none⟩ = some (.int k n)) → w'.heap[i]? = w.heap[i]?
 box : ∀ (t : TypeId) (g : Nat) (vs : List Value), 2 ≤ vs.length → Bx t w g vs → ∃ vs' : List Value, vs'.length = vs.length ∧ Bx t w' g vs'
theorem Keep.ofBelow {w w' : World} (h : Below w.heap.size w w') : Keep w w' := ⟨h.size, fun i hi _ => h.block i hi, fun _ _ vs _ hb => ⟨vs, rfl, hb.up h⟩⟩
theorem Keep.cell {w w' : World} (h : Keep w w') {i j : Nat} (hi : i < w.heap.size) {j' : Nat} {k : IntKind} {n : Int} (hc : w.cell? ⟨i, j', none⟩ = some (.int k n)) : w'.cell? ⟨i, j, none⟩ = w.cell? ⟨i, j, none⟩ :=
 World.cell?_of_block (h.blk i hi ⟨j', k, n, hc⟩)
structure Fact where
 p : Value → World → Prop
 st : ∀ v w w', Keep w w' → p v w → p v w'
def Fact.triv : Fact := ⟨fun _ _ => True, fun _ _ _ _ _ => trivial⟩
def Fact.is (x : Value) : Fact := ⟨fun v _ => v = x, fun _ _ _ _ h => h⟩
def look : List (Nat × Fact) → Nat → Fact
 | [], _ => Fact.triv
 | (k, f) :: rest, d => bif Nat.beq k d then f else look rest d
def temps (FL : List (Nat × Fact)) : List Nat := FL.map (·.1)
def factOf (FL : List (Nat × Fact)) (dst : Option Nat) (v : Value) (w : World) : Prop := match dst with
 | none => True
 | some d => (look FL d).p v w
def Facts (FL : List (Nat × Fact)) (u : Nat → Value) (w : World) : List Nat → Prop
 | [] => True
 | d :: ds => (look FL d).p (u d) w ∧ Facts FL u w ds
theorem facts_mk {FL : List (Nat × Fact)} {u : Nat → Value} {w : World} {ds : List Nat} (h : ∀ d ∈ ds, (look FL d).p (u d) w) : Facts FL u w ds := by
 induction ds with
 | nil => trivial
 | cons d ds ih => exact ⟨h d (List.mem_cons_self ..), ih fun e he => h e (List.mem_cons_of_mem _ he)⟩
theorem facts_get {FL : List (Nat × Fact)} {u : Nat → Value} {w : World} {ds : List Nat} (h : Facts FL u w ds) (d : Nat) (hd : d ∈ ds) : (look FL d).p (u d) w := by
 induction ds with
 | nil => cases hd
 | cons e ds ih =>
  rcases List.mem_cons.1 hd with rfl | hd
  ·exact h.1
  ·exact ih h.2 hd
def edgesOk (ops : Array Oper) : Bool := (List.range ops.size).all fun i => match ops[i]? with
 | none => true
 | some o => o.after.all fun e => !Region.binds .any e || decide (e.on < i)
def needsOk (ops : Array Oper) (pt : List (List Nat)) (ds : List Nat) : Bool :=
 (List.range ops.size).all fun i => match ops[i]? with
  | none => true
  | some o => (match o.dst with | some d => ds.contains d | none => true) &&
   (pt.getD i []).all fun d => o.after.any fun e => Region.binds .any e && ((match ops[e.on]? with | some o' => o'.dst == some d | none => false) || (pt.getD e.on []).contains d)
def onceOk (ops : Array Oper) : Bool := (List.range ops.size).all fun i => (List.range ops.size).all fun j => match ops[i]?, ops[j]? with
 | some o, some o' => Nat.beq i j || (match o.dst, o'.dst with | some d, some d' => !Nat.beq d d' | _, _ => true)
 | _, _ => true
def storesOk (ops : Array Oper) (pt : List (List Nat)) (st : List Nat) (js : List (List Nat)) : Bool :=
 (List.range st.length).all fun m => decide (st.getD m 0 < ops.size) && (match ops[st.getD m 0]? with | some o => o.dst == none | none => false) &&
  (Nat.beq m 0 || Region.waitsFor .any ops (st.getD m 0) (st.getD (m - 1) 0)) && (js.getD (m + 1) []).all fun d => (pt.getD (st.getD m 0) []).contains d || (js.getD m []).contains d
def waits2 (ops : Array Oper) (s i : Nat) : Bool := Region.waitsFor .any ops s i || (List.range ops.size).any fun j => Region.waitsFor .any ops s j && Region.waitsFor .any ops j i
def limOk (ops : Array Oper) (st lm : List Nat) : Bool :=
 (List.range ops.size).all fun i => Nat.beq (lm.getD i st.length) st.length || waits2 ops (st.getD (lm.getD i st.length) ops.size) i
def allWritten (ops : Array Oper) (ds : List Nat) : Bool := ds.all fun d => ops.any fun o => o.dst == some d
def allocsOk (ops : Array Oper) (al st : List Nat) : Bool := al.all fun d => st.all fun s => (List.range ops.size).any fun i => (match ops[i]? with | some o => o.dst == some d | none => false) && waits2 ops s i
def chk (al : List Nat) (ops : Array Oper) (pt : List (List Nat)) (ds st : List Nat) (js : List (List Nat)) (lm : List Nat) : Bool :=
 allocsOk ops al st && al.all ds.contains && edgesOk ops && needsOk ops pt ds && onceOk ops && storesOk ops pt st js && limOk ops st lm && allWritten ops ds && (js.getD 0 []).isEmpty
section
variable {P : Program} {ops : Array Oper} {Q : Exit → Act → World → Prop} {FL : List (Nat × Fact)} {J : Nat → List Value → World → Prop} {t0 : Array Value} {df : List Deferred} {ds : List Nat}
 {st lm al : List Nat} {js : List (List Nat)} {pt : List (List Nat)}
def aOk (al : List Nat) (dst : Option Nat) (v : Value) (w w' : World) : Prop := match dst with
 | some d => bif al.contains d then v = .pointer (some ⟨w.heap.size, 0, none⟩) ∧ w.heap.size < w'.heap.size else True
 | none => True
def Apart (al : List Nat) (u : Nat → Value) : Prop := ∀ d ∈ al, ∀ d' ∈ al, d ≠ d' → u d ≠ u d'
def StepOk (al : List Nat) (P : Program) (ops : Array Oper) (Q : Exit → Act → World → Prop) (FL : List (Nat × Fact)) (J : Nat → List Value → World → Prop) (js : List (List Nat)) (fr : (Nat → Value) → Array Value) (df : List Deferred) (o : Oper) (need : List Nat) (lim : Nat) : Prop :=
 ∀ (k : Nat) (u : Nat → Value) (w : World), k ≤ lim → J k ((js.getD k []).map u) w → Facts FL u w need → ∀ K : Act → World → Prop, Shut (∀ v w', Below w.heap.size w w' → factOf FL o.dst v w' → aOk al o.dst v w w' → K ((⟨fr u, df⟩ : Act).put o.dst v) w') →
  if Region.wanted o (yielded ops (fr u)) = true then Oper.wp P o ⟨fr u, df⟩ w K Q else K ((⟨fr u, df⟩ : Act).put o.dst undef) w
def StoreOk (al : List Nat) (P : Program) (ops : Array Oper) (Q : Exit → Act → World → Prop) (FL : List (Nat × Fact)) (J : Nat → List Value → World → Prop) (js : List (List Nat)) (fr : (Nat → Value) → Array Value) (df : List Deferred) (o : Oper) (need : List Nat) (k : Nat) : Prop :=
 ∀ (u : Nat → Value) (w : World), J k ((js.getD k []).map u) w → Apart al u → Facts FL u w need → ∀ K : Act → World → Prop, Shut (∀ v w', J (k + 1) ((js.getD (k + 1) []).map u) w' → Keep w w' → K ((⟨fr u, df⟩ : Act).put o.dst v) w') →
  if Region.wanted o (yielded ops (fr u)) = true then Oper.wp P o ⟨fr u, df⟩ w K Q else K ((⟨fr u, df⟩ : Act).put o.dst undef) w
def StepsOk (al : List Nat) (P : Program) (ops : Array Oper) (Q : Exit → Act → World → Prop) (FL : List (Nat × Fact)) (J : Nat → List Value → World → Prop) (js : List (List Nat)) (fr : (Nat → Value) → Array Value) (df : List Deferred) (pt : List (List Nat)) (st lm : List Nat) : List Oper → Nat → Prop
 | [], _ => True
 | o :: rest, i => (match st.idxOf? i with
   | some k => StoreOk al P ops Q FL J js fr df o (pt.getD i []) k
   | none => StepOk al P ops Q FL J js fr df o (pt.getD i []) (lm.getD i st.length)) ∧ StepsOk al P ops Q FL J js fr df pt st lm rest (i + 1)
theorem StepsOk.nil {fr : (Nat → Value) → Array Value} {i : Nat} : StepsOk al P ops Q FL J js fr df pt st lm [] i := trivial
theorem sc {fr : (Nat → Value) → Array Value} {o : Oper} {rest : List Oper} {i : Nat} {need : List Nat} {lim : Nat} (h0 : st.idxOf? i = none) (h1 : pt.getD i [] = need) (h2 : lm.getD i st.length = lim)
  (h : StepOk al P ops Q FL J js fr df o need lim) (hs : StepsOk al P ops Q FL J js fr df pt st lm rest (i + 1)) : StepsOk al P ops Q FL J js fr df pt st lm (o :: rest) i := ⟨by rw [h0, h1, h2]; exact h, hs⟩
theorem steps_at {fr : (Nat → Value) → Array Value} : ∀ (l : List Oper) (i0 : Nat), StepsOk al P ops Q FL J js fr df pt st lm l i0 → ∀ i o, l[i]? = some o → (match st.idxOf? (i0 + i) with
      | some k => StoreOk al P ops Q FL J js fr df o (pt.getD (i0 + i) []) k
      | none => StepOk al P ops Q FL J js fr df o (pt.getD (i0 + i) []) (lm.getD (i0 + i) st.length)) := by
  intro l
  induction l with
  | nil => intro i0 _ i o h; simp at h
  | cons x l ih =>
    intro i0 hs i o h
    cases i with
    | zero => simp at h; subst h; exact hs.1
    | succ i =>
      have := ih (i0 + 1) hs.2 i o (by simpa using h)
      rwa [show i0 + 1 + i = i0 + (i + 1) by omega] at this
def Written (ops : Array Oper) (listed : Array Bool) (d : Nat) : Prop := ∃ j o', listed.getD j false = true ∧ ops[j]? = some o' ∧ o'.dst = some d
structure Inv (al : List Nat) (ops : Array Oper) (FL : List (Nat × Fact)) (J : Nat → List Value → World → Prop) (js : List (List Nat)) (t0 : Array Value) (df : List Deferred) (ds : List Nat) (pt : List (List Nat)) (st : List Nat) (listed : Array Bool) (a : Act) (w : World) : Prop where
 fr : ∃ k u, a = ⟨fillL u ds t0, df⟩ ∧ (∀ d, Written ops listed d → (look FL d).p (u d) w) ∧ J k ((js.getD k []).map u) w ∧ k ≤ st.length ∧ (∀ m, m < k → listed.getD (st.getD m 0) false = true) ∧
  (∀ m, k ≤ m → m < st.length → listed.getD (st.getD m 0) false = false) ∧ (∀ d ∈ js.getD k [], Written ops listed d) ∧ (∀ d ∈ al, Written ops listed d → ∃ g, u d = .pointer (some ⟨g, 0, none⟩) ∧ g < w.heap.size) ∧
  (∀ d ∈ al, ∀ d' ∈ al, d ≠ d' → Written ops listed d → Written ops listed d' → u d ≠ u d')
 cl : ∀ i, listed.getD i false = true → ∀ d ∈ pt.getD i [], Written ops listed d
 cs : ∀ j oj, ops[j]? = some oj → listed.getD j false = true → ∀ e ∈ oj.after, Region.binds .any e = true → listed.getD e.on false = true
 sz : listed.size = ops.size
theorem Written.more {listed : Array Bool} {d i : Nat} (h : Written ops listed d) : Written ops (listed.setIfInBounds i true) d := by
 obtain ⟨j, o', h1, h2, h3⟩ := h
 exact ⟨j, o', getD_set_true h1, h2, h3⟩
theorem getD_flag {listed : Array Bool} {i : Nat} (h : i < listed.size) : listed.getD i true = listed.getD i false := by simp [h]
structure Chk (al : List Nat) (ops : Array Oper) (pt : List (List Nat)) (ds st : List Nat) (js : List (List Nat)) (lm : List Nat) : Prop where
 edge : ∀ (i : Nat) (o : Oper), ops[i]? = some o → ∀ e ∈ o.after, Region.binds .any e = true → e.on < i
 dst : ∀ (i : Nat) (o : Oper), ops[i]? = some o → ∀ d, o.dst = some d → d ∈ ds
 need : ∀ (i : Nat) (o : Oper), ops[i]? = some o → ∀ d ∈ pt.getD i [], ∃ e ∈ o.after, Region.binds .any e = true ∧ ((∃ o' : Oper, ops[e.on]? = some o' ∧ o'.dst = some d) ∨ d ∈ pt.getD e.on [])
 once : ∀ (i j : Nat) (o o' : Oper) (d : Nat), ops[i]? = some o → ops[j]? = some o' → o.dst = some d → o'.dst = some d → i = j
 slt : ∀ m, m < st.length → st.getD m 0 < ops.size
 sdst : ∀ m, m < st.length → ∀ o : Oper, ops[st.getD m 0]? = some o → o.dst = none
 schain : ∀ m, 0 < m → m < st.length → Region.waitsFor .any ops (st.getD m 0) (st.getD (m - 1) 0) = true
 sjs : ∀ m, m < st.length → ∀ d ∈ js.getD (m + 1) [], d ∈ pt.getD (st.getD m 0) [] ∨ d ∈ js.getD m []
 lim : ∀ i, i < ops.size → lm.getD i st.length = st.length ∨ waits2 ops (st.getD (lm.getD i st.length) ops.size) i = true
 wr : ∀ d ∈ ds, ∃ (i : Nat) (o : Oper), ops[i]? = some o ∧ o.dst = some d
 js0 : js.getD 0 [] = []
 alw : ∀ d ∈ al, ∀ m, m < st.length → ∃ (i : Nat) (o : Oper), ops[i]? = some o ∧ o.dst = some d ∧ waits2 ops (st.getD m 0) i = true
 ald : ∀ d ∈ al, d ∈ ds
theorem chk_spec (h : chk al ops pt ds st js lm = true) : Chk al ops pt ds st js lm := by
 unfold chk at h
 simp only [Bool.and_eq_true] at h
 obtain ⟨⟨⟨⟨⟨⟨⟨⟨h8, h9⟩, h1⟩, h2⟩, h3⟩, h4⟩, h5⟩, h6⟩, h7⟩ := h
 have lt : ∀ (i : Nat) (o : Oper), ops[i]? = some o → i ∈ List.range ops.size := fun i o ho => List.mem_range.2 (Array.getElem?_eq_some_iff.1 ho).1
 constructor
 ·intro i o ho e he hb
  have h := List.all_eq_true.1 h1 i (lt i o ho)
  rw [ho] at h
  dsimp only at h
  rw [Array.all_eq_true_iff_forall_mem] at h
  have h := h e he
  rw [hb] at h
  simpa using h
 ·intro i o ho d hd
  have h := List.all_eq_true.1 h2 i (lt i o ho)
  rw [ho] at h
  dsimp only at h
  rw [hd] at h
  simp only [Bool.and_eq_true] at h
  simpa using h.1
 ·intro i o ho d hd
  have h := List.all_eq_true.1 h2 i (lt i o ho)
  rw [ho] at h
  simp only [Bool.and_eq_true] at h
  have h := List.all_eq_true.1 h.2 d hd
  rw [Array.any_eq_true] at h
  obtain ⟨k, hk, h⟩ := h
  rw [Bool.and_eq_true, Bool.or_eq_true] at h
  refine ⟨o.after[k], Array.getElem_mem _, h.1, ?_⟩
  rcases h.2 with h4 | h4
  ·left
   cases h5 : ops[(o.after[k]).on]? with
   | none => rw [h5] at h4; cases h4
   | some o' => rw [h5] at h4; exact ⟨o', rfl, by simpa using h4⟩
  ·right; simpa using h4
 ·intro i j o o' d ho ho' hd hd'
  have h := List.all_eq_true.1 (List.all_eq_true.1 h3 i (lt i o ho)) j (lt j o' ho')
  rw [ho, ho'] at h
  dsimp only at h
  rw [hd, hd'] at h
  simpa using h
 ·intro m hm
  have h := List.all_eq_true.1 h4 m (List.mem_range.2 hm)
  simp only [Bool.and_eq_true, decide_eq_true_eq] at h
  exact h.1.1.1
 ·intro m hm o ho
  have h := List.all_eq_true.1 h4 m (List.mem_range.2 hm)
  simp only [Bool.and_eq_true, decide_eq_true_eq] at h
  have h := h.1.1.2
  rw [ho] at h
  simpa using h
 ·intro m h0 hm
  have h := List.all_eq_true.1 h4 m (List.mem_range.2 hm)
  simp only [Bool.and_eq_true, decide_eq_true_eq, Bool.or_eq_true, Nat.beq_eq] at h
  rcases h.1.2 with h | h
  ·omega
  ·exact h
 ·intro m hm d hd
  have h := List.all_eq_true.1 h4 m (List.mem_range.2 hm)
  simp only [Bool.and_eq_true] at h
  have h := List.all_eq_true.1 h.2 d hd
  simpa using h
 ·intro i hi
  have h := List.all_eq_true.1 h5 i (List.mem_range.2 hi)
  simp only [Bool.or_eq_true, Nat.beq_eq] at h
  exact h
 ·intro d hd
  have h := List.all_eq_true.1 h6 d hd
  rw [Array.any_eq_true] at h
  obtain ⟨k, hk, h⟩ := h
  exact ⟨k, ops[k], by simp [hk], by simpa using h⟩
 ·simpa using h7
 ·intro d hd m hm
  have h := List.all_eq_true.1 (List.all_eq_true.1 h8 d hd) (st.getD m 0) (by simp [hm])
  obtain ⟨i, hi, h⟩ := List.any_eq_true.1 h
  rw [Bool.and_eq_true] at h
  cases ho : ops[i]? with
  | none => rw [ho] at h; cases h.1
  | some o => rw [ho] at h; exact ⟨i, o, ho, by simpa using h.1, h.2⟩
 ·intro d hd
  have h := List.all_eq_true.1 h9 d hd
  simpa using h
theorem inv_step (hc : Chk al ops pt ds st js lm) (hst : ∀ k l w w', Below w.heap.size w w' → J k l w → J k l w') (hs : StepsOk al P ops Q FL J js (fun u => fillL u ds t0) df pt st lm ops.toList 0) {listed : Array Bool} {a : Act} {w : World}
    (hI : Inv al ops FL J js t0 df ds pt st listed a w) {i : Nat} (hi : i ∈ Region.ready .any ops listed) :
    wpOp P ops Q i (Inv al ops FL J js t0 df ds pt st (listed.setIfInBounds i true)) a w := by
  obtain ⟨h0, o, ho, hall⟩ := mem_ready.1 hi
  have hlt : i < ops.size := (Array.getElem?_eq_some_iff.1 ho).1
  have hil : i < listed.size := by rw [hI.sz]; exact hlt
  have hun : listed.getD i false = false := by rw [← getD_flag hil]; exact h0
  obtain ⟨k, u, rfl, hfac, hJ, hk, hk1, hk2, hk3, hk4, hk5⟩ := hI.fr
  have hneed : ∀ d ∈ pt.getD i [], Written ops listed d := by
    intro d hd
    obtain ⟨e, he, hb, h1⟩ := hc.need i o ho d hd
    have h2 := hall e he hb
    rcases h1 with ⟨o', h3, h4⟩ | h3
    · exact ⟨e.on, o', h2, h3, h4⟩
    · exact hI.cl e.on h2 d h3
  have hstep := steps_at _ _ hs i o (by simpa using ho)
  rw [Nat.zero_add] at hstep
  have hcs : ∀ j oj, ops[j]? = some oj → (listed.setIfInBounds i true).getD j false = true → ∀ e ∈ oj.after, Region.binds .any e = true → (listed.setIfInBounds i true).getD e.on false = true := by
    intro j oj hj hl e he hb
    by_cases hij : i = j
    · subst hij
      have : oj = o := Option.some.inj (hj.symm.trans ho)
      subst this
      exact getD_set_true (hall e he hb)
    · rw [getD_set_ne false hij] at hl
      exact getD_set_true (hI.cs j oj hj hl e he hb)
  have hcl : ∀ j, (listed.setIfInBounds i true).getD j false = true → ∀ d ∈ pt.getD j [], Written ops (listed.setIfInBounds i true) d := by
    intro j hj d hd
    by_cases hij : i = j
    · subst hij; exact (hneed d hd).more
    · rw [getD_set_ne false hij] at hj
      exact (hI.cl j hj d hd).more
  have hwait : ∀ m, m < k → ∀ j, Region.waitsFor .any ops (st.getD m 0) j = true → listed.getD j false = true := by
    intro m hm j hw
    obtain ⟨oj, hoj, e, he, hb, hon⟩ := Region.waitsFor_spec hw
    rw [← hon]
    exact hI.cs _ oj hoj (hk1 m hm) e he hb
  have hwait2 : ∀ m, m < k → ∀ j, waits2 ops (st.getD m 0) j = true → listed.getD j false = true := by
    intro m hm j hw
    unfold waits2 at hw
    rw [Bool.or_eq_true] at hw
    rcases hw with hw | hw
    · exact hwait m hm j hw
    · obtain ⟨x, -, hx⟩ := List.any_eq_true.1 hw
      rw [Bool.and_eq_true] at hx
      obtain ⟨oj, hoj, e, he, hb, hon⟩ := Region.waitsFor_spec hx.2
      rw [← hon]
      exact hI.cs _ oj hoj (hwait m hm x hx.1) e he hb
  cases hsi : st.idxOf? i with
  | none =>
    rw [hsi] at hstep
    have hns : ∀ m, m < st.length → st.getD m 0 ≠ i := by
      intro m hm e
      have h1 : i ∈ st := by rw [← e]; simp [hm]
      have h2 := List.idxOf?_eq_none_iff.1 hsi
      exact h2 h1
    have hlim : k ≤ lm.getD i st.length := by
      rcases hc.lim i hlt with h1 | h1
      · omega
      · rcases Nat.lt_or_ge (lm.getD i st.length) k with h2 | h2
        · exfalso
          have h3 := hwait2 _ h2 i (by
            have e : st.getD (lm.getD i st.length) ops.size = st.getD (lm.getD i st.length) 0 := by
              have : lm.getD i st.length < st.length := by omega
              generalize lm.getD i st.length = z at *
              simp [this]
            rw [← e]; exact h1)
          rw [hun] at h3; cases h3
        · exact h2
    refine wpOp_step ho (fun K' hK => hstep k u w hlim hJ (facts_mk fun d hd => hfac d (hneed d hd)) K' ?_)
    intro v w' hb hf hao
    have hwi : ∀ d, Written ops (listed.setIfInBounds i true) d → o.dst = some d ∨ Written ops listed d := by
      rintro d ⟨j, o', h1, h2, h3⟩
      by_cases hij : i = j
      · subst hij
        rw [ho] at h2
        injection h2 with h2
        subst h2
        exact .inl h3
      · rw [getD_set_ne false hij] at h1
        exact .inr ⟨j, o', h1, h2, h3⟩
    have hnw : ∀ d, o.dst = some d → ¬ Written ops listed d := by
      rintro d hd ⟨j, o', h1, h2, h3⟩
      have := hc.once i j o o' d ho h2 hd h3
      subst this
      rw [hun] at h1; cases h1
    have hne : ∀ d, o.dst ≠ some d → upd u o.dst v d = u d := by
      intro d hd
      cases h : o.dst with
      | none => rfl
      | some d' => rw [h] at hd; simp only [upd]; rw [if_neg (fun h => hd (by rw [h]))]
    have hal : ∀ d ∈ al, o.dst = some d → v = .pointer (some ⟨w.heap.size, 0, none⟩) ∧ w.heap.size < w'.heap.size := by
      intro d hd h
      unfold aOk at hao
      rw [h] at hao
      dsimp only at hao
      rw [show al.contains d = true by simpa using hd] at hao
      exact hao
    refine hK _ _ ⟨⟨k, upd u o.dst v, put_fill u o v (hc.dst i o ho), ?_, ?_, hk, fun m hm => getD_set_true (hk1 m hm), fun m hm hm' => ?_, fun d hd => (hk3 d hd).more, fun d hd hw => ?_, fun d hd d' hd' hdd hw hw' => ?_⟩, hcl, hcs, by simpa using hI.sz⟩
    · rintro d ⟨j, o', h1, h2, h3⟩
      by_cases hd : o.dst = some d
      · rw [hd] at hf ⊢
        have e : upd u (some d) v d = v := by simp [upd]
        rw [e]; exact hf
      · have hw : Written ops listed d := by
          by_cases hij : i = j
          · subst hij
            rw [ho] at h2
            injection h2 with h2
            subst h2
            exact absurd h3 hd
          · rw [getD_set_ne false hij] at h1
            exact ⟨j, o', h1, h2, h3⟩
        have e : upd u o.dst v d = u d := by
          cases h : o.dst with
          | none => rfl
          | some d' => rw [h] at hd; simp only [upd]; rw [if_neg (fun h => hd (by rw [h]))]
        rw [e]
        exact (look FL d).st _ _ _ (Keep.ofBelow hb) (hfac d hw)
    · have e : (js.getD k []).map (upd u o.dst v) = (js.getD k []).map u := by
        apply List.map_congr_left
        intro d hd
        cases h : o.dst with
        | none => rfl
        | some d' =>
          simp only [upd]
          rw [if_neg]
          rintro rfl
          obtain ⟨j, o', h1, h2, h3⟩ := hk3 d hd
          have := hc.once i j o o' d ho h2 h h3
          subst this
          rw [hun] at h1; cases h1
      rw [e]
      exact hst _ _ _ _ hb hJ
    · rw [getD_set_ne false (Ne.symm (hns m hm'))]; exact hk2 m hm hm'
    · by_cases h : o.dst = some d
      · obtain ⟨h1, h2⟩ := hal d hd h
        exact ⟨w.heap.size, by rw [h]; simp [upd, h1], h2⟩
      · rcases hwi d hw with h1 | h1
        · exact absurd h1 h
        · obtain ⟨g, h2, h3⟩ := hk4 d hd h1
          exact ⟨g, by rw [hne d h]; exact h2, Nat.lt_of_lt_of_le h3 hb.size⟩
    · by_cases h : o.dst = some d
      · have h' : o.dst ≠ some d' := fun h2 => hdd (by rw [h] at h2; injection h2)
        rcases hwi d' hw' with h1 | h1
        · exact absurd h1 h'
        · obtain ⟨g, h2, h3⟩ := hk4 d' hd' h1
          rw [hne d' h', h2, h]
          simp only [upd, if_pos]
          rw [(hal d hd h).1]
          intro he
          simp at he <;> omega
      · rcases hwi d hw with h1 | h1
        · exact absurd h1 h
        · by_cases h' : o.dst = some d'
          · obtain ⟨g, h2, h3⟩ := hk4 d hd h1
            rw [hne d h, h2, h']
            simp only [upd, if_pos]
            rw [(hal d' hd' h').1]
            intro he
            simp at he <;> omega
          · rcases hwi d' hw' with h2 | h2
            · exact absurd h2 h'
            · rw [hne d h, hne d' h']; exact hk5 d hd d' hd' hdd h1 h2
  | some m =>
    rw [hsi] at hstep
    obtain ⟨hm, hmi, -⟩ := List.idxOf?_eq_some_iff.1 hsi
    have hmi' : st.getD m 0 = i := by simp [hm]; exact hmi
    have hmk : m = k := by
      rcases Nat.lt_trichotomy m k with h1 | h1 | h1
      · have := hk1 m h1; rw [hmi', hun] at this; cases this
      · exact h1
      · exfalso
        have h2 := hc.schain m (by omega) hm
        rw [hmi'] at h2
        obtain ⟨oj, hoj, e, he, hb, hon⟩ := Region.waitsFor_spec h2
        have : oj = o := Option.some.inj (hoj.symm.trans ho)
        subst this
        have h3 := hall e he hb
        rw [hon, hk2 (m - 1) (by omega) (by omega)] at h3
        cases h3
    subst hmk
    have hdn : o.dst = none := hc.sdst m hm o (by rw [hmi']; exact ho)
    have hwal : ∀ d ∈ al, Written ops listed d := by
      intro d hd
      obtain ⟨j, o', h1, h2, h3⟩ := hc.alw d hd m hm
      rw [hmi'] at h3
      refine ⟨j, o', ?_, h1, h2⟩
      unfold waits2 at h3
      rw [Bool.or_eq_true] at h3
      rcases h3 with h3 | h3
      · obtain ⟨oj, hoj, e, he, hb, hon⟩ := Region.waitsFor_spec h3
        have : oj = o := Option.some.inj (hoj.symm.trans ho)
        subst this
        rw [← hon]; exact hall e he hb
      · obtain ⟨x, -, hx⟩ := List.any_eq_true.1 h3
        rw [Bool.and_eq_true] at hx
        obtain ⟨oj, hoj, e, he, hb, hon⟩ := Region.waitsFor_spec hx.1
        have : oj = o := Option.some.inj (hoj.symm.trans ho)
        subst this
        have h4 := hall e he hb
        rw [hon] at h4
        obtain ⟨oj2, hoj2, e2, he2, hb2, hon2⟩ := Region.waitsFor_spec hx.2
        rw [← hon2]
        exact hI.cs _ oj2 hoj2 h4 e2 he2 hb2
    refine wpOp_step ho (fun K' hK => hstep u w hJ (fun d hd d' hd' hdd => hk5 d hd d' hd' hdd (hwal d hd) (hwal d' hd')) (facts_mk fun d hd => hfac d (hneed d hd)) K' ?_)
    intro v w' hJ' hb
    refine hK _ _ ⟨⟨m + 1, u, by rw [hdn]; rfl, ?_, hJ', hm, fun j hj => ?_, fun j hj hj' => ?_, fun d hd => ?_, fun d hd hw => ?_, fun d hd d' hd' hdd hw hw' => hk5 d hd d' hd' hdd (hwal d hd) (hwal d' hd')⟩, hcl, hcs, by simpa using hI.sz⟩
    · rintro d ⟨j, o', h1, h2, h3⟩
      have hij : i ≠ j := by
        rintro rfl
        rw [ho] at h2
        injection h2 with h2
        subst h2
        rw [hdn] at h3; cases h3
      rw [getD_set_ne false hij] at h1
      exact (look FL d).st _ _ _ hb (hfac d ⟨j, o', h1, h2, h3⟩)
    · by_cases h1 : j = m
      · subst h1; rw [hmi']; simp [hil]
      · exact getD_set_true (hk1 j (by omega))
    · have h1 := hk2 j (by omega) hj'
      by_cases h2 : st.getD j 0 = i
      · exfalso
        have h3 : ∀ n, m ≤ n → n < st.length → i ≤ st.getD n 0 ∧ (m < n → i < st.getD n 0) := by
          intro n
          induction n with
          | zero => intro h4 h5; exact ⟨by have : m = 0 := by omega
                                           subst this; rw [hmi']; exact Nat.le_refl _, fun h => by omega⟩
          | succ n ih =>
            intro h4 h5
            by_cases h6 : m = n + 1
            · subst h6; exact ⟨by rw [hmi']; exact Nat.le_refl _, fun h => by omega⟩
            · have h7 := ih (by omega) (by omega)
              have h8 := hc.schain (n + 1) (by omega) h5
              obtain ⟨oj, hoj, e, he, hb', hon⟩ := Region.waitsFor_spec h8
              have h9 := hc.edge _ oj hoj e he hb'
              rw [hon, Nat.add_sub_cancel] at h9
              exact ⟨by omega, fun _ => by omega⟩
        have := (h3 j (by omega) hj').2 (by omega)
        omega
      · rw [getD_set_ne false (Ne.symm h2)]; exact h1
    · rcases hc.sjs m hm d hd with h1 | h1
      · rw [hmi'] at h1; exact (hneed d h1).more
      · exact (hk3 d h1).more
    · obtain ⟨g, h1, h2⟩ := hk4 d hd (hwal d hd)
      exact ⟨g, h1, Nat.lt_of_lt_of_le h2 hb.size⟩
theorem ready_nil_all (hc : Chk al ops pt ds st js lm) {listed : Array Bool} (hsz : listed.size = ops.size) (hr : Region.ready .any ops listed = []) : ∀ n i, i < n → i < ops.size → listed.getD i false = true := by
 intro n
 induction n with
 | zero => intro i h; omega
 | succ n ih =>
  intro i hin hi
  have hil : i < listed.size := by omega
  cases hv : listed.getD i false with
  | true => rfl
  | false =>
   exfalso
   have ho : ops[i]? = some ops[i] := by simp [hi]
   have : i ∈ Region.ready .any ops listed := by
    rw [mem_ready]
    refine ⟨by simp [hil] at hv ⊢; exact hv, _, ho, fun e he hb => ?_⟩
    have h1 := hc.edge i _ ho e he hb
    exact ih e.on (by omega) (by omega)
   rw [hr] at this
   cases this
theorem wpAny_inv (hc : Chk al ops pt ds st js lm) (hst : ∀ k l w w', Below w.heap.size w w' → J k l w → J k l w') (hs : StepsOk al P ops Q FL J js (fun u => fillL u ds t0) df pt st lm ops.toList 0)
  (hend : ∀ u w, J st.length ((js.getD st.length []).map u) w → Facts FL u w ds → Q .normal ⟨fillL u ds t0, df⟩ w) :
  ∀ (fuel : Nat) (listed : Array Bool) (a : Act) (w : World), ((List.range ops.size).filter fun j => !listed.getD j true).length ≤ fuel → Inv al ops FL J js t0 df ds pt st listed a w → wpAny P .any ops Q fuel listed a w := by
 have hfin : ∀ (listed : Array Bool) (a : Act) (w : World), Inv al ops FL J js t0 df ds pt st listed a w → Region.ready .any ops listed = [] → Q .normal a w := by
  intro listed a w hI hr
  obtain ⟨k, u, rfl, hfac, hJ, hk, hk1, hk2, hk3, hk4, hk5⟩ := hI.fr
  have hall := ready_nil_all hc hI.sz hr
  have hkl : k = st.length := by
   rcases Nat.lt_or_ge k st.length with h | h
   ·have h1 := hk2 k (Nat.le_refl _) h
    rw [hall (st.getD k 0 + 1) _ (by omega) (hc.slt k h)] at h1
    cases h1
   ·omega
  subst hkl
  refine hend u w hJ (facts_mk fun d hd => hfac d ?_)
  obtain ⟨i, o, h1, h2⟩ := hc.wr d hd
  exact ⟨i, o, hall (i + 1) i (by omega) (Array.getElem?_eq_some_iff.1 h1).1, h1, h2⟩
 intro fuel
 induction fuel with
 | zero =>
  intro listed a w hcnt hI
  have hr : Region.ready .any ops listed = [] := by
   rw [List.eq_nil_iff_forall_not_mem]
   intro j hj
   obtain ⟨h0, o, ho, -⟩ := mem_ready.1 hj
   have hlt : j < ops.size := (Array.getElem?_eq_some_iff.1 ho).1
   have hm : j ∈ (List.range ops.size).filter fun j => !listed.getD j true := by
    rw [List.mem_filter]
    exact ⟨List.mem_range.2 hlt, by rw [h0]; rfl⟩
   have := List.length_pos_of_mem hm
   omega
  exact ⟨hr, hfin _ _ _ hI hr⟩
 | succ fuel ih =>
  intro listed a w hcnt hI
  refine ⟨fun hr => hfin _ _ _ hI hr, fun i hi => ?_⟩
  obtain ⟨h0, o, ho, -⟩ := mem_ready.1 hi
  have hlt : i < ops.size := (Array.getElem?_eq_some_iff.1 ho).1
  refine wpOp_mono (fun a' w' hI' => ih _ a' w' ?_ hI') (inv_step hc hst hs hI hi)
  have := filter_less (p := fun j => !listed.getD j true) (q := fun j => !(listed.setIfInBounds i true).getD j true) (i := i) (by simp only [h0]; rfl) (by
   have hil : i < listed.size := by rw [hI.sz]; exact hlt
   simp [hil]) (fun j hj => by
   by_cases hij : i = j
   ·subst hij
    exfalso
    have hil : i < listed.size := by rw [hI.sz]; exact hlt
    simp [hil] at hj
   ·rw [getD_set_ne true hij] at hj; exact hj) (List.range ops.size) (List.mem_range.2 hlt)
  omega
theorem region_facts {id : Nat} {w : World} {opl : List Oper} (FL : List (Nat × Fact)) (J : Nat → List Value → World → Prop) (pt : List (List Nat)) (st : List Nat) (js : List (List Nat)) (lm : List Nat) (al : List Nat) {fr : (Nat → Value) → Array Value} (hfr : ∀ u, fillL u (temps FL) t0 = fr u)
  (hm : P.follows .mixedOrders = true) (hchk : chk al opl.toArray pt (temps FL) st js lm = true) (hst : ∀ k l w w', Below w.heap.size w w' → J k l w → J k l w') (hJ : J 0 [] w.drew)
  (hs : StepsOk al P opl.toArray Q FL J js fr df pt st lm opl 0)
  (hend : ∀ u w, J st.length ((js.getD st.length []).map u) w → Facts FL u w (temps FL) → Q .normal ⟨fr u, df⟩ w) : (Code.region id opl.toArray true).wp P Q ⟨t0, df⟩ w := by
 obtain rfl : (fun u => fillL u (temps FL) t0) = fr := funext hfr
 have hc := chk_spec hchk
 refine wp_region_any hm (wpAny_inv (t0 := t0) hc hst hs hend opl.toArray.size _ _ _ ?_ ⟨⟨0, fun d => t0.getD d undef, by rw [fillL_self], ?_, by rw [hc.js0]; exact hJ, Nat.zero_le _, fun m h => by omega, fun m _ _ => none_listed _ _, fun d hd => (by rw [hc.js0] at hd; cases hd), fun d _ hw => (by obtain ⟨j, o', h1, _, _⟩ := hw; rw [none_listed] at h1; cases h1), fun d _ d' _ _ hw => by obtain ⟨j, o', h1, _, _⟩ := hw; rw [none_listed] at h1; cases h1⟩, ?_, ?_, by simp⟩)
 ·exact Nat.le_trans (List.length_filter_le _ _) (by simp)
 ·rintro d ⟨j, o', h1, -, -⟩
  rw [none_listed] at h1; cases h1
 ·intro i hi
  rw [none_listed] at hi; cases hi
 ·intro j oj _ hl
  rw [none_listed] at hl; cases hl
end
end Go.Proofs.YtaeccljkmijpaaaGreat.AS
namespace Go.Proofs.YtaeccljkmijpaaaGreat
open Go.RowKit
def bt (s : ByteArray) (i : Nat) : UInt8 := s.data.toList.getD i 0
theorem of_civ {n y m d : Int} (h : IsCiv n y m d) : ofN y m d = n ∧ ofE y m d = 0 := by
 unfold ofN ofE
 rw [dayB_of h]
 exact ⟨h.eq.symm, rfl⟩
theorem add_small {n y m d k : Int} (h : IsCiv n y m d) (hd : d ≤ 28) (hk : nearB k = true) : adN n k = ofN ((12 * y + m - 1 + k) / 12) ((12 * y + m - 1 + k) % 12 + 1) d ∧ adE n k = ofE ((12 * y + m - 1 + k) / 12) ((12 * y + m - 1 + k) % 12 + 1) d := by
 have hv := vdB_iff.2 h.bd
 obtain ⟨e1, e2, e3⟩ := civ_eq h
 unfold adN adE adB adD adY adM amT
 rw [hv, hk, e1, e2, e3]
 simp only [Bool.and_true, if_true]
 generalize (12 * y + m - 1 + k) / 12 = Y
 generalize (12 * y + m - 1 + k) % 12 + 1 = M
 cases hi : inYM Y M
 ·have e := dys_out hi
  exact ⟨by rw [(no_days e).1, (no_days e).1], by rw [(no_days e).2, (no_days e).2]⟩
 ·have e := dys_in hi
  have hb := mdy_bd Y M
  rw [e, Int.min_eq_left (by omega)]
  exact ⟨rfl, rfl⟩
def dgT (k : Nat) (n : Int) : ByteArray := ⟨(padk k n.toNat).toArray⟩
def civT (y m d : Int) : ByteArray := dgT 4 y ++ ⟨#[45]⟩ ++ dgT 2 m ++ ⟨#[45]⟩ ++ dgT 2 d
def txT (n : Int) : ByteArray := if vdB n then civT (civY n) (civM n) (civD n) else ⟨#[]⟩
def mno (y m : Int) : Int := 12 * y + m - 1
def mfst (T : Int) : Int := nyr (T / 12) + mon (T / 12) (T % 12 + 1)
def mln (T : Int) : Int := mdy (T / 12) (T % 12 + 1)
theorem mln_bd (T : Int) : 28 ≤ mln T ∧ mln T ≤ 31 := mdy_bd _ _
theorem mfst_succ (T : Int) (h : 22800 ≤ T) : mfst (T + 1) = mfst T + mln T := by
 unfold mfst mln
 have s := mon_succ (T / 12) (T % 12 + 1) (by omega) (by omega)
 by_cases h1 : T % 12 = 11
 ·rw [show (T + 1) / 12 = T / 12 + 1 by omega, show (T + 1) % 12 + 1 = 1 by omega, mon_1, nyr_succ (T / 12) (by omega)]
  rw [show T % 12 + 1 + 1 = 13 by omega, mon_13] at s
  omega
 ·rw [show (T + 1) / 12 = T / 12 by omega, show (T + 1) % 12 + 1 = T % 12 + 1 + 1 by omega, s]
  omega
theorem mfst_step (S : Int) (k : Nat) (h : 22800 ≤ S) : mfst S + 28 * k ≤ mfst (S + k) := by
 induction k with
 | zero => simp
 | succ k ih =>
  have h1 := mfst_succ (S + k) (by omega)
  have h2 := mln_bd (S + k)
  rw [show S + ((k + 1 : Nat) : Int) = S + k + 1 by omega, h1]
  omega
theorem mfst_mono {S T : Int} (h : 22800 ≤ S) (h1 : S ≤ T) : mfst S + 28 * (T - S) ≤ mfst T := by
 have h2 := mfst_step S (T - S).toNat h
 have h3 : ((T - S).toNat : Int) = T - S := Int.toNat_of_nonneg (by omega)
 rw [h3, show S + (T - S) = T by omega] at h2
 exact h2
theorem mfst_0 : mfst 22800 = -25567 := by decide
theorem mfst_end : mfst 26400 = 84006 := by decide
theorem mfst_bd {T : Int} (h : 22800 ≤ T) (h1 : T ≤ 26400) : -25567 ≤ mfst T ∧ mfst T ≤ 84006 := by
 have a := mfst_mono (Int.le_refl 22800) h
 have b := mfst_mono h h1
 rw [mfst_0] at a
 rw [mfst_end] at b
 omega
theorem mfst_civ {T d : Int} (h : 22800 ≤ T) (h1 : T ≤ 26399) (d0 : 1 ≤ d) (d1 : d ≤ mln T) : IsCiv (mfst T + d - 1) (T / 12) (T % 12 + 1) d :=
 ⟨by omega, by omega, by omega, by omega, d0, d1, rfl⟩
theorem mfst_one {T : Int} (h : 22800 ≤ T) (h1 : T ≤ 26399) : IsCiv (mfst T) (T / 12) (T % 12 + 1) 1 := by
 have := mfst_civ h h1 (Int.le_refl 1) (by have := mln_bd T; omega)
 rwa [show mfst T + 1 - 1 = mfst T by omega] at this
def fiB (y m p : Int) : Bool := inYM y m && (decide (22800 ≤ mno y m + p) && decide (mno y m + p ≤ 26399))
theorem fiB_iff {y m p : Int} : fiB y m p = true ↔ (1900 ≤ y ∧ y ≤ 2199 ∧ 1 ≤ m ∧ m ≤ 12) ∧ 22800 ≤ mno y m + p ∧ mno y m + p ≤ 26399 := by
 unfold fiB
 rw [Bool.and_eq_true, Bool.and_eq_true, inYM_iff, decide_eq_true_eq, decide_eq_true_eq]
def fiN (y m p : Int) : Int := if fiB y m p then mfst (mno y m + p) else 0
def fiE (y m p : Int) : Int := if fiB y m p then 0 else 2
theorem day_one (y m : Int) : dayB y m 1 = inYM y m := by
 unfold dayB
 cases h : inYM y m
 ·rw [dys_out h]; rfl
 ·have := mdy_bd y m
  rw [dys_in h, decide_eq_true (show (1 : Int) ≤ 1 by omega), decide_eq_true (show (1 : Int) ≤ mdy y m by omega)]
  rfl
theorem fi_none {y m : Int} (p : Int) (h : inYM y m = false) : ofN y m 1 = 0 ∧ ofE y m 1 = 2 ∧ fiN y m p = 0 ∧ fiE y m p = 2 := by
 unfold ofN ofE fiN fiE fiB
 rw [day_one, h]
 exact ⟨rfl, rfl, rfl, rfl⟩
theorem fi_some {y m : Int} (p : Int) (h : inYM y m = true) : ofN y m 1 = mfst (mno y m) ∧ ofE y m 1 = 0 ∧ adN (mfst (mno y m)) p = fiN y m p ∧ adE (mfst (mno y m)) p = fiE y m p := by
 obtain ⟨y0, y1, m0, m1⟩ := inYM_iff.1 h
 have e : mno y m = 12 * y + m - 1 := rfl
 have e1 : mno y m / 12 = y := by omega
 have e2 : mno y m % 12 + 1 = m := by omega
 have hc := mfst_one (T := mno y m) (by omega) (by omega)
 rw [e1, e2] at hc
 obtain ⟨o1, o2⟩ := of_civ hc
 refine ⟨o1, o2, ?_⟩
 have hv := vdB_iff.2 hc.bd
 obtain ⟨c1, c2, c3⟩ := civ_eq hc
 cases hp : nearB p
 ·have hf : fiB y m p = false := by
   cases hf : fiB y m p
   ·rfl
   ·have := (fiB_iff.1 hf).2
    have h2 : ¬ (-3600 ≤ p ∧ p ≤ 3600) := fun e => by rw [nearB_iff.2 e] at hp; cases hp
    omega
  unfold adN adE adB fiN fiE
  rw [hv, hp, hf]
  exact ⟨rfl, rfl⟩
 ·have hs := add_small hc (by omega) hp
  rw [hs.1, hs.2]
  have ek : 12 * y + m - 1 + p = mno y m + p := rfl
  rw [ek]
  cases hf : fiB y m p
  ·have hi : inYM ((mno y m + p) / 12) ((mno y m + p) % 12 + 1) = false := by
    cases hi : inYM ((mno y m + p) / 12) ((mno y m + p) % 12 + 1)
    ·rfl
    ·have h3 := inYM_iff.1 hi
     rw [fiB_iff.2 ⟨⟨y0, y1, m0, m1⟩, by omega, by omega⟩] at hf
     cases hf
   unfold fiN fiE
   rw [hf, (no_days (dys_out hi)).1, (no_days (dys_out hi)).2]
   exact ⟨rfl, rfl⟩
  ·obtain ⟨-, a, b⟩ := fiB_iff.1 hf
   obtain ⟨o3, o4⟩ := of_civ (mfst_one a b)
   unfold fiN fiE
   rw [hf, o3, o4]
   exact ⟨rfl, rfl⟩
/- Calendars. -/
def clV (y m k : Int) : Bool := decide (1 ≤ k) && (decide (k ≤ 120) && fiB y m (k - 1))
theorem clV_iff {y m k : Int} : clV y m k = true ↔ (1 ≤ k ∧ k ≤ 120) ∧ (1900 ≤ y ∧ y ≤ 2199 ∧ 1 ≤ m ∧ m ≤ 12) ∧ mno y m + k ≤ 26400 := by
 unfold clV
 rw [Bool.and_eq_true, Bool.and_eq_true, decide_eq_true_eq, decide_eq_true_eq, fiB_iff]
 have e : mno y m = 12 * y + m - 1 := rfl
 omega
def clE (y m k p : Int) : Int := if clV y m k then (if 0 ≤ p ∧ p < k then 0 else 2) else 1
theorem clE_bad {y m k : Int} (p : Int) (h : clV y m k = false) : clE y m k p = 1 := by unfold clE; rw [h]; rfl
theorem clE_out {y m k p : Int} (h : clV y m k = true) (hp : ¬ (0 ≤ p ∧ p < k)) : clE y m k p = 2 := by unfold clE; rw [h, if_pos rfl, if_neg hp]
theorem clE_in {y m k p : Int} (h : clV y m k = true) (hp : 0 ≤ p ∧ p < k) : clE y m k p = 0 := by unfold clE; rw [h, if_pos rfl, if_pos hp]
theorem clE_three (y m k p : Int) : (clV y m k = false ∧ clE y m k p = 1) ∨ (clV y m k = true ∧ ¬ (0 ≤ p ∧ p < k) ∧ clE y m k p = 2) ∨ (clV y m k = true ∧ (0 ≤ p ∧ p < k) ∧ clE y m k p = 0) := by
 cases h : clV y m k
 ·exact .inl ⟨rfl, clE_bad p h⟩
 ·by_cases hp : 0 ≤ p ∧ p < k
  ·exact .inr (.inr ⟨rfl, hp, clE_in h hp⟩)
  ·exact .inr (.inl ⟨rfl, hp, clE_out h hp⟩)
theorem cl_month {y m k p : Int} (h : clV y m k = true) (hp : 0 ≤ p ∧ p < k) : 22800 ≤ mno y m + p ∧ mno y m + p ≤ 26399 ∧ fiB y m p = true := by
 have h1 := clV_iff.1 h
 have e : mno y m = 12 * y + m - 1 := rfl
 have a : 22800 ≤ mno y m + p := by omega
 have b : mno y m + p ≤ 26399 := by omega
 exact ⟨a, b, fiB_iff.2 ⟨h1.2.1, a, b⟩⟩
def pdF (y m k p : Int) : Int := if clE y m k p = 0 then mfst (mno y m + p) else 0
def pdL (y m k p : Int) : Int := if clE y m k p = 0 then mfst (mno y m + p + 1) - 1 else 0
def pdY (y m k p : Int) : Int := if clE y m k p = 0 then p / 12 else 0
def pdB (y m k p : Int) : Int := if clE y m k p = 0 then mfst (mno y m + p - p % 12) else 0
def pdP (y m k p : Int) : Int := if clE y m k p = 0 ∧ 12 ≤ p then p - p % 12 - 1 else 0
def pdPE (y m k p : Int) : Int := if clE y m k p = 0 then (if p < 12 then 8 else 0) else clE y m k p
def pdT (y m k p : Int) : ByteArray := if clE y m k p = 0 then (txT (mfst (mno y m + p))).extract 0 7 else ⟨#[]⟩
end Go.Proofs.YtaeccljkmijpaaaGreat
