/- Contracts of the functions that the statements reach, part 1: what was proved of each, callees first. -/
import Derived.Test.YtompehjecamdiaaGreatProg
import Derived.WalkKit
import Derived.WalkSpells
import Derived.Lib.Hide
import Derived.Deep.QuietTactic
import Derived.BigQuiet
import Derived.Deep.Draws
import Derived.Laws.Rows
import Derived.Laws.CopyOwn
import Derived.Deep.OwnRows
import Derived.Outline
import Derived.Laws.AppendOwnNone
import Derived.OwnWalk
import Derived.Laws.StructEq
import Derived.Deep.LoopGhost
import Derived.Deep.CutRange
import Derived.Maps.AppendAt
import Derived.Maps.OwnSet
import Derived.WalkMore
import Derived.Deep.RegionHeld
import Derived.Below
namespace Go.Proofs.YtompehjecamdiaaGreat
open Go.RowKit
section
variable {k : IntKind} {t : TypeId} {w w' : World} {b o g B : Nat} {L : List Nat}
end
section
variable {k : IntKind} {t : TypeId} {w w' : World} {g B B' c : Nat} {A : Option Addr} {L : List Nat}
end
theorem below_alloc_new {w : World} (o : Obj) : Below w.heap.size w (w.alloc o) := (Below.refl _ _).alloc (Nat.le_refl _) _
theorem grown_below {B g : Nat} {a w w' : World} (h : Below B a w) (hg : w.grownBy w' (some g)) (hB : B ≤ g) (hs : B ≤ w.heap.size) : Below B a w' :=
 ⟨hg.os.trans h.os, hg.tape.trans h.tape, hg.output.trans h.output, Nat.le_trans h.size hg.size, fun i hi => (hg.block i (by omega) (by intro e; injection e; omega)).trans (h.block i hi)⟩
theorem below_drewN {B : Nat} {a w : World} (h : Below B a w) (n : Nat) : Below B a (w.drewN n) := ⟨h.os, h.tape, h.output, h.size, h.block⟩
theorem dc_drew {B : Nat} {a w : World} (h : Below B a w) : Below B a w.drew := ⟨h.os, h.tape, h.output, h.size, h.block⟩
theorem below_more {W w w' : World} (h : Below W.heap.size W w) (hb : Below w.heap.size w w') : Below W.heap.size W w' := h.trans (hb.mono h.size)
theorem dret_bool {a b : Bool} (h : a = b) : Ending.returned (.bool a) = .returned (.bool b) := by rw [h]
open Go.RowKit
def IntsAt (k : IntKind) (w : World) (A : Option Addr) (zs : List Int) : Prop := 0 < zs.length → ∃ b off, A = some ⟨b, off, none⟩ ∧ b < w.heap.size ∧ ∀ i, i < zs.length → w.cell? ⟨b, off + i, none⟩ = some (.int k (zs.getD i 0))
def OwnI (k : IntKind) (e : TypeId) (w : World) (base : Nat) (v : Value) (L : List Int) : Prop := w.ownsRow base e 1 v L.length (L.map fun d => Value.int k d)
section
variable {k : IntKind} {e : TypeId} {w w' : World} {base B : Nat} {v : Value} {A : Option Addr} {L M zs : List Int}
theorem IntsAt.nil : IntsAt k w A [] := fun h => absurd h (by simp)
theorem OwnI.nil : OwnI k e w base (.slice none 0 0) [] := World.ownsRow_nil _ _ _ _
theorem OwnI.alloc (h : OwnI k e w base v L) (o : Obj) : OwnI k e (w.alloc o) base v L := World.ownsRow.alloc h o
theorem OwnI.up (h : OwnI k e w base v L) (hb : Below w.heap.size w w') : OwnI k e w' base v L := by
 obtain ⟨h1, h2⟩ := h
 refine ⟨h1, ?_⟩
 rcases h2 with h2 | ⟨g, cap, cur, rfl, hbg, hg, rest⟩
 ·exact .inl h2
 ·have hlt : g < w.heap.size := by
   rcases Nat.lt_or_ge g w.heap.size with hlt | hge
   ·exact hlt
   ·rw [Array.getElem?_eq_none hge] at hg; cases hg
  exact .inr ⟨g, cap, cur, rfl, hbg, (hb.block g hlt).trans hg, rest⟩
theorem OwnI.ints (h : OwnI k e w base v L) : ∃ A c, v = .slice A L.length c ∧ IntsAt k w A L := by
 obtain ⟨h1, h2⟩ := h
 rcases h2 with ⟨rfl, h0⟩ | ⟨g, cap, cur, rfl, hbg, hg, hn, hcap, hsz, hcur⟩
 ·obtain rfl : L = [] := List.eq_nil_of_length_eq_zero h0
  exact ⟨none, 0, rfl, IntsAt.nil⟩
 ·refine ⟨_, cap, rfl, fun _ => ⟨g, 0, rfl, ?_, fun j hj => ?_⟩⟩
  ·rcases Nat.lt_or_ge g w.heap.size with hlt | hge
   ·exact hlt
   ·rw [Array.getElem?_eq_none hge] at hg; cases hg
  ·have h3 : cur.toList[j]? = some (Value.int k (L.getD j 0)) := by
    have : (cur.toList.take (L.length * 1))[j]? = some (Value.int k (L.getD j 0)) := by
     rw [hcur, List.getElem?_map, List.getElem?_eq_getElem hj, List.getD_eq_getElem?_getD, List.getElem?_eq_getElem hj]; rfl
    rw [List.getElem?_take] at this
    split at this
    ·exact this
    ·cases this
   simp only [World.cell?, hg, Nat.zero_add]
   simpa using h3
end
theorem infoI_int : (Tryz.prog.info? 3).map (fun i => (i.zero, i.size, i.bytes)) = some (some (.int .i64 0), 1, 8) := by kernel_rfl
structure Acc where
 code : Int
 kind : Int
 basis : Int
 par : Int
structure Bal where
 acct : Int
 amt : Int
instance : DecidableEq Bal := fun a b => decidable_of_iff (a.acct = b.acct ∧ a.amt = b.amt) (by cases a; cases b; simp)
abbrev acc0 : Acc := ⟨0, 0, 0, 0⟩
abbrev bal0 : Bal := ⟨0, 0⟩
theorem getD_mem_acc {α : Type} {d : α} {L : List α} {i : Nat} (h : i < L.length) : L.getD i d ∈ L := by
 rw [List.getD_eq_getElem?_getD, List.getElem?_eq_getElem h]; exact List.getElem_mem h
theorem mem_getD_acc {α : Type} {d : α} {L : List α} {a : α} (h : a ∈ L) : ∃ i, i < L.length ∧ L.getD i d = a := by
 obtain ⟨i, hi, rfl⟩ := List.getElem_of_mem h
 exact ⟨i, hi, by rw [List.getD_eq_getElem?_getD, List.getElem?_eq_getElem hi]; rfl⟩
theorem take_succ_getD {α : Type} {d : α} {L : List α} {i : Nat} (h : i < L.length) : L.take (i + 1) = L.take i ++ [L.getD i d] := by
 rw [List.take_succ_eq_append_getElem h, List.getD_eq_getElem?_getD, List.getElem?_eq_getElem h]; rfl
theorem drop_getD {α : Type} {d : α} {L : List α} {i : Nat} (h : i < L.length) : L.drop i = L.getD i d :: L.drop (i + 1) := by
 rw [List.drop_eq_getElem_cons h, List.getD_eq_getElem?_getD, List.getElem?_eq_getElem h]; rfl
theorem all_getD {α : Type} {d : α} {p : α → Bool} {L : List α} : L.all p = true ↔ ∀ i, i < L.length → p (L.getD i d) = true := by
 rw [List.all_eq_true]
 constructor
 ·intro h i hi; exact h _ (getD_mem_acc hi)
 ·intro h x hx
  obtain ⟨i, hi, rfl⟩ := mem_getD_acc (d := d) hx
  exact h i hi
def fnd (L : List Acc) (c : Int) : Option Acc := L.find? fun a => decide (a.code = c)
theorem fnd_some {L : List Acc} {c : Int} {a : Acc} (h : fnd L c = some a) : a ∈ L ∧ a.code = c := by
 unfold fnd at h
 exact ⟨List.mem_of_find?_eq_some h, by simpa using List.find?_some h⟩
theorem fnd_none {L : List Acc} {c : Int} : fnd L c = none ↔ ∀ a ∈ L, a.code ≠ c := by
 unfold fnd; rw [List.find?_eq_none]; simp
theorem fnd_is {L : List Acc} {a : Acc} (h : a ∈ L) : ∃ b, fnd L a.code = some b := by
 cases hf : fnd L a.code with
 | some b => exact ⟨b, rfl⟩
 | none => exact absurd rfl (fnd_none.1 hf a h)
def climbN (L : List Acc) : Nat → Int → List Int
 | 0, _ => []
 | n + 1, c => match fnd L c with
  | none => []
  | some a => c :: climbN L n a.par
def climb (L : List Acc) (c : Int) : List Int := climbN L (L.length + 1) c
theorem climbN_none {L : List Acc} {n : Nat} {c : Int} (h : fnd L c = none) : climbN L n c = [] := by
 cases n with
 | zero => rfl
 | succ n => simp [climbN, h]
theorem climbN_some {L : List Acc} {n : Nat} {c : Int} {a : Acc} (h : fnd L c = some a) : climbN L (n + 1) c = c :: climbN L n a.par := by simp [climbN, h]
theorem climbN_le {L : List Acc} : ∀ {n : Nat} {c : Int}, (climbN L n c).length ≤ n
 | 0, _ => by simp [climbN]
 | n + 1, c => by
  cases h : fnd L c with
  | none => rw [climbN_none h]; simp
  | some a => rw [climbN_some h]; have := climbN_le (L := L) (n := n) (c := a.par); simp; exact this
theorem climbN_take {L : List Acc} : ∀ {m n : Nat} {c : Int}, m ≤ n → climbN L m c = (climbN L n c).take m
 | 0, n, c, _ => by simp [climbN]
 | m + 1, 0, c, h => by omega
 | m + 1, n + 1, c, h => by
  cases hf : fnd L c with
  | none => rw [climbN_none hf, climbN_none hf]; simp
  | some a => rw [climbN_some hf, climbN_some hf, climbN_take (m := m) (n := n) (by omega)]; rfl
theorem climbN_more {L : List Acc} {m n : Nat} {c : Int} (h : (climbN L n c).length < n) (hm : n ≤ m) : climbN L m c = climbN L n c := by
 have h1 := climbN_take (L := L) (c := c) hm
 have h2 : (climbN L n c).length = min n (climbN L m c).length := by rw [h1, List.length_take]
 rw [h1, List.take_of_length_le (by omega)]
theorem climbN_drop {L : List Acc} : ∀ {k n : Nat} {c : Int}, k < (climbN L n c).length → (climbN L n c).drop k = climbN L (n - k) ((climbN L n c).getD k 0)
 | k, 0, c, h => by simp [climbN] at h
 | 0, n + 1, c, h => by
  cases hf : fnd L c with
  | none => rw [climbN_none hf] at h; simp at h
  | some a => rw [climbN_some hf]; simp [climbN_some hf]
 | k + 1, n + 1, c, h => by
  cases hf : fnd L c with
  | none => rw [climbN_none hf] at h; simp at h
  | some a =>
   rw [climbN_some hf] at h ⊢
   have := climbN_drop (L := L) (k := k) (n := n) (c := a.par) (by simpa using h)
   simpa [Nat.succ_sub_succ] using this
theorem climbN_mem {L : List Acc} : ∀ {n : Nat} {c x : Int}, x ∈ climbN L n c → ∃ a ∈ L, a.code = x
 | 0, c, x, h => by simp [climbN] at h
 | n + 1, c, x, h => by
  cases hf : fnd L c with
  | none => rw [climbN_none hf] at h; simp at h
  | some a =>
   rw [climbN_some hf] at h
   rcases List.mem_cons.1 h with rfl | h
   ·exact ⟨a, (fnd_some hf).1, (fnd_some hf).2⟩
   ·exact climbN_mem h
theorem climbN_nodup {L : List Acc} {n : Nat} {c : Int} (h : (climbN L n c).length < n) : (climbN L n c).Nodup := by
 rw [List.nodup_iff_pairwise_ne, List.pairwise_iff_getElem]
 intro i j hi hj hij e
 have d1 := climbN_drop (L := L) (n := n) (c := c) hi
 have d2 := climbN_drop (L := L) (n := n) (c := c) hj
 rw [List.getD_eq_getElem?_getD, List.getElem?_eq_getElem hi] at d1
 rw [List.getD_eq_getElem?_getD, List.getElem?_eq_getElem hj] at d2
 simp only [Option.getD_some] at d1 d2
 rw [← e] at d2
 have l1 := congrArg List.length d1
 have l2 := congrArg List.length d2
 rw [List.length_drop] at l1 l2
 have := climbN_more (L := L) (m := n - i) (n := n - j) (c := (climbN L n c)[i]) (by omega) (by omega)
 rw [this] at l1
 omega
theorem nodup_subset_len {α : Type} [DecidableEq α] : ∀ {l m : List α}, l.Nodup → (∀ x ∈ l, x ∈ m) → l.length ≤ m.length
 | [], m, _, _ => by simp
 | a :: l, m, hn, hs => by
  have ha := hs a (List.mem_cons_self ..)
  rw [List.nodup_cons] at hn
  have := nodup_subset_len (l := l) (m := m.erase a) hn.2 (fun x hx => by
   rw [List.mem_erase_of_ne (by rintro rfl; exact hn.1 hx)]
   exact hs x (List.mem_cons_of_mem _ hx))
  rw [List.length_erase_of_mem ha] at this
  have h0 : 0 < m.length := List.length_pos_of_mem ha
  simp; omega
def Ends (L : List Acc) (c : Int) : Prop := ∃ n, (climbN L n c).length < n
theorem ends_climb {L : List Acc} {c : Int} (h : Ends L c) : (climb L c).length ≤ L.length := by
 obtain ⟨n, h⟩ := h
 unfold climb
 have hl : (climbN L n c).length ≤ L.length := by
  have := nodup_subset_len (l := climbN L n c) (m := L.map Acc.code) (climbN_nodup h) (fun x hx => by
   obtain ⟨a, ha, e⟩ := climbN_mem hx
   exact List.mem_map.2 ⟨a, ha, e⟩)
  simpa using this
 rcases Nat.lt_or_ge (L.length + 1) n with h1 | h1
 ·rw [climbN_take (Nat.le_of_lt h1), List.length_take]; omega
 ·rw [climbN_more h h1]; exact hl
theorem climb_ends {L : List Acc} {c : Int} (h : (climb L c).length ≤ L.length) : Ends L c := ⟨L.length + 1, by unfold climb at h; omega⟩
theorem ends_iff {L : List Acc} {c : Int} : (climb L c).length ≤ L.length ↔ Ends L c := ⟨climb_ends, ends_climb⟩
theorem ends_out {L : List Acc} {c : Int} (h : fnd L c = none) : Ends L c := ⟨1, by rw [climbN_none h]; simp⟩
theorem ends_up {L : List Acc} {c : Int} {a : Acc} (h : fnd L c = some a) (he : Ends L a.par) : Ends L c := by
 obtain ⟨n, he⟩ := he
 exact ⟨n + 1, by rw [climbN_some h]; simp; exact he⟩
def stepN (L : List Acc) : Nat → Int → Option Int
 | 0, c => some c
 | k + 1, c => match fnd L c with
  | none => none
  | some a => stepN L k a.par
theorem stepN_snoc {L : List Acc} : ∀ {k : Nat} {c d : Int} {a : Acc}, stepN L k c = some d → fnd L d = some a → stepN L (k + 1) c = some a.par
 | 0, c, d, a, h, ha => by simp [stepN] at h; subst h; simp [stepN, ha]
 | k + 1, c, d, a, h, ha => by
  cases hf : fnd L c with
  | none => simp [stepN, hf] at h
  | some x =>
   have h1 : stepN L k x.par = some d := by simpa [stepN, hf] using h
   have := stepN_snoc h1 ha
   rw [show stepN L (k + 1 + 1) c = stepN L (k + 1) x.par from by simp [stepN, hf]]
   exact this
theorem step_ends {L : List Acc} : ∀ {k : Nat} {c d : Int}, stepN L k c = some d → Ends L d → Ends L c
 | 0, c, d, h, he => by simp [stepN] at h; subst h; exact he
 | k + 1, c, d, h, he => by
  cases hf : fnd L c with
  | none => simp [stepN, hf] at h
  | some x =>
   have h1 : stepN L k x.par = some d := by simpa [stepN, hf] using h
   exact ends_up hf (step_ends h1 he)
theorem step_len {L : List Acc} : ∀ {k : Nat} {c d : Int} (n : Nat), stepN L k c = some d → (climbN L (n + k) c).length = k + (climbN L n d).length
 | 0, c, d, n, h => by simp [stepN] at h; subst h; simp
 | k + 1, c, d, n, h => by
  cases hf : fnd L c with
  | none => simp [stepN, hf] at h
  | some x =>
   have h1 : stepN L k x.par = some d := by simpa [stepN, hf] using h
   rw [show n + (k + 1) = (n + k) + 1 from rfl, climbN_some hf]
   have := step_len n h1
   simp; omega
theorem loop_no_end {L : List Acc} {k : Nat} {c : Int} (h : stepN L (k + 1) c = some c) : ¬ Ends L c := by
 rintro ⟨n, he⟩
 have h1 := step_len n h
 rw [climbN_more he (Nat.le_add_right _ _)] at h1
 omega
def lastC (L : List Acc) : Nat → Int
 | 0 => 0
 | k + 1 => (L.getD k acc0).code
theorem lastC_succ {L : List Acc} {k : Nat} : lastC L (k + 1) = (L.getD k acc0).code := rfl
def codesTo (L : List Acc) : Nat → Bool
 | 0 => true
 | k + 1 => codesTo L k && decide (lastC L k < (L.getD k acc0).code)
theorem codes_succ {L : List Acc} {k : Nat} : codesTo L (k + 1) = (codesTo L k && decide (lastC L k < (L.getD k acc0).code)) := rfl
theorem codesTo_le {L : List Acc} : ∀ {k m : Nat}, k ≤ m → codesTo L m = true → codesTo L k = true
  | k, m, h, hm => by
    induction m with
    | zero => obtain rfl : k = 0 := by omega
              exact hm
    | succ m ih =>
      rcases Nat.lt_or_ge k (m + 1) with h1 | h1
      · rw [codes_succ, Bool.and_eq_true] at hm
        exact ih (by omega) hm.1
      · obtain rfl : k = m + 1 := by omega
        exact hm
def codesB (L : List Acc) : Bool := codesTo L L.length && decide (lastC L L.length ≤ 99999)
theorem codesB_no {L : List Acc} {k : Nat} (hk : k < L.length) (h : (L.getD k acc0).code ≤ lastC L k) : codesB L = false := by
 cases h1 : codesTo L L.length with
 | false => unfold codesB; rw [h1]; rfl
 | true =>
  have := codesTo_le (k := k + 1) (by omega) h1
  rw [codes_succ, Bool.and_eq_true, decide_eq_true_eq] at this
  omega
theorem codesB_end {L : List Acc} (h : codesTo L L.length = true) : codesB L = decide (lastC L L.length ≤ 99999) := by unfold codesB; rw [h]; rfl
structure Srt (L : List Acc) : Prop where
 pos : ∀ i, i < L.length → 1 ≤ (L.getD i acc0).code
 mono : ∀ i j, i < j → j < L.length → (L.getD i acc0).code < (L.getD j acc0).code
theorem codesTo_is {L : List Acc} : ∀ {k : Nat}, codesTo L k = true → (∀ i, i < k → lastC L i < (L.getD i acc0).code)
 | 0, _ => fun i hi => by omega
 | k + 1, h => fun i hi => by
  rw [codes_succ, Bool.and_eq_true, decide_eq_true_eq] at h
  rcases Nat.lt_or_ge i k with h1 | h1
  ·exact codesTo_is h.1 i h1
  ·obtain rfl : i = k := by omega
   exact h.2
theorem codesTo_srt {L : List Acc} (h : codesTo L L.length = true) : Srt L := by
 have h1 := codesTo_is h
 have h2 : ∀ j, j < L.length → 1 ≤ (L.getD j acc0).code ∧ ∀ i, i < j → (L.getD i acc0).code < (L.getD j acc0).code := by
  intro j
  induction j with
  | zero =>
   intro hj
   have := h1 0 hj
   simp only [lastC] at this
   exact ⟨by omega, fun i hi => by omega⟩
  | succ j ih =>
   intro hj
   have h3 := h1 (j + 1) hj
   obtain ⟨h4, h5⟩ := ih (by omega)
   rw [lastC_succ] at h3
   refine ⟨by omega, fun i hi => ?_⟩
   rcases Nat.lt_or_ge i j with h6 | h6
   ·have := h5 i h6; omega
   ·obtain rfl : i = j := by omega
    exact h3
 exact ⟨fun i hi => (h2 i hi).1, fun i j hij hj => (h2 j hj).2 i hij⟩
theorem codesB_srt {L : List Acc} (h : codesB L = true) : Srt L := by
 unfold codesB at h; rw [Bool.and_eq_true] at h; exact codesTo_srt h.1
theorem Srt.inj {L : List Acc} (h : Srt L) {i j : Nat} (hi : i < L.length) (hj : j < L.length) (e : (L.getD i acc0).code = (L.getD j acc0).code) : i = j := by
 rcases Nat.lt_trichotomy i j with h1 | h1 | h1
 ·have := h.mono i j h1 hj; omega
 ·exact h1
 ·have := h.mono j i h1 hi; omega
theorem Srt.fnd_at {L : List Acc} (h : Srt L) {i : Nat} (hi : i < L.length) : fnd L (L.getD i acc0).code = some (L.getD i acc0) := by
 obtain ⟨b, hb⟩ := fnd_is (getD_mem_acc (d := acc0) hi)
 obtain ⟨h1, h2⟩ := fnd_some hb
 obtain ⟨j, hj, rfl⟩ := mem_getD_acc (d := acc0) h1
 obtain rfl := h.inj hj hi h2
 exact hb
theorem Srt.fnd_mem {L : List Acc} (h : Srt L) {a : Acc} (ha : a ∈ L) : fnd L a.code = some a := by
 obtain ⟨i, hi, rfl⟩ := mem_getD_acc (d := acc0) ha
 exact h.fnd_at hi
theorem Srt.fnd_zero {L : List Acc} (h : Srt L) : fnd L 0 = none := by
 rw [fnd_none]
 intro a ha e
 obtain ⟨i, hi, rfl⟩ := mem_getD_acc (d := acc0) ha
 have := h.pos i hi
 omega
theorem Srt.cut {L : List Acc} (h : Srt L) {c : Int} {m : Nat} (hm : m ≤ L.length) (h1 : ∀ t, t < m → (L.getD t acc0).code < c) (h2 : ∀ t, m ≤ t → t < L.length → c ≤ (L.getD t acc0).code) :
  (m < L.length ∧ (L.getD m acc0).code = c ∧ fnd L c = some (L.getD m acc0)) ∨ ((m = L.length ∨ (m < L.length ∧ c < (L.getD m acc0).code)) ∧ fnd L c = none) := by
 rcases Nat.lt_or_ge m L.length with h3 | h3
 ·rcases Int.lt_or_le c (L.getD m acc0).code with h4 | h4
  ·refine .inr ⟨.inr ⟨h3, h4⟩, ?_⟩
   rw [fnd_none]
   intro a ha e
   obtain ⟨i, hi, rfl⟩ := mem_getD_acc (d := acc0) ha
   rcases Nat.lt_or_ge i m with h5 | h5
   ·have := h1 i h5; omega
   ·rcases Nat.lt_or_ge m i with h6 | h6
    ·have := h.mono m i h6 hi; omega
    ·obtain rfl : i = m := by omega
     omega
  ·have h5 := h2 m (Nat.le_refl _) h3
   have h6 : (L.getD m acc0).code = c := by omega
   exact .inl ⟨h3, h6, by rw [← h6]; exact h.fnd_at h3⟩
 ·refine .inr ⟨.inl (by omega), ?_⟩
  rw [fnd_none]
  intro a ha e
  obtain ⟨i, hi, rfl⟩ := mem_getD_acc (d := acc0) ha
  have := h1 i (by omega); omega
def loB (g : Bool) : Int := if g then 1 else 0
def hiB (g : Bool) : Int := if g then 3 else 0
def kinB (g : Bool) (a : Acc) : Bool := decide (1 ≤ a.kind) && decide (a.kind ≤ 5) && decide (loB g ≤ a.basis) && decide (a.basis ≤ hiB g)
theorem kinB_is {g : Bool} {a : Acc} (h : kinB g a = true) : 1 ≤ a.kind ∧ a.kind ≤ 5 ∧ loB g ≤ a.basis ∧ a.basis ≤ hiB g := by
 unfold kinB at h; simp only [Bool.and_eq_true, decide_eq_true_eq] at h; exact ⟨h.1.1.1, h.1.1.2, h.1.2, h.2⟩
theorem kinB_no {g : Bool} {a : Acc} (h : kinB g a = false) : a.kind < 1 ∨ (1 ≤ a.kind ∧ 5 < a.kind) ∨ (1 ≤ a.kind ∧ a.kind ≤ 5 ∧ a.basis < loB g) ∨ (1 ≤ a.kind ∧ a.kind ≤ 5 ∧ loB g ≤ a.basis ∧ hiB g < a.basis) := by
 rcases Int.lt_or_le a.kind 1 with h1 | h1
 ·exact .inl h1
 rcases Int.lt_or_le 5 a.kind with h2 | h2
 ·exact .inr (.inl ⟨h1, h2⟩)
 rcases Int.lt_or_le a.basis (loB g) with h3 | h3
 ·exact .inr (.inr (.inl ⟨h1, h2, h3⟩))
 rcases Int.lt_or_le (hiB g) a.basis with h4 | h4
 ·exact .inr (.inr (.inr ⟨h1, h2, h3, h4⟩))
 ·unfold kinB at h
  rw [decide_eq_true h1, decide_eq_true h2, decide_eq_true h3, decide_eq_true h4] at h
  cases h
def kindsB (L : List Acc) (g : Bool) : Bool := L.all (kinB g)
def parB (L : List Acc) (a : Acc) : Bool := decide (a.par = 0) || match fnd L a.par with
 | none => false
 | some p => decide (p.kind = a.kind)
def parentsB (L : List Acc) : Bool := L.all (parB L)
def topB (L : List Acc) (a : Acc) : Bool := decide ((climb L a.code).length ≤ L.length)
def topsB (L : List Acc) : Bool := L.all (topB L)
def vB (L : List Acc) (g : Bool) : Bool := decide (L.length ≤ 200) && codesB L && kindsB L g && parentsB L && topsB L
theorem all_false_getD {α : Type} {d : α} {p : α → Bool} {L : List α} {k : Nat} (hk : k < L.length) (h : p (L.getD k d) = false) : L.all p = false := by
 rw [List.all_eq_false]
 exact ⟨_, getD_mem_acc hk, by rw [h]; simp⟩
theorem take_all_getD {α : Type} {d : α} {p : α → Bool} (L : List α) (k : Nat) (h : k < L.length) : (L.take (k + 1)).all p = ((L.take k).all p && p (L.getD k d)) := by
 rw [take_succ_getD (d := d) h, List.all_append]; simp
def cmI (x y : Int) : Int := if x < y then -1 else if y < x then 1 else 0
def fndA (L : List Acc) (c : Int) : Acc := (fnd L c).getD acc0
theorem fnd_take_succ {L : List Acc} {c : Int} {k : Nat} (hk : k < L.length) (h : fnd (L.take k) c = none) : fnd (L.take (k + 1)) c = if (L.getD k acc0).code = c then some (L.getD k acc0) else none := by
 rw [take_succ_getD (d := acc0) hk]
 unfold fnd at h ⊢
 rw [List.find?_append, h]
 simp only [Option.none_or, List.find?_cons, List.find?_nil]
 split <;> split <;> simp_all
theorem fnd_take {L : List Acc} {c : Int} {k : Nat} {a : Acc} (h : fnd (L.take k) c = some a) : fnd L c = some a := by
 unfold fnd at h ⊢
 rw [← List.take_append_drop k L, List.find?_append, h]
 rfl
def amtB (n : Int) : Bool := decide (-1000000000000 ≤ n) && decide (n ≤ 1000000000000)
def prB (L : List Acc) (a : Acc) : Bool := decide (a.par = 0) || match fnd L a.par with
 | none => false
 | some p => decide (p.code ≠ a.code) && decide (p.kind = a.kind)
def properB (L : List Acc) (g : Bool) (a : Acc) : Bool := decide (1 ≤ a.code) && decide (a.code ≤ 99999) && kinB g a && prB L a
def rowB (L : List Acc) (g : Bool) (i : Nat) : Bool := properB L g (L.getD i acc0) && (decide (i = 0) || decide ((L.getD (i - 1) acc0).code < (L.getD i acc0).code)) && topB L (L.getD i acc0)
def rowsTo (L : List Acc) (g : Bool) : Nat → Bool
 | 0 => true
 | k + 1 => rowsTo L g k && rowB L g k
theorem rowsTo_le {L : List Acc} {g : Bool} : ∀ {k m : Nat}, k ≤ m → rowsTo L g m = true → rowsTo L g k = true
  | k, m, h, hm => by
    induction m with
    | zero => obtain rfl : k = 0 := by omega
              exact hm
    | succ m ih =>
      rcases Nat.lt_or_ge k (m + 1) with h1 | h1
      · rw [rowsTo, Bool.and_eq_true] at hm
        exact ih (by omega) hm.1
      · obtain rfl : k = m + 1 := by omega
        exact hm
def rvB (L : List Acc) (g : Bool) : Bool := decide (L.length ≤ 200) && rowsTo L g L.length
theorem rvB_no {L : List Acc} {g : Bool} {k : Nat} (hk : k < L.length) (h : rowB L g k = false) : rvB L g = false := by
 cases h1 : rowsTo L g L.length with
 | false => unfold rvB; rw [h1, Bool.and_false]
 | true =>
  have := rowsTo_le (k := k + 1) (by omega) h1
  rw [rowsTo, h, Bool.and_false] at this; cases this
theorem rowsTo_is {L : List Acc} {g : Bool} : ∀ {k : Nat}, rowsTo L g k = true ↔ ∀ i, i < k → rowB L g i = true
 | 0 => ⟨fun _ i hi => by omega, fun _ => rfl⟩
 | k + 1 => by
  rw [rowsTo, Bool.and_eq_true, rowsTo_is]
  constructor
  ·rintro ⟨h1, h2⟩ i hi
   rcases Nat.lt_or_ge i k with h3 | h3
   ·exact h1 i h3
   ·obtain rfl : i = k := by omega
    exact h2
  ·intro h; exact ⟨fun i hi => h i (by omega), h k (by omega)⟩
theorem parB_is {L : List Acc} {a : Acc} : parB L a = true ↔ a.par = 0 ∨ ∃ p, fnd L a.par = some p ∧ p.kind = a.kind := by
 unfold parB
 cases fnd L a.par with
 | none => simp
 | some p => simp
theorem prB_is {L : List Acc} {a : Acc} : prB L a = true ↔ a.par = 0 ∨ ∃ p, fnd L a.par = some p ∧ p.code ≠ a.code ∧ p.kind = a.kind := by
 unfold prB
 cases fnd L a.par with
 | none => simp
 | some p => simp
theorem topB_is {L : List Acc} {a : Acc} : topB L a = true ↔ Ends L a.code := by unfold topB; rw [decide_eq_true_eq]; exact ends_iff
theorem vB_eq (L : List Acc) (g : Bool) : vB L g = rvB L g := by
 rw [Bool.eq_iff_iff]
 unfold vB rvB kindsB parentsB topsB
 simp only [Bool.and_eq_true, decide_eq_true_eq]
 rw [rowsTo_is]
 constructor
 ·rintro ⟨⟨⟨⟨h0, hc⟩, hk⟩, hp⟩, ht⟩
  refine ⟨h0, fun i hi => ?_⟩
  have hs := codesB_srt hc
  have hm := getD_mem_acc (d := acc0) hi
  unfold rowB properB
  simp only [Bool.and_eq_true, Bool.or_eq_true, decide_eq_true_eq]
  rw [List.all_eq_true] at hk hp ht
  have h1 := ht _ hm
  refine ⟨⟨⟨⟨⟨hs.pos i hi, ?_⟩, hk _ hm⟩, ?_⟩, ?_⟩, h1⟩
  ·unfold codesB at hc
   rw [Bool.and_eq_true, decide_eq_true_eq] at hc
   have h2 := hc.2
   rcases Nat.lt_or_ge i (L.length - 1) with h3 | h3
   ·have h4 := hs.mono i (L.length - 1) h3 (by omega)
    have h5 : lastC L L.length = (L.getD (L.length - 1) acc0).code := by
     obtain ⟨n, hn⟩ : ∃ n, L.length = n + 1 := ⟨L.length - 1, by omega⟩
     rw [hn]; rfl
    rw [h5] at h2; omega
   ·obtain ⟨n, hn⟩ : ∃ n, L.length = n + 1 := ⟨L.length - 1, by omega⟩
    obtain rfl : i = n := by omega
    rw [hn] at h2; exact h2
  ·rw [prB_is]
   rcases parB_is.1 (hp _ hm) with h2 | ⟨p, h2, h3⟩
   ·exact .inl h2
   ·refine .inr ⟨p, h2, fun e => ?_, h3⟩
    have h4 := (fnd_some h2).2
    have h5 : stepN L 1 (L.getD i acc0).code = some (L.getD i acc0).code := by
     simp only [stepN, hs.fnd_at hi]
     rw [← h4, e]
    exact loop_no_end h5 (topB_is.1 h1)
  ·rcases Nat.eq_zero_or_pos i with h2 | h2
   ·exact .inl h2
   ·exact .inr (hs.mono (i - 1) i (by omega) hi)
 ·rintro ⟨h0, hr⟩
  have hr2 : ∀ i, i < L.length → (properB L g (L.getD i acc0) = true ∧ (i = 0 ∨ (L.getD (i - 1) acc0).code < (L.getD i acc0).code)) ∧ topB L (L.getD i acc0) = true := by
   intro i hi
   have := hr i hi
   unfold rowB at this
   simpa only [Bool.and_eq_true, Bool.or_eq_true, decide_eq_true_eq] using this
  have hp2 : ∀ i, i < L.length → ((1 ≤ (L.getD i acc0).code ∧ (L.getD i acc0).code ≤ 99999) ∧ kinB g (L.getD i acc0) = true) ∧ prB L (L.getD i acc0) = true := by
   intro i hi
   have := (hr2 i hi).1.1
   unfold properB at this
   simpa only [Bool.and_eq_true, decide_eq_true_eq] using this
  refine ⟨⟨⟨⟨h0, ?_⟩, ?_⟩, ?_⟩, ?_⟩
  ·unfold codesB
   rw [Bool.and_eq_true, decide_eq_true_eq]
   have hct : ∀ k, k ≤ L.length → codesTo L k = true := by
    intro k
    induction k with
    | zero => intro _; rfl
    | succ k ih =>
     intro hk
     rw [codes_succ, ih (by omega), Bool.true_and, decide_eq_true_eq]
     cases k with
     | zero => have := (hp2 0 (by omega)).1.1.1; simp only [lastC]; omega
     | succ k =>
      rw [lastC_succ]
      rcases (hr2 (k + 1) (by omega)).1.2 with h1 | h1
      ·omega
      ·exact h1
   refine ⟨hct _ (Nat.le_refl _), ?_⟩
   rcases Nat.eq_zero_or_pos L.length with h1 | h1
   ·rw [h1]; simp [lastC]
   ·obtain ⟨n, hn⟩ : ∃ n, L.length = n + 1 := ⟨L.length - 1, by omega⟩
    rw [hn, lastC_succ]
    exact (hp2 n (by omega)).1.1.2
  ·rw [all_getD (d := acc0)]; intro i hi; exact (hp2 i hi).1.2
  ·rw [all_getD (d := acc0)]
   intro i hi
   rw [parB_is]
   rcases prB_is.1 (hp2 i hi).2 with h1 | ⟨p, h1, _, h3⟩
   ·exact .inl h1
   ·exact .inr ⟨p, h1, h3⟩
  ·rw [all_getD (d := acc0)]; intro i hi; exact (hr2 i hi).2
open Go.RowKit
abbrev accV (a : Acc) : Value := .agg #[.int .i64 a.code, .int .i64 a.kind, .int .i64 a.basis, .int .i64 a.par]
structure A4 (w : World) (b o : Nat) (a : Acc) : Prop where
 c0 : w.cell? ⟨b, o, none⟩ = some (.int .i64 a.code)
 c1 : w.cell? ⟨b, o + 1, none⟩ = some (.int .i64 a.kind)
 c2 : w.cell? ⟨b, o + 2, none⟩ = some (.int .i64 a.basis)
 c3 : w.cell? ⟨b, o + 3, none⟩ = some (.int .i64 a.par)
structure B2 (w : World) (b o : Nat) (a : Bal) : Prop where
 c0 : w.cell? ⟨b, o, none⟩ = some (.int .i64 a.acct)
 c1 : w.cell? ⟨b, o + 1, none⟩ = some (.int .i64 a.amt)
def AccAt (w : World) (A : Option Addr) (L : List Acc) : Prop := 0 < L.length → ∃ b off, A = some ⟨b, off, none⟩ ∧ b < w.heap.size ∧ ∀ i, i < L.length → A4 w b (off + i * 4) (L.getD i acc0)
def BalAt (w : World) (A : Option Addr) (L : List Bal) : Prop := 0 < L.length → ∃ b off, A = some ⟨b, off, none⟩ ∧ b < w.heap.size ∧ ∀ i, i < L.length → B2 w b (off + i * 2) (L.getD i bal0)
structure AB (w : World) (g : Nat) (a : Acc) : Prop where
 cells : A4 w g 0 a
 lt : g < w.heap.size
 fz : ∀ i, w.frozen? ⟨g, i, none⟩ = false
section
variable {w w' : World} {b o g B : Nat} {a : Acc} {x : Bal} {A : Option Addr} {L : List Acc} {M : List Bal}
theorem A4.up (h : A4 w b o a) (hb : Below B w w') (hlt : b < B) : A4 w' b o a :=
 ⟨(hb.cell (p := ⟨b, o, none⟩) hlt).trans h.c0, (hb.cell (p := ⟨b, o + 1, none⟩) hlt).trans h.c1, (hb.cell (p := ⟨b, o + 2, none⟩) hlt).trans h.c2, (hb.cell (p := ⟨b, o + 3, none⟩) hlt).trans h.c3⟩
theorem B2.up (h : B2 w b o x) (hb : Below B w w') (hlt : b < B) : B2 w' b o x :=
 ⟨(hb.cell (p := ⟨b, o, none⟩) hlt).trans h.c0, (hb.cell (p := ⟨b, o + 1, none⟩) hlt).trans h.c1⟩
theorem AccAt.up (h : AccAt w A L) (hb : Below w.heap.size w w') : AccAt w' A L := fun h0 => by
 obtain ⟨b, off, e, hlt, hc⟩ := h h0
 exact ⟨b, off, e, Nat.lt_of_lt_of_le hlt hb.size, fun i hi => (hc i hi).up hb hlt⟩
theorem BalAt.up (h : BalAt w A M) (hb : Below w.heap.size w w') : BalAt w' A M := fun h0 => by
 obtain ⟨b, off, e, hlt, hc⟩ := h h0
 exact ⟨b, off, e, Nat.lt_of_lt_of_le hlt hb.size, fun i hi => (hc i hi).up hb hlt⟩
theorem BalAt.nil : BalAt w A [] := fun h => absurd h (by simp)
theorem AB.up (h : AB w g a) (hb : Below w.heap.size w w') : AB w' g a :=
 ⟨h.cells.up hb h.lt, Nat.lt_of_lt_of_le h.lt hb.size, fun i => (hb.frozen (p := ⟨g, i, none⟩) h.lt).trans (h.fz i)⟩
end
theorem ab_new (w : World) (t : TypeId) (a : Acc) : AB (w.alloc (.cells #[.int .i64 a.code, .int .i64 a.kind, .int .i64 a.basis, .int .i64 a.par] t)) w.heap.size a := by
 refine ⟨⟨?_, ?_, ?_, ?_⟩, by simp, fun i => by simp only [World.frozen?]; rw [heap_alloc_new]; simp⟩ <;> (simp only [World.cell?]; rw [heap_alloc_new]; rfl)
def SlI (w : World) (v : Value) (L : List Int) : Prop := ∃ A c, v = .slice A L.length c ∧ IntsAt .i64 w A L
theorem OwnI.sli {e : TypeId} {w : World} {base : Nat} {v : Value} {L : List Int} (h : OwnI .i64 e w base v L) : SlI w v L := h.ints
def SlB (w : World) (v : Value) (L : List Bal) : Prop := ∃ A c, v = .slice A L.length c ∧ BalAt w A L
theorem SlB.up {w w' : World} {v : Value} {L : List Bal} (h : SlB w v L) (hb : Below w.heap.size w w') : SlB w' v L := by
 obtain ⟨A, c, e, h⟩ := h
 exact ⟨A, c, e, h.up hb⟩
theorem SlB.nil {w : World} : SlB w (.slice none 0 0) [] := ⟨none, 0, rfl, BalAt.nil⟩
def balC (b : Bal) : List Value := [.int .i64 b.acct, .int .i64 b.amt]
def OwnB (e : TypeId) (w : World) (base : Nat) (v : Value) (L : List Bal) : Prop := w.ownsRow base e 2 v L.length (L.flatMap balC)
theorem balC_get : ∀ (L : List Bal) (i : Nat), i < L.length → (L.flatMap balC)[i * 2]? = some (.int .i64 (L.getD i bal0).acct) ∧ (L.flatMap balC)[i * 2 + 1]? = some (.int .i64 (L.getD i bal0).amt)
 | [], i, h => by simp at h
 | a :: L, 0, _ => by simp [balC]
 | a :: L, i + 1, h => by
  have := balC_get L i (by simpa using h)
  have e1 : (i + 1) * 2 = i * 2 + 1 + 1 := by omega
  rw [List.flatMap_cons, e1]
  simpa [balC] using this
theorem OwnB.nil {e : TypeId} {w : World} {base : Nat} : OwnB e w base (.slice none 0 0) [] := World.ownsRow_nil _ _ _ _
theorem OwnB.up {e : TypeId} {w w' : World} {base : Nat} {v : Value} {L : List Bal} (h : OwnB e w base v L) (hb : Below w.heap.size w w') : OwnB e w' base v L := by
 obtain ⟨h1, h2⟩ := h
 refine ⟨h1, ?_⟩
 rcases h2 with h2 | ⟨g, cap, cur, rfl, hbg, hg, rest⟩
 ·exact .inl h2
 ·have hlt : g < w.heap.size := by
   rcases Nat.lt_or_ge g w.heap.size with hlt | hge
   ·exact hlt
   ·rw [Array.getElem?_eq_none hge] at hg; cases hg
  exact .inr ⟨g, cap, cur, rfl, hbg, (hb.block g hlt).trans hg, rest⟩
theorem OwnB.slb {e : TypeId} {w : World} {base : Nat} {v : Value} {L : List Bal} (h : OwnB e w base v L) : SlB w v L := by
 obtain ⟨h1, h2⟩ := h
 rcases h2 with ⟨rfl, h0⟩ | ⟨g, cap, cur, rfl, hbg, hg, hn, hcap, hsz, hcur⟩
 ·obtain rfl : L = [] := List.eq_nil_of_length_eq_zero h0
  exact SlB.nil
 ·refine ⟨_, cap, rfl, fun _ => ⟨g, 0, rfl, ?_, fun j hj => ?_⟩⟩
  ·rcases Nat.lt_or_ge g w.heap.size with hlt | hge
   ·exact hlt
   ·rw [Array.getElem?_eq_none hge] at hg; cases hg
  ·have key : ∀ i, i < L.length * 2 → w.cell? ⟨g, i, none⟩ = (L.flatMap balC)[i]? := by
    intro i hi
    rw [← hcur, List.getElem?_take, if_pos hi]
    simp only [World.cell?, hg]
    simp
   obtain ⟨k1, k2⟩ := balC_get L j hj
   exact ⟨by rw [Nat.zero_add, key _ (by omega)]; exact k1, by rw [Nat.zero_add, key _ (by omega)]; exact k2⟩
theorem wpList_append_bal {P : Program} (w : World) {ops : Array Oper} {rest : List Oper} {o : Oper} {a : Act} {Q : Exit → Act → World → Prop} (hgd : o.guard = none) (s x : Operand) (t : TypeId)
  (ho : o.op = .call { callee := .builtin .append, args := #[s, x], argTypes := #[t, t] })
  (base : Nat) (e : TypeId) (i : TypeInfo) (bytes : Nat) (ht : P.underlying t = some (.slice e)) (hi : P.info? e = some i) (hz : i.zero = some (.agg #[.int .i64 0, .int .i64 0]))
  (hsize : i.size = 2) (hby : i.bytes = bytes) (hb8 : bytes ≤ 16)
  (v : Value) (L : List Bal) (hs : a.eval s = v) (hown : OwnB e w base v L) (X Y : Int) (c : Nat) (hx : a.eval x = .slice (some ⟨w.heap.size, 0, none⟩) 1 c)
  (hlen : L.length ≤ 100000000) (hbase : base ≤ w.heap.size)
  (h : ∀ v' w', Hid (OwnB e w' base v' (L ++ [⟨X, Y⟩])) → Below base w w' → wpList P ops Q rest (a.put o.dst v') w') : wpList P ops Q (o :: rest) a (w.alloc (.cells #[.int .i64 X, .int .i64 Y] e)) := by
 refine wpList_append_own (w.alloc (.cells #[.int .i64 X, .int .i64 Y] e)) hgd s x t ho base e i (.agg #[.int .i64 0, .int .i64 0]) 2 bytes ht hi hz hsize hby rfl (by decide) v L.length (L.flatMap balC) hs (World.ownsRow.alloc hown _)
  ⟨w.heap.size, 0, none⟩ 1 c [.int .i64 X, .int .i64 Y] hx rfl ?_ ?_ ?_ ?_ ?_ ?_
 ·intro j u hj
  match j, hj with
  | 0, hj =>
   simp at hj; subst hj
   unfold World.cell? Addr.add
   rw [if_pos rfl]
   dsimp only
   rw [heap_alloc_new]
   rfl
  | 1, hj =>
   simp at hj; subst hj
   unfold World.cell? Addr.add
   rw [if_neg (by decide)]
   dsimp only
   rw [heap_alloc_new]
   rfl
  | j + 2, hj => simp at hj
 ·intro u hu
  simp at hu
  rcases hu with rfl | rfl <;> rfl
 ·unfold maxLen; omega
 ·have : (L.length + 1) * bytes ≤ (L.length + 1) * 16 := Nat.mul_le_mul_left _ hb8
  omega
 ·simp; omega
 ·intro v' w' h1 h2 _
  refine h v' w' ?_ ?_
  ·show World.ownsRow _ _ _ _ _ _ _
   rw [List.length_append, List.flatMap_append]
   exact h1
  ·refine ((Below.refl base w).alloc hbase _).grown h2 (by simp; omega) (fun j hj => ?_)
   exact (World.ownsRow.lt hown j hj).1
theorem wpList_append_bg {P : Program} (w : World) {ops : Array Oper} {rest : List Oper} {o : Oper} {a : Act} {Q : Exit → Act → World → Prop} (hgd : o.guard = none) (s x : Operand) (t : TypeId)
  (ho : o.op = .call { callee := .builtin .append, args := #[s, x], argTypes := #[t, t] })
  (base : Nat) (e : TypeId) (i : TypeInfo) (bytes : Nat) (ht : P.underlying t = some (.slice e)) (hi : P.info? e = some i) (hz : i.zero = some (.agg #[.int .i64 0, .int .i64 0]))
  (hsize : i.size = 2) (hby : i.bytes = bytes) (hb8 : bytes ≤ 16)
  (v : Value) (L : List Bal) (hs : a.eval s = v) (hown : OwnB e w base v L) (X Y : Int) (g c : Nat) (hg : g = w.heap.size) (hx : a.eval x = .slice (some ⟨g, 0, none⟩) 1 c)
  (hlen : L.length ≤ 100000000) (hbase : base ≤ w.heap.size)
  (h : ∀ v' w', Hid (OwnB e w' base v' (L ++ [⟨X, Y⟩])) → Below base w w' → wpList P ops Q rest (a.put o.dst v') w') : wpList P ops Q (o :: rest) a (w.alloc (.cells #[.int .i64 X, .int .i64 Y] e)) := by
 subst hg
 exact wpList_append_bal w hgd s x t ho base e i bytes ht hi hz hsize hby hb8 v L hs hown X Y c hx hlen hbase h
theorem wpList_append_ik {P : Program} (w : World) {ops : Array Oper} {rest : List Oper} {o : Oper} {a : Act} {Q : Exit → Act → World → Prop} (hgd : o.guard = none) (s x : Operand) (t : TypeId)
  (ho : o.op = .call { callee := .builtin .append, args := #[s, x], argTypes := #[t, t] })
  (k : IntKind) (base : Nat) (e : TypeId) (i : TypeInfo) (bytes : Nat) (ht : P.underlying t = some (.slice e)) (hi : P.info? e = some i) (hz : i.zero = some (.int k 0))
  (hsize : i.size = 1) (hby : i.bytes = bytes) (hb8 : bytes ≤ 8)
  (v : Value) (L : List Int) (hs : a.eval s = v) (hown : OwnI k e w base v L) (X : Int) (g c : Nat) (hg : g = w.heap.size) (hx : a.eval x = .slice (some ⟨g, 0, none⟩) 1 c)
  (hlen : L.length ≤ 100000000) (hbase : base ≤ w.heap.size)
  (h : ∀ v' w', Hid (OwnI k e w' base v' (L ++ [X])) → Below base w w' → Hid (∀ b, b < w.heap.size → v.ownBlock ≠ some b → w'.heap[b]? = w.heap[b]?) → wpList P ops Q rest (a.put o.dst v') w') : wpList P ops Q (o :: rest) a (w.alloc (.cells #[.int k X] e)) := by
 subst hg
 refine wpList_append_own (w.alloc (.cells #[.int k X] e)) hgd s x t ho base e i (.int k 0) 1 bytes ht hi hz hsize hby rfl (by decide) v L.length (L.map fun d => Value.int k d) hs (World.ownsRow.alloc hown _)
  ⟨w.heap.size, 0, none⟩ 1 c [.int k X] hx rfl ?_ ?_ ?_ ?_ ?_ ?_
 ·intro j u hj
  match j, hj with
  | 0, hj =>
   simp at hj; subst hj
   unfold World.cell? Addr.add
   rw [if_pos rfl]
   dsimp only
   rw [heap_alloc_new]
   rfl
 ·intro u hu; simp at hu; subst hu; rfl
 ·unfold maxLen; omega
 ·have : (L.length + 1) * bytes ≤ (L.length + 1) * 8 := Nat.mul_le_mul_left _ hb8
  omega
 ·simp; omega
 ·intro v' w' h1 h2 _
  refine h v' w' ?_ ?_ ?_
  ·show World.ownsRow _ _ _ _ _ _ _
   rw [List.length_append, List.map_append]
   exact h1
  ·refine ((Below.refl base w).alloc hbase _).grown h2 (by simp; omega) (fun j hj => ?_)
   exact (World.ownsRow.lt hown j hj).1
  ·intro b hb hne
   rw [h2.block b (by simp; omega) (Ne.symm hne)]
   exact Below.heap_alloc w _ b hb
theorem OwnI.ne_new {k : IntKind} {e : TypeId} {w : World} {base : Nat} {v : Value} {L : List Int} (h : OwnI k e w base v L) {b : Nat} (hb : w.heap.size ≤ b) : v.ownBlock ≠ some b := fun e9 => by
 have := (World.ownsRow.lt h _ e9).2
 omega
theorem AB.blk {w w' : World} {g : Nat} {a : Acc} (h : AB w g a) (hk : w'.heap[g]? = w.heap[g]?) : AB w' g a := by
 have hc : ∀ i, w'.cell? ⟨g, i, none⟩ = w.cell? ⟨g, i, none⟩ := fun i => World.cell?_of_block hk
 refine ⟨⟨(hc _).trans h.cells.c0, (hc _).trans h.cells.c1, (hc _).trans h.cells.c2, (hc _).trans h.cells.c3⟩, ?_, fun i => ?_⟩
 ·rcases Nat.lt_or_ge g w'.heap.size with h1 | h1
  ·exact h1
  ·rw [Array.getElem?_eq_none h1] at hk
   have := hk.symm
   rw [Array.getElem?_eq_none_iff] at this
   have := h.lt; omega
 ·have := h.fz i
  unfold World.frozen? at this ⊢
  dsimp only at this ⊢
  rw [hk]; exact this
theorem infoI_bal : (Tryz.prog.info? 72).map (fun i => (i.zero, i.size, i.bytes)) = some (some (.agg #[.int .i64 0, .int .i64 0]), 2, 16) := by kernel_rfl
def lpB (y : Int) : Bool := decide (y % 4 = 0) && (decide (y % 100 ≠ 0) || decide (y % 400 = 0))
def lpI (y : Int) : Int := if lpB y then 1 else 0
def mdy (y m : Int) : Int := if m = 2 then 28 + lpI y else if m = 4 ∨ m = 6 ∨ m = 9 ∨ m = 11 then 30 else 31
def inYM (y m : Int) : Bool := decide (1900 ≤ y) && decide (y ≤ 2199) && decide (1 ≤ m) && decide (m ≤ 12)
def dys (y m : Int) : Int := if inYM y m then mdy y m else 0
def lpN (y : Int) : Int := (y - 1) / 4 - (y - 1) / 100 + (y - 1) / 400
def nyr (y : Int) : Int := -25567 + 365 * (y - 1900) + lpN y - 460
def mon (y m : Int) : Int := if m ≤ 1 then 0 else if m = 2 then 31 else (if m = 3 then 59 else if m = 4 then 90 else if m = 5 then 120 else if m = 6 then 151 else if m = 7 then 181 else if m = 8 then 212 else if m = 9 then 243 else if m = 10 then 273 else if m = 11 then 304 else if m = 12 then 334 else 365) + lpI y
def dno (y m d : Int) : Int := nyr y + mon y m + d - 1
theorem lpB_iff (y : Int) : lpB y = true ↔ y % 4 = 0 ∧ (y % 100 ≠ 0 ∨ y % 400 = 0) := by simp [lpB]
theorem lpI_01 (y : Int) : lpI y = 0 ∨ lpI y = 1 := by unfold lpI; split <;> simp
theorem inYM_iff {y m : Int} : inYM y m = true ↔ 1900 ≤ y ∧ y ≤ 2199 ∧ 1 ≤ m ∧ m ≤ 12 := by simp [inYM, and_assoc]
theorem nyr_succ (y : Int) (_h0 : 1900 ≤ y) : nyr (y + 1) = nyr y + 365 + lpI y := by
 unfold nyr lpN
 by_cases h : lpB y = true
 ·have h1 := (lpB_iff y).1 h
  rw [show lpI y = 1 by rw [lpI, if_pos h]]
  omega
 ·have h1 : ¬ (y % 4 = 0 ∧ (y % 100 ≠ 0 ∨ y % 400 = 0)) := fun e => h ((lpB_iff y).2 e)
  rw [show lpI y = 0 by rw [lpI, if_neg h]]
  omega
theorem nyr_1900 : nyr 1900 = -25567 := by decide
theorem nyr_2200 : nyr 2200 = 84006 := by decide
theorem nyr_step (y : Int) (k : Nat) (h0 : 1900 ≤ y) : nyr y + 365 * k ≤ nyr (y + k) := by
 induction k with
 | zero => simp
 | succ k ih =>
  have h1 := nyr_succ (y + k) (by omega)
  have h2 := lpI_01 (y + k)
  rw [show y + ((k + 1 : Nat) : Int) = y + k + 1 by omega, h1]
  omega
theorem nyr_mono {y z : Int} (h0 : 1900 ≤ y) (h : y ≤ z) : nyr y + 365 * (z - y) ≤ nyr z := by
 have h1 := nyr_step y (z - y).toNat h0
 have h2 : ((z - y).toNat : Int) = z - y := Int.toNat_of_nonneg (by omega)
 rw [h2, show y + (z - y) = z by omega] at h1
 exact h1
theorem nyr_bd {y : Int} (h0 : 1900 ≤ y) (h1 : y ≤ 2200) : -25567 ≤ nyr y ∧ nyr y ≤ 84006 := by
 have h2 := nyr_mono (Int.le_refl 1900) h0
 have h3 := nyr_mono h0 h1
 rw [nyr_1900] at h2
 rw [nyr_2200] at h3
 omega
theorem mdy_bd (y m : Int) : 28 ≤ mdy y m ∧ mdy y m ≤ 31 := by
 have := lpI_01 y
 unfold mdy
 split <;> (try split) <;> omega
theorem twelve {m : Int} (h0 : 1 ≤ m) (h1 : m ≤ 12) : m = 1 ∨ m = 2 ∨ m = 3 ∨ m = 4 ∨ m = 5 ∨ m = 6 ∨ m = 7 ∨ m = 8 ∨ m = 9 ∨ m = 10 ∨ m = 11 ∨ m = 12 := by omega
theorem mon_1 (y : Int) : mon y 1 = 0 := rfl
theorem mon_13 (y : Int) : mon y 13 = 365 + lpI y := rfl
theorem mon_succ (y m : Int) (h0 : 1 ≤ m) (h1 : m ≤ 12) : mon y (m + 1) = mon y m + mdy y m := by
 rcases twelve h0 h1 with rfl | rfl | rfl | rfl | rfl | rfl | rfl | rfl | rfl | rfl | rfl | rfl <;> simp [mon, mdy] <;> omega
theorem mon_step (y m : Int) (k : Nat) (h0 : 1 ≤ m) (h1 : m + k ≤ 13) : mon y m + 28 * k ≤ mon y (m + k) := by
 induction k with
 | zero => simp
 | succ k ih =>
  have h2 := mon_succ y (m + k) (by omega) (by omega)
  have h3 := mdy_bd y (m + k)
  have h4 := ih (by omega)
  rw [show m + ((k + 1 : Nat) : Int) = m + k + 1 by omega, h2]
  omega
theorem mon_mono {y m n : Int} (h0 : 1 ≤ m) (h : m ≤ n) (h1 : n ≤ 13) : mon y m + 28 * (n - m) ≤ mon y n := by
 have h2 : ((n - m).toNat : Int) = n - m := Int.toNat_of_nonneg (by omega)
 have h3 := mon_step y m (n - m).toNat h0 (by omega)
 rw [h2, show m + (n - m) = n by omega] at h3
 exact h3
theorem mon_bd {y m : Int} (h0 : 1 ≤ m) (h1 : m ≤ 13) : 0 ≤ mon y m ∧ mon y m ≤ 365 + lpI y := by
 have h2 := mon_mono (y := y) (Int.le_refl 1) h0 h1
 have h3 := mon_mono (y := y) h0 h1 (Int.le_refl 13)
 rw [mon_1] at h2
 rw [mon_13] at h3
 omega
structure IsCiv (n y m d : Int) : Prop where
 y0 : 1900 ≤ y
 y1 : y ≤ 2199
 m0 : 1 ≤ m
 m1 : m ≤ 12
 d0 : 1 ≤ d
 d1 : d ≤ mdy y m
 eq : n = dno y m d
theorem IsCiv.yr {n y m d : Int} (h : IsCiv n y m d) : nyr y ≤ n ∧ n < nyr (y + 1) := by
 obtain ⟨a, b, c, e, f, g, rfl⟩ := h
 have h1 := nyr_succ y a
 have h2 := mon_succ y m c e
 have h3 := mon_bd (y := y) (m := m + 1) (by omega) (by omega)
 have h4 := mon_bd (y := y) (m := m) (by omega) (by omega)
 unfold dno
 omega
theorem IsCiv.bd {n y m d : Int} (h : IsCiv n y m d) : -25567 ≤ n ∧ n ≤ 84005 := by
 have h1 := h.yr
 have h2 := nyr_bd h.y0 (by have := h.y1; omega)
 have h3 := nyr_bd (y := y + 1) (by have := h.y0; omega) (by have := h.y1; omega)
 omega
theorem IsCiv.uniq {n y m d y' m' d' : Int} (h : IsCiv n y m d) (h' : IsCiv n y' m' d') : y = y' ∧ m = m' ∧ d = d' := by
 have hy := h.yr
 have hy' := h'.yr
 obtain ⟨a, b, c, e, f, g, k⟩ := h
 obtain ⟨a', b', c', e', f', g', k'⟩ := h'
 have e1 : y = y' := by
  rcases Int.lt_trichotomy y y' with hl | hl | hl
  ·have := nyr_mono (y := y + 1) (z := y') (by omega) (by omega); omega
  ·exact hl
  ·have := nyr_mono (y := y' + 1) (z := y) (by omega) (by omega); omega
 subst e1
 unfold dno at k k'
 have s := mon_succ y m c e
 have s' := mon_succ y m' c' e'
 have e2 : m = m' := by
  rcases Int.lt_trichotomy m m' with hl | hl | hl
  ·have := mon_mono (y := y) (m := m + 1) (n := m') (by omega) (by omega) (by omega); omega
  ·exact hl
  ·have := mon_mono (y := y) (m := m' + 1) (n := m) (by omega) (by omega) (by omega); omega
 subst e2
 exact ⟨rfl, rfl, by omega⟩

/- The year, the month and the day of a number of days. -/
def civY0 (n : Int) : Int := 1900 + (n + 25567) / 365
def civY (n : Int) : Int := if n < nyr (civY0 n) then civY0 n - 1 else civY0 n
def civR (n : Int) : Int := n - nyr (civY n)
def monOf (l r : Int) : Int := if r < 31 then 1 else if r < 59 + l then 2 else if r < 90 + l then 3 else if r < 120 + l then 4 else if r < 151 + l then 5 else if r < 181 + l then 6 else if r < 212 + l then 7 else if r < 243 + l then 8 else if r < 273 + l then 9 else if r < 304 + l then 10 else if r < 334 + l then 11 else 12
def civM (n : Int) : Int := monOf (lpI (civY n)) (civR n)
def civD (n : Int) : Int := civR n - mon (civY n) (civM n) + 1
def vdB (n : Int) : Bool := decide (-25567 ≤ n) && decide (n ≤ 84005)
theorem vdB_iff {n : Int} : vdB n = true ↔ -25567 ≤ n ∧ n ≤ 84005 := by simp [vdB]
theorem lpN_bd {y : Int} (h0 : 1900 ≤ y) (h1 : y ≤ 2201) : 460 ≤ lpN y ∧ lpN y ≤ 533 := by unfold lpN; omega
theorem civY_bd {n : Int} (h0 : -25567 ≤ n) (h1 : n ≤ 84005) : 1900 ≤ civY n ∧ civY n ≤ 2199 ∧ nyr (civY n) ≤ n ∧ n < nyr (civY n + 1) := by
 unfold civY
 have e : civY0 n = 1900 + (n + 25567) / 365 := rfl
 have hk0 : 1900 ≤ civY0 n := by omega
 have hk1 : civY0 n ≤ 2200 := by omega
 have b0 := lpN_bd hk0 (by omega)
 have u : nyr (civY0 n) = -25567 + 365 * (civY0 n - 1900) + lpN (civY0 n) - 460 := rfl
 split
 ·rename_i hlt
  have hk2 : 1901 ≤ civY0 n := by
   rcases Int.lt_or_le (civY0 n) 1901 with hc | hc
   ·have hc2 : civY0 n = 1900 := by omega
    rw [hc2, nyr_1900] at hlt
    omega
   ·exact hc
  have s := nyr_succ (civY0 n - 1) (by omega)
  rw [show civY0 n - 1 + 1 = civY0 n by omega] at s ⊢
  have l := lpI_01 (civY0 n - 1)
  refine ⟨by omega, by omega, by omega, by omega⟩
 ·rename_i hge
  have s := nyr_succ (civY0 n) (by omega)
  have l := lpI_01 (civY0 n)
  refine ⟨by omega, ?_, by omega, by omega⟩
  rcases Int.lt_or_le 2199 (civY0 n) with hc | hc
  ·have hc2 : civY0 n = 2200 := by omega
   rw [hc2, nyr_2200] at hge
   omega
  ·exact hc
theorem monOf_is {l r : Int} (y : Int) (hl : lpI y = l) (h0 : 0 ≤ r) (h1 : r < 365 + l) : (1 ≤ monOf l r ∧ monOf l r ≤ 12) ∧ mon y (monOf l r) ≤ r ∧ r < mon y (monOf l r) + mdy y (monOf l r) := by
 have h01 := lpI_01 y
 rw [hl] at h01
 unfold monOf
 repeat' split
 all_goals (simp [mon, mdy, hl]; omega)
theorem civ_is {n : Int} (h : vdB n = true) : IsCiv n (civY n) (civM n) (civD n) := by
 obtain ⟨h0, h1⟩ := vdB_iff.1 h
 obtain ⟨a, b, c, d⟩ := civY_bd h0 h1
 have s := nyr_succ (civY n) a
 have r0 : 0 ≤ civR n := by unfold civR; omega
 have r1 : civR n < 365 + lpI (civY n) := by unfold civR; omega
 obtain ⟨⟨m0, m1⟩, k0, k1⟩ := monOf_is (civY n) rfl r0 r1
 have em : civM n = monOf (lpI (civY n)) (civR n) := rfl
 rw [← em] at m0 m1 k0 k1
 have ed : civD n = civR n - mon (civY n) (civM n) + 1 := rfl
 have er : civR n = n - nyr (civY n) := rfl
 refine ⟨a, b, m0, m1, by omega, by omega, ?_⟩
 unfold dno
 omega
theorem civ_eq {n y m d : Int} (h : IsCiv n y m d) : civY n = y ∧ civM n = m ∧ civD n = d :=
 (civ_is (vdB_iff.2 h.bd)).uniq h
def dayB (y m d : Int) : Bool := decide (1 ≤ d) && decide (d ≤ dys y m)
theorem dys_in {y m : Int} (h : inYM y m = true) : dys y m = mdy y m := by rw [dys, if_pos h]
theorem dys_out {y m : Int} (h : inYM y m = false) : dys y m = 0 := by rw [dys, h]; rfl
theorem dys_bd (y m : Int) : 0 ≤ dys y m ∧ dys y m ≤ 31 := by
 have := mdy_bd y m
 unfold dys
 split <;> omega
theorem dayB_iff {y m d : Int} : dayB y m d = true ↔ IsCiv (dno y m d) y m d := by
 unfold dayB
 rw [Bool.and_eq_true, decide_eq_true_eq, decide_eq_true_eq]
 constructor
 ·intro ⟨h0, h1⟩
  cases hi : inYM y m
  ·rw [dys_out hi] at h1; omega
  ·rw [dys_in hi] at h1
   obtain ⟨a, b, c, d⟩ := inYM_iff.1 hi
   exact ⟨a, b, c, d, h0, h1, rfl⟩
 ·intro h
  have hi : inYM y m = true := inYM_iff.2 ⟨h.y0, h.y1, h.m0, h.m1⟩
  rw [dys_in hi]
  exact ⟨h.d0, h.d1⟩
theorem dayB_of {n y m d : Int} (h : IsCiv n y m d) : dayB y m d = true := dayB_iff.2 (by have := h.eq; subst this; exact h)
/- What Of answers. -/
def ofN (y m d : Int) : Int := if dayB y m d then dno y m d else 0
def ofE (y m d : Int) : Int := if dayB y m d then 0 else 2
open Go.RowKit
structure Lnk where
 frm : Int
 tgt : Int
 since : Int
abbrev lnk0 : Lnk := ⟨0, 0, 0⟩
abbrev lnkV (l : Lnk) : Value := .agg #[.int .i64 l.frm, .int .i64 l.tgt, .int .i64 l.since]
structure L3 (w : World) (b o : Nat) (l : Lnk) : Prop where
 c0 : w.cell? ⟨b, o, none⟩ = some (.int .i64 l.frm)
 c1 : w.cell? ⟨b, o + 1, none⟩ = some (.int .i64 l.tgt)
 c2 : w.cell? ⟨b, o + 2, none⟩ = some (.int .i64 l.since)
def LnkAt (w : World) (A : Option Addr) (L : List Lnk) : Prop := 0 < L.length → ∃ b off, A = some ⟨b, off, none⟩ ∧ b < w.heap.size ∧ ∀ i, i < L.length → L3 w b (off + i * 3) (L.getD i lnk0)
structure LB (w : World) (g : Nat) (l : Lnk) : Prop where
 cells : L3 w g 0 l
 lt : g < w.heap.size
abbrev entV (nm cur : ByteArray) (A : Option Addr) (n c : Nat) (B : Option Addr) (m d : Nat) (jt : Bool) : Value := .agg #[.string nm, .string cur, .slice A n c, .slice B m d, .bool jt]
structure EB (w : World) (g : Nat) (nm cur : ByteArray) (A : Option Addr) (n c : Nat) (B : Option Addr) (m d : Nat) (jt : Bool) : Prop where
 c0 : w.cell? ⟨g, 0, none⟩ = some (.string nm)
 c1 : w.cell? ⟨g, 1, none⟩ = some (.string cur)
 c2 : w.cell? ⟨g, 2, none⟩ = some (.slice A n c)
 c3 : w.cell? ⟨g, 3, none⟩ = some (.slice B m d)
 c4 : w.cell? ⟨g, 4, none⟩ = some (.bool jt)
 lt : g < w.heap.size
section
variable {w w' : World} {b o g Bs m d n c : Nat} {l : Lnk} {A B : Option Addr} {L : List Lnk} {nm cur : ByteArray} {jt : Bool}
theorem L3.up (h : L3 w b o l) (hb : Below Bs w w') (hlt : b < Bs) : L3 w' b o l :=
 ⟨(hb.cell (p := ⟨b, o, none⟩) hlt).trans h.c0, (hb.cell (p := ⟨b, o + 1, none⟩) hlt).trans h.c1, (hb.cell (p := ⟨b, o + 2, none⟩) hlt).trans h.c2⟩
theorem LnkAt.up (h : LnkAt w A L) (hb : Below w.heap.size w w') : LnkAt w' A L := fun h0 => by
 obtain ⟨b, off, e, hlt, hc⟩ := h h0
 exact ⟨b, off, e, Nat.lt_of_lt_of_le hlt hb.size, fun i hi => (hc i hi).up hb hlt⟩
theorem LB.up (h : LB w g l) (hb : Below w.heap.size w w') : LB w' g l := ⟨h.cells.up hb h.lt, Nat.lt_of_lt_of_le h.lt hb.size⟩
theorem EB.up (h : EB w g nm cur A n c B m d jt) (hb : Below w.heap.size w w') : EB w' g nm cur A n c B m d jt :=
 ⟨(hb.cell (p := ⟨g, 0, none⟩) h.lt).trans h.c0, (hb.cell (p := ⟨g, 1, none⟩) h.lt).trans h.c1, (hb.cell (p := ⟨g, 2, none⟩) h.lt).trans h.c2, (hb.cell (p := ⟨g, 3, none⟩) h.lt).trans h.c3, (hb.cell (p := ⟨g, 4, none⟩) h.lt).trans h.c4, Nat.lt_of_lt_of_le h.lt hb.size⟩
end
theorem lb_new (w : World) (t : TypeId) (l : Lnk) : LB (w.alloc (.cells #[.int .i64 l.frm, .int .i64 l.tgt, .int .i64 l.since] t)) w.heap.size l := by
 refine ⟨⟨?_, ?_, ?_⟩, by simp⟩ <;> (simp only [World.cell?]; rw [heap_alloc_new]; rfl)
theorem eb_new (w : World) (t : TypeId) (nm cur : ByteArray) (A : Option Addr) (n c : Nat) (B : Option Addr) (m d : Nat) (jt : Bool) :
  EB (w.alloc (.cells #[.string nm, .string cur, .slice A n c, .slice B m d, .bool jt] t)) w.heap.size nm cur A n c B m d jt := by
 refine ⟨?_, ?_, ?_, ?_, ?_, by simp⟩ <;> (simp only [World.cell?]; rw [heap_alloc_new]; rfl)
open Go.RowKit
def celL (a : Lnk) : List Value := [.int .i64 a.frm, .int .i64 a.tgt, .int .i64 a.since]
theorem celL_get : ∀ (L : List Lnk) (i : Nat), i < L.length → (L.flatMap celL)[i * 3]? = some (.int .i64 (L.getD i lnk0).frm) ∧ (L.flatMap celL)[i * 3 + 1]? = some (.int .i64 (L.getD i lnk0).tgt) ∧ (L.flatMap celL)[i * 3 + 2]? = some (.int .i64 (L.getD i lnk0).since)
 | [], i, h => by simp at h
 | a :: L, 0, _ => by simp [celL]
 | a :: L, i + 1, h => by
  have := celL_get L i (by simpa using h)
  have e1 : (i + 1) * 3 = i * 3 + 1 + 1 + 1 := by omega
  rw [List.flatMap_cons, e1]
  simpa [celL] using this
def celA (a : Acc) : List Value := [.int .i64 a.code, .int .i64 a.kind, .int .i64 a.basis, .int .i64 a.par]
theorem celA_get : ∀ (L : List Acc) (i : Nat), i < L.length → (L.flatMap celA)[i * 4]? = some (.int .i64 (L.getD i acc0).code) ∧ (L.flatMap celA)[i * 4 + 1]? = some (.int .i64 (L.getD i acc0).kind) ∧ (L.flatMap celA)[i * 4 + 2]? = some (.int .i64 (L.getD i acc0).basis) ∧ (L.flatMap celA)[i * 4 + 3]? = some (.int .i64 (L.getD i acc0).par)
 | [], i, h => by simp at h
 | a :: L, 0, _ => by simp [celA]
 | a :: L, i + 1, h => by
  have := celA_get L i (by simpa using h)
  have e1 : (i + 1) * 4 = i * 4 + 1 + 1 + 1 + 1 := by omega
  rw [List.flatMap_cons, e1]
  simpa [celA] using this
theorem below_new {W w : World} (h : Below W.heap.size W w) (o : Obj) : Below W.heap.size W (w.alloc o) := below_more h (below_alloc_new o)
set_option maxRecDepth 20000 in
set_option maxHeartbeats 1600000 in
theorem hcodes_any (A : Option Addr) (c : Nat) (L : List Acc) (w : World) (hz : AccAt w A L) (hl : L.length ≤ 1000) :
  Calls Tryz.prog 104 #[.slice A L.length c] w fun e w' => e = .returned (.bool (codesB L)) ∧ Below w.heap.size w w' := by
 have hB := Below.refl w.heap.size w
 obtain ⟨n, hn⟩ : ∃ n, L.length = n := ⟨_, rfl⟩
 rw [hn] at hl ⊢
 have HN := Lib.hid hn
 have HZ := Lib.hid hz
 clear hn hz
 go_enter Tryz.func104, Tryz.ntmps104
 go_wp2_with fail
 go_loopg [3, 8] n (fun kx s3 s8 wr => ∃ k : Nat, s3 = .int .i64 (lastC L k) ∧ s8 = .int .i64 k ∧ k ≤ n ∧ n - k ≤ kx ∧ Hid (codesTo L k = true) ∧ Below w.heap.size w wr)
 case atStart => exact ⟨0, rfl, rfl, by omega, by omega, Lib.hid rfl, hB⟩
 case round =>
  clear hB
  obtain ⟨k, rfl, rfl, hk, hkx, HC, hB⟩ := hrel
  by_cases hlt : k < n
  ·have hltz : (k : Int) < (n : Int) := by omega
   obtain ⟨b, off, rfl, hbw, hcs⟩ := HZ.out (by rw [HN.out]; omega)
   obtain ⟨c0, c1, c2, c3⟩ := (hcs k (by rw [HN.out]; exact hlt)).up hB hbw
   obtain ⟨x, hx⟩ : ∃ x, L.getD k acc0 = x := ⟨_, rfl⟩
   rw [hx] at c0 c1 c2 c3
   have HX := Lib.hid hx
   clear hx hcs
   rcases Int.lt_or_le (lastC L k) x.code with h1 | h1
   ·have h2 : decide (x.code ≤ lastC L k) = false := decide_eq_false (by omega)
    have HC2 : Hid (codesTo L (k + 1) = true) := Lib.hid (by rw [codes_succ, HC.out, HX.out, decide_eq_true h1]; rfl)
    have HLa : Hid (x.code = lastC L (k + 1)) := Lib.hid (by rw [lastC_succ, HX.out])
    clear h1
    go_wp2_with fail
    go_roundg (n - (k + 1))
    case measure => omega
    case rel => exact ⟨k + 1, by rw [HLa.out], by go_num, by omega, by omega, HC2, below_new hB _⟩
   ·have hno : Hid (codesB L = false) := Lib.hid (codesB_no (k := k) (by rw [HN.out]; exact hlt) (by rw [HX.out]; exact h1))
    have h2 : decide (x.code ≤ lastC L k) = true := decide_eq_true h1
    go_wp2_with fail
    go_ret
    exact ⟨by rw [hno.out]; rfl, below_new hB _⟩
  ·obtain rfl : k = n := by omega
   have hltz : ¬ (k : Int) < (k : Int) := by omega
   have hend : Hid (codesB L = decide (lastC L k ≤ 99999)) := Lib.hid (by rw [codesB_end (by rw [HN.out]; exact HC.out), HN.out])
   generalize lastC L k = z at *
   go_wp2_with fail
   go_ret
   exact ⟨by rw [hend.out]; rfl, hB⟩
set_option maxRecDepth 20000 in
set_option maxHeartbeats 1600000 in
theorem hkinds_any (A : Option Addr) (c : Nat) (L : List Acc) (g : Bool) (w : World) (hz : AccAt w A L) (hl : L.length ≤ 1000) :
    Calls Tryz.prog 105 #[.slice A L.length c, .bool g] w fun e w' => e = .returned (.bool (kindsB L g)) ∧ Below w.heap.size w w' := by
  have hB := Below.refl w.heap.size w
  obtain ⟨n, hn⟩ : ∃ n, L.length = n := ⟨_, rfl⟩
  rw [hn] at hl ⊢
  have HN := Lib.hid hn
  have HZ := Lib.hid hz
  have hlo : loB g = if g then 1 else 0 := rfl
  have hhi : hiB g = if g then 3 else 0 := rfl
  obtain ⟨P, hP⟩ : ∃ P, kinB g = P := ⟨_, rfl⟩
  have hpy : ∀ x, P x = true → 1 ≤ x.kind ∧ x.kind ≤ 5 ∧ loB g ≤ x.basis ∧ x.basis ≤ hiB g := fun x h => kinB_is (by rw [hP]; exact h)
  have hpn : ∀ x, P x = false → x.kind < 1 ∨ (1 ≤ x.kind ∧ 5 < x.kind) ∨ (1 ≤ x.kind ∧ x.kind ≤ 5 ∧ x.basis < loB g) ∨ (1 ≤ x.kind ∧ x.kind ≤ 5 ∧ loB g ≤ x.basis ∧ hiB g < x.basis) := fun x h => kinB_no (by rw [hP]; exact h)
  have hpk : kindsB L g = L.all P := by unfold kindsB; rw [hP]
  rw [hpk]
  have HPY := Lib.hid hpy
  have HPN := Lib.hid hpn
  clear hn hz hP hpy hpn hpk
  cases g
  all_goals
    simp only [Bool.false_eq_true, if_false, if_true] at hlo hhi
    have HLo := Lib.hid hlo
    have HHi := Lib.hid hhi
    clear hlo hhi
    go_enter Tryz.func105, Tryz.ntmps105
    go_wp2_with fail
    go_loopg [12] n (fun kx s12 wr => ∃ k : Nat, s12 = .int .i64 k ∧ k ≤ n ∧ n - k ≤ kx ∧ Hid ((L.take k).all P = true) ∧ Below w.heap.size w wr)
    case atStart => exact ⟨0, rfl, by omega, by omega, Lib.hid rfl, hB⟩
    case round =>
      clear hB
      obtain ⟨k, rfl, hk, hkx, HC, hB⟩ := hrel
      by_cases hlt : k < n
      · have hltz : (k : Int) < (n : Int) := by omega
        obtain ⟨b, off, rfl, hbw, hcs⟩ := HZ.out (by rw [HN.out]; omega)
        obtain ⟨c0, c1, c2, c3⟩ := (hcs k (by rw [HN.out]; exact hlt)).up hB hbw
        obtain ⟨x, hx⟩ : ∃ x, L.getD k acc0 = x := ⟨_, rfl⟩
        rw [hx] at c0 c1 c2 c3
        have HX := Lib.hid hx
        have h9 := take_all_getD (d := acc0) (p := P) L k (by rw [HN.out]; exact hlt)
        rw [hx] at h9
        have H9 := Lib.hid h9
        clear hx hcs h9
        cases hkb : P x
        · have hno : Hid (L.all P = false) := Lib.hid (all_false_getD (d := acc0) (k := k) (by rw [HN.out]; exact hlt) (by rw [HX.out]; exact hkb))
          have h0 := HPN.out _ hkb
          rw [HLo.out, HHi.out] at h0
          clear hkb
          rcases h0 with h1 | ⟨h1, h2⟩ | ⟨h1, h2, h3⟩ | ⟨h1, h2, h3, h4⟩
          · have e1 : decide (x.kind < 1) = true := decide_eq_true h1
            go_wp2_with fail
            go_ret
            exact ⟨by rw [hno.out]; rfl, below_new hB _⟩
          · have e1 : decide (x.kind < 1) = false := decide_eq_false (by omega)
            have e2 : decide (5 < x.kind) = true := decide_eq_true h2
            go_wp2_with fail
            go_ret
            exact ⟨by rw [hno.out]; rfl, below_new hB _⟩
          · have e1 : decide (x.kind < 1) = false := decide_eq_false (by omega)
            have e2 : decide (5 < x.kind) = false := decide_eq_false (by omega)
            first | have e3 : decide (x.basis < 0) = true := decide_eq_true h3 | have e3 : decide (x.basis < 1) = true := decide_eq_true h3
            go_wp2_with fail
            go_ret
            exact ⟨by rw [hno.out]; rfl, below_new hB _⟩
          · have e1 : decide (x.kind < 1) = false := decide_eq_false (by omega)
            have e2 : decide (5 < x.kind) = false := decide_eq_false (by omega)
            first
              | (have e3 : decide (x.basis < 0) = false := decide_eq_false (by omega)
                 have e4 : decide (0 < x.basis) = true := decide_eq_true h4
                 go_wp2_with fail
                 go_ret
                 exact ⟨by rw [hno.out]; rfl, below_new hB _⟩)
              | (have e3 : decide (x.basis < 1) = false := decide_eq_false (by omega)
                 have e4 : decide (3 < x.basis) = true := decide_eq_true h4
                 go_wp2_with fail
                 go_ret
                 exact ⟨by rw [hno.out]; rfl, below_new hB _⟩)
        · have h0 := HPY.out _ hkb
          rw [HLo.out, HHi.out] at h0
          obtain ⟨h1, h2, h3, h4⟩ := h0
          have HC2 : Hid ((L.take (k + 1)).all P = true) := Lib.hid (by rw [H9.out, HC.out, hkb]; rfl)
          have e1 : decide (x.kind < 1) = false := decide_eq_false (by omega)
          have e2 : decide (5 < x.kind) = false := decide_eq_false (by omega)
          have e3 : decide (x.basis < 0) = false := decide_eq_false (by omega)
          have e4 : decide (3 < x.basis) = false := decide_eq_false (by omega)
          first
            | (have e5 : decide (0 < x.basis) = false := decide_eq_false (by omega)
               clear hkb h1 h2 h3 h4
               go_wp2_with fail
               go_roundg (n - (k + 1))
               case measure => omega
               case rel => exact ⟨k + 1, by go_num, by omega, by omega, HC2, below_new hB _⟩)
            | (have e5 : decide (x.basis < 1) = false := decide_eq_false (by omega)
               clear hkb h1 h2 h3 h4
               go_wp2_with fail
               go_roundg (n - (k + 1))
               case measure => omega
               case rel => exact ⟨k + 1, by go_num, by omega, by omega, HC2, below_new hB _⟩)
      · obtain rfl : k = n := by omega
        have hltz : ¬ (k : Int) < (k : Int) := by omega
        have hyes : Hid (L.all P = true) := Lib.hid (by have := HC.out; rwa [List.take_of_length_le (by rw [HN.out]; omega)] at this)
        go_wp2_with fail
        go_ret
        exact ⟨by rw [hyes.out]; rfl, hB⟩
theorem ccmp_any (x y : Int) (w : World) : Calls Tryz.prog 128 #[.int .i64 x, .int .i64 y] w fun e w' => e = .returned (.int .i64 (cmI x y)) ∧ w = w' := by
 have hn : ∀ (x : Int) (w : World), Calls Tryz.prog 117 #[.int .i64 x] w fun e w' => e = .returned (.bool false) ∧ w = w' := by
  intro x w
  have h : (x != x) = false := by simp
  go_enter Tryz.func117, Tryz.ntmps117
  go_wp2_with fail
  go_ret
  exact ⟨rfl, rfl⟩
 have HN := Lib.hid hn
 clear hn
 unfold cmI
 rcases Int.lt_trichotomy x y with h | h | h
 ·rw [if_pos h]
  go_enter Tryz.func128, Tryz.ntmps128
  go_wp2_with (go_at_call 117; refine (HN.out _ _).mono ?_; rintro e w' ⟨rfl, rfl⟩)
  go_ret
  exact ⟨rfl, rfl⟩
 ·subst h
  rw [if_neg (Int.lt_irrefl _), if_neg (Int.lt_irrefl _)]
  have h1 : decide (x < x) = false := decide_eq_false (Int.lt_irrefl _)
  go_enter Tryz.func128, Tryz.ntmps128
  go_wp2_with (go_at_call 117; refine (HN.out _ _).mono ?_; rintro e w' ⟨rfl, rfl⟩)
  go_ret
  exact ⟨rfl, rfl⟩
 ·have h2 : ¬ x < y := by omega
  rw [if_neg h2, if_pos h]
  have h1 : decide (x < y) = false := decide_eq_false (by omega)
  go_enter Tryz.func128, Tryz.ntmps128
  go_wp2_with (go_at_call 117; refine (HN.out _ _).mono ?_; rintro e w' ⟨rfl, rfl⟩)
  go_ret
  exact ⟨rfl, rfl⟩
theorem cidx1_any (a : Acc) (c : Int) (w : World) : Calls Tryz.prog 127 #[accV a, .int .i64 c] w fun e w' => e = .returned (.int .i64 (cmI a.code c)) ∧ Below w.heap.size w w' := by
 have hn := ab_new w 69 a
 obtain ⟨⟨c0, c1, c2, c3⟩, lt, -⟩ := hn
 have hB := below_alloc_new (w := w) (.cells #[.int .i64 a.code, .int .i64 a.kind, .int .i64 a.basis, .int .i64 a.par] 69)
 go_enter Tryz.func127, Tryz.ntmps127
 go_wp2_with (go_at_call 128; refine (ccmp_any _ _ _).mono ?_; rintro e w' ⟨rfl, rfl⟩)
 go_ret
 exact ⟨rfl, hB⟩
theorem cmI_lt {x y : Int} (h : x < y) : cmI x y = -1 := by unfold cmI; rw [if_pos h]
theorem cmI_ge {x y : Int} (h : y ≤ x) : 0 ≤ cmI x y := by
 unfold cmI; rw [if_neg (by omega)]; split <;> omega
theorem cmI_eq {x : Int} : cmI x x = 0 := by unfold cmI; rw [if_neg (by omega), if_neg (by omega)]
theorem cmI_gt {x y : Int} (h : y < x) : cmI x y = 1 := by unfold cmI; rw [if_neg (by omega), if_pos h]
def FoundAt (L : List Acc) (c : Int) (i : Nat) : Prop := ∀ a, fnd L c = some a → i < L.length ∧ L.getD i acc0 = a
set_option maxRecDepth 20000 in
set_option maxHeartbeats 1600000 in
theorem cbin_any (A : Option Addr) (cp : Nat) (L : List Acc) (c : Int) (w : World) (hz : AccAt w A L) (hl : L.length ≤ 1000) (hs : Srt L) :
  Calls Tryz.prog 126 #[.slice A L.length cp, .int .i64 c, .func (.func 127) #[] #[]] w fun e w' => ∃ i : Nat, e = .returned (.tuple #[.int .i64 i, .bool (fnd L c).isSome]) ∧ FoundAt L c i ∧ Below w.heap.size w w' := by
 have hB := Below.refl w.heap.size w
 obtain ⟨n, hn⟩ : ∃ n, L.length = n := ⟨_, rfl⟩
 rw [hn] at hl ⊢
 have HN := Lib.hid hn
 have HZ := Lib.hid hz
 have HS := Lib.hid hs
 clear hn hz hs
 go_enter Tryz.func126, Tryz.ntmps126
 go_wp2_with fail
 go_loopg [9, 10] n (fun kx s9 s10 wr => ∃ lo hi : Nat, s9 = .int .i64 lo ∧ s10 = .int .i64 hi ∧ lo ≤ hi ∧ hi ≤ n ∧ hi - lo ≤ kx ∧ Hid (∀ t, t < lo → (L.getD t acc0).code < c) ∧ Hid (∀ t, hi ≤ t → t < n → c ≤ (L.getD t acc0).code) ∧ Below w.heap.size w wr)
 case atStart => exact ⟨0, n, rfl, rfl, Nat.zero_le _, Nat.le_refl _, by omega, Lib.hid (fun t ht => absurd ht (Nat.not_lt_zero _)), Lib.hid (fun t h1 h2 => by omega), hB⟩
 case round =>
  clear hB
  obtain ⟨lo, hi, rfl, rfl, hlh, hin, hg, HA, HC, hB⟩ := hrel
  by_cases hlt : lo < hi
  ·have hltz : (lo : Int) < (hi : Int) := by omega
   obtain ⟨m, hm⟩ : ∃ m : Nat, ((lo : Int) + (hi : Int)) / 2 = (m : Int) := ⟨(lo + hi) / 2, by omega⟩
   have hm1 : lo ≤ m := by omega
   have hm2 : m < hi := by omega
   have hmn : m < n := by omega
   have hmz : (m : Int) < (n : Int) := by omega
   obtain ⟨b, off, rfl, hbw, hcs⟩ := HZ.out (by rw [HN.out]; omega)
   obtain ⟨c0, c1, c2, c3⟩ := (hcs m (by rw [HN.out]; omega)).up hB hbw
   obtain ⟨x, hx⟩ : ∃ x, L.getD m acc0 = x := ⟨_, rfl⟩
   rw [hx] at c0 c1 c2 c3
   have HX := Lib.hid hx
   have hcm := fun w => cidx1_any x c w
   clear hx hcs
   rcases Int.lt_or_le x.code c with h1 | h1
   ·rw [cmI_lt h1] at hcm
    have HA2 : Hid (∀ t, t < m + 1 → (L.getD t acc0).code < c) := Lib.hid (fun t ht => by
     rcases Nat.lt_or_ge t m with h2 | h2
     ·have h3 := HS.out.mono t m h2 (by rw [HN.out]; omega)
      rw [HX.out] at h3; omega
     ·obtain rfl : t = m := by omega
      rw [HX.out]; exact h1)
    have HCM := Lib.hid hcm
    clear hcm h1
    go_wp2_with fail
    refine (HCM.out _).mono ?_
    rintro e w' ⟨rfl, hb⟩
    replace hB := below_more hB hb
    clear hb
    go_wp2_with fail
    go_roundg (hi - (m + 1))
    case measure => omega
    case rel => exact ⟨m + 1, hi, by go_num, rfl, by omega, hin, Nat.le_refl _, HA2, HC, hB⟩
   ·have h0 := cmI_ge h1
    generalize cmI x.code c = r at hcm h0
    have h2 : decide (r < 0) = false := decide_eq_false (by omega)
    have HC2 : Hid (∀ t, m ≤ t → t < n → c ≤ (L.getD t acc0).code) := Lib.hid (fun t ht hn => by
     rcases Nat.lt_or_ge m t with h2 | h2
     ·have h3 := HS.out.mono m t h2 (by rw [HN.out]; omega)
      rw [HX.out] at h3; omega
     ·obtain rfl : t = m := by omega
      rw [HX.out]; exact h1)
    have HCM := Lib.hid hcm
    clear hcm h1
    go_wp2_with fail
    refine (HCM.out _).mono ?_
    rintro e w' ⟨rfl, hb⟩
    replace hB := below_more hB hb
    clear hb
    go_wp2_with fail
    go_roundg (m - lo)
    case measure => omega
    case rel => exact ⟨lo, m, rfl, rfl, by omega, by omega, Nat.le_refl _, HA, HC2, hB⟩
  ·obtain rfl : lo = hi := by omega
   have hltz : ¬ (lo : Int) < (lo : Int) := by omega
   have hcut := HS.out.cut (c := c) (m := lo) (by rw [HN.out]; exact hin) HA.out (by rw [HN.out]; exact HC.out)
   rw [HN.out] at hcut
   clear HA HC
   rcases hcut with ⟨h1, h2, h3⟩ | ⟨h1 | ⟨h1, h2⟩, h3⟩
   ·obtain ⟨b, off, rfl, hbw, hcs⟩ := HZ.out (by rw [HN.out]; omega)
    obtain ⟨c0, c1, c2, c3⟩ := (hcs lo (by rw [HN.out]; exact h1)).up hB hbw
    obtain ⟨x, hx⟩ : ∃ x, L.getD lo acc0 = x := ⟨_, rfl⟩
    rw [hx] at c0 c1 c2 c3 h2 h3
    have HX := Lib.hid hx
    have H3 := Lib.hid h3
    have hcm := fun w => cidx1_any x c w
    rw [h2, cmI_eq] at hcm
    have HCM := Lib.hid hcm
    have h1z : (lo : Int) < (n : Int) := by omega
    have h1d : decide (lo < n) = true := decide_eq_true h1
    clear hx hcs h2 h3 hcm
    go_wp2_with fail
    refine (HCM.out _).mono ?_
    rintro e w' ⟨rfl, hb⟩
    replace hB := below_more hB hb
    clear hb
    go_wp2_with fail
    go_ret2
    exact ⟨lo, by rw [H3.out]; rfl, fun a ha => ⟨by rw [HN.out]; exact h1, by rw [H3.out] at ha; rw [HX.out]; injection ha⟩, hB⟩
   ·subst h1
    have H3 := Lib.hid h3
    have h1d : decide (lo < lo) = false := decide_eq_false (by omega)
    clear h3
    go_wp2_with fail
    go_ret2
    exact ⟨lo, by rw [H3.out]; rfl, fun a ha => (by rw [H3.out] at ha; cases ha), hB⟩
   ·obtain ⟨b, off, rfl, hbw, hcs⟩ := HZ.out (by rw [HN.out]; omega)
    obtain ⟨c0, c1, c2, c3⟩ := (hcs lo (by rw [HN.out]; exact h1)).up hB hbw
    obtain ⟨x, hx⟩ : ∃ x, L.getD lo acc0 = x := ⟨_, rfl⟩
    rw [hx] at c0 c1 c2 c3 h2
    have H3 := Lib.hid h3
    have hcm := fun w => cidx1_any x c w
    rw [cmI_gt h2] at hcm
    have HCM := Lib.hid hcm
    have h1z : (lo : Int) < (n : Int) := by omega
    have h1d : decide (lo < n) = true := decide_eq_true h1
    clear hx hcs h2 h3 hcm
    go_wp2_with fail
    refine (HCM.out _).mono ?_
    rintro e w' ⟨rfl, hb⟩
    replace hB := below_more hB hb
    clear hb
    go_wp2_with fail
    go_ret2
    exact ⟨lo, by rw [H3.out]; rfl, fun a ha => (by rw [H3.out] at ha; cases ha), hB⟩
theorem cidx_any (A : Option Addr) (cp : Nat) (L : List Acc) (c : Int) (w : World) (hz : AccAt w A L) (hl : L.length ≤ 1000) (hs : Srt L) :
  Calls Tryz.prog 118 #[.slice A L.length cp, .int .i64 c] w fun e w' => ∃ i : Nat, e = .returned (.tuple #[.int .i64 i, .bool (fnd L c).isSome]) ∧ FoundAt L c i ∧ Below w.heap.size w w' := by
 have h1 := cbin_any A cp L c w hz hl hs
 generalize (fnd L c).isSome = q at *
 have H1 := Lib.hid h1
 clear h1 hz hs
 go_enter Tryz.func118, Tryz.ntmps118
 go_wp2_with (go_at_call 126; refine H1.out.mono ?_; rintro e w' ⟨i, rfl, hf, hb⟩; replace hf := Lib.hid hf)
 go_ret2
 exact ⟨i, rfl, hf.out, hb⟩
theorem parB_zero {L : List Acc} {a : Acc} (h : a.par = 0) : parB L a = true := parB_is.2 (.inl h)
theorem parB_none {L : List Acc} {a : Acc} (h : a.par ≠ 0) (hf : fnd L a.par = none) : parB L a = false := by unfold parB; rw [decide_eq_false h, hf]; rfl
theorem parB_some {L : List Acc} {a p : Acc} (h : a.par ≠ 0) (hf : fnd L a.par = some p) : parB L a = decide (p.kind = a.kind) := by unfold parB; rw [decide_eq_false h, hf]; rfl
set_option maxRecDepth 20000 in
set_option maxHeartbeats 3200000 in
theorem hpar_any (A : Option Addr) (c : Nat) (L : List Acc) (w : World) (hz : AccAt w A L) (hl : L.length ≤ 1000) (hs : Srt L) :
    Calls Tryz.prog 106 #[.slice A L.length c] w fun e w' => e = .returned (.bool (parentsB L)) ∧ Below w.heap.size w w' := by
  have hB := Below.refl w.heap.size w
  have hI := fun y w h => cidx_any A c L y w h hl hs
  obtain ⟨n, hn⟩ : ∃ n, L.length = n := ⟨_, rfl⟩
  rw [hn] at hl hI ⊢
  have HN := Lib.hid hn
  have HZ := Lib.hid hz
  have HI := Lib.hid hI
  clear hn hz hI hs
  go_enter Tryz.func106, Tryz.ntmps106
  go_wp2_with fail
  go_loopg [9] n (fun kx s9 wr => ∃ k : Nat, s9 = .int .i64 k ∧ k ≤ n ∧ n - k ≤ kx ∧ Hid ((L.take k).all (parB L) = true) ∧ Below w.heap.size w wr)
  case atStart => exact ⟨0, rfl, by omega, by omega, Lib.hid rfl, hB⟩
  case round =>
    clear hB
    obtain ⟨k, rfl, hk, hkx, HC, hB⟩ := hrel
    by_cases hlt : k < n
    · have hltz : (k : Int) < (n : Int) := by omega
      have HZW := Lib.hid (HZ.out.up hB)
      obtain ⟨b, off, rfl, hbw, hcs⟩ := HZW.out (by rw [HN.out]; omega)
      obtain ⟨c0, c1, c2, c3⟩ := hcs k (by rw [HN.out]; exact hlt)
      obtain ⟨x, hx⟩ : ∃ x, L.getD k acc0 = x := ⟨_, rfl⟩
      rw [hx] at c0 c1 c2 c3
      have HX := Lib.hid hx
      have h9 := take_all_getD (d := acc0) (p := parB L) L k (by rw [HN.out]; exact hlt)
      rw [hx] at h9
      have H9 := Lib.hid h9
      have hno := fun h => all_false_getD (d := acc0) (p := parB L) (L := L) (k := k) (by rw [HN.out]; exact hlt) (by rw [hx]; exact h)
      have HNo := Lib.hid hno
      have HCS := Lib.hid hcs
      clear hx hcs h9 hno
      by_cases h0 : x.par = 0
      · have e0 : (x.par == 0) = true := by simp [h0]
        have HC2 : Hid ((L.take (k + 1)).all (parB L) = true) := Lib.hid (by rw [H9.out, HC.out, parB_zero h0]; rfl)
        clear h0
        go_wp2_with fail
        go_roundg (n - (k + 1))
        case measure => omega
        case rel => exact ⟨k + 1, by go_num, by omega, by omega, HC2, below_new hB _⟩
      · have e0 : (x.par == 0) = false := by simp [h0]
        have hB1 : Below w.heap.size w (wr.alloc (.cells #[.int .i64 x.code, .int .i64 x.kind, .int .i64 x.basis, .int .i64 x.par] 69)) := below_new hB _
        have HB1 := Lib.hid hB1
        have HAB := Lib.hid (ab_new wr 69 x)
        have hi := HI.out x.par (wr.alloc (.cells #[.int .i64 x.code, .int .i64 x.kind, .int .i64 x.basis, .int .i64 x.par] 69)) (HZ.out.up hB1)
        cases hf : fnd L x.par with
        | none =>
          have E : Hid (parentsB L = false) := Lib.hid (HNo.out (parB_none h0 hf))
          rw [hf] at hi
          have HI1 := Lib.hid hi
          clear hi hf h0 hB1
          go_wp2_with (go_at_call 118; refine HI1.out.mono ?_; rintro e w1 ⟨i, rfl, -, hb⟩; replace hB := below_more HB1.out hb; clear hb)
          go_quiet (fail)
          replace hB := below_drewN hB nq
          generalize World.drewN _ nq = W1 at *
          go_wp2_with fail
          go_ret
          exact ⟨by rw [E.out]; rfl, hB⟩
        | some p =>
          have E0 := parB_some h0 hf
          rw [hf] at hi
          have HFS := Lib.hid hf
          have HI1 := Lib.hid hi
          clear hi hf h0 hB1
          have e9 : (p.kind != x.kind) = !decide (p.kind = x.kind) := by rw [Bool.eq_iff_iff]; simp
          cases hq : decide (p.kind = x.kind)
          all_goals
            rw [hq] at E0 e9
            have EP := Lib.hid E0
            clear hq E0
            go_wp2_with (go_at_call 118; refine HI1.out.mono ?_; rintro e w1 ⟨i, rfl, hfa, hb⟩; obtain ⟨hil, hie⟩ := hfa _ HFS.out; have d4 := (HCS.out i hil).up (below_more (below_alloc_new _) hb) hbw; rw [hie] at d4; obtain ⟨d0, d1, d2, d3⟩ := d4; obtain ⟨⟨a0, a1, a2, a3⟩, alt, -⟩ := HAB.out.up hb; have hiz : (i : Int) < (n : Int) := (by rw [HN.out] at hil; omega); replace hB := below_more HB1.out hb; clear hb hfa hil hie)
            go_quiet (fail)
            replace hB := below_drewN hB nq
            generalize World.drewN _ nq = W1 at *
            go_wp2_with fail
            first
              | (have E : Hid (parentsB L = false) := Lib.hid (HNo.out EP.out)
                 go_ret
                 exact ⟨by rw [E.out]; rfl, hB⟩)
              | (have HC2 : Hid ((L.take (k + 1)).all (parB L) = true) := Lib.hid (by rw [H9.out, HC.out, EP.out]; rfl)
                 go_roundg (n - (k + 1))
                 case measure => omega
                 case rel => exact ⟨k + 1, by go_num, by omega, by omega, HC2, hB⟩)
    · obtain rfl : k = n := by omega
      have hltz : ¬ (k : Int) < (k : Int) := by omega
      have E : Hid (parentsB L = true) := Lib.hid (by have := HC.out; rwa [List.take_of_length_le (by rw [HN.out]; omega)] at this)
      go_wp2_with fail
      go_ret
      exact ⟨by rw [E.out]; rfl, hB⟩
open Go.RowKit Go.Maps
structure TO (L : List Acc) (s : Nat) (f : Int → Option Nat) (ks : List Int) : Prop where
 seen : ∀ c v, f c = some v → v < s ∧ Ends L c
 done : ∀ i, i < s → Ends L (L.getD i acc0).code
 keys : ∀ c, (f c).isSome = decide (c ∈ ks)
 nodup : ks.Nodup
 sub : ∀ c ∈ ks, c ∈ L.map Acc.code
structure TI (L : List Acc) (s : Nat) (a : Acc) (f : Int → Option Nat) (ks : List Int) : Prop where
 seen : ∀ c v, f c = some v → v ≤ s ∧ (v < s → Ends L c) ∧ (v = s → ∃ k, stepN L (k + 1) c = some a.code)
 done : ∀ i, i < s → Ends L (L.getD i acc0).code
 way : ∃ k, stepN L k (L.getD s acc0).code = some a.code
 mem : a ∈ L
 keys : ∀ c, (f c).isSome = decide (c ∈ ks)
 nodup : ks.Nodup
 sub : ∀ c ∈ ks, c ∈ L.map Acc.code
theorem TO.start {L : List Acc} : TO L 0 (fun _ => none) [] := ⟨fun c v h => (by cases h), fun i hi => (by omega), fun c => (by simp), List.nodup_nil, fun c h => (by cases h)⟩
theorem TO.enter {L : List Acc} {s : Nat} {f : Int → Option Nat} {ks : List Int} (h : TO L s f ks) (hs : s < L.length) : TI L s (L.getD s acc0) f ks :=
 ⟨fun c v hv => by obtain ⟨h1, h2⟩ := h.seen c v hv; exact ⟨by omega, fun _ => h2, fun e => by omega⟩, h.done, ⟨0, rfl⟩, getD_mem_acc hs, h.keys, h.nodup, h.sub⟩
theorem TI.ended {L : List Acc} {s : Nat} {a : Acc} {f : Int → Option Nat} {ks : List Int} (h : TI L s a f ks) (he : Ends L a.code) : TO L (s + 1) f ks := by
 refine ⟨fun c v hv => ?_, fun i hi => ?_, h.keys, h.nodup, h.sub⟩
 ·obtain ⟨h1, h2, h3⟩ := h.seen c v hv
  refine ⟨by omega, ?_⟩
  rcases Nat.lt_or_ge v s with h4 | h4
  ·exact h2 h4
  ·obtain ⟨k, hk⟩ := h3 (by omega)
   exact step_ends hk he
 ·rcases Nat.lt_or_ge i s with h4 | h4
  ·exact h.done i h4
  ·obtain rfl : i = s := by omega
   obtain ⟨k, hk⟩ := h.way
   exact step_ends hk he
theorem TI.top {L : List Acc} {s : Nat} {a : Acc} {f : Int → Option Nat} {ks : List Int} (h : TI L s a f ks) (hS : Srt L) (h0 : a.par = 0) : TO L (s + 1) f ks :=
 h.ended (ends_up (hS.fnd_mem h.mem) (by rw [h0]; exact ends_out hS.fnd_zero))
theorem TI.loop {L : List Acc} {s : Nat} {a : Acc} {f : Int → Option Nat} {ks : List Int} (h : TI L s a f ks) (hv : f a.code = some s) : topsB L = false := by
 obtain ⟨_, _, h3⟩ := h.seen _ _ hv
 obtain ⟨k, hk⟩ := h3 rfl
 unfold topsB
 rw [List.all_eq_false]
 refine ⟨a, h.mem, ?_⟩
 rw [topB_is]
 exact loop_no_end hk
theorem TI.old {L : List Acc} {s v : Nat} {a : Acc} {f : Int → Option Nat} {ks : List Int} (h : TI L s a f ks) (hv : f a.code = some v) (hne : v ≠ s) : TO L (s + 1) f ks := by
 obtain ⟨h1, h2, _⟩ := h.seen _ _ hv
 exact h.ended (h2 (by omega))
theorem TI.step {L : List Acc} {s : Nat} {a p : Acc} {f : Int → Option Nat} {ks : List Int} (h : TI L s a f ks) (hS : Srt L) (hv : f a.code = none) (hp : fnd L a.par = some p) :
  TI L s p (fun c => if c = a.code then some s else f c) (a.code :: ks) ∧ (a.code :: ks).length ≤ L.length := by
 obtain ⟨hpm, hpc⟩ := fnd_some hp
 have hfa := hS.fnd_mem h.mem
 have hn : a.code ∉ ks := fun hm => by have := h.keys a.code; rw [hv, decide_eq_true hm] at this; cases this
 have hnd : (a.code :: ks).Nodup := List.nodup_cons.2 ⟨hn, h.nodup⟩
 have hsub : ∀ c ∈ a.code :: ks, c ∈ L.map Acc.code := fun c hc => by
  rcases List.mem_cons.1 hc with rfl | hc
  ·exact List.mem_map.2 ⟨a, h.mem, rfl⟩
  ·exact h.sub c hc
 refine ⟨⟨fun c v hcv => ?_, h.done, ?_, hpm, fun c => ?_, hnd, hsub⟩, by simpa using nodup_subset_len hnd hsub⟩
 ·split at hcv
  ·rename_i hc
   injection hcv with hcv
   subst hcv
   refine ⟨Nat.le_refl _, fun h1 => by omega, fun _ => ⟨0, ?_⟩⟩
   rw [hc]; simp only [stepN, hfa]; rw [hpc]
  ·obtain ⟨h1, h2, h3⟩ := h.seen c v hcv
   refine ⟨h1, h2, fun e => ?_⟩
   obtain ⟨k, hk⟩ := h3 e
   exact ⟨k + 1, by rw [stepN_snoc hk hfa, hpc]⟩
 ·obtain ⟨k, hk⟩ := h.way
  exact ⟨k + 1, by rw [stepN_snoc hk hfa, hpc]⟩
 ·have := h.keys c
  split
  ·rename_i hc; simp [hc]
  ·rename_i hc; rw [this]; simp [hc]
theorem TO.all {L : List Acc} {f : Int → Option Nat} {ks : List Int} (h : TO L L.length f ks) : topsB L = true := by
 unfold topsB
 rw [all_getD (d := acc0)]
 intro i hi
 rw [topB_is]
 exact h.done i hi
theorem ti_keyed : Keyed Tryz.prog 3 := int_keyed Tryz.underlying3
theorem ti_zero (w : World) : (zeroValue 3).run Tryz.prog w = .ok (.int .i64 0) w := by kernel_rfl
def SeenM (w : World) (b n : Nat) (f : Int → Option Nat) : Prop := ∃ D : DataW Unit, w.ownsMap Tryz.prog 3 (plainElem Tryz.prog 3) b n D ∧ IsMap D ∧ ∀ c, Maps.has D (.int .i64 c) = (f c).isSome ∧ ∀ s : Nat, f c = some s → D.atKey (.int .i64 c) (.lit (.int .i64 0)) = .lit (.int .i64 (s : Int))
theorem SeenM.blk {w w' : World} {b n : Nat} {f : Int → Option Nat} (h : SeenM w b n f) (hk : w'.heap[b]? = w.heap[b]?) : SeenM w' b n f := by
 obtain ⟨D, ⟨es, clock, hb, rest⟩, h2⟩ := h
 exact ⟨D, ⟨es, clock, hk.trans hb, rest⟩, h2⟩
theorem SeenM.lt {w : World} {b n : Nat} {f : Int → Option Nat} (h : SeenM w b n f) : b < w.heap.size := by
 obtain ⟨D, h1, _⟩ := h
 exact h1.lt
theorem SeenM.up {w w' : World} {b n : Nat} {f : Int → Option Nat} (h : SeenM w b n f) (hb : Below w.heap.size w w') : SeenM w' b n f := h.blk (hb.block b h.lt)
theorem SeenM.made (w : World) : SeenM (w.alloc (.map #[] 0)) w.heap.size 0 (fun _ => none) :=
 ⟨.map [], World.ownsMap_made _ _ _ _, isMap_empty, fun c => ⟨rfl, fun s h => by cases h⟩⟩
theorem wpList_seen_look {w : World} {ops : Array Oper} {rest : List Oper} {o : Oper} {a : Act} {Q : Exit → Act → World → Prop} (hg : o.guard = none) (m x : Operand) (hop : o.op = Op.lookup 152 m x true)
  (b n : Nat) (f : Int → Option Nat) (hm : a.eval m = .map (some b)) (hs : SeenM w b n f) (c : Int) (hx : a.eval x = .int .i64 c) (hw : (Lit.int .i64 c).wf = true)
  (hK : ∀ v : Int, Hid (∀ s : Nat, f c = some s → v = (s : Int)) → wpList Tryz.prog ops Q rest (a.put o.dst (.tuple #[.int .i64 v, .bool (f c).isSome])) w) : wpList Tryz.prog ops Q (o :: rest) a w := by
 obtain ⟨D, h1, _, h3⟩ := hs
 refine wpList_lookup_own_ok_int w hg m x 152 hop 3 3 .i64 ti_keyed Tryz.underlying152 Tryz.underlying3 (ti_zero _) b n D hm h1 _ _ hx (keyOf_int_mk Tryz.underlying3 hw) ?_
 intro v hat _
 rw [(h3 c).1]
 refine hK v (Lib.hid fun s hs => ?_)
 have := (h3 c).2 s hs
 rw [hat] at this
 injection this with this
 injection this
theorem wpList_seen_put {w : World} {ops : Array Oper} {rest : List Oper} {o : Oper} {a : Act} {Q : Exit → Act → World → Prop} (hg : o.guard = none) (m x y : Operand) (hop : o.op = Op.mapUpdate 152 m x y)
  (b n : Nat) (f : Int → Option Nat) (hm : a.eval m = .map (some b)) (hs : SeenM w b n f) (c : Int) (s : Nat) (hx : a.eval x = .int .i64 c) (hy : a.eval y = .int .i64 (s : Int)) (hw : (Lit.int .i64 c).wf = true) (hw2 : (Lit.int .i64 (s : Int)).wf = true) (hn : n ≤ 1000000)
  (hK : ∀ w', Hid (SeenM w' b (n + 1) (fun x => if x = c then some s else f x)) → Hid (w.grownBy w' (some b)) → wpList Tryz.prog ops Q rest (a.put o.dst undef) w') : wpList Tryz.prog ops Q (o :: rest) a w := by
 obtain ⟨D, h1, h2, h3⟩ := hs
 refine wpList_mapUpdate_own w hg m x y 152 hop 3 3 ti_keyed Tryz.underlying152 (plainElem Tryz.prog 3) b n D hm h1 (by unfold maxLen; omega) _ _ _ hx hy (keyOf_int_mk Tryz.underlying3 hw) _ [] (plainElem_int Tryz.underlying3 hw2) ?_
 intro w' h4 h5
 refine hK w' (Lib.hid ⟨_, h4, h2.put _ _, fun x => ?_⟩) (Lib.hid h5)
 dsimp only
 have hkl : ∀ z : Int, WideAt.IsKeyLit (Lit.int .i64 z) := fun z => by simp [WideAt.IsKeyLit]
 by_cases hxc : x = c
 ·subst hxc
  rw [if_pos rfl]
  refine ⟨by rw [has_put_same h2 (hkl _)]; rfl, fun s' hs' => ?_⟩
  injection hs' with hs'
  subst hs'
  exact atKey_put_same h2 (hkl _) _ _
 ·rw [if_neg hxc]
  have hne : Lit.int .i64 x ≠ Lit.int .i64 c := fun e => hxc (by injection e)
  refine ⟨by rw [has_put_other hne]; exact (h3 x).1, fun s' hs' => ?_⟩
  rw [atKey_put_other hne]
  exact (h3 x).2 s' hs'
theorem wf64 {z : Int} (h1 : -9223372036854775808 ≤ z) (h2 : z ≤ 9223372036854775807) : (Lit.int .i64 z).wf = true := WalkArith.wf_i64 ⟨h1, h2⟩
theorem ab_set4 {w : World} {g : Nat} {a : Acc} (h : AB w g a) (p : Acc) : AB ((((w.setCell ⟨g, 0, none⟩ (.int .i64 p.code)).setCell ⟨g, 1, none⟩ (.int .i64 p.kind)).setCell ⟨g, 2, none⟩ (.int .i64 p.basis)).setCell ⟨g, 3, none⟩ (.int .i64 p.par)) g p := by
 have hc : ∀ (w : World) (i j : Nat) (v u : Value), w.cell? ⟨g, i, none⟩ = some u → (w.setCell ⟨g, j, none⟩ v).cell? ⟨g, i, none⟩ = if i = j then some v else some u := by
  intro w i j v u hu
  split
  ·rename_i e; subst e; exact World.cell?_setCell_same w _ v hu
  ·rename_i e; rw [World.cell?_setCell_other w _ _ v (fun h => e (by injection h with _ h2; exact h2.symm))]; exact hu
 have z0 := h.cells.c0
 have z1 := h.cells.c1
 have z2 := h.cells.c2
 have z3 := h.cells.c3
 simp only [Nat.zero_add] at z1 z2 z3
 have hf : ∀ (w : World) (p : Addr) (v : Value) (i : Nat), (w.setCell p v).frozen? ⟨g, i, none⟩ = w.frozen? ⟨g, i, none⟩ := fun w p v i => World.frozen?_setCell w p _ v
 refine ⟨⟨?_, ?_, ?_, ?_⟩, by simpa [World.setCell] using h.lt, fun i => by rw [hf, hf, hf, hf]; exact h.fz i⟩
 ·rw [hc _ 0 3 _ _ (hc _ 0 2 _ _ (hc _ 0 1 _ _ (hc _ 0 0 _ _ z0)))]; rfl
 ·rw [Nat.zero_add, hc _ 1 3 _ _ (hc _ 1 2 _ _ (hc _ 1 1 _ _ (hc _ 1 0 _ _ z1)))]; rfl
 ·rw [Nat.zero_add, hc _ 2 3 _ _ (hc _ 2 2 _ _ (hc _ 2 1 _ _ (hc _ 2 0 _ _ z2)))]; rfl
 ·rw [Nat.zero_add, hc _ 3 3 _ _ (hc _ 3 2 _ _ (hc _ 3 1 _ _ (hc _ 3 0 _ _ z3)))]; rfl
theorem bset4 {B : Nat} {w0 w1 : World} {g : Nat} (h : Below B w0 w1) (hg : B ≤ g) (a b c d : Value) : Below B w0 ((((w1.setCell ⟨g, 0, none⟩ a).setCell ⟨g, 1, none⟩ b).setCell ⟨g, 2, none⟩ c).setCell ⟨g, 3, none⟩ d) :=
 Below.setCell (p := ⟨g, 3, none⟩) (Below.setCell (p := ⟨g, 2, none⟩) (Below.setCell (p := ⟨g, 1, none⟩) (Below.setCell (p := ⟨g, 0, none⟩) h hg a) hg b) hg c) hg d
set_option maxRecDepth 20000 in
set_option maxHeartbeats 1600000 in
theorem cfind_any (A : Option Addr) (cp : Nat) (L : List Acc) (c : Int) (w : World) (hz : AccAt w A L) (hl : L.length ≤ 1000) :
  Calls Tryz.prog 90 #[.slice A L.length cp, .int .i64 c] w fun e w' => e = .returned (.tuple #[accV (fndA L c), .bool (fnd L c).isSome]) ∧ Below w.heap.size w w' := by
 have hB := below_alloc_new (w := w) (.cells #[.int .i64 acc0.code, .int .i64 acc0.kind, .int .i64 acc0.basis, .int .i64 acc0.par] 69)
 have hA4 := ab_new w 69 acc0
 obtain ⟨n, hn⟩ : ∃ n, L.length = n := ⟨_, rfl⟩
 obtain ⟨s0, hs0⟩ : ∃ s0, w.heap.size = s0 := ⟨_, rfl⟩
 rw [hn] at hl ⊢
 rw [hs0] at hB hA4 ⊢
 have HN := Lib.hid hn
 have HZ := Lib.hid hz
 have HS0 := Lib.hid hs0
 have HA := Lib.hid hA4
 clear hn hz hA4
 go_enter Tryz.func90, Tryz.ntmps90
 go_wp2_with fail
 go_loopg [10] n (fun kx s10 wr => ∃ k : Nat, s10 = .int .i64 k ∧ k ≤ n ∧ n - k ≤ kx ∧ Hid (fnd (L.take k) c = none) ∧ Hid (AB wr s0 acc0) ∧ Below s0 w wr)
 case atStart => exact ⟨0, rfl, by omega, by omega, Lib.hid (by rw [List.take_zero]; rfl), HA, hB⟩
 case round =>
  clear hB HA
  obtain ⟨k, rfl, hk, hkx, HF, HA, hB⟩ := hrel
  by_cases hlt : k < n
  ·have hltz : (k : Int) < (n : Int) := by omega
   obtain ⟨b, off, rfl, hbw, hcs⟩ := HZ.out (by rw [HN.out]; omega)
   obtain ⟨c0, c1, c2, c3⟩ := (hcs k (by rw [HN.out]; exact hlt)).up hB (by have := HS0.out; omega)
   obtain ⟨x, hx⟩ : ∃ x, L.getD k acc0 = x := ⟨_, rfl⟩
   rw [hx] at c0 c1 c2 c3
   have HX := Lib.hid hx
   have hf := fnd_take_succ (L := L) (c := c) (k := k) (by rw [HN.out]; exact hlt) HF.out
   rw [hx] at hf
   have HA1 := Lib.hid (HA.out.up (below_alloc_new (.cells #[.int .i64 x.code, .int .i64 x.kind, .int .i64 x.basis, .int .i64 x.par] 69)))
   clear hx hcs
   by_cases he : x.code = c
   ·rw [if_pos he] at hf
    have hf2 := fnd_take hf
    have e1 : Hid (fndA L c = x) := Lib.hid (by unfold fndA; rw [hf2]; rfl)
    have e2 : Hid ((fnd L c).isSome = true) := Lib.hid (by rw [hf2]; rfl)
    have e3 : (x.code == c) = true := by simp [he]
    obtain ⟨⟨z0, z1, z2, z3⟩, zlt, zf⟩ := HA.out
    have zf0 := zf 0
    have zf1 := zf 1
    have zf2 := zf 2
    have zf3 := zf 3
    simp only [Nat.zero_add] at z1 z2 z3
    clear zf
    clear hf hf2 he
    go_wp2_with fail
    rw [e1.out, e2.out]
    exact bodyPost_ret (v := .tuple #[accV x, .bool true]) (by simp [results, Tryz.results90, go_sem, z0, z1, z2, z3, zlt]) rfl ⟨rfl, (bset4 hB (Nat.le_refl _) _ _ _ _).alloc (by have := hB.size; have := HS0.out; simp; omega) _⟩
   ·rw [if_neg he] at hf
    have HF2 := Lib.hid hf
    have e3 : (x.code == c) = false := by simp [he]
    clear hf he
    go_wp2_with fail
    go_roundg (n - (k + 1))
    case measure => omega
    case rel => exact ⟨k + 1, by go_num, by omega, by omega, HF2, HA1, hB.trans ((below_alloc_new _).mono (by have := hB.size; have := HS0.out; omega))⟩
  ·obtain rfl : k = n := by omega
   have hltz : ¬ (k : Int) < (k : Int) := by omega
   have hf := HF.out
   rw [List.take_of_length_le (by rw [HN.out]; omega)] at hf
   have e1 : Hid (fndA L c = acc0) := Lib.hid (by unfold fndA; rw [hf]; rfl)
   have e2 : Hid ((fnd L c).isSome = false) := Lib.hid (by rw [hf]; rfl)
   obtain ⟨⟨z0, z1, z2, z3⟩, zlt, zf⟩ := HA.out
   have zf0 := zf 0
   have zf1 := zf 1
   have zf2 := zf 2
   have zf3 := zf 3
   simp only [Nat.zero_add] at z1 z2 z3
   clear zf
   clear hf
   go_wp2_with fail
   rw [e1.out, e2.out]
   exact bodyPost_ret (v := .tuple #[accV acc0, .bool false]) (by simp [results, Tryz.results90, go_sem, z0, z1, z2, z3]) rfl ⟨rfl, bset4 hB (Nat.le_refl _) _ _ _ _⟩
theorem codesB_wf {L : List Acc} (h : codesB L = true) {a : Acc} (ha : a ∈ L) : 1 ≤ a.code ∧ a.code ≤ 99999 := by
 have hs := codesB_srt h
 obtain ⟨i, hi, rfl⟩ := mem_getD_acc (d := acc0) ha
 refine ⟨hs.pos i hi, ?_⟩
 unfold codesB at h
 rw [Bool.and_eq_true, decide_eq_true_eq] at h
 obtain ⟨n, hn⟩ : ∃ n, L.length = n + 1 := ⟨L.length - 1, by omega⟩
 have h2 := h.2
 rw [hn, lastC_succ] at h2
 rcases Nat.lt_or_ge i n with h3 | h3
 ·have := hs.mono i n h3 (by omega); omega
 ·obtain rfl : i = n := by omega
  exact h2
theorem parentsB_fnd {L : List Acc} (h : parentsB L = true) {a : Acc} (ha : a ∈ L) (h0 : a.par ≠ 0) : ∃ p, fnd L a.par = some p := by
 unfold parentsB at h
 rw [List.all_eq_true] at h
 rcases parB_is.1 (h a ha) with h1 | ⟨p, h1, _⟩
 ·exact absurd h1 h0
 ·exact ⟨p, h1⟩
structure TW (w W : World) (s0 g mb n : Nat) (a : Acc) (f : Int → Option Nat) (m : Nat) : Prop where
 box : AB W g a
 map : SeenM W mb m f
 below : Below s0 w W
 gs : s0 ≤ g
 ms : s0 ≤ mb
 ne : g ≠ mb
 m1 : m ≤ 1000
set_option maxRecDepth 20000 in
set_option maxHeartbeats 3200000 in
theorem htops_any (A : Option Addr) (cp : Nat) (L : List Acc) (w : World) (hz : AccAt w A L) (hl : L.length ≤ 1000) (hc : codesB L = true) (hp : parentsB L = true) :
  Calls Tryz.prog 107 #[.slice A L.length cp] w fun e w' => e = .returned (.bool (topsB L)) ∧ Below w.heap.size w w' := by
 have hS := codesB_srt hc
 have hI := fun y w h => cidx_any A cp L y w h hl hS
 have hB := below_alloc_new (w := w) (.map #[] 0)
 have hM := SeenM.made w
 obtain ⟨n, hn⟩ : ∃ n, L.length = n := ⟨_, rfl⟩
 obtain ⟨s0, hs0⟩ : ∃ s0, w.heap.size = s0 := ⟨_, rfl⟩
 rw [hn] at hl hI ⊢
 rw [hs0] at hB hM ⊢
 have HN := Lib.hid hn
 have HZ := Lib.hid hz
 have HI := Lib.hid hI
 have HS := Lib.hid hS
 have HC := Lib.hid hc
 have HP := Lib.hid hp
 have HS0 := Lib.hid hs0
 have HM := Lib.hid hM
 have hmm := @run_makeMap Tryz.prog
 clear hn hz hI hS hc hp hM
 go_enter Tryz.func107, Tryz.ntmps107
 go_wp2_with fail
 go_step3
 go_wp2_with fail
 go_step3
 go_wp2_with fail
 clear hs0
 go_loopg [13] n (fun kx s13 wr => ∃ (s m : Nat) (f : Int → Option Nat) (ks : List Int), s13 = .int .i64 s ∧ s ≤ n ∧ n - s ≤ kx ∧ Hid (TO L s f ks) ∧ Hid (SeenM wr s0 m f) ∧ Hid (m = ks.length) ∧ Below s0 w wr)
 case atStart => exact ⟨0, 0, _, [], rfl, by omega, by omega, Lib.hid TO.start, HM, Lib.hid rfl, hB⟩
 case round =>
  clear hB HM
  obtain ⟨s, m, f, ks, rfl, hs, hkx, HT, HM, HMK, hB⟩ := hrel
  by_cases hlt : s < n
  ·have hltz : (s : Int) < (n : Int) := by omega
   have hsz : s0 ≤ wr.heap.size := by have := hB.size; have := HS0.out; omega
   obtain ⟨b, off, rfl, hbw, hcs⟩ := HZ.out (by rw [HN.out]; omega)
   have hbs : b < s0 := by have := HS0.out; omega
   obtain ⟨c0, c1, c2, c3⟩ := (hcs s (by rw [HN.out]; exact hlt)).up hB hbs
   obtain ⟨x, hx⟩ : ∃ x, L.getD s acc0 = x := ⟨_, rfl⟩
   have hti := HT.out.enter (by rw [HN.out]; exact hlt)
   rw [hx] at c0 c1 c2 c3 hti
   have HTI := Lib.hid hti
   have HCS := Lib.hid hcs
   have hm1 : m ≤ 1000 := by
    have := nodup_subset_len HT.out.nodup HT.out.sub
    rw [List.length_map, HN.out] at this
    rw [HMK.out]; omega
   have HW : Hid (TW w (wr.alloc (.cells #[.int .i64 x.code, .int .i64 x.kind, .int .i64 x.basis, .int .i64 x.par] 69)) s0 wr.heap.size s0 n x f m) :=
    Lib.hid ⟨ab_new wr 69 x, HM.out.up (below_alloc_new _), hB.alloc hsz _, hsz, Nat.le_refl _, by have := HM.out.lt; omega, hm1⟩
   obtain ⟨g, hg⟩ : ∃ g, wr.heap.size = g := ⟨_, rfl⟩
   rw [hg] at HW
   have HG := Lib.hid hg
   clear hx hcs hti HM hB hg
   go_wp2_with fail
   rw [HG.out]
   go_loopg [6] (n - ks.length) (fun kx s6 W => ∃ (a : Acc) (m2 : Nat) (f2 : Int → Option Nat) (ks2 : List Int), n - ks2.length ≤ kx ∧ Hid (TI L s a f2 ks2) ∧ Hid (TW w W s0 g s0 n a f2 m2) ∧ Hid (m2 = ks2.length))
   case atStart => exact ⟨x, m, f, ks, by omega, HTI, HW, HMK⟩
   case round =>
    clear HW HTI HT HMK c0 c1 c2 c3
    obtain ⟨a, m2, f2, ks2, hkx2, HTI, HW, HMK⟩ := hrel
    obtain ⟨⟨z0, z1, z2, z3⟩, zlt, zf⟩ := HW.out.box
    simp only [Nat.zero_add] at z1 z2 z3
    have zf0 := zf 0
    have zf1 := zf 1
    have zf2 := zf 2
    have zf3 := zf 3
    clear zf
    have HWF : Hid ((Lit.int .i64 a.code).wf = true) := Lib.hid (by have := codesB_wf HC.out HTI.out.mem; exact wf64 (by omega) (by omega))
    by_cases h0 : a.par = 0
    ·have e0 : (a.par != 0) = false := by simp [h0]
     have HTO := Lib.hid (HTI.out.top HS.out h0)
     clear h0
     go_wp2_with fail
     go_roundg (n - (s + 1))
     case measure => omega
     case rel => exact ⟨s + 1, m2, f2, ks2, by go_num, by omega, by omega, HTO, Lib.hid HW.out.map, HMK, HW.out.below⟩
    ·have e0 : (a.par != 0) = true := by simp [h0]
     cases hf : f2 a.code with
     | some v =>
      have HFV := Lib.hid hf
      have hsm : Hid ((f2 a.code).isSome = true) := Lib.hid (by rw [hf]; rfl)
      by_cases hvs : v = s
      ·have E : Hid (topsB L = false) := Lib.hid (HTI.out.loop (by rw [hf, hvs]))
       have HVS := Lib.hid hvs
       clear h0 hf hvs
       go_wp2_with (at_lookup; refine wpList_seen_look rfl _ _ rfl s0 m2 f2 rfl HW.out.map a.code rfl HWF.out ?_; intro v1 hv1; have hve : v1 = (s : Int) := (by rw [hv1.out v HFV.out, HVS.out]); subst hve; rw [hsm.out]; have hss : ((s : Int) == (s : Int)) = true := (by simp); clear hv1)
       try rw [Exit.noGoto_ret]
       go_ret
       exact ⟨by rw [E.out]; rfl, HW.out.below⟩
      ·have HTO := Lib.hid (HTI.out.old hf hvs)
       have hvz : ((v : Int) == (s : Int)) = false := by simp; omega
       clear h0 hf hvs
       go_wp2_with (at_lookup; refine wpList_seen_look rfl _ _ rfl s0 m2 f2 rfl HW.out.map a.code rfl HWF.out ?_; intro v1 hv1; have hve : v1 = (v : Int) := (by rw [hv1.out v HFV.out]); subst hve; rw [hsm.out]; clear hv1)
       go_roundg (n - (s + 1))
       case measure => omega
       case rel => exact ⟨s + 1, m2, f2, ks2, by go_num, by omega, by omega, HTO, Lib.hid HW.out.map, HMK, HW.out.below⟩
     | none =>
      obtain ⟨p, hp⟩ := parentsB_fnd HP.out HTI.out.mem h0
      obtain ⟨hti2, hlen2⟩ := HTI.out.step HS.out hf hp
      have hsm : Hid ((f2 a.code).isSome = false) := Lib.hid (by rw [hf]; rfl)
      have HTI2 := Lib.hid hti2
      have HFP := Lib.hid hp
      have hl2 : ks2.length + 1 ≤ n := by rw [HN.out] at hlen2; simpa using hlen2
      have HMK2 : Hid (m2 + 1 = (a.code :: ks2).length) := Lib.hid (by rw [HMK.out]; simp)
      have HWS : Hid ((Lit.int .i64 (s : Int)).wf = true) := Lib.hid (wf64 (by omega) (by omega))
      have hgk2 : n - (a.code :: ks2).length < n - ks2.length := by simp; omega
      have hix := fun W h => HI.out a.par W h
      rw [hp] at hix
      have HIX := Lib.hid hix
      clear h0 hf hp hti2 hlen2 hix
      go_wp2_with (first
       | (at_lookup; refine wpList_seen_look rfl _ _ rfl s0 m2 f2 rfl HW.out.map a.code rfl HWF.out ?_; intro v1 hv1; rw [hsm.out]; clear hv1)
       | (at_mapUpdate; refine wpList_seen_put rfl _ _ _ rfl s0 m2 f2 rfl HW.out.map a.code s rfl rfl HWF.out HWS.out (by have := HW.out.m1; omega) ?_; intro w2 hm2 hg2; have hb2 := grown_below HW.out.below hg2.out (Nat.le_refl _) (Nat.le_of_lt HW.out.map.lt); have HAB := Lib.hid (HW.out.box.blk (hg2.out.block g zlt (by (intro e9; injection e9 with e9; exact HW.out.ne e9)))); clear z0 z1 z2 z3 zlt zf0 zf1 zf2 zf3; obtain ⟨⟨z0, z1, z2, z3⟩, zlt, -⟩ := HAB.out; simp only [Nat.zero_add] at z1 z2 z3)
       | (go_at_call 118; refine (HIX.out _ (HZ.out.up (by (rw [HS0.out]; exact hb2)))).mono ?_; rintro e w3 ⟨i, rfl, hfa, hb⟩; obtain ⟨hil, hie⟩ := hfa _ HFP.out; replace HAB := Lib.hid (HAB.out.up hb); replace hm2 := Lib.hid (hm2.out.up hb); replace hb2 := hb2.trans (hb.mono (by (have := hb2.size; have := HS0.out; omega))); have d4 := (HCS.out i hil).up hb2 hbs; rw [hie] at d4; obtain ⟨d0, d1, d2, d3⟩ := d4; have hiz : (i : Int) < (n : Int) := (by rw [HN.out] at hil; omega); clear z0 z1 z2 z3 zlt hb hfa hil hie hg2; obtain ⟨⟨z0, z1, z2, z3⟩, zlt, zf⟩ := HAB.out; simp only [Nat.zero_add] at z1 z2 z3; have zf0 := zf 0; have zf1 := zf 1; have zf2 := zf 2; have zf3 := zf 3; clear zf))
      have HW2 : Hid (TW w _ s0 g s0 n p _ (m2 + 1)) := Lib.hid ⟨ab_set4 HAB.out p, hm2.out.blk (by rw [Below.heap_setCell _ _ _ _ (Ne.symm HW.out.ne), Below.heap_setCell _ _ _ _ (Ne.symm HW.out.ne), Below.heap_setCell _ _ _ _ (Ne.symm HW.out.ne), Below.heap_setCell _ _ _ _ (Ne.symm HW.out.ne)]), bset4 hb2 HW.out.gs _ _ _ _, HW.out.gs, HW.out.ms, HW.out.ne, by have := HMK.out; omega⟩
      go_roundg (n - (a.code :: ks2).length)
      case measure => simp only [List.length_cons]; omega
      case rel => exact ⟨p, m2 + 1, _, a.code :: ks2, Nat.le_refl _, HTI2, HW2, HMK2⟩
  ·obtain rfl : s = n := by omega
   have hltz : ¬ (s : Int) < (s : Int) := by omega
   have E : Hid (topsB L = true) := Lib.hid (by have := HT.out; rw [← HN.out] at this; exact this.all)
   go_wp2_with fail
   go_ret
   exact ⟨by rw [E.out]; rfl, hB⟩
set_option maxRecDepth 20000 in
set_option maxHeartbeats 1600000 in
theorem cvalid8_any (A : Option Addr) (cp : Nat) (L : List Acc) (g : Bool) (w : World) (hz : AccAt w A L) (hl : L.length ≤ 1000) :
  Calls Tryz.prog 84 #[.slice A L.length cp, .bool g] w fun e w' => e = .returned (.bool (vB L g)) ∧ Below w.heap.size w w' := by
 have hB := Below.refl w.heap.size w
 have h1 := fun w h => hcodes_any A cp L w h hl
 have h2 := fun w h => hkinds_any A cp L g w h hl
 have h3 := fun hc w h => hpar_any A cp L w h hl (codesB_srt hc)
 have h4 := fun hc hp w h => htops_any A cp L w h hl hc hp
 have hv : vB L g = (decide (L.length ≤ 200) && codesB L && kindsB L g && parentsB L && topsB L) := rfl
 obtain ⟨n, hn⟩ : ∃ n, L.length = n := ⟨_, rfl⟩
 rw [hn] at hl hv h1 h2 h3 h4 ⊢
 have HZ := Lib.hid hz
 clear hn hz
 by_cases hbig : 200 < n
 ·have E : Hid (vB L g = false) := Lib.hid (by rw [hv, decide_eq_false (show ¬ n ≤ 200 by omega)]; rfl)
  have e1 : decide (n ≤ 200) = false := decide_eq_false (by omega)
  have e2 : decide ((n : Int) ≤ 200) = false := decide_eq_false (by omega)
  clear h1 h2 h3 h4 hv
  go_enter Tryz.func84, Tryz.ntmps84
  go_wp2_with fail
  go_ret
  exact ⟨by rw [E.out]; rfl, hB⟩
 have e2 : decide ((n : Int) ≤ 200) = true := decide_eq_true (by omega)
 rw [decide_eq_true (show n ≤ 200 by omega), Bool.true_and] at hv
 cases hc : codesB L
 ·rw [hc] at h1 hv
  have E := Lib.hid (show vB L g = false from hv)
  have H1 := Lib.hid h1
  clear h1 h2 h3 h4 hv hc
  go_enter Tryz.func84, Tryz.ntmps84
  go_wp2_with (go_at_call 104; refine (H1.out _ (HZ.out.up hB)).mono ?_; rintro e w1 ⟨rfl, hb⟩; replace hB := below_more hB hb; clear hb)
  go_ret
  exact ⟨by rw [E.out]; rfl, hB⟩
 replace h3 := h3 hc
 replace h4 := h4 hc
 rw [hc] at h1 hv
 have H1 := Lib.hid h1
 clear h1 hc
 cases hk : kindsB L g
 ·rw [hk] at h2 hv
  have E := Lib.hid (show vB L g = false from hv)
  have H2 := Lib.hid h2
  clear h2 h3 h4 hv hk
  go_enter Tryz.func84, Tryz.ntmps84
  go_wp2_with (first | (go_at_call 104; refine (H1.out _ (HZ.out.up hB)).mono ?_; rintro e w1 ⟨rfl, hb⟩; replace hB := below_more hB hb; clear hb) | (go_at_call 105; refine (H2.out _ (HZ.out.up hB)).mono ?_; rintro e w1 ⟨rfl, hb⟩; replace hB := below_more hB hb; clear hb))
  go_ret
  exact ⟨by rw [E.out]; rfl, hB⟩
 rw [hk] at h2 hv
 have H2 := Lib.hid h2
 clear h2 hk
 cases hp : parentsB L
 ·rw [hp] at h3 hv
  have E := Lib.hid (show vB L g = false from hv)
  have H3 := Lib.hid h3
  clear h3 h4 hv hp
  go_enter Tryz.func84, Tryz.ntmps84
  go_wp2_with (first | (go_at_call 104; refine (H1.out _ (HZ.out.up hB)).mono ?_; rintro e w1 ⟨rfl, hb⟩; replace hB := below_more hB hb; clear hb) | (go_at_call 105; refine (H2.out _ (HZ.out.up hB)).mono ?_; rintro e w1 ⟨rfl, hb⟩; replace hB := below_more hB hb; clear hb) | (go_at_call 106; refine (H3.out _ (HZ.out.up hB)).mono ?_; rintro e w1 ⟨rfl, hb⟩; replace hB := below_more hB hb; clear hb))
  go_ret
  exact ⟨by rw [E.out]; rfl, hB⟩
 replace h4 := h4 hp
 rw [hp] at h3 hv
 have E := Lib.hid (show vB L g = topsB L from hv)
 have H3 := Lib.hid h3
 have H4 := Lib.hid h4
 clear h3 h4 hv hp
 go_enter Tryz.func84, Tryz.ntmps84
 go_wp2_with (first | (go_at_call 104; refine (H1.out _ (HZ.out.up hB)).mono ?_; rintro e w1 ⟨rfl, hb⟩; replace hB := below_more hB hb; clear hb) | (go_at_call 105; refine (H2.out _ (HZ.out.up hB)).mono ?_; rintro e w1 ⟨rfl, hb⟩; replace hB := below_more hB hb; clear hb) | (go_at_call 106; refine (H3.out _ (HZ.out.up hB)).mono ?_; rintro e w1 ⟨rfl, hb⟩; replace hB := below_more hB hb; clear hb) | (go_at_call 107; refine (H4.out _ (HZ.out.up hB)).mono ?_; rintro e w1 ⟨rfl, hb⟩; replace hB := below_more hB hb; clear hb))
 go_ret
 exact ⟨by rw [E.out]; rfl, hB⟩
theorem ramt_any (n : Int) (w : World) : Calls Tryz.prog 23 #[.int .i64 n] w fun e w' => e = .returned (.bool (amtB n)) ∧ w = w' := by
 unfold amtB
 rcases Int.lt_or_le n (-1000000000000) with h | h
 ·have h1 : decide (-1000000000000 ≤ n) = false := decide_eq_false (by omega)
  rw [h1]
  go_enter Tryz.func23, Tryz.ntmps23
  go_wp2_with fail
  go_ret
  exact ⟨rfl, rfl⟩
 ·have h1 : decide (-1000000000000 ≤ n) = true := decide_eq_true h
  rw [h1]
  go_enter Tryz.func23, Tryz.ntmps23
  go_wp2_with fail
  go_ret
  exact ⟨rfl, rfl⟩
set_option maxRecDepth 20000 in
set_option maxHeartbeats 1600000 in
theorem rfind_any (A : Option Addr) (cp : Nat) (L : List Acc) (c : Int) (w : World) (hz : AccAt w A L) (hl : L.length ≤ 1000) :
  Calls Tryz.prog 61 #[.slice A L.length cp, .int .i64 c] w fun e w' => e = .returned (.tuple #[accV (fndA L c), .bool (fnd L c).isSome]) ∧ Below w.heap.size w w' := by
 have hB := below_alloc_new (w := w) (.cells #[.int .i64 acc0.code, .int .i64 acc0.kind, .int .i64 acc0.basis, .int .i64 acc0.par] 69)
 have hA4 := ab_new w 69 acc0
 obtain ⟨n, hn⟩ : ∃ n, L.length = n := ⟨_, rfl⟩
 obtain ⟨s0, hs0⟩ : ∃ s0, w.heap.size = s0 := ⟨_, rfl⟩
 rw [hn] at hl ⊢
 rw [hs0] at hB hA4 ⊢
 have HN := Lib.hid hn
 have HZ := Lib.hid hz
 have HS0 := Lib.hid hs0
 have HA := Lib.hid hA4
 clear hn hz hA4
 go_enter Tryz.func61, Tryz.ntmps61
 go_wp2_with fail
 go_loopg [6] n (fun kx s6 wr => ∃ k : Nat, s6 = .int .i64 k ∧ k ≤ n ∧ n - k ≤ kx ∧ Hid (fnd (L.take k) c = none) ∧ Hid (AB wr s0 acc0) ∧ Below s0 w wr)
 case atStart => exact ⟨0, rfl, by omega, by omega, Lib.hid (by rw [List.take_zero]; rfl), HA, hB⟩
 case round =>
  clear hB HA
  obtain ⟨k, rfl, hk, hkx, HF, HA, hB⟩ := hrel
  by_cases hlt : k < n
  ·have hltz : (k : Int) < (n : Int) := by omega
   obtain ⟨b, off, rfl, hbw, hcs⟩ := HZ.out (by rw [HN.out]; omega)
   have hbs : b < s0 := by have := HS0.out; omega
   have hbn : b ≠ s0 := by omega
   obtain ⟨c0, c1, c2, c3⟩ := (hcs k (by rw [HN.out]; exact hlt)).up hB hbs
   obtain ⟨x, hx⟩ : ∃ x, L.getD k acc0 = x := ⟨_, rfl⟩
   rw [hx] at c0 c1 c2 c3
   have HX := Lib.hid hx
   have hf := fnd_take_succ (L := L) (c := c) (k := k) (by rw [HN.out]; exact hlt) HF.out
   rw [hx] at hf
   clear hx hcs
   by_cases he : x.code = c
   ·rw [if_pos he] at hf
    have hf2 := fnd_take hf
    have e1 : Hid (fndA L c = x) := Lib.hid (by unfold fndA; rw [hf2]; rfl)
    have e2 : Hid ((fnd L c).isSome = true) := Lib.hid (by rw [hf2]; rfl)
    have e3 : (x.code == c) = true := by simp [he]
    obtain ⟨⟨z0, z1, z2, z3⟩, zlt, zf⟩ := HA.out
    have zf0 := zf 0
    have zf1 := zf 1
    have zf2 := zf 2
    have zf3 := zf 3
    simp only [Nat.zero_add] at z1 z2 z3
    clear zf hf hf2 he
    go_wp2_with fail
    rw [e1.out, e2.out]
    exact bodyPost_ret (v := .tuple #[accV x, .bool true]) (by simp [results, Tryz.results61, go_sem, z0, z1, z2, z3]) rfl ⟨rfl, bset4 hB (Nat.le_refl _) _ _ _ _⟩
   ·rw [if_neg he] at hf
    have HF2 := Lib.hid hf
    have e3 : (x.code == c) = false := by simp [he]
    clear hf he
    go_wp2_with fail
    go_roundg (n - (k + 1))
    case measure => omega
    case rel => exact ⟨k + 1, by go_num, by omega, by omega, HF2, HA, hB⟩
  ·obtain rfl : k = n := by omega
   have hltz : ¬ (k : Int) < (k : Int) := by omega
   have hf := HF.out
   rw [List.take_of_length_le (by rw [HN.out]; omega)] at hf
   have e1 : Hid (fndA L c = acc0) := Lib.hid (by unfold fndA; rw [hf]; rfl)
   have e2 : Hid ((fnd L c).isSome = false) := Lib.hid (by rw [hf]; rfl)
   obtain ⟨⟨z0, z1, z2, z3⟩, zlt, zf⟩ := HA.out
   have zf0 := zf 0
   have zf1 := zf 1
   have zf2 := zf 2
   have zf3 := zf 3
   simp only [Nat.zero_add] at z1 z2 z3
   clear zf hf
   go_wp2_with fail
   rw [e1.out, e2.out]
   exact bodyPost_ret (v := .tuple #[accV acc0, .bool false]) (by simp [results, Tryz.results61, go_sem, z0, z1, z2, z3]) rfl ⟨rfl, bset4 hB (Nat.le_refl _) _ _ _ _⟩
theorem climb_le {L : List Acc} {c : Int} : (climb L c).length ≤ L.length + 1 := climbN_le
set_option maxRecDepth 20000 in
set_option maxHeartbeats 1600000 in
theorem rclimb_any (A : Option Addr) (cp : Nat) (L : List Acc) (c : Int) (w : World) (hz : AccAt w A L) (hl : L.length ≤ 1000) :
  Calls Tryz.prog 63 #[.slice A L.length cp, .int .i64 c] w fun e w' => ∃ v, e = .returned v ∧ SlI w' v (climb L c) ∧ Below w.heap.size w w' := by
 have hB := Below.refl w.heap.size w
 have hfl : (climb L c).length ≤ L.length + 1 := climb_le
 have hf0 : climbN L (L.length + 1 - 0) c = (climb L c).drop 0 := rfl
 obtain ⟨full, hfull⟩ : ∃ full, climb L c = full := ⟨_, rfl⟩
 rw [hfull] at hfl hf0 ⊢
 have hFd := fun w y h => rfind_any A cp L y w h hl
 obtain ⟨n, hn⟩ : ∃ n, L.length = n := ⟨_, rfl⟩
 obtain ⟨s0, hs0⟩ : ∃ s0, w.heap.size = s0 := ⟨_, rfl⟩
 rw [hn] at hl hfl hf0 hFd ⊢
 rw [hs0] at hB ⊢
 have HN := Lib.hid hn
 have HZ := Lib.hid hz
 have HS0 := Lib.hid hs0
 have HFd := Lib.hid hFd
 have HF0 := Lib.hid hf0
 obtain ⟨i0, hi, hz0, hz1, hz2⟩ := info_parts infoI_int
 clear hn hz hs0 hfull hFd hf0
 go_enter Tryz.func63, Tryz.ntmps63
 go_wp2_with fail
 have hO : Hid (OwnI .i64 3 w s0 (.slice none 0 0) (full.take 0)) := Lib.hid OwnI.nil
 go_loopg [1, 5, 6] (n + 1) (fun kx s1 s5 s6 wr => ∃ (k : Nat) (y : Int), s1 = .int .i64 y ∧ s6 = .int .i64 k ∧ k ≤ full.length ∧ n + 1 - k ≤ kx ∧ Hid (climbN L (n + 1 - k) y = full.drop k) ∧ Hid (OwnI .i64 3 wr s0 s5 (full.take k)) ∧ Below s0 w wr)
 case atStart => exact ⟨0, c, rfl, rfl, by omega, by omega, HF0, hO, hB⟩
 case round =>
  clear hB hO HF0
  obtain ⟨k, y, rfl, rfl, hk, hkx, HD, hO, hB⟩ := hrel
  have hsz : s0 ≤ wr.heap.size := by have := hB.size; have := HS0.out; omega
  by_cases hlt : k ≤ n
  ·have hltz : (k : Int) ≤ (n : Int) := by omega
   have hz2' := HZ.out.up (w' := wr) (by rw [HS0.out]; exact hB)
   have hfd := HFd.out wr y hz2'
   cases hc : fnd L y with
   | none =>
    have e1 : fndA L y = acc0 := by unfold fndA; rw [hc]; rfl
    rw [e1, hc] at hfd
    have hdr : full.drop k = [] := by rw [← HD.out, climbN_none hc]
    have htk : full.take k = full := List.take_of_length_le (by have := congrArg List.length hdr; rw [List.length_drop] at this; simp at this; omega)
    have ho := hO.out
    rw [htk] at ho
    have HO := Lib.hid ho
    have HFD := Lib.hid hfd
    clear hfd hdr htk ho hc e1 hO
    go_wp2_with (go_at_call 61; refine HFD.out.mono ?_; rintro e w1 ⟨rfl, hb⟩; replace HO := Lib.hid ((HO.out.up hb).alloc (.cells #[.int .i64 0, .int .i64 0, .int .i64 0, .int .i64 0] 69)).sli; replace hB := (hB.trans (hb.mono hsz)).alloc (Nat.le_trans hsz hb.size) (.cells #[.int .i64 0, .int .i64 0, .int .i64 0, .int .i64 0] 69); clear hb)
    go_ret
    exact ⟨_, rfl, HO.out, hB⟩
   | some a =>
    have e1 : fndA L y = a := by unfold fndA; rw [hc]; rfl
    rw [e1, hc] at hfd
    have hst : climbN L (n + 1 - k) y = y :: climbN L (n - k) a.par := by
     rw [show n + 1 - k = (n - k) + 1 by omega, climbN_some hc]
    have hd1 : full.drop k = y :: climbN L (n - k) a.par := by rw [← HD.out, hst]
    have hkl : k < full.length := by have := congrArg List.length hd1; rw [List.length_drop] at this; simp at this; omega
    have hd2 := drop_getD (d := (0 : Int)) hkl
    rw [hd1] at hd2
    injection hd2 with hy hd3
    have htk : full.take (k + 1) = full.take k ++ [y] := by rw [take_succ_getD (d := (0 : Int)) hkl, ← hy]
    have HD2 : Hid (climbN L (n + 1 - (k + 1)) a.par = full.drop (k + 1)) := Lib.hid (by rw [← hd3]; congr 1; omega)
    have hln : Hid ((full.take k).length ≤ 100000000) := Lib.hid (by rw [List.length_take]; omega)
    have HTK := Lib.hid htk
    have HFD := Lib.hid hfd
    clear hfd hst hd1 hd3 hy htk hc e1
    go_wp2_with (first
     | (go_at_call 61; refine HFD.out.mono ?_; rintro e w1 ⟨rfl, hb⟩; have hsz1 := Nat.le_trans hsz hb.size; replace hO := Lib.hid (hO.out.up hb); have hne := Lib.hid (hO.out.ne_new (Nat.le_refl _)); have hA1 := Lib.hid (ab_new w1 69 a); replace hB := (hB.trans (hb.mono hsz)).alloc hsz1 (.cells #[.int .i64 a.code, .int .i64 a.kind, .int .i64 a.basis, .int .i64 a.par] 69); clear hb)
     | (at_builtin; refine wpList_append_ik (w1.alloc (.cells #[.int .i64 a.code, .int .i64 a.kind, .int .i64 a.basis, .int .i64 a.par] 69)) rfl (.tmp 23) (.tmp 25) 84 rfl .i64 s0 3 i0 8 Tryz.underlying84 hi hz0 hz1 hz2 (by omega) u5 _ (by rfl) (hO.out.alloc _) y _ 1 (by first | rfl | simp) rfl hln.out (by simp; omega) ?_; intro v2 w2 ho2 hb2 hk2; have hA2 := hA1.out.blk (hk2.out _ (by simp) hne.out); obtain ⟨⟨d0, d1, d2, d3⟩, dlt, -⟩ := hA2; replace ho2 := ho2.out; rw [← HTK.out] at ho2; replace ho2 := Lib.hid ho2; replace hB := hB.trans hb2; clear hb2))
    go_roundg (n + 1 - (k + 1))
    case measure => omega
    case rel => exact ⟨k + 1, a.par, rfl, by go_num, by omega, by omega, HD2, ho2, hB⟩
  ·obtain rfl : k = n + 1 := by omega
   have hltz : decide (((n + 1 : Nat) : Int) ≤ (n : Int)) = false := decide_eq_false (by omega)
   have ho := hO.out.sli
   rw [List.take_of_length_le (by omega)] at ho
   have HO := Lib.hid ho
   clear ho
   go_wp2_with fail
   go_ret
   exact ⟨_, rfl, HO.out, hB⟩
theorem prop_code1 {L : List Acc} {g : Bool} {a : Acc} (h : a.code < 1) : properB L g a = false := by unfold properB; rw [decide_eq_false (show ¬ 1 ≤ a.code by omega)]; rfl
theorem prop_code2 {L : List Acc} {g : Bool} {a : Acc} (h : 99999 < a.code) : properB L g a = false := by unfold properB; rw [decide_eq_false (show ¬ a.code ≤ 99999 by omega), Bool.and_false]; rfl
theorem prop_kin {L : List Acc} {g : Bool} {a : Acc} (h : kinB g a = false) : properB L g a = false := by unfold properB; rw [h, Bool.and_false]; rfl
theorem prop_rest {L : List Acc} {g : Bool} {a : Acc} (h1 : 1 ≤ a.code) (h2 : a.code ≤ 99999) (h : kinB g a = true) : properB L g a = prB L a := by unfold properB; rw [h, decide_eq_true h1, decide_eq_true h2]; rfl
set_option maxRecDepth 20000 in
set_option maxHeartbeats 3200000 in
theorem rproper_any (A : Option Addr) (cp : Nat) (L : List Acc) (a : Acc) (g : Bool) (w : World) (hz : AccAt w A L) (hl : L.length ≤ 1000) :
  Calls Tryz.prog 62 #[.slice A L.length cp, accV a, .bool g] w fun e w' => e = .returned (.bool (properB L g a)) ∧ Below w.heap.size w w' := by
 have hB := below_alloc_new (w := w) (.cells #[.int .i64 a.code, .int .i64 a.kind, .int .i64 a.basis, .int .i64 a.par] 69)
 have hA := ab_new w 69 a
 have HAB := Lib.hid hA
 have hz2 := hz.up hB
 have hFd := rfind_any A cp L a.par (w.alloc (.cells #[.int .i64 a.code, .int .i64 a.kind, .int .i64 a.basis, .int .i64 a.par] 69)) hz2 hl
 obtain ⟨⟨c0, c1, c2, c3⟩, lt, -⟩ := hA
 generalize L.length = n at *
 clear hl hz hz2
 rcases Int.lt_or_le a.code 1 with h1 | h1
 ·have E := Lib.hid (prop_code1 (L := L) (g := g) h1)
  have e1 : decide (a.code < 1) = true := decide_eq_true h1
  clear hFd h1
  go_enter Tryz.func62, Tryz.ntmps62
  go_wp2_with fail
  go_ret
  exact ⟨by rw [E.out]; rfl, hB⟩
 have e1 : decide (a.code < 1) = false := decide_eq_false (by omega)
 rcases Int.lt_or_le 99999 a.code with h2 | h2
 ·have E := Lib.hid (prop_code2 (L := L) (g := g) h2)
  have e2 : decide (99999 < a.code) = true := decide_eq_true h2
  clear hFd h1 h2
  go_enter Tryz.func62, Tryz.ntmps62
  go_wp2_with fail
  go_ret
  exact ⟨by rw [E.out]; rfl, hB⟩
 have e2 : decide (99999 < a.code) = false := decide_eq_false (by omega)
 cases hk : kinB g a
 ·have E := Lib.hid (prop_kin (L := L) hk)
  have h0 := kinB_no hk
  clear hk hFd h1 h2
  rcases h0 with h3 | ⟨h3, h4⟩ | ⟨h3, h4, h5⟩ | ⟨h3, h4, h5, h6⟩
  ·have e3 : decide (a.kind < 1) = true := decide_eq_true h3
   go_enter Tryz.func62, Tryz.ntmps62
   go_wp2_with fail
   go_ret
   exact ⟨by rw [E.out]; rfl, hB⟩
  ·have e3 : decide (a.kind < 1) = false := decide_eq_false (by omega)
   have e4 : decide (5 < a.kind) = true := decide_eq_true h4
   go_enter Tryz.func62, Tryz.ntmps62
   go_wp2_with fail
   go_ret
   exact ⟨by rw [E.out]; rfl, hB⟩
  ·have e3 : decide (a.kind < 1) = false := decide_eq_false (by omega)
   have e4 : decide (5 < a.kind) = false := decide_eq_false (by omega)
   cases g
   ·have h5' : a.basis < 0 := h5
    have e5 : (a.basis != 0) = true := by simp; omega
    clear h5 h5' h3 h4
    go_enter Tryz.func62, Tryz.ntmps62
    go_wp2_with fail
    go_ret
    exact ⟨by rw [E.out]; rfl, hB⟩
   ·have h5' : a.basis < 1 := h5
    have e5 : decide (a.basis < 1) = true := decide_eq_true h5'
    clear h5 h5' h3 h4
    go_enter Tryz.func62, Tryz.ntmps62
    go_wp2_with fail
    go_ret
    exact ⟨by rw [E.out]; rfl, hB⟩
  ·have e3 : decide (a.kind < 1) = false := decide_eq_false (by omega)
   have e4 : decide (5 < a.kind) = false := decide_eq_false (by omega)
   cases g
   ·have h6' : 0 < a.basis := h6
    have e5 : (a.basis != 0) = true := by simp; omega
    clear h5 h6 h6' h3 h4
    go_enter Tryz.func62, Tryz.ntmps62
    go_wp2_with fail
    go_ret
    exact ⟨by rw [E.out]; rfl, hB⟩
   ·have h5' : 1 ≤ a.basis := h5
    have h6' : 3 < a.basis := h6
    have e5 : decide (a.basis < 1) = false := decide_eq_false (by omega)
    have e6 : decide (3 < a.basis) = true := decide_eq_true h6'
    clear h5 h6 h5' h6' h3 h4
    go_enter Tryz.func62, Tryz.ntmps62
    go_wp2_with fail
    go_ret
    exact ⟨by rw [E.out]; rfl, hB⟩
 ·have E0 := prop_rest (L := L) h1 h2 hk
  obtain ⟨h3, h4, h5, h6⟩ := kinB_is hk
  have e3 : decide (a.kind < 1) = false := decide_eq_false (by omega)
  have e4 : decide (5 < a.kind) = false := decide_eq_false (by omega)
  clear hk h1 h2 h3 h4
  by_cases h7 : a.par = 0
  ·have E := Lib.hid (E0.trans (prB_is.2 (.inl h7)))
   have e7 : (a.par == 0) = true := by simp [h7]
   clear E0 h7 hFd
   cases g
   ·have h5' : 0 ≤ a.basis := h5
    have h6' : a.basis ≤ 0 := h6
    have e5 : (a.basis != 0) = false := by simp; omega
    clear h5 h6 h5' h6'
    go_enter Tryz.func62, Tryz.ntmps62
    go_wp2_with fail
    go_ret
    exact ⟨by rw [E.out]; rfl, hB⟩
   ·have h5' : 1 ≤ a.basis := h5
    have h6' : a.basis ≤ 3 := h6
    have e5 : decide (a.basis < 1) = false := decide_eq_false (by omega)
    have e6 : decide (3 < a.basis) = false := decide_eq_false (by omega)
    clear h5 h6 h5' h6'
    go_enter Tryz.func62, Tryz.ntmps62
    go_wp2_with fail
    go_ret
    exact ⟨by rw [E.out]; rfl, hB⟩
  ·have e7 : (a.par == 0) = false := by simp [h7]
   have E1 : prB L a = match fnd L a.par with
    | none => false
    | some p => decide (p.code ≠ a.code) && decide (p.kind = a.kind) := by unfold prB; rw [decide_eq_false h7]; rfl
   rw [E1] at E0
   clear E1 h7
   have hbas : (g = false ∧ (a.basis != 0) = false) ∨ (g = true ∧ decide (a.basis < 1) = false ∧ decide (3 < a.basis) = false) := by
    cases g
    ·have h5' : 0 ≤ a.basis := h5
     have h6' : a.basis ≤ 0 := h6
     exact .inl ⟨rfl, by simp; omega⟩
    ·have h5' : 1 ≤ a.basis := h5
     have h6' : a.basis ≤ 3 := h6
     exact .inr ⟨rfl, decide_eq_false (by omega), decide_eq_false (by omega)⟩
   clear h5 h6
   cases hf : fnd L a.par with
   | none =>
    have e8 : fndA L a.par = acc0 := by unfold fndA; rw [hf]; rfl
    rw [e8, hf] at hFd
    rw [hf] at E0
    have E := Lib.hid E0
    have HFD := Lib.hid hFd
    clear e8 hf hFd E0
    rcases hbas with ⟨rfl, e5⟩ | ⟨rfl, e5, e6⟩
    all_goals
     go_enter Tryz.func62, Tryz.ntmps62
     go_wp2_with (go_at_call 61; refine HFD.out.mono ?_; rintro e w1 ⟨rfl, hb⟩; replace HAB := Lib.hid (HAB.out.up hb); clear c0 c1 c2 c3 lt; obtain ⟨⟨c0, c1, c2, c3⟩, lt, -⟩ := HAB.out; replace hB := below_more hB hb; clear hb)
     go_ret
     exact ⟨by rw [E.out]; rfl, below_new hB _⟩
   | some p =>
    have e8 : fndA L a.par = p := by unfold fndA; rw [hf]; rfl
    rw [e8, hf] at hFd
    rw [hf] at E0
    simp only at E0
    have HFD := Lib.hid hFd
    clear e8 hf hFd
    by_cases h8 : p.code = a.code
    ·have e8 : (p.code != a.code) = false := by simp [h8]
     rw [decide_eq_false (fun h => h h8), Bool.false_and] at E0
     have E := Lib.hid E0
     clear E0 h8
     rcases hbas with ⟨rfl, e5⟩ | ⟨rfl, e5, e6⟩
     all_goals
      go_enter Tryz.func62, Tryz.ntmps62
      go_wp2_with (go_at_call 61; refine HFD.out.mono ?_; rintro e w1 ⟨rfl, hb⟩; replace HAB := Lib.hid (HAB.out.up hb); clear c0 c1 c2 c3 lt; obtain ⟨⟨c0, c1, c2, c3⟩, lt, -⟩ := HAB.out; replace hB := below_more hB hb; clear hb)
      go_ret
      exact ⟨by rw [E.out]; rfl, below_new hB _⟩
    ·have e8 : (p.code != a.code) = true := by simp [h8]
     rw [decide_eq_true h8, Bool.true_and] at E0
     clear h8
     have e9 : (p.kind == a.kind) = decide (p.kind = a.kind) := by rw [Bool.eq_iff_iff]; simp
     generalize decide (p.kind = a.kind) = q at *
     have E := Lib.hid E0
     clear E0
     rcases hbas with ⟨rfl, e5⟩ | ⟨rfl, e5, e6⟩
     all_goals
      go_enter Tryz.func62, Tryz.ntmps62
      go_wp2_with (go_at_call 61; refine HFD.out.mono ?_; rintro e w1 ⟨rfl, hb⟩; replace HAB := Lib.hid (HAB.out.up hb); clear c0 c1 c2 c3 lt; obtain ⟨⟨c0, c1, c2, c3⟩, lt, -⟩ := HAB.out; replace hB := below_more hB hb; clear hb)
      go_ret
      exact ⟨by rw [E.out]; rfl, below_new hB _⟩
open Go Go.RowKit
structure Fact where
 p : Value → World → Prop
 st : ∀ v w w', Below w.heap.size w w' → p v w → p v w'
def Fact.triv : Fact := ⟨fun _ _ => True, fun _ _ _ _ _ => trivial⟩
def look : List (Nat × Fact) → Nat → Fact
 | [], _ => Fact.triv
 | (k, f) :: rest, d => bif Nat.beq k d then f else look rest d
def factOf (FL : List (Nat × Fact)) (dst : Option Nat) (v : Value) (w : World) : Prop := match dst with
 | none => True
 | some d => (look FL d).p v w
def fillL (u : Nat → Value) : List Nat → Array Value → Array Value
 | [], t => t
 | d :: ds, t => fillL u ds (t.setIfInBounds d (u d))
def upd (u : Nat → Value) (d : Option Nat) (v : Value) (n : Nat) : Value := match d with
 | none => u n
 | some d => if n = d then v else u n
theorem fillL_size (u : Nat → Value) (ds : List Nat) : ∀ t : Array Value, (fillL u ds t).size = t.size := by
 induction ds with
 | nil => intro t; rfl
 | cons d ds ih => intro t; rw [fillL, ih]; simp
theorem fillL_get (u : Nat → Value) (ds : List Nat) : ∀ (t : Array Value) (n : Nat), (fillL u ds t)[n]? = if n < t.size then (if n ∈ ds then some (u n) else t[n]?) else none := by
 induction ds with
 | nil => intro t n; by_cases h : n < t.size <;> simp [fillL, h]
 | cons d ds ih =>
  intro t n
  rw [fillL, ih]
  by_cases h : n < t.size
  ·simp only [Array.size_setIfInBounds, h, if_true, List.mem_cons]
   by_cases h1 : n ∈ ds
   ·simp [h1]
   ·by_cases h2 : n = d
    ·subst h2; simp [h1, h]
    ·simp only [h1, h2, if_false, or_self]; rw [Array.getElem?_setIfInBounds_ne (Ne.symm h2)]
  ·simp [h]
theorem fillL_upd (u : Nat → Value) (ds : List Nat) (t : Array Value) (d : Nat) (v : Value) (hd : d ∈ ds) : (fillL u ds t).setIfInBounds d v = fillL (upd u (some d) v) ds t := by
 apply Array.ext_getElem?
 intro n
 rw [Array.getElem?_setIfInBounds, fillL_get, fillL_get, fillL_size]
 by_cases h : n < t.size
 ·by_cases h2 : d = n
  ·subst h2; simp [h, hd, upd]
  ·simp only [h, h2, if_true, if_false]
   by_cases h3 : n ∈ ds
   ·simp [h3, upd, Ne.symm h2]
   ·simp [h3]
 ·simp only [h, if_false]
  by_cases h2 : d = n
  ·subst h2; simp [h]
  ·simp [h2]
theorem fillL_self (ds : List Nat) (t : Array Value) : fillL (fun d => t.getD d undef) ds t = t := by
 apply Array.ext_getElem?
 intro n
 rw [fillL_get]
 by_cases h : n < t.size
 ·simp [h]
 ·simp [h]
def allWritten (ops : Array Oper) (ds : List Nat) : Bool := ds.all fun d => ops.any fun o => o.dst == some d
theorem filter_less {p q : Nat → Bool} {i : Nat} (hpi : p i = true) (hqi : q i = false) (h : ∀ j, q j = true → p j = true) : ∀ l : List Nat, i ∈ l → (l.filter q).length < (l.filter p).length := by
 have hle : ∀ l : List Nat, (l.filter q).length ≤ (l.filter p).length := by
  intro l
  induction l with
  | nil => simp
  | cons x l ih =>
   rw [List.filter_cons, List.filter_cons]
   by_cases hq : q x = true
   ·simp [hq, h x hq]; exact ih
   ·by_cases hp : p x = true <;> simp [hq, hp] <;> omega
 intro l hl
 induction l with
 | nil => cases hl
 | cons x l ih =>
  rw [List.filter_cons, List.filter_cons]
  rcases List.mem_cons.1 hl with rfl | hl
  ·simp [hpi, hqi]; have := hle l; omega
  ·have := ih hl
   by_cases hq : q x = true
   ·simp [hq, h x hq]; exact this
   ·by_cases hp : p x = true <;> simp [hq, hp] <;> omega
section
variable {P : Program} {ops : Array Oper} {Q : Exit → Act → World → Prop} {FL : List (Nat × Fact)} {J : World → Prop} {t0 : Array Value} {df : List Deferred} {ds : List Nat}
def Written (ops : Array Oper) (listed : Array Bool) (d : Nat) : Prop := ∃ j o', listed.getD j false = true ∧ ops[j]? = some o' ∧ o'.dst = some d
theorem Written.more {listed : Array Bool} {d i : Nat} (h : Written ops listed d) : Written ops (listed.setIfInBounds i true) d := by
 obtain ⟨j, o', h1, h2, h3⟩ := h
 exact ⟨j, o', getD_set_true h1, h2, h3⟩
theorem put_fill (u : Nat → Value) (o : Oper) (v : Value) (hd : ∀ d, o.dst = some d → d ∈ ds) : (⟨fillL u ds t0, df⟩ : Act).put o.dst v = ⟨fillL (upd u o.dst v) ds t0, df⟩ := by
 cases h : o.dst with
 | none => rfl
 | some d =>
  show Act.mk ((fillL u ds t0).setIfInBounds d v) df = _
  rw [fillL_upd _ _ _ _ _ (hd d h)]
theorem none_listed (n j : Nat) : (Array.replicate n false).getD j false = false := by
 by_cases h : j < n <;> simp [h]
end
end Go.Proofs.YtompehjecamdiaaGreat
