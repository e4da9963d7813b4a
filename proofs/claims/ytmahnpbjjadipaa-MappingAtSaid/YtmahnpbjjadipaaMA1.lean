/- Contracts and the law of MappingAt, part 1: what was proved of each, callees first. -/
import Derived.Laws.AppendOwnNone
import Derived.OwnWalk
import Derived.Maps.AppendAt
import Derived.Maps.OwnSet
import Derived.WalkMore
import Derived.StillTail
import Derived.DeepKeys5
import Derived.WalkKit
import Derived.WalkSpells
import Derived.Lib.Hide
import Derived.Deep.QuietTactic
import Derived.BigQuiet
import Derived.LoopTactic
import Derived.Lib.SmallJoins
import Derived.Shelf.SlIterI.Nil
import Derived.Shelf.SortM.Plain
import Derived.Shelf.SortM.SortNone
import Derived.Ground.GgzProg
import Derived.Ground.SlgmProg
import Derived.Shelf.SlGeneric
import Derived.Test.YtmahnpbjjadipaaProg
import Derived.Deep.RegionHeldLaw
import Derived.Deep.AppendLies
import Derived.Test.YtmahnpbjjadipaaMK1
namespace Go.Proofs.Ytmahnpbjjadipaa
open Go.RowKit
section
variable {k : IntKind} {e : TypeId} {w w' : World} {base B : Nat} {v : Value} {A : Option Addr} {L M zs : List Int}
theorem IntsAt.keep (h : IntsAt k w A zs) (hs : w.heap.size ≤ w'.heap.size) (hk : ∀ b j, b < w.heap.size → w'.cell? ⟨b, j, none⟩ = w.cell? ⟨b, j, none⟩) : IntsAt k w' A zs := fun h0 => by
 obtain ⟨b, off, e, hlt, hc⟩ := h h0
 exact ⟨b, off, e, Nat.lt_of_lt_of_le hlt hs, fun i hi => (hk b (off + i) hlt).trans (hc i hi)⟩
theorem IntsAt.up (h : IntsAt k w A zs) (hb : Below w.heap.size w w') : IntsAt k w' A zs := h.keep hb.size fun b j hB => hb.cell (p := ⟨b, j, none⟩) hB
theorem OwnI.nil : OwnI k e w base (.slice none 0 0) [] := World.ownsRow_nil _ _ _ _
theorem OwnI.empty (hb : base ≤ w.heap.size) : OwnI k e (w.alloc (.cells #[] e)) base (.slice (some ⟨w.heap.size, 0, none⟩) 0 0) [] :=
 ⟨rfl, .inr ⟨w.heap.size, 0, #[], rfl, hb, heap_alloc_new _ _, Nat.le_refl _, Nat.zero_le _, rfl, rfl⟩⟩
theorem OwnI.alloc (h : OwnI k e w base v L) (o : Obj) : OwnI k e (w.alloc o) base v L := World.ownsRow.alloc h o
end
open Go.RowKit
section
variable {w w' : World} {b : Nat} {L : List Int}
theorem IntsAt.take {A : Option Addr} {zs : List Int} (h : IntsAt .i64 w A zs) (n : Nat) : IntsAt .i64 w A (zs.take n) := fun h0 => by
 obtain ⟨b, off, e, hlt, hc⟩ := h (by rw [List.length_take] at h0; omega)
 refine ⟨b, off, e, hlt, fun i hi => ?_⟩
 rw [List.length_take] at hi
 rw [hc i (by omega), List.getD_eq_getElem?_getD, List.getD_eq_getElem?_getD, List.getElem?_take, if_pos (by omega)]
end
instance : DecidableEq Bal := fun a b => decidable_of_iff (a.acct = b.acct ∧ a.amt = b.amt) (by cases a; cases b; simp)
def climbN (L : List Acc) : Nat → Int → List Int
 | 0, _ => []
 | n + 1, c => match fnd L c with
  | none => []
  | some a => c :: climbN L n a.par
def climb (L : List Acc) (c : Int) : List Int := climbN L (L.length + 1) c
def Ends (L : List Acc) (c : Int) : Prop := ∃ n, (climbN L n c).length < n
def stepN (L : List Acc) : Nat → Int → Option Int
 | 0, c => some c
 | k + 1, c => match fnd L c with
  | none => none
  | some a => stepN L k a.par
def lastC (L : List Acc) : Nat → Int
 | 0 => 0
 | k + 1 => (L.getD k acc0).code
theorem lastC_succ {L : List Acc} {k : Nat} : lastC L (k + 1) = (L.getD k acc0).code := rfl
def codesTo (L : List Acc) : Nat → Bool
 | 0 => true
 | k + 1 => codesTo L k && decide (lastC L k < (L.getD k acc0).code)
theorem codes_succ {L : List Acc} {k : Nat} : codesTo L (k + 1) = (codesTo L k && decide (lastC L k < (L.getD k acc0).code)) := rfl
theorem codesTo_le {L : List Acc} : ∀ {k m : Nat}, k ≤ m → codesTo L m = true → codesTo L k = true
  | k, m, h, hm => by
    induction m with
    | zero => obtain rfl : k = 0 := by omega
              exact hm
    | succ m ih =>
      rcases Nat.lt_or_ge k (m + 1) with h1 | h1
      · rw [codes_succ, Bool.and_eq_true] at hm
        exact ih (by omega) hm.1
      · obtain rfl : k = m + 1 := by omega
        exact hm
def codesB (L : List Acc) : Bool := codesTo L L.length && decide (lastC L L.length ≤ 99999)
theorem codesB_no {L : List Acc} {k : Nat} (hk : k < L.length) (h : (L.getD k acc0).code ≤ lastC L k) : codesB L = false := by
 cases h1 : codesTo L L.length with
 | false => unfold codesB; rw [h1]; rfl
 | true =>
  have := codesTo_le (k := k + 1) (by omega) h1
  rw [codes_succ, Bool.and_eq_true, decide_eq_true_eq] at this
  omega
theorem codesB_end {L : List Acc} (h : codesTo L L.length = true) : codesB L = decide (lastC L L.length ≤ 99999) := by unfold codesB; rw [h]; rfl
structure Srt (L : List Acc) : Prop where
 pos : ∀ i, i < L.length → 1 ≤ (L.getD i acc0).code
 mono : ∀ i j, i < j → j < L.length → (L.getD i acc0).code < (L.getD j acc0).code
theorem codesTo_is {L : List Acc} : ∀ {k : Nat}, codesTo L k = true → (∀ i, i < k → lastC L i < (L.getD i acc0).code)
 | 0, _ => fun i hi => by omega
 | k + 1, h => fun i hi => by
  rw [codes_succ, Bool.and_eq_true, decide_eq_true_eq] at h
  rcases Nat.lt_or_ge i k with h1 | h1
  ·exact codesTo_is h.1 i h1
  ·obtain rfl : i = k := by omega
   exact h.2
theorem codesTo_srt {L : List Acc} (h : codesTo L L.length = true) : Srt L := by
 have h1 := codesTo_is h
 have h2 : ∀ j, j < L.length → 1 ≤ (L.getD j acc0).code ∧ ∀ i, i < j → (L.getD i acc0).code < (L.getD j acc0).code := by
  intro j
  induction j with
  | zero =>
   intro hj
   have := h1 0 hj
   simp only [lastC] at this
   exact ⟨by omega, fun i hi => by omega⟩
  | succ j ih =>
   intro hj
   have h3 := h1 (j + 1) hj
   obtain ⟨h4, h5⟩ := ih (by omega)
   rw [lastC_succ] at h3
   refine ⟨by omega, fun i hi => ?_⟩
   rcases Nat.lt_or_ge i j with h6 | h6
   ·have := h5 i h6; omega
   ·obtain rfl : i = j := by omega
    exact h3
 exact ⟨fun i hi => (h2 i hi).1, fun i j hij hj => (h2 j hj).2 i hij⟩
theorem codesB_srt {L : List Acc} (h : codesB L = true) : Srt L := by
 unfold codesB at h; rw [Bool.and_eq_true] at h; exact codesTo_srt h.1
def loB (g : Bool) : Int := if g then 1 else 0
def hiB (g : Bool) : Int := if g then 3 else 0
def kinB (g : Bool) (a : Acc) : Bool := decide (1 ≤ a.kind) && decide (a.kind ≤ 5) && decide (loB g ≤ a.basis) && decide (a.basis ≤ hiB g)
theorem kinB_is {g : Bool} {a : Acc} (h : kinB g a = true) : 1 ≤ a.kind ∧ a.kind ≤ 5 ∧ loB g ≤ a.basis ∧ a.basis ≤ hiB g := by
 unfold kinB at h; simp only [Bool.and_eq_true, decide_eq_true_eq] at h; exact ⟨h.1.1.1, h.1.1.2, h.1.2, h.2⟩
theorem kinB_no {g : Bool} {a : Acc} (h : kinB g a = false) : a.kind < 1 ∨ (1 ≤ a.kind ∧ 5 < a.kind) ∨ (1 ≤ a.kind ∧ a.kind ≤ 5 ∧ a.basis < loB g) ∨ (1 ≤ a.kind ∧ a.kind ≤ 5 ∧ loB g ≤ a.basis ∧ hiB g < a.basis) := by
 rcases Int.lt_or_le a.kind 1 with h1 | h1
 ·exact .inl h1
 rcases Int.lt_or_le 5 a.kind with h2 | h2
 ·exact .inr (.inl ⟨h1, h2⟩)
 rcases Int.lt_or_le a.basis (loB g) with h3 | h3
 ·exact .inr (.inr (.inl ⟨h1, h2, h3⟩))
 rcases Int.lt_or_le (hiB g) a.basis with h4 | h4
 ·exact .inr (.inr (.inr ⟨h1, h2, h3, h4⟩))
 ·unfold kinB at h
  rw [decide_eq_true h1, decide_eq_true h2, decide_eq_true h3, decide_eq_true h4] at h
  cases h
def kindsB (L : List Acc) (g : Bool) : Bool := L.all (kinB g)
def parB (L : List Acc) (a : Acc) : Bool := decide (a.par = 0) || match fnd L a.par with
 | none => false
 | some p => decide (p.kind = a.kind)
def parentsB (L : List Acc) : Bool := L.all (parB L)
def topB (L : List Acc) (a : Acc) : Bool := decide ((climb L a.code).length ≤ L.length)
def topsB (L : List Acc) : Bool := L.all (topB L)
def vB (L : List Acc) (g : Bool) : Bool := decide (L.length ≤ 200) && codesB L && kindsB L g && parentsB L && topsB L
theorem parB_is {L : List Acc} {a : Acc} : parB L a = true ↔ a.par = 0 ∨ ∃ p, fnd L a.par = some p ∧ p.kind = a.kind := by
 unfold parB
 cases fnd L a.par with
 | none => simp
 | some p => simp
open Go.RowKit
section
variable {w w' : World} {b o g Bs m d n c : Nat} {l : Lnk} {A B : Option Addr} {L : List Lnk} {nm cur : ByteArray} {jt : Bool}
end
theorem atO_succ {links : List Lnk} {code day : Int} {k : Nat} (hk : k < links.length) : atO (links.take (k + 1)) code day = atStep code day (atO (links.take k) code day) (links.getD k lnk0) := by
 unfold atO
 rw [take_succ_getD (d := lnk0) hk, List.foldl_append]; rfl
open Go.RowKit
set_option maxRecDepth 20000 in
set_option maxHeartbeats 1600000 in
theorem hcodes_any (A : Option Addr) (c : Nat) (L : List Acc) (w : World) (hz : AccAt w A L) (hl : L.length ≤ 1000) :
  Calls Try.prog 43 #[.slice A L.length c] w fun e w' => e = .returned (.bool (codesB L)) ∧ Below w.heap.size w w' := by
 have hB := Below.refl w.heap.size w
 obtain ⟨n, hn⟩ : ∃ n, L.length = n := ⟨_, rfl⟩
 rw [hn] at hl ⊢
 have HN := Lib.hid hn
 have HZ := Lib.hid hz
 clear hn hz
 go_enter Try.func43, Try.ntmps43
 go_wp2_with fail
 go_loopg [3, 8] n (fun kx s3 s8 wr => ∃ k : Nat, s3 = .int .i64 (lastC L k) ∧ s8 = .int .i64 k ∧ k ≤ n ∧ n - k ≤ kx ∧ Hid (codesTo L k = true) ∧ Below w.heap.size w wr)
 case atStart => exact ⟨0, rfl, rfl, by omega, by omega, Lib.hid rfl, hB⟩
 case round =>
  clear hB
  obtain ⟨k, rfl, rfl, hk, hkx, HC, hB⟩ := hrel
  by_cases hlt : k < n
  ·have hltz : (k : Int) < (n : Int) := by omega
   obtain ⟨b, off, rfl, hbw, hcs⟩ := HZ.out (by rw [HN.out]; omega)
   obtain ⟨c0, c1, c2, c3⟩ := (hcs k (by rw [HN.out]; exact hlt)).up hB hbw
   obtain ⟨x, hx⟩ : ∃ x, L.getD k acc0 = x := ⟨_, rfl⟩
   rw [hx] at c0 c1 c2 c3
   have HX := Lib.hid hx
   clear hx hcs
   rcases Int.lt_or_le (lastC L k) x.code with h1 | h1
   ·have h2 : decide (x.code ≤ lastC L k) = false := decide_eq_false (by omega)
    have HC2 : Hid (codesTo L (k + 1) = true) := Lib.hid (by rw [codes_succ, HC.out, HX.out, decide_eq_true h1]; rfl)
    have HLa : Hid (x.code = lastC L (k + 1)) := Lib.hid (by rw [lastC_succ, HX.out])
    clear h1
    go_wp2_with fail
    go_roundg (n - (k + 1))
    case measure => omega
    case rel => exact ⟨k + 1, by rw [HLa.out], by go_num, by omega, by omega, HC2, below_new hB _⟩
   ·have hno : Hid (codesB L = false) := Lib.hid (codesB_no (k := k) (by rw [HN.out]; exact hlt) (by rw [HX.out]; exact h1))
    have h2 : decide (x.code ≤ lastC L k) = true := decide_eq_true h1
    go_wp2_with fail
    go_ret
    exact ⟨by rw [hno.out]; rfl, below_new hB _⟩
  ·obtain rfl : k = n := by omega
   have hltz : ¬ (k : Int) < (k : Int) := by omega
   have hend : Hid (codesB L = decide (lastC L k ≤ 99999)) := Lib.hid (by rw [codesB_end (by rw [HN.out]; exact HC.out), HN.out])
   generalize lastC L k = z at *
   go_wp2_with fail
   go_ret
   exact ⟨by rw [hend.out]; rfl, hB⟩
set_option maxRecDepth 20000 in
set_option maxHeartbeats 1600000 in
theorem hkinds_any (A : Option Addr) (c : Nat) (L : List Acc) (g : Bool) (w : World) (hz : AccAt w A L) (hl : L.length ≤ 1000) :
    Calls Try.prog 44 #[.slice A L.length c, .bool g] w fun e w' => e = .returned (.bool (kindsB L g)) ∧ Below w.heap.size w w' := by
  have hB := Below.refl w.heap.size w
  obtain ⟨n, hn⟩ : ∃ n, L.length = n := ⟨_, rfl⟩
  rw [hn] at hl ⊢
  have HN := Lib.hid hn
  have HZ := Lib.hid hz
  have hlo : loB g = if g then 1 else 0 := rfl
  have hhi : hiB g = if g then 3 else 0 := rfl
  obtain ⟨P, hP⟩ : ∃ P, kinB g = P := ⟨_, rfl⟩
  have hpy : ∀ x, P x = true → 1 ≤ x.kind ∧ x.kind ≤ 5 ∧ loB g ≤ x.basis ∧ x.basis ≤ hiB g := fun x h => kinB_is (by rw [hP]; exact h)
  have hpn : ∀ x, P x = false → x.kind < 1 ∨ (1 ≤ x.kind ∧ 5 < x.kind) ∨ (1 ≤ x.kind ∧ x.kind ≤ 5 ∧ x.basis < loB g) ∨ (1 ≤ x.kind ∧ x.kind ≤ 5 ∧ loB g ≤ x.basis ∧ hiB g < x.basis) := fun x h => kinB_no (by rw [hP]; exact h)
  have hpk : kindsB L g = L.all P := by unfold kindsB; rw [hP]
  rw [hpk]
  have HPY := Lib.hid hpy
  have HPN := Lib.hid hpn
  clear hn hz hP hpy hpn hpk
  cases g
  all_goals
    simp only [Bool.false_eq_true, if_false, if_true] at hlo hhi
    have HLo := Lib.hid hlo
    have HHi := Lib.hid hhi
    clear hlo hhi
    go_enter Try.func44, Try.ntmps44
    go_wp2_with fail
    go_loopg [12] n (fun kx s12 wr => ∃ k : Nat, s12 = .int .i64 k ∧ k ≤ n ∧ n - k ≤ kx ∧ Hid ((L.take k).all P = true) ∧ Below w.heap.size w wr)
    case atStart => exact ⟨0, rfl, by omega, by omega, Lib.hid rfl, hB⟩
    case round =>
      clear hB
      obtain ⟨k, rfl, hk, hkx, HC, hB⟩ := hrel
      by_cases hlt : k < n
      · have hltz : (k : Int) < (n : Int) := by omega
        obtain ⟨b, off, rfl, hbw, hcs⟩ := HZ.out (by rw [HN.out]; omega)
        obtain ⟨c0, c1, c2, c3⟩ := (hcs k (by rw [HN.out]; exact hlt)).up hB hbw
        obtain ⟨x, hx⟩ : ∃ x, L.getD k acc0 = x := ⟨_, rfl⟩
        rw [hx] at c0 c1 c2 c3
        have HX := Lib.hid hx
        have h9 := take_all_getD (d := acc0) (p := P) L k (by rw [HN.out]; exact hlt)
        rw [hx] at h9
        have H9 := Lib.hid h9
        clear hx hcs h9
        cases hkb : P x
        · have hno : Hid (L.all P = false) := Lib.hid (all_false_getD (d := acc0) (k := k) (by rw [HN.out]; exact hlt) (by rw [HX.out]; exact hkb))
          have h0 := HPN.out _ hkb
          rw [HLo.out, HHi.out] at h0
          clear hkb
          rcases h0 with h1 | ⟨h1, h2⟩ | ⟨h1, h2, h3⟩ | ⟨h1, h2, h3, h4⟩
          · have e1 : decide (x.kind < 1) = true := decide_eq_true h1
            go_wp2_with fail
            go_ret
            exact ⟨by rw [hno.out]; rfl, below_new hB _⟩
          · have e1 : decide (x.kind < 1) = false := decide_eq_false (by omega)
            have e2 : decide (5 < x.kind) = true := decide_eq_true h2
            go_wp2_with fail
            go_ret
            exact ⟨by rw [hno.out]; rfl, below_new hB _⟩
          · have e1 : decide (x.kind < 1) = false := decide_eq_false (by omega)
            have e2 : decide (5 < x.kind) = false := decide_eq_false (by omega)
            first | have e3 : decide (x.basis < 0) = true := decide_eq_true h3 | have e3 : decide (x.basis < 1) = true := decide_eq_true h3
            go_wp2_with fail
            go_ret
            exact ⟨by rw [hno.out]; rfl, below_new hB _⟩
          · have e1 : decide (x.kind < 1) = false := decide_eq_false (by omega)
            have e2 : decide (5 < x.kind) = false := decide_eq_false (by omega)
            first
              | (have e3 : decide (x.basis < 0) = false := decide_eq_false (by omega)
                 have e4 : decide (0 < x.basis) = true := decide_eq_true h4
                 go_wp2_with fail
                 go_ret
                 exact ⟨by rw [hno.out]; rfl, below_new hB _⟩)
              | (have e3 : decide (x.basis < 1) = false := decide_eq_false (by omega)
                 have e4 : decide (3 < x.basis) = true := decide_eq_true h4
                 go_wp2_with fail
                 go_ret
                 exact ⟨by rw [hno.out]; rfl, below_new hB _⟩)
        · have h0 := HPY.out _ hkb
          rw [HLo.out, HHi.out] at h0
          obtain ⟨h1, h2, h3, h4⟩ := h0
          have HC2 : Hid ((L.take (k + 1)).all P = true) := Lib.hid (by rw [H9.out, HC.out, hkb]; rfl)
          have e1 : decide (x.kind < 1) = false := decide_eq_false (by omega)
          have e2 : decide (5 < x.kind) = false := decide_eq_false (by omega)
          have e3 : decide (x.basis < 0) = false := decide_eq_false (by omega)
          have e4 : decide (3 < x.basis) = false := decide_eq_false (by omega)
          first
            | (have e5 : decide (0 < x.basis) = false := decide_eq_false (by omega)
               clear hkb h1 h2 h3 h4
               go_wp2_with fail
               go_roundg (n - (k + 1))
               case measure => omega
               case rel => exact ⟨k + 1, by go_num, by omega, by omega, HC2, below_new hB _⟩)
            | (have e5 : decide (x.basis < 1) = false := decide_eq_false (by omega)
               clear hkb h1 h2 h3 h4
               go_wp2_with fail
               go_roundg (n - (k + 1))
               case measure => omega
               case rel => exact ⟨k + 1, by go_num, by omega, by omega, HC2, below_new hB _⟩)
      · obtain rfl : k = n := by omega
        have hltz : ¬ (k : Int) < (k : Int) := by omega
        have hyes : Hid (L.all P = true) := Lib.hid (by have := HC.out; rwa [List.take_of_length_le (by rw [HN.out]; omega)] at this)
        go_wp2_with fail
        go_ret
        exact ⟨by rw [hyes.out]; rfl, hB⟩
theorem cidx1_any (a : Acc) (c : Int) (w : World) : Calls Try.prog 62 #[accV a, .int .i64 c] w fun e w' => e = .returned (.int .i64 (cmI a.code c)) ∧ Below w.heap.size w w' := by
 have hn := ab_new w 50 a
 obtain ⟨⟨c0, c1, c2, c3⟩, lt, -⟩ := hn
 have hB := below_alloc_new (w := w) (.cells #[.int .i64 a.code, .int .i64 a.kind, .int .i64 a.basis, .int .i64 a.par] 50)
 go_enter Try.func62, Try.ntmps62
 go_wp2_with (go_at_call 33; refine (ccmp_any _ _ _).mono ?_; rintro e w' ⟨rfl, rfl⟩)
 go_ret
 exact ⟨rfl, hB⟩
theorem cmI_lt {x y : Int} (h : x < y) : cmI x y = -1 := by unfold cmI; rw [if_pos h]
theorem cmI_ge {x y : Int} (h : y ≤ x) : 0 ≤ cmI x y := by
 unfold cmI; rw [if_neg (by omega)]; split <;> omega
theorem cmI_eq {x : Int} : cmI x x = 0 := by unfold cmI; rw [if_neg (by omega), if_neg (by omega)]
theorem cmI_gt {x y : Int} (h : y < x) : cmI x y = 1 := by unfold cmI; rw [if_neg (by omega), if_pos h]
def FoundAt (L : List Acc) (c : Int) (i : Nat) : Prop := ∀ a, fnd L c = some a → i < L.length ∧ L.getD i acc0 = a
set_option maxRecDepth 20000 in
set_option maxHeartbeats 1600000 in
theorem cbin_any (A : Option Addr) (cp : Nat) (L : List Acc) (c : Int) (w : World) (hz : AccAt w A L) (hl : L.length ≤ 1000) (hs : Srt L) :
  Calls Try.prog 61 #[.slice A L.length cp, .int .i64 c, .func (.func 62) #[] #[]] w fun e w' => ∃ i : Nat, e = .returned (.tuple #[.int .i64 i, .bool (fnd L c).isSome]) ∧ FoundAt L c i ∧ Below w.heap.size w w' := by
 have hB := Below.refl w.heap.size w
 obtain ⟨n, hn⟩ : ∃ n, L.length = n := ⟨_, rfl⟩
 rw [hn] at hl ⊢
 have HN := Lib.hid hn
 have HZ := Lib.hid hz
 have HS := Lib.hid hs
 clear hn hz hs
 go_enter Try.func61, Try.ntmps61
 go_wp2_with fail
 go_loopg [9, 10] n (fun kx s9 s10 wr => ∃ lo hi : Nat, s9 = .int .i64 lo ∧ s10 = .int .i64 hi ∧ lo ≤ hi ∧ hi ≤ n ∧ hi - lo ≤ kx ∧ Hid (∀ t, t < lo → (L.getD t acc0).code < c) ∧ Hid (∀ t, hi ≤ t → t < n → c ≤ (L.getD t acc0).code) ∧ Below w.heap.size w wr)
 case atStart => exact ⟨0, n, rfl, rfl, Nat.zero_le _, Nat.le_refl _, by omega, Lib.hid (fun t ht => absurd ht (Nat.not_lt_zero _)), Lib.hid (fun t h1 h2 => by omega), hB⟩
 case round =>
  clear hB
  obtain ⟨lo, hi, rfl, rfl, hlh, hin, hg, HA, HC, hB⟩ := hrel
  by_cases hlt : lo < hi
  ·have hltz : (lo : Int) < (hi : Int) := by omega
   obtain ⟨m, hm⟩ : ∃ m : Nat, ((lo : Int) + (hi : Int)) / 2 = (m : Int) := ⟨(lo + hi) / 2, by omega⟩
   have hm1 : lo ≤ m := by omega
   have hm2 : m < hi := by omega
   have hmn : m < n := by omega
   have hmz : (m : Int) < (n : Int) := by omega
   obtain ⟨b, off, rfl, hbw, hcs⟩ := HZ.out (by rw [HN.out]; omega)
   obtain ⟨c0, c1, c2, c3⟩ := (hcs m (by rw [HN.out]; omega)).up hB hbw
   obtain ⟨x, hx⟩ : ∃ x, L.getD m acc0 = x := ⟨_, rfl⟩
   rw [hx] at c0 c1 c2 c3
   have HX := Lib.hid hx
   have hcm := fun w => cidx1_any x c w
   clear hx hcs
   rcases Int.lt_or_le x.code c with h1 | h1
   ·rw [cmI_lt h1] at hcm
    have HA2 : Hid (∀ t, t < m + 1 → (L.getD t acc0).code < c) := Lib.hid (fun t ht => by
     rcases Nat.lt_or_ge t m with h2 | h2
     ·have h3 := HS.out.mono t m h2 (by rw [HN.out]; omega)
      rw [HX.out] at h3; omega
     ·obtain rfl : t = m := by omega
      rw [HX.out]; exact h1)
    have HCM := Lib.hid hcm
    clear hcm h1
    go_wp2_with fail
    refine (HCM.out _).mono ?_
    rintro e w' ⟨rfl, hb⟩
    replace hB := below_more hB hb
    clear hb
    go_wp2_with fail
    go_roundg (hi - (m + 1))
    case measure => omega
    case rel => exact ⟨m + 1, hi, by go_num, rfl, by omega, hin, Nat.le_refl _, HA2, HC, hB⟩
   ·have h0 := cmI_ge h1
    generalize cmI x.code c = r at hcm h0
    have h2 : decide (r < 0) = false := decide_eq_false (by omega)
    have HC2 : Hid (∀ t, m ≤ t → t < n → c ≤ (L.getD t acc0).code) := Lib.hid (fun t ht hn => by
     rcases Nat.lt_or_ge m t with h2 | h2
     ·have h3 := HS.out.mono m t h2 (by rw [HN.out]; omega)
      rw [HX.out] at h3; omega
     ·obtain rfl : t = m := by omega
      rw [HX.out]; exact h1)
    have HCM := Lib.hid hcm
    clear hcm h1
    go_wp2_with fail
    refine (HCM.out _).mono ?_
    rintro e w' ⟨rfl, hb⟩
    replace hB := below_more hB hb
    clear hb
    go_wp2_with fail
    go_roundg (m - lo)
    case measure => omega
    case rel => exact ⟨lo, m, rfl, rfl, by omega, by omega, Nat.le_refl _, HA, HC2, hB⟩
  ·obtain rfl : lo = hi := by omega
   have hltz : ¬ (lo : Int) < (lo : Int) := by omega
   have hcut := HS.out.cut (c := c) (m := lo) (by rw [HN.out]; exact hin) HA.out (by rw [HN.out]; exact HC.out)
   rw [HN.out] at hcut
   clear HA HC
   rcases hcut with ⟨h1, h2, h3⟩ | ⟨h1 | ⟨h1, h2⟩, h3⟩
   ·obtain ⟨b, off, rfl, hbw, hcs⟩ := HZ.out (by rw [HN.out]; omega)
    obtain ⟨c0, c1, c2, c3⟩ := (hcs lo (by rw [HN.out]; exact h1)).up hB hbw
    obtain ⟨x, hx⟩ : ∃ x, L.getD lo acc0 = x := ⟨_, rfl⟩
    rw [hx] at c0 c1 c2 c3 h2 h3
    have HX := Lib.hid hx
    have H3 := Lib.hid h3
    have hcm := fun w => cidx1_any x c w
    rw [h2, cmI_eq] at hcm
    have HCM := Lib.hid hcm
    have h1z : (lo : Int) < (n : Int) := by omega
    have h1d : decide (lo < n) = true := decide_eq_true h1
    clear hx hcs h2 h3 hcm
    go_wp2_with fail
    refine (HCM.out _).mono ?_
    rintro e w' ⟨rfl, hb⟩
    replace hB := below_more hB hb
    clear hb
    go_wp2_with fail
    go_ret2
    exact ⟨lo, by rw [H3.out]; rfl, fun a ha => ⟨by rw [HN.out]; exact h1, by rw [H3.out] at ha; rw [HX.out]; injection ha⟩, hB⟩
   ·subst h1
    have H3 := Lib.hid h3
    have h1d : decide (lo < lo) = false := decide_eq_false (by omega)
    clear h3
    go_wp2_with fail
    go_ret2
    exact ⟨lo, by rw [H3.out]; rfl, fun a ha => (by rw [H3.out] at ha; cases ha), hB⟩
   ·obtain ⟨b, off, rfl, hbw, hcs⟩ := HZ.out (by rw [HN.out]; omega)
    obtain ⟨c0, c1, c2, c3⟩ := (hcs lo (by rw [HN.out]; exact h1)).up hB hbw
    obtain ⟨x, hx⟩ : ∃ x, L.getD lo acc0 = x := ⟨_, rfl⟩
    rw [hx] at c0 c1 c2 c3 h2
    have H3 := Lib.hid h3
    have hcm := fun w => cidx1_any x c w
    rw [cmI_gt h2] at hcm
    have HCM := Lib.hid hcm
    have h1z : (lo : Int) < (n : Int) := by omega
    have h1d : decide (lo < n) = true := decide_eq_true h1
    clear hx hcs h2 h3 hcm
    go_wp2_with fail
    refine (HCM.out _).mono ?_
    rintro e w' ⟨rfl, hb⟩
    replace hB := below_more hB hb
    clear hb
    go_wp2_with fail
    go_ret2
    exact ⟨lo, by rw [H3.out]; rfl, fun a ha => (by rw [H3.out] at ha; cases ha), hB⟩
theorem cidx_any (A : Option Addr) (cp : Nat) (L : List Acc) (c : Int) (w : World) (hz : AccAt w A L) (hl : L.length ≤ 1000) (hs : Srt L) :
  Calls Try.prog 56 #[.slice A L.length cp, .int .i64 c] w fun e w' => ∃ i : Nat, e = .returned (.tuple #[.int .i64 i, .bool (fnd L c).isSome]) ∧ FoundAt L c i ∧ Below w.heap.size w w' := by
 have h1 := cbin_any A cp L c w hz hl hs
 generalize (fnd L c).isSome = q at *
 have H1 := Lib.hid h1
 clear h1 hz hs
 go_enter Try.func56, Try.ntmps56
 go_wp2_with (go_at_call 61; refine H1.out.mono ?_; rintro e w' ⟨i, rfl, hf, hb⟩; replace hf := Lib.hid hf)
 go_ret2
 exact ⟨i, rfl, hf.out, hb⟩
theorem parB_zero {L : List Acc} {a : Acc} (h : a.par = 0) : parB L a = true := parB_is.2 (.inl h)
theorem parB_none {L : List Acc} {a : Acc} (h : a.par ≠ 0) (hf : fnd L a.par = none) : parB L a = false := by unfold parB; rw [decide_eq_false h, hf]; rfl
theorem parB_some {L : List Acc} {a p : Acc} (h : a.par ≠ 0) (hf : fnd L a.par = some p) : parB L a = decide (p.kind = a.kind) := by unfold parB; rw [decide_eq_false h, hf]; rfl
set_option maxRecDepth 20000 in
set_option maxHeartbeats 3200000 in
theorem hpar_any (A : Option Addr) (c : Nat) (L : List Acc) (w : World) (hz : AccAt w A L) (hl : L.length ≤ 1000) (hs : Srt L) :
    Calls Try.prog 45 #[.slice A L.length c] w fun e w' => e = .returned (.bool (parentsB L)) ∧ Below w.heap.size w w' := by
  have hB := Below.refl w.heap.size w
  have hI := fun y w h => cidx_any A c L y w h hl hs
  obtain ⟨n, hn⟩ : ∃ n, L.length = n := ⟨_, rfl⟩
  rw [hn] at hl hI ⊢
  have HN := Lib.hid hn
  have HZ := Lib.hid hz
  have HI := Lib.hid hI
  clear hn hz hI hs
  go_enter Try.func45, Try.ntmps45
  go_wp2_with fail
  go_loopg [9] n (fun kx s9 wr => ∃ k : Nat, s9 = .int .i64 k ∧ k ≤ n ∧ n - k ≤ kx ∧ Hid ((L.take k).all (parB L) = true) ∧ Below w.heap.size w wr)
  case atStart => exact ⟨0, rfl, by omega, by omega, Lib.hid rfl, hB⟩
  case round =>
    clear hB
    obtain ⟨k, rfl, hk, hkx, HC, hB⟩ := hrel
    by_cases hlt : k < n
    · have hltz : (k : Int) < (n : Int) := by omega
      have HZW := Lib.hid (HZ.out.up hB)
      obtain ⟨b, off, rfl, hbw, hcs⟩ := HZW.out (by rw [HN.out]; omega)
      obtain ⟨c0, c1, c2, c3⟩ := hcs k (by rw [HN.out]; exact hlt)
      obtain ⟨x, hx⟩ : ∃ x, L.getD k acc0 = x := ⟨_, rfl⟩
      rw [hx] at c0 c1 c2 c3
      have HX := Lib.hid hx
      have h9 := take_all_getD (d := acc0) (p := parB L) L k (by rw [HN.out]; exact hlt)
      rw [hx] at h9
      have H9 := Lib.hid h9
      have hno := fun h => all_false_getD (d := acc0) (p := parB L) (L := L) (k := k) (by rw [HN.out]; exact hlt) (by rw [hx]; exact h)
      have HNo := Lib.hid hno
      have HCS := Lib.hid hcs
      clear hx hcs h9 hno
      by_cases h0 : x.par = 0
      · have e0 : (x.par == 0) = true := by simp [h0]
        have HC2 : Hid ((L.take (k + 1)).all (parB L) = true) := Lib.hid (by rw [H9.out, HC.out, parB_zero h0]; rfl)
        clear h0
        go_wp2_with fail
        go_roundg (n - (k + 1))
        case measure => omega
        case rel => exact ⟨k + 1, by go_num, by omega, by omega, HC2, below_new hB _⟩
      · have e0 : (x.par == 0) = false := by simp [h0]
        have hB1 : Below w.heap.size w (wr.alloc (.cells #[.int .i64 x.code, .int .i64 x.kind, .int .i64 x.basis, .int .i64 x.par] 50)) := below_new hB _
        have HB1 := Lib.hid hB1
        have HAB := Lib.hid (ab_new wr 50 x)
        have hi := HI.out x.par (wr.alloc (.cells #[.int .i64 x.code, .int .i64 x.kind, .int .i64 x.basis, .int .i64 x.par] 50)) (HZ.out.up hB1)
        cases hf : fnd L x.par with
        | none =>
          have E : Hid (parentsB L = false) := Lib.hid (HNo.out (parB_none h0 hf))
          rw [hf] at hi
          have HI1 := Lib.hid hi
          clear hi hf h0 hB1
          go_wp2_with (go_at_call 56; refine HI1.out.mono ?_; rintro e w1 ⟨i, rfl, -, hb⟩; replace hB := below_more HB1.out hb; clear hb)
          go_quiet (fail)
          replace hB := below_drewN hB nq
          generalize World.drewN _ nq = W1 at *
          go_wp2_with fail
          go_ret
          exact ⟨by rw [E.out]; rfl, hB⟩
        | some p =>
          have E0 := parB_some h0 hf
          rw [hf] at hi
          have HFS := Lib.hid hf
          have HI1 := Lib.hid hi
          clear hi hf h0 hB1
          have e9 : (p.kind != x.kind) = !decide (p.kind = x.kind) := by rw [Bool.eq_iff_iff]; simp
          cases hq : decide (p.kind = x.kind)
          all_goals
            rw [hq] at E0 e9
            have EP := Lib.hid E0
            clear hq E0
            go_wp2_with (go_at_call 56; refine HI1.out.mono ?_; rintro e w1 ⟨i, rfl, hfa, hb⟩; obtain ⟨hil, hie⟩ := hfa _ HFS.out; have d4 := (HCS.out i hil).up (below_more (below_alloc_new _) hb) hbw; rw [hie] at d4; obtain ⟨d0, d1, d2, d3⟩ := d4; obtain ⟨⟨a0, a1, a2, a3⟩, alt, -⟩ := HAB.out.up hb; have hiz : (i : Int) < (n : Int) := (by rw [HN.out] at hil; omega); replace hB := below_more HB1.out hb; clear hb hfa hil hie)
            go_quiet (fail)
            replace hB := below_drewN hB nq
            generalize World.drewN _ nq = W1 at *
            go_wp2_with fail
            first
              | (have E : Hid (parentsB L = false) := Lib.hid (HNo.out EP.out)
                 go_ret
                 exact ⟨by rw [E.out]; rfl, hB⟩)
              | (have HC2 : Hid ((L.take (k + 1)).all (parB L) = true) := Lib.hid (by rw [H9.out, HC.out, EP.out]; rfl)
                 go_roundg (n - (k + 1))
                 case measure => omega
                 case rel => exact ⟨k + 1, by go_num, by omega, by omega, HC2, hB⟩)
    · obtain rfl : k = n := by omega
      have hltz : ¬ (k : Int) < (k : Int) := by omega
      have E : Hid (parentsB L = true) := Lib.hid (by have := HC.out; rwa [List.take_of_length_le (by rw [HN.out]; omega)] at this)
      go_wp2_with fail
      go_ret
      exact ⟨by rw [E.out]; rfl, hB⟩
open Go.RowKit Go.Maps
structure TO (L : List Acc) (s : Nat) (f : Int → Option Nat) (ks : List Int) : Prop where
 seen : ∀ c v, f c = some v → v < s ∧ Ends L c
 done : ∀ i, i < s → Ends L (L.getD i acc0).code
 keys : ∀ c, (f c).isSome = decide (c ∈ ks)
 nodup : ks.Nodup
 sub : ∀ c ∈ ks, c ∈ L.map Acc.code
structure TI (L : List Acc) (s : Nat) (a : Acc) (f : Int → Option Nat) (ks : List Int) : Prop where
 seen : ∀ c v, f c = some v → v ≤ s ∧ (v < s → Ends L c) ∧ (v = s → ∃ k, stepN L (k + 1) c = some a.code)
 done : ∀ i, i < s → Ends L (L.getD i acc0).code
 way : ∃ k, stepN L k (L.getD s acc0).code = some a.code
 mem : a ∈ L
 keys : ∀ c, (f c).isSome = decide (c ∈ ks)
 nodup : ks.Nodup
 sub : ∀ c ∈ ks, c ∈ L.map Acc.code
theorem TO.start {L : List Acc} : TO L 0 (fun _ => none) [] := ⟨fun c v h => (by cases h), fun i hi => (by omega), fun c => (by simp), List.nodup_nil, fun c h => (by cases h)⟩
theorem ti_zero (w : World) : (zeroValue 3).run Try.prog w = .ok (.int .i64 0) w := by kernel_rfl
def SeenM (w : World) (b n : Nat) (f : Int → Option Nat) : Prop := ∃ D : DataW Unit, w.ownsMap Try.prog 3 (plainElem Try.prog 3) b n D ∧ IsMap D ∧ ∀ c, Maps.has D (.int .i64 c) = (f c).isSome ∧ ∀ s : Nat, f c = some s → D.atKey (.int .i64 c) (.lit (.int .i64 0)) = .lit (.int .i64 (s : Int))
theorem SeenM.made (w : World) : SeenM (w.alloc (.map #[] 0)) w.heap.size 0 (fun _ => none) :=
 ⟨.map [], World.ownsMap_made _ _ _ _, isMap_empty, fun c => ⟨rfl, fun s h => by cases h⟩⟩
theorem wpList_seen_look {w : World} {ops : Array Oper} {rest : List Oper} {o : Oper} {a : Act} {Q : Exit → Act → World → Prop} (hg : o.guard = none) (m x : Operand) (hop : o.op = Op.lookup 88 m x true)
  (b n : Nat) (f : Int → Option Nat) (hm : a.eval m = .map (some b)) (hs : SeenM w b n f) (c : Int) (hx : a.eval x = .int .i64 c) (hw : (Lit.int .i64 c).wf = true)
  (hK : ∀ v : Int, Hid (∀ s : Nat, f c = some s → v = (s : Int)) → wpList Try.prog ops Q rest (a.put o.dst (.tuple #[.int .i64 v, .bool (f c).isSome])) w) : wpList Try.prog ops Q (o :: rest) a w := by
 obtain ⟨D, h1, _, h3⟩ := hs
 refine wpList_lookup_own_ok_int w hg m x 88 hop 3 3 .i64 ti_keyed Try.underlying88 Try.underlying3 (ti_zero _) b n D hm h1 _ _ hx (keyOf_int_mk Try.underlying3 hw) ?_
 intro v hat _
 rw [(h3 c).1]
 refine hK v (Lib.hid fun s hs => ?_)
 have := (h3 c).2 s hs
 rw [hat] at this
 injection this with this
 injection this
theorem wpList_seen_put {w : World} {ops : Array Oper} {rest : List Oper} {o : Oper} {a : Act} {Q : Exit → Act → World → Prop} (hg : o.guard = none) (m x y : Operand) (hop : o.op = Op.mapUpdate 88 m x y)
  (b n : Nat) (f : Int → Option Nat) (hm : a.eval m = .map (some b)) (hs : SeenM w b n f) (c : Int) (s : Nat) (hx : a.eval x = .int .i64 c) (hy : a.eval y = .int .i64 (s : Int)) (hw : (Lit.int .i64 c).wf = true) (hw2 : (Lit.int .i64 (s : Int)).wf = true) (hn : n ≤ 1000000)
  (hK : ∀ w', Hid (SeenM w' b (n + 1) (fun x => if x = c then some s else f x)) → Hid (w.grownBy w' (some b)) → wpList Try.prog ops Q rest (a.put o.dst undef) w') : wpList Try.prog ops Q (o :: rest) a w := by
 obtain ⟨D, h1, h2, h3⟩ := hs
 refine wpList_mapUpdate_own w hg m x y 88 hop 3 3 ti_keyed Try.underlying88 (plainElem Try.prog 3) b n D hm h1 (by unfold maxLen; omega) _ _ _ hx hy (keyOf_int_mk Try.underlying3 hw) _ [] (plainElem_int Try.underlying3 hw2) ?_
 intro w' h4 h5
 refine hK w' (Lib.hid ⟨_, h4, h2.put _ _, fun x => ?_⟩) (Lib.hid h5)
 dsimp only
 have hkl : ∀ z : Int, WideAt.IsKeyLit (Lit.int .i64 z) := fun z => by simp [WideAt.IsKeyLit]
 by_cases hxc : x = c
 ·subst hxc
  rw [if_pos rfl]
  refine ⟨by rw [has_put_same h2 (hkl _)]; rfl, fun s' hs' => ?_⟩
  injection hs' with hs'
  subst hs'
  exact atKey_put_same h2 (hkl _) _ _
 ·rw [if_neg hxc]
  have hne : Lit.int .i64 x ≠ Lit.int .i64 c := fun e => hxc (by injection e)
  refine ⟨by rw [has_put_other hne]; exact (h3 x).1, fun s' hs' => ?_⟩
  rw [atKey_put_other hne]
  exact (h3 x).2 s' hs'
theorem wf64 {z : Int} (h1 : -9223372036854775808 ≤ z) (h2 : z ≤ 9223372036854775807) : (Lit.int .i64 z).wf = true := WalkArith.wf_i64 ⟨h1, h2⟩
theorem ab_set4 {w : World} {g : Nat} {a : Acc} (h : AB w g a) (p : Acc) : AB ((((w.setCell ⟨g, 0, none⟩ (.int .i64 p.code)).setCell ⟨g, 1, none⟩ (.int .i64 p.kind)).setCell ⟨g, 2, none⟩ (.int .i64 p.basis)).setCell ⟨g, 3, none⟩ (.int .i64 p.par)) g p := by
 have hc : ∀ (w : World) (i j : Nat) (v u : Value), w.cell? ⟨g, i, none⟩ = some u → (w.setCell ⟨g, j, none⟩ v).cell? ⟨g, i, none⟩ = if i = j then some v else some u := by
  intro w i j v u hu
  split
  ·rename_i e; subst e; exact World.cell?_setCell_same w _ v hu
  ·rename_i e; rw [World.cell?_setCell_other w _ _ v (fun h => e (by injection h with _ h2; exact h2.symm))]; exact hu
 have z0 := h.cells.c0
 have z1 := h.cells.c1
 have z2 := h.cells.c2
 have z3 := h.cells.c3
 simp only [Nat.zero_add] at z1 z2 z3
 have hf : ∀ (w : World) (p : Addr) (v : Value) (i : Nat), (w.setCell p v).frozen? ⟨g, i, none⟩ = w.frozen? ⟨g, i, none⟩ := fun w p v i => World.frozen?_setCell w p _ v
 refine ⟨⟨?_, ?_, ?_, ?_⟩, by simpa [World.setCell] using h.lt, fun i => by rw [hf, hf, hf, hf]; exact h.fz i⟩
 ·rw [hc _ 0 3 _ _ (hc _ 0 2 _ _ (hc _ 0 1 _ _ (hc _ 0 0 _ _ z0)))]; rfl
 ·rw [Nat.zero_add, hc _ 1 3 _ _ (hc _ 1 2 _ _ (hc _ 1 1 _ _ (hc _ 1 0 _ _ z1)))]; rfl
 ·rw [Nat.zero_add, hc _ 2 3 _ _ (hc _ 2 2 _ _ (hc _ 2 1 _ _ (hc _ 2 0 _ _ z2)))]; rfl
 ·rw [Nat.zero_add, hc _ 3 3 _ _ (hc _ 3 2 _ _ (hc _ 3 1 _ _ (hc _ 3 0 _ _ z3)))]; rfl
theorem codesB_wf {L : List Acc} (h : codesB L = true) {a : Acc} (ha : a ∈ L) : 1 ≤ a.code ∧ a.code ≤ 99999 := by
 have hs := codesB_srt h
 obtain ⟨i, hi, rfl⟩ := mem_getD_acc (d := acc0) ha
 refine ⟨hs.pos i hi, ?_⟩
 unfold codesB at h
 rw [Bool.and_eq_true, decide_eq_true_eq] at h
 obtain ⟨n, hn⟩ : ∃ n, L.length = n + 1 := ⟨L.length - 1, by omega⟩
 have h2 := h.2
 rw [hn, lastC_succ] at h2
 rcases Nat.lt_or_ge i n with h3 | h3
 ·have := hs.mono i n h3 (by omega); omega
 ·obtain rfl : i = n := by omega
  exact h2
theorem parentsB_fnd {L : List Acc} (h : parentsB L = true) {a : Acc} (ha : a ∈ L) (h0 : a.par ≠ 0) : ∃ p, fnd L a.par = some p := by
 unfold parentsB at h
 rw [List.all_eq_true] at h
 rcases parB_is.1 (h a ha) with h1 | ⟨p, h1, _⟩
 ·exact absurd h1 h0
 ·exact ⟨p, h1⟩
structure TW (w W : World) (s0 g mb n : Nat) (a : Acc) (f : Int → Option Nat) (m : Nat) : Prop where
 box : AB W g a
 map : SeenM W mb m f
 below : Below s0 w W
 gs : s0 ≤ g
 ms : s0 ≤ mb
 ne : g ≠ mb
 m1 : m ≤ 1000
set_option maxRecDepth 20000 in
set_option maxHeartbeats 3200000 in
theorem htops_any (A : Option Addr) (cp : Nat) (L : List Acc) (w : World) (hz : AccAt w A L) (hl : L.length ≤ 1000) (hc : codesB L = true) (hp : parentsB L = true) :
  Calls Try.prog 46 #[.slice A L.length cp] w fun e w' => e = .returned (.bool (topsB L)) ∧ Below w.heap.size w w' := by
 have hS := codesB_srt hc
 have hI := fun y w h => cidx_any A cp L y w h hl hS
 have hB := below_alloc_new (w := w) (.map #[] 0)
 have hM := SeenM.made w
 obtain ⟨n, hn⟩ : ∃ n, L.length = n := ⟨_, rfl⟩
 obtain ⟨s0, hs0⟩ : ∃ s0, w.heap.size = s0 := ⟨_, rfl⟩
 rw [hn] at hl hI ⊢
 rw [hs0] at hB hM ⊢
 have HN := Lib.hid hn
 have HZ := Lib.hid hz
 have HI := Lib.hid hI
 have HS := Lib.hid hS
 have HC := Lib.hid hc
 have HP := Lib.hid hp
 have HS0 := Lib.hid hs0
 have HM := Lib.hid hM
 have hmm := @run_makeMap Try.prog
 clear hn hz hI hS hc hp hM
 go_enter Try.func46, Try.ntmps46
 go_wp2_with fail
 go_step3
 go_wp2_with fail
 go_step3
 go_wp2_with fail
 clear hs0
 go_loopg [13] n (fun kx s13 wr => ∃ (s m : Nat) (f : Int → Option Nat) (ks : List Int), s13 = .int .i64 s ∧ s ≤ n ∧ n - s ≤ kx ∧ Hid (TO L s f ks) ∧ Hid (SeenM wr s0 m f) ∧ Hid (m = ks.length) ∧ Below s0 w wr)
 case atStart => exact ⟨0, 0, _, [], rfl, by omega, by omega, Lib.hid TO.start, HM, Lib.hid rfl, hB⟩
 case round =>
  clear hB HM
  obtain ⟨s, m, f, ks, rfl, hs, hkx, HT, HM, HMK, hB⟩ := hrel
  by_cases hlt : s < n
  ·have hltz : (s : Int) < (n : Int) := by omega
   have hsz : s0 ≤ wr.heap.size := by have := hB.size; have := HS0.out; omega
   obtain ⟨b, off, rfl, hbw, hcs⟩ := HZ.out (by rw [HN.out]; omega)
   have hbs : b < s0 := by have := HS0.out; omega
   obtain ⟨c0, c1, c2, c3⟩ := (hcs s (by rw [HN.out]; exact hlt)).up hB hbs
   obtain ⟨x, hx⟩ : ∃ x, L.getD s acc0 = x := ⟨_, rfl⟩
   have hti := HT.out.enter (by rw [HN.out]; exact hlt)
   rw [hx] at c0 c1 c2 c3 hti
   have HTI := Lib.hid hti
   have HCS := Lib.hid hcs
   have hm1 : m ≤ 1000 := by
    have := nodup_subset_len HT.out.nodup HT.out.sub
    rw [List.length_map, HN.out] at this
    rw [HMK.out]; omega
   have HW : Hid (TW w (wr.alloc (.cells #[.int .i64 x.code, .int .i64 x.kind, .int .i64 x.basis, .int .i64 x.par] 50)) s0 wr.heap.size s0 n x f m) :=
    Lib.hid ⟨ab_new wr 50 x, HM.out.up (below_alloc_new _), hB.alloc hsz _, hsz, Nat.le_refl _, by have := HM.out.lt; omega, hm1⟩
   obtain ⟨g, hg⟩ : ∃ g, wr.heap.size = g := ⟨_, rfl⟩
   rw [hg] at HW
   have HG := Lib.hid hg
   clear hx hcs hti HM hB hg
   go_wp2_with fail
   rw [HG.out]
   go_loopg [6] (n - ks.length) (fun kx s6 W => ∃ (a : Acc) (m2 : Nat) (f2 : Int → Option Nat) (ks2 : List Int), n - ks2.length ≤ kx ∧ Hid (TI L s a f2 ks2) ∧ Hid (TW w W s0 g s0 n a f2 m2) ∧ Hid (m2 = ks2.length))
   case atStart => exact ⟨x, m, f, ks, by omega, HTI, HW, HMK⟩
   case round =>
    clear HW HTI HT HMK c0 c1 c2 c3
    obtain ⟨a, m2, f2, ks2, hkx2, HTI, HW, HMK⟩ := hrel
    obtain ⟨⟨z0, z1, z2, z3⟩, zlt, zf⟩ := HW.out.box
    simp only [Nat.zero_add] at z1 z2 z3
    have zf0 := zf 0
    have zf1 := zf 1
    have zf2 := zf 2
    have zf3 := zf 3
    clear zf
    have HWF : Hid ((Lit.int .i64 a.code).wf = true) := Lib.hid (by have := codesB_wf HC.out HTI.out.mem; exact wf64 (by omega) (by omega))
    by_cases h0 : a.par = 0
    ·have e0 : (a.par != 0) = false := by simp [h0]
     have HTO := Lib.hid (HTI.out.top HS.out h0)
     clear h0
     go_wp2_with fail
     go_roundg (n - (s + 1))
     case measure => omega
     case rel => exact ⟨s + 1, m2, f2, ks2, by go_num, by omega, by omega, HTO, Lib.hid HW.out.map, HMK, HW.out.below⟩
    ·have e0 : (a.par != 0) = true := by simp [h0]
     cases hf : f2 a.code with
     | some v =>
      have HFV := Lib.hid hf
      have hsm : Hid ((f2 a.code).isSome = true) := Lib.hid (by rw [hf]; rfl)
      by_cases hvs : v = s
      ·have E : Hid (topsB L = false) := Lib.hid (HTI.out.loop (by rw [hf, hvs]))
       have HVS := Lib.hid hvs
       clear h0 hf hvs
       go_wp2_with (at_lookup; refine wpList_seen_look rfl _ _ rfl s0 m2 f2 rfl HW.out.map a.code rfl HWF.out ?_; intro v1 hv1; have hve : v1 = (s : Int) := (by rw [hv1.out v HFV.out, HVS.out]); subst hve; rw [hsm.out]; have hss : ((s : Int) == (s : Int)) = true := (by simp); clear hv1)
       try rw [Exit.noGoto_ret]
       go_ret
       exact ⟨by rw [E.out]; rfl, HW.out.below⟩
      ·have HTO := Lib.hid (HTI.out.old hf hvs)
       have hvz : ((v : Int) == (s : Int)) = false := by simp; omega
       clear h0 hf hvs
       go_wp2_with (at_lookup; refine wpList_seen_look rfl _ _ rfl s0 m2 f2 rfl HW.out.map a.code rfl HWF.out ?_; intro v1 hv1; have hve : v1 = (v : Int) := (by rw [hv1.out v HFV.out]); subst hve; rw [hsm.out]; clear hv1)
       go_roundg (n - (s + 1))
       case measure => omega
       case rel => exact ⟨s + 1, m2, f2, ks2, by go_num, by omega, by omega, HTO, Lib.hid HW.out.map, HMK, HW.out.below⟩
     | none =>
      obtain ⟨p, hp⟩ := parentsB_fnd HP.out HTI.out.mem h0
      obtain ⟨hti2, hlen2⟩ := HTI.out.step HS.out hf hp
      have hsm : Hid ((f2 a.code).isSome = false) := Lib.hid (by rw [hf]; rfl)
      have HTI2 := Lib.hid hti2
      have HFP := Lib.hid hp
      have hl2 : ks2.length + 1 ≤ n := by rw [HN.out] at hlen2; simpa using hlen2
      have HMK2 : Hid (m2 + 1 = (a.code :: ks2).length) := Lib.hid (by rw [HMK.out]; simp)
      have HWS : Hid ((Lit.int .i64 (s : Int)).wf = true) := Lib.hid (wf64 (by omega) (by omega))
      have hgk2 : n - (a.code :: ks2).length < n - ks2.length := by simp; omega
      have hix := fun W h => HI.out a.par W h
      rw [hp] at hix
      have HIX := Lib.hid hix
      clear h0 hf hp hti2 hlen2 hix
      go_wp2_with (first
       | (at_lookup; refine wpList_seen_look rfl _ _ rfl s0 m2 f2 rfl HW.out.map a.code rfl HWF.out ?_; intro v1 hv1; rw [hsm.out]; clear hv1)
       | (at_mapUpdate; refine wpList_seen_put rfl _ _ _ rfl s0 m2 f2 rfl HW.out.map a.code s rfl rfl HWF.out HWS.out (by have := HW.out.m1; omega) ?_; intro w2 hm2 hg2; have hb2 := grown_below HW.out.below hg2.out (Nat.le_refl _) (Nat.le_of_lt HW.out.map.lt); have HAB := Lib.hid (HW.out.box.blk (hg2.out.block g zlt (by (intro e9; injection e9 with e9; exact HW.out.ne e9)))); clear z0 z1 z2 z3 zlt zf0 zf1 zf2 zf3; obtain ⟨⟨z0, z1, z2, z3⟩, zlt, -⟩ := HAB.out; simp only [Nat.zero_add] at z1 z2 z3)
       | (go_at_call 56; refine (HIX.out _ (HZ.out.up (by (rw [HS0.out]; exact hb2)))).mono ?_; rintro e w3 ⟨i, rfl, hfa, hb⟩; obtain ⟨hil, hie⟩ := hfa _ HFP.out; replace HAB := Lib.hid (HAB.out.up hb); replace hm2 := Lib.hid (hm2.out.up hb); replace hb2 := hb2.trans (hb.mono (by (have := hb2.size; have := HS0.out; omega))); have d4 := (HCS.out i hil).up hb2 hbs; rw [hie] at d4; obtain ⟨d0, d1, d2, d3⟩ := d4; have hiz : (i : Int) < (n : Int) := (by rw [HN.out] at hil; omega); clear z0 z1 z2 z3 zlt hb hfa hil hie hg2; obtain ⟨⟨z0, z1, z2, z3⟩, zlt, zf⟩ := HAB.out; simp only [Nat.zero_add] at z1 z2 z3; have zf0 := zf 0; have zf1 := zf 1; have zf2 := zf 2; have zf3 := zf 3; clear zf))
      have HW2 : Hid (TW w _ s0 g s0 n p _ (m2 + 1)) := Lib.hid ⟨ab_set4 HAB.out p, hm2.out.blk (by rw [Below.heap_setCell _ _ _ _ (Ne.symm HW.out.ne), Below.heap_setCell _ _ _ _ (Ne.symm HW.out.ne), Below.heap_setCell _ _ _ _ (Ne.symm HW.out.ne), Below.heap_setCell _ _ _ _ (Ne.symm HW.out.ne)]), bset4 hb2 HW.out.gs _ _ _ _, HW.out.gs, HW.out.ms, HW.out.ne, by have := HMK.out; omega⟩
      go_roundg (n - (a.code :: ks2).length)
      case measure => simp only [List.length_cons]; omega
      case rel => exact ⟨p, m2 + 1, _, a.code :: ks2, Nat.le_refl _, HTI2, HW2, HMK2⟩
  ·obtain rfl : s = n := by omega
   have hltz : ¬ (s : Int) < (s : Int) := by omega
   have E : Hid (topsB L = true) := Lib.hid (by have := HT.out; rw [← HN.out] at this; exact this.all)
   go_wp2_with fail
   go_ret
   exact ⟨by rw [E.out]; rfl, hB⟩
set_option maxRecDepth 20000 in
set_option maxHeartbeats 1600000 in
theorem cvalid8_any (A : Option Addr) (cp : Nat) (L : List Acc) (g : Bool) (w : World) (hz : AccAt w A L) (hl : L.length ≤ 1000) :
  Calls Try.prog 22 #[.slice A L.length cp, .bool g] w fun e w' => e = .returned (.bool (vB L g)) ∧ Below w.heap.size w w' := by
 have hB := Below.refl w.heap.size w
 have h1 := fun w h => hcodes_any A cp L w h hl
 have h2 := fun w h => hkinds_any A cp L g w h hl
 have h3 := fun hc w h => hpar_any A cp L w h hl (codesB_srt hc)
 have h4 := fun hc hp w h => htops_any A cp L w h hl hc hp
 have hv : vB L g = (decide (L.length ≤ 200) && codesB L && kindsB L g && parentsB L && topsB L) := rfl
 obtain ⟨n, hn⟩ : ∃ n, L.length = n := ⟨_, rfl⟩
 rw [hn] at hl hv h1 h2 h3 h4 ⊢
 have HZ := Lib.hid hz
 clear hn hz
 by_cases hbig : 200 < n
 ·have E : Hid (vB L g = false) := Lib.hid (by rw [hv, decide_eq_false (show ¬ n ≤ 200 by omega)]; rfl)
  have e1 : decide (n ≤ 200) = false := decide_eq_false (by omega)
  have e2 : decide ((n : Int) ≤ 200) = false := decide_eq_false (by omega)
  clear h1 h2 h3 h4 hv
  go_enter Try.func22, Try.ntmps22
  go_wp2_with fail
  go_ret
  exact ⟨by rw [E.out]; rfl, hB⟩
 have e2 : decide ((n : Int) ≤ 200) = true := decide_eq_true (by omega)
 rw [decide_eq_true (show n ≤ 200 by omega), Bool.true_and] at hv
 cases hc : codesB L
 ·rw [hc] at h1 hv
  have E := Lib.hid (show vB L g = false from hv)
  have H1 := Lib.hid h1
  clear h1 h2 h3 h4 hv hc
  go_enter Try.func22, Try.ntmps22
  go_wp2_with (go_at_call 43; refine (H1.out _ (HZ.out.up hB)).mono ?_; rintro e w1 ⟨rfl, hb⟩; replace hB := below_more hB hb; clear hb)
  go_ret
  exact ⟨by rw [E.out]; rfl, hB⟩
 replace h3 := h3 hc
 replace h4 := h4 hc
 rw [hc] at h1 hv
 have H1 := Lib.hid h1
 clear h1 hc
 cases hk : kindsB L g
 ·rw [hk] at h2 hv
  have E := Lib.hid (show vB L g = false from hv)
  have H2 := Lib.hid h2
  clear h2 h3 h4 hv hk
  go_enter Try.func22, Try.ntmps22
  go_wp2_with (first | (go_at_call 43; refine (H1.out _ (HZ.out.up hB)).mono ?_; rintro e w1 ⟨rfl, hb⟩; replace hB := below_more hB hb; clear hb) | (go_at_call 44; refine (H2.out _ (HZ.out.up hB)).mono ?_; rintro e w1 ⟨rfl, hb⟩; replace hB := below_more hB hb; clear hb))
  go_ret
  exact ⟨by rw [E.out]; rfl, hB⟩
 rw [hk] at h2 hv
 have H2 := Lib.hid h2
 clear h2 hk
 cases hp : parentsB L
 ·rw [hp] at h3 hv
  have E := Lib.hid (show vB L g = false from hv)
  have H3 := Lib.hid h3
  clear h3 h4 hv hp
  go_enter Try.func22, Try.ntmps22
  go_wp2_with (first | (go_at_call 43; refine (H1.out _ (HZ.out.up hB)).mono ?_; rintro e w1 ⟨rfl, hb⟩; replace hB := below_more hB hb; clear hb) | (go_at_call 44; refine (H2.out _ (HZ.out.up hB)).mono ?_; rintro e w1 ⟨rfl, hb⟩; replace hB := below_more hB hb; clear hb) | (go_at_call 45; refine (H3.out _ (HZ.out.up hB)).mono ?_; rintro e w1 ⟨rfl, hb⟩; replace hB := below_more hB hb; clear hb))
  go_ret
  exact ⟨by rw [E.out]; rfl, hB⟩
 replace h4 := h4 hp
 rw [hp] at h3 hv
 have E := Lib.hid (show vB L g = topsB L from hv)
 have H3 := Lib.hid h3
 have H4 := Lib.hid h4
 clear h3 h4 hv hp
 go_enter Try.func22, Try.ntmps22
 go_wp2_with (first | (go_at_call 43; refine (H1.out _ (HZ.out.up hB)).mono ?_; rintro e w1 ⟨rfl, hb⟩; replace hB := below_more hB hb; clear hb) | (go_at_call 44; refine (H2.out _ (HZ.out.up hB)).mono ?_; rintro e w1 ⟨rfl, hb⟩; replace hB := below_more hB hb; clear hb) | (go_at_call 45; refine (H3.out _ (HZ.out.up hB)).mono ?_; rintro e w1 ⟨rfl, hb⟩; replace hB := below_more hB hb; clear hb) | (go_at_call 46; refine (H4.out _ (HZ.out.up hB)).mono ?_; rintro e w1 ⟨rfl, hb⟩; replace hB := below_more hB hb; clear hb))
 go_ret
 exact ⟨by rw [E.out]; rfl, hB⟩
set_option maxRecDepth 20000 in
set_option maxHeartbeats 1600000 in
theorem rfind_any (A : Option Addr) (cp : Nat) (L : List Acc) (c : Int) (w : World) (hz : AccAt w A L) (hl : L.length ≤ 1000) :
  Calls Try.prog 26 #[.slice A L.length cp, .int .i64 c] w fun e w' => e = .returned (.tuple #[accV (fndA L c), .bool (fnd L c).isSome]) ∧ Below w.heap.size w w' := by
 have hB := below_alloc_new (w := w) (.cells #[.int .i64 acc0.code, .int .i64 acc0.kind, .int .i64 acc0.basis, .int .i64 acc0.par] 50)
 have hA4 := ab_new w 50 acc0
 obtain ⟨n, hn⟩ : ∃ n, L.length = n := ⟨_, rfl⟩
 obtain ⟨s0, hs0⟩ : ∃ s0, w.heap.size = s0 := ⟨_, rfl⟩
 rw [hn] at hl ⊢
 rw [hs0] at hB hA4 ⊢
 have HN := Lib.hid hn
 have HZ := Lib.hid hz
 have HS0 := Lib.hid hs0
 have HA := Lib.hid hA4
 clear hn hz hA4
 go_enter Try.func26, Try.ntmps26
 go_wp2_with fail
 go_loopg [6] n (fun kx s6 wr => ∃ k : Nat, s6 = .int .i64 k ∧ k ≤ n ∧ n - k ≤ kx ∧ Hid (fnd (L.take k) c = none) ∧ Hid (AB wr s0 acc0) ∧ Below s0 w wr)
 case atStart => exact ⟨0, rfl, by omega, by omega, Lib.hid (by rw [List.take_zero]; rfl), HA, hB⟩
 case round =>
  clear hB HA
  obtain ⟨k, rfl, hk, hkx, HF, HA, hB⟩ := hrel
  by_cases hlt : k < n
  ·have hltz : (k : Int) < (n : Int) := by omega
   obtain ⟨b, off, rfl, hbw, hcs⟩ := HZ.out (by rw [HN.out]; omega)
   have hbs : b < s0 := by have := HS0.out; omega
   have hbn : b ≠ s0 := by omega
   obtain ⟨c0, c1, c2, c3⟩ := (hcs k (by rw [HN.out]; exact hlt)).up hB hbs
   obtain ⟨x, hx⟩ : ∃ x, L.getD k acc0 = x := ⟨_, rfl⟩
   rw [hx] at c0 c1 c2 c3
   have HX := Lib.hid hx
   have hf := fnd_take_succ (L := L) (c := c) (k := k) (by rw [HN.out]; exact hlt) HF.out
   rw [hx] at hf
   clear hx hcs
   by_cases he : x.code = c
   ·rw [if_pos he] at hf
    have hf2 := fnd_take hf
    have e1 : Hid (fndA L c = x) := Lib.hid (by unfold fndA; rw [hf2]; rfl)
    have e2 : Hid ((fnd L c).isSome = true) := Lib.hid (by rw [hf2]; rfl)
    have e3 : (x.code == c) = true := by simp [he]
    obtain ⟨⟨z0, z1, z2, z3⟩, zlt, zf⟩ := HA.out
    have zf0 := zf 0
    have zf1 := zf 1
    have zf2 := zf 2
    have zf3 := zf 3
    simp only [Nat.zero_add] at z1 z2 z3
    clear zf hf hf2 he
    go_wp2_with fail
    rw [e1.out, e2.out]
    exact bodyPost_ret (v := .tuple #[accV x, .bool true]) (by simp [results, Try.results26, go_sem, z0, z1, z2, z3]) rfl ⟨rfl, bset4 hB (Nat.le_refl _) _ _ _ _⟩
   ·rw [if_neg he] at hf
    have HF2 := Lib.hid hf
    have e3 : (x.code == c) = false := by simp [he]
    clear hf he
    go_wp2_with fail
    go_roundg (n - (k + 1))
    case measure => omega
    case rel => exact ⟨k + 1, by go_num, by omega, by omega, HF2, HA, hB⟩
  ·obtain rfl : k = n := by omega
   have hltz : ¬ (k : Int) < (k : Int) := by omega
   have hf := HF.out
   rw [List.take_of_length_le (by rw [HN.out]; omega)] at hf
   have e1 : Hid (fndA L c = acc0) := Lib.hid (by unfold fndA; rw [hf]; rfl)
   have e2 : Hid ((fnd L c).isSome = false) := Lib.hid (by rw [hf]; rfl)
   obtain ⟨⟨z0, z1, z2, z3⟩, zlt, zf⟩ := HA.out
   have zf0 := zf 0
   have zf1 := zf 1
   have zf2 := zf 2
   have zf3 := zf 3
   simp only [Nat.zero_add] at z1 z2 z3
   clear zf hf
   go_wp2_with fail
   rw [e1.out, e2.out]
   exact bodyPost_ret (v := .tuple #[accV acc0, .bool false]) (by simp [results, Try.results26, go_sem, z0, z1, z2, z3]) rfl ⟨rfl, bset4 hB (Nat.le_refl _) _ _ _ _⟩
set_option maxRecDepth 20000 in
set_option maxHeartbeats 1600000 in
theorem rsamec_any (A B : Option Addr) (c d : Nat) (zs ys : List Int) (w : World) (hz : IntsAt .i64 w A zs) (hy : IntsAt .i64 w B ys) (hl : zs.length ≤ 100000) (hl2 : ys.length ≤ 100000) :
  Calls Try.prog 15 #[.slice A zs.length c, .slice B ys.length d] w fun e w' => e = .returned (.bool (decide (zs = ys))) ∧ Below w.heap.size w w' := by
 have hB := Below.refl w.heap.size w
 obtain ⟨n, hn⟩ : ∃ n, zs.length = n := ⟨_, rfl⟩
 obtain ⟨m, hm⟩ : ∃ m, ys.length = m := ⟨_, rfl⟩
 rw [hn] at hl ⊢
 rw [hm] at hl2 ⊢
 by_cases hnm : n = m
 ·subst hnm
  have HN := Lib.hid hn
  have HM := Lib.hid hm
  have HZ := Lib.hid hz
  have HY := Lib.hid hy
  clear hn hm hz hy
  have hnn : ((n : Int) != (n : Int)) = false := by simp
  go_enter Try.func15, Try.ntmps15
  go_wp2_with fail
  go_loopg [5] n (fun kx s5 wr => ∃ k : Nat, s5 = .int .i64 k ∧ k ≤ n ∧ n - k ≤ kx ∧ Hid (zs.take k = ys.take k) ∧ Below w.heap.size w wr)
  case atStart => exact ⟨0, rfl, by omega, by omega, Lib.hid (by simp), hB⟩
  case round =>
   clear hB
   obtain ⟨k, rfl, hk, hkx, HT, hB⟩ := hrel
   by_cases hlt : k < n
   ·have hltz : (k : Int) < (n : Int) := by omega
    obtain ⟨b, off, rfl, hbw, hcs⟩ := HZ.out (by rw [HN.out]; omega)
    obtain ⟨b2, off2, rfl, hbw2, hcs2⟩ := HY.out (by rw [HM.out]; omega)
    have hc := (hB.cell (p := ⟨b, off + k, none⟩) hbw).trans (hcs k (by rw [HN.out]; exact hlt))
    have hc2 := (hB.cell (p := ⟨b2, off2 + k, none⟩) hbw2).trans (hcs2 k (by rw [HM.out]; exact hlt))
    have ht1 := take_succ_getD (d := (0 : Int)) (L := zs) (i := k) (by rw [HN.out]; exact hlt)
    have ht2 := take_succ_getD (d := (0 : Int)) (L := ys) (i := k) (by rw [HM.out]; exact hlt)
    generalize zs.getD k 0 = x at *
    generalize ys.getD k 0 = y at *
    by_cases hxy : x = y
    ·subst hxy
     have hxx : (x != x) = false := by simp
     have HT2 : Hid (zs.take (k + 1) = ys.take (k + 1)) := Lib.hid (by rw [ht1, ht2, HT.out])
     clear ht1 ht2 hcs hcs2
     go_wp2_with fail
     go_quiet (fail)
     replace hB := below_drewN hB nq
     generalize World.drewN _ nq = W1 at *
     go_wp2_with fail
     go_roundg (n - (k + 1))
     case measure => omega
     case rel => exact ⟨k + 1, by go_num, by omega, by omega, HT2, hB⟩
    ·have hxx : (x != y) = true := by simp [hxy]
     have hno : Hid (decide (zs = ys) = false) := Lib.hid (decide_eq_false fun e => by
      rw [e, ht2] at ht1
      have := List.append_cancel_left ht1
      simp at this; exact hxy this.symm)
     clear ht1 ht2 hcs hcs2
     go_wp2_with fail
     go_quiet (fail)
     replace hB := below_drewN hB nq
     generalize World.drewN _ nq = W1 at *
     go_wp2_with fail
     go_ret
     exact ⟨by rw [hno.out]; rfl, hB⟩
   ·obtain rfl : k = n := by omega
    have hltz : ¬ (k : Int) < (k : Int) := by omega
    have hyes : Hid (decide (zs = ys) = true) := Lib.hid (decide_eq_true (by have h := HT.out; rwa [List.take_of_length_le (by rw [HN.out]; omega), List.take_of_length_le (by rw [HM.out]; omega)] at h))
    go_wp2_with fail
    go_ret
    exact ⟨by rw [hyes.out]; rfl, hB⟩
 ·have hno : Hid (decide (zs = ys) = false) := Lib.hid (decide_eq_false fun e => hnm (by rw [← hn, ← hm, e]))
  have hnn : ((n : Int) != (m : Int)) = true := by simp; omega
  clear hn hm hz hy
  go_enter Try.func15, Try.ntmps15
  go_wp2_with fail
  go_ret
  exact ⟨by rw [hno.out]; rfl, hB⟩
open Go Go.RowKit
open AS (NoInt)
section
variable {t : TypeId} {w w' : World} {g : Nat} {vs : List Value}
end
end Go.Proofs.Ytmahnpbjjadipaa
namespace Go.Proofs.Ytmahnpbjjadipaa.AS
open Go Go.RowKit
open Go.Proofs.Ytmahnpbjjadipaa (fillL upd fillL_size fillL_get fillL_upd fillL_self filter_less none_listed put_fill)
theorem Keep.cell {w w' : World} (h : Keep w w') {i j : Nat} (hi : i < w.heap.size) {j' : Nat} {k : IntKind} {n : Int} (hc : w.cell? ⟨i, j', none⟩ = some (.int k n)) : w'.cell? ⟨i, j, none⟩ = w.cell? ⟨i, j, none⟩ :=
 World.cell?_of_block (h.blk i hi ⟨j', k, n, hc⟩)
section
variable {P : Program} {ops : Array Oper} {Q : Exit → Act → World → Prop} {FL : List (Nat × Fact)} {J : Nat → List Value → World → Prop} {t0 : Array Value} {df : List Deferred} {ds : List Nat}
 {st lm al : List Nat} {js : List (List Nat)} {pt : List (List Nat)}
theorem ss {fr : (Nat → Value) → Array Value} {o : Oper} {rest : List Oper} {i k : Nat} {need : List Nat} (h0 : st.idxOf? i = some k) (h1 : pt.getD i [] = need)
  (h : StoreOk al P ops Q FL J js fr df o need k) (hs : StepsOk al P ops Q FL J js fr df pt st lm rest (i + 1)) : StepsOk al P ops Q FL J js fr df pt st lm (o :: rest) i := ⟨by rw [h0, h1]; exact h, hs⟩
end
end Go.Proofs.Ytmahnpbjjadipaa.AS
namespace Go.Proofs.Ytmahnpbjjadipaa
open Go.RowKit
theorem SlI.keep {w w' : World} {v : Value} {L : List Int} (h : SlI w v L) (hk : AS.Keep w w') : SlI w' v L := by
 obtain ⟨A, c, e, h⟩ := h
 refine ⟨A, c, e, fun h0 => ?_⟩
 obtain ⟨b, off, e, hlt, hc⟩ := h h0
 exact ⟨b, off, e, Nat.lt_of_lt_of_le hlt hk.size, fun i hi => (hk.cell hlt (hc i hi)).trans (hc i hi)⟩
def HSl (L : List Int) : AS.Fact := ⟨fun v w => SlI w v L, fun _ _ _ hb h => h.keep hb⟩
def insD (d : Int) : List Int → List Int
 | [] => [d]
 | x :: l => if x < d then x :: insD d l else if x = d then x :: l else d :: x :: l
def Asc (l : List Int) : Prop := l.Pairwise (· < ·)
theorem mem_insD {d x : Int} : ∀ {l : List Int}, x ∈ insD d l ↔ x = d ∨ x ∈ l
 | [] => by simp [insD]
 | y :: l => by
  unfold insD
  split
  ·rw [List.mem_cons, mem_insD, List.mem_cons]; exact ⟨fun h => by rcases h with h | h | h <;> simp [h], fun h => by rcases h with h | h | h <;> simp [h]⟩
  ·split
   ·rename_i _ h; subst h; simp
   ·simp
theorem insD_asc {d : Int} : ∀ {l : List Int}, Asc l → Asc (insD d l)
 | [], _ => by simp [insD, Asc]
 | y :: l, h => by
  have h' := h
  unfold Asc at h'
  rw [List.pairwise_cons] at h'
  unfold insD
  split
  ·rename_i hy
   unfold Asc
   rw [List.pairwise_cons]
   exact ⟨fun z hz => by rcases mem_insD.1 hz with rfl | hz; exact hy; exact h'.1 z hz, insD_asc h'.2⟩
  ·split
   ·exact h
   ·rename_i h1 h2
    unfold Asc
    rw [List.pairwise_cons]
    refine ⟨fun z hz => ?_, h⟩
    rcases List.mem_cons.1 hz with rfl | hz
    ·omega
    ·have := h'.1 z hz; omega
theorem Asc.nodup {l : List Int} (h : Asc l) : l.Nodup := List.Pairwise.imp (fun h => by omega) h
theorem Asc.ext {l m : List Int} (h : Asc l) (h2 : Asc m) (hx : ∀ x, x ∈ l ↔ x ∈ m) : l = m :=
 List.Perm.eq_of_pairwise (le := (· < ·)) (fun a b _ _ h1 h2 => by omega) h h2 ((List.perm_ext_iff_of_nodup h.nodup h2.nodup).2 hx)
theorem insD_at {d : Int} : ∀ {l : List Int} {k : Nat}, k ≤ l.length → (∀ i, i < k → l.getD i 0 < d) → (k < l.length → d ≤ l.getD k 0) → insD d l = if k < l.length ∧ l.getD k 0 = d then l else l.take k ++ d :: l.drop k
 | [], k, hk, _, _ => by simp at hk; subst hk; simp [insD]
 | x :: l, 0, hk, _, h2 => by
  have h3 := h2 (by simp)
  simp only [List.getD_cons_zero] at h3
  unfold insD
  rw [if_neg (by omega)]
  simp
 | x :: l, k + 1, hk, h1, h2 => by
  have h3 := h1 0 (by omega)
  simp only [List.getD_cons_zero] at h3
  unfold insD
  rw [if_pos h3, insD_at (l := l) (k := k) (by simpa using hk) (fun i hi => by simpa using h1 (i + 1) (by omega)) (fun h => by simpa using h2 (by simpa using h))]
  simp only [List.length_cons, Nat.add_lt_add_iff_right, List.getD_cons_succ, List.take_succ_cons, List.drop_succ_cons, List.cons_append]
  split <;> rfl
def keysL (l : List Int) : List Int := l.foldl (fun m d => insD d m) []
theorem keysL_snoc {l : List Int} {d : Int} : keysL (l ++ [d]) = insD d (keysL l) := by unfold keysL; rw [List.foldl_append]; rfl
theorem keysL_is {l : List Int} : Asc (keysL l) ∧ ∀ x, x ∈ keysL l ↔ x ∈ l := by
 suffices h : ∀ (l m : List Int), Asc m → Asc (l.foldl (fun m d => insD d m) m) ∧ ∀ x, x ∈ l.foldl (fun m d => insD d m) m ↔ x ∈ l ∨ x ∈ m by
  have := h l [] List.Pairwise.nil
  exact ⟨this.1, fun x => by rw [keysL, this.2 x]; simp⟩
 intro l
 induction l with
 | nil => intro m hm; exact ⟨hm, fun x => by simp⟩
 | cons d l ih =>
  intro m hm
  obtain ⟨h1, h2⟩ := ih (insD d m) (insD_asc hm)
  exact ⟨h1, fun x => by rw [List.foldl_cons, h2 x, mem_insD, List.mem_cons]; exact ⟨fun h => by rcases h with h | h | h <;> simp [h], fun h => by rcases h with (h | h) | h <;> simp [h]⟩⟩
theorem keysL_ext {l m : List Int} (h : Asc m) (hx : ∀ x, x ∈ m ↔ x ∈ l) : m = keysL l := h.ext keysL_is.1 (fun x => by rw [keysL_is.2, hx])
theorem sort_asc {l : List Int} (h : l.Nodup) : Asc (l.mergeSort (fun x y => decide (x ≤ y))) := by
 have h1 := List.pairwise_mergeSort (le := fun x y : Int => decide (x ≤ y)) (fun a b c h1 h2 => by simp at *; omega) (fun a b => by simp; omega) l
 have h2 : (l.mergeSort (fun x y => decide (x ≤ y))).Nodup := (List.mergeSort_perm l _).nodup_iff.2 h
 unfold Asc
 rw [List.pairwise_iff_getElem] at h1 ⊢
 intro i j hi hj hij
 have h3 := h1 i j hi hj hij
 have h4 := (List.pairwise_iff_getElem.1 h2) i j hi hj hij
 simp at h3
 omega
theorem keysL_len {l : List Int} : (keysL l).length ≤ l.length := by
 have h := nodup_subset_len (keysL_is (l := l)).1.nodup (m := l) fun x hx => (keysL_is.2 x).1 hx
 exact h
def datesL (K : List Lnk) : List Int := keysL (K.map (·.since))
def lnkB (L c : List Acc) (l : Lnk) : Bool := (fnd L l.frm).isSome && ((fnd c l.tgt).isSome && (decide ((fndA L l.frm).kind = (fndA c l.tgt).kind) && vdB l.since))
def smB (K : List Lnk) (i k : Nat) : Bool := decide ((K.getD k lnk0).frm = (K.getD i lnk0).frm) && decide ((K.getD k lnk0).since = (K.getD i lnk0).since)
def dfB (K : List Lnk) (i : Nat) : Bool := allTo (fun k => !smB K i k) i
def mvB (L : List Acc) (K : List Lnk) (c : List Acc) : Bool := vB c true && (vB L false && (decide (K.length ≤ 400) && (allTo (fun i => lnkB L c (K.getD i lnk0)) K.length && allTo (dfB K) K.length)))
open Go.RowKit Go.Maps
def MapV (w : World) (b n : Nat) (f : Int → Option Value) : Prop := ∃ D : DataW Value, w.ownsMap Try.prog 3 heldE b n D ∧ ∀ c, Maps.has D (.int .i64 c) = (f c).isSome ∧ ∀ z, D.atKey (.int .i64 c) z = (match f c with | some v => .held v | none => z)
section
variable {w w' : World} {b n m : Nat} {f : Int → Option Value}
theorem MapV.blk (h : MapV w b n f) (hk : w'.heap[b]? = w.heap[b]?) : MapV w' b n f := by
 obtain ⟨D, ⟨es, clock, hb, rest⟩, h2⟩ := h
 exact ⟨D, ⟨es, clock, hk.trans hb, rest⟩, h2⟩
theorem MapV.lt (h : MapV w b n f) : b < w.heap.size := by
 obtain ⟨D, h1, _⟩ := h
 exact h1.lt
theorem MapV.up (h : MapV w b n f) (hb : Below w.heap.size w w') : MapV w' b n f := h.blk (hb.block b h.lt)
theorem MapV.made (w : World) : MapV (w.alloc (.map #[] 0)) w.heap.size 0 (fun _ => none) :=
 ⟨.map [], World.ownsMap_made _ _ _ _, fun _ => ⟨rfl, fun _ => rfl⟩⟩
end
theorem wpList_mapv_put {w : World} {ops : Array Oper} {rest : List Oper} {o : Oper} {a : Act} {Q : Exit → Act → World → Prop} (hg : o.guard = none) (m x y : Operand) (t e : TypeId) (hop : o.op = Op.mapUpdate t m x y)
  (ht : Try.prog.underlying t = some (.map 3 e))
  (b n : Nat) (f : Int → Option Value) (hm : a.eval m = .map (some b)) (hs : MapV w b n f) (c : Int) (hx : a.eval x = .int .i64 c) (v : Value) (hy : a.eval y = v) (hw : (Lit.int .i64 c).wf = true) (hn : n ≤ 1000000)
  (hK : ∀ w', Hid (MapV w' b (n + 1) (fun x => if x = c then some v else f x)) → Hid (w.grownBy w' (some b)) → wpList Try.prog ops Q rest (a.put o.dst undef) w') : wpList Try.prog ops Q (o :: rest) a w := by
 obtain ⟨D, h1, h3⟩ := hs
 have h2 := h1.isMap
 refine wpList_mapUpdate_own w hg m x y t hop 3 e ti_keyed ht heldE b n D hm h1 (by unfold maxLen; omega) _ _ _ hx hy (keyOf_int_mk Try.underlying3 hw) (.held v) [] rfl ?_
 intro w' h4 h5
 refine hK w' (Lib.hid ⟨_, h4, fun x => ?_⟩) (Lib.hid h5)
 have hkl : ∀ z : Int, WideAt.IsKeyLit (Lit.int .i64 z) := fun z => by simp [WideAt.IsKeyLit]
 by_cases hxc : x = c
 ·subst hxc
  simp only [if_true]
  exact ⟨by rw [has_put_same h2 (hkl _)]; rfl, fun z => atKey_put_same h2 (hkl _) _ _⟩
 ·simp only [if_neg hxc]
  have hne : Lit.int .i64 x ≠ Lit.int .i64 c := fun e => hxc (by injection e)
  refine ⟨by rw [has_put_other hne]; exact (h3 x).1, fun z => ?_⟩
  rw [atKey_put_other hne]
  exact (h3 x).2 z
theorem ts_keyed : Keyed Try.prog 80 := Keyed.of_law (deep_law_gate laid_out (by decide +kernel) (by decide +kernel) (by kernel_rfl) (by kernel_rfl))
theorem start_key {a b : Int} (ha : (Lit.int .i64 a).wf = true) (hb : (Lit.int .i64 b).wf = true) : ∃ l, keyOf Try.prog 80 (.agg #[.int .i64 a, .int .i64 b]) = some l := by
 have key : ∀ d, Try.prog.keyLits (d + 2) 80 [.int .i64 a, .int .i64 b] = some [.int .i64 a, .int .i64 b] := by
  intro d
  have hc : Try.prog.cellsOf 80 = 2 := by kernel_rfl
  have hc3 : Try.prog.cellsOf 3 = 1 := by kernel_rfl
  simp [Program.keyLits, Try.underlying80, Try.underlying3, hc, hc3, ha, hb]
 have hf : Value.formed Try.prog 80 (.agg #[.int .i64 a, .int .i64 b]) = true := by
  have hc : Try.prog.cellsOf 80 = 2 := by kernel_rfl
  simp [Value.formed, Try.underlying80, hc]
 have hk : Try.prog.keyType 80 = true := by kernel_rfl
 have h1 : 1 ≤ Try.prog.types.size := by decide +kernel
 obtain ⟨n, hn⟩ : ∃ n, Try.prog.types.size + 1 = n + 2 := ⟨Try.prog.types.size - 1, by omega⟩
 refine ⟨.string (keyBytes [.int .i64 a, .int .i64 b]), ?_⟩
 unfold keyOf
 rw [Try.underlying80]
 simp only [hk, hf, Bool.and_self, if_true]
 rw [hn]
 show Option.map _ (Try.prog.keyLits (n + 2) 80 [.int .i64 a, .int .i64 b]) = _
 rw [key n]; rfl
def SetP (w : World) (b m : Nat) (S : Int → Int → Bool) : Prop := ∃ D : DataW Value, w.ownsMap Try.prog 80 heldE b m D ∧ Maps.size D = m ∧ ∀ x y l, keyOf Try.prog 80 (.agg #[.int .i64 x, .int .i64 y]) = some l → Maps.has D l = S x y
theorem SetP.made (w : World) : SetP (w.alloc (.map #[] 0)) w.heap.size 0 (fun _ _ => false) :=
 ⟨.map [], World.ownsMap_made _ _ _ _, rfl, fun _ _ _ _ => rfl⟩
theorem wpList_setp_put {w : World} {ops : Array Oper} {rest : List Oper} {o : Oper} {a : Act} {Q : Exit → Act → World → Prop} (hg : o.guard = none) (m x y : Operand) (t e : TypeId) (hop : o.op = Op.mapUpdate t m x y)
  (ht : Try.prog.underlying t = some (.map 80 e))
  (b n : Nat) (S : Int → Int → Bool) (hm : a.eval m = .map (some b)) (hs : SetP w b n S) (c d : Int) (hx : a.eval x = .agg #[.int .i64 c, .int .i64 d]) (v : Value) (hy : a.eval y = v) (hw : (Lit.int .i64 c).wf = true) (hw2 : (Lit.int .i64 d).wf = true) (hn : n ≤ 1000000)
  (hK : ∀ w', Hid (SetP w' b (if S c d = true then n else n + 1) (fun x y => decide (x = c ∧ y = d) || S x y)) → Hid (w.grownBy w' (some b)) → wpList Try.prog ops Q rest (a.put o.dst undef) w') : wpList Try.prog ops Q (o :: rest) a w := by
 obtain ⟨D, h1, hsz, h3⟩ := hs
 have h2 := h1.isMap
 have ht2 := h1.tidy ts_keyed
 obtain ⟨l, hl⟩ := start_key hw hw2
 refine wpList_mapUpdate_own w hg m x y t hop 80 e ts_keyed ht heldE b n D hm h1 (by unfold maxLen; omega) _ _ _ hx hy hl (.held v) [] rfl ?_
 intro w' h4 h5
 have hsz2 : Maps.size (D.put l (.held v)) = if S c d = true then n else n + 1 := by
  rw [size_put ht2, h3 c d l hl, hsz]
 refine hK w' (Lib.hid ⟨_, ?_, hsz2, fun x y l2 hl2 => ?_⟩) (Lib.hid h5)
 ·obtain ⟨es, clock, hb, F, hes, hD⟩ := h4
  refine ⟨es, clock, hb, F, ?_, hD⟩
  have : es.size = Maps.size (D.put l (.held v)) := by rw [hD, size_eq, length_sorted]; simp
  omega
 ·by_cases hxc : x = c ∧ y = d
  ·obtain ⟨rfl, rfl⟩ := hxc
   rw [hl] at hl2
   obtain rfl := Option.some.inj hl2
   rw [has_put_same h2 (ts_keyed.key hl)]
   simp
  ·have hne : l2 ≠ l := by
    rintro rfl
    have := ts_keyed.inj hl2 hl
    simp at this
    exact hxc this
   rw [has_put_other hne, h3 x y l2 hl2]
   show S x y = (decide (x = c ∧ y = d) || S x y)
   rw [decide_eq_false hxc]; rfl
open Go.RowKit
theorem rvd_any (n : Int) (w : World) : Calls Try.prog 27 #[.int .i64 n] w fun e w' => e = .returned (.bool (vdB n)) ∧ w = w' := by
 unfold vdB
 by_cases h1 : (-25567 : Int) ≤ n
 ·rw [decide_eq_true h1]
  go_enter Try.func27, Try.ntmps27
  go_wp2
  go_ret
  exact ⟨rfl, rfl⟩
 ·rw [decide_eq_false h1]
  have h3 : decide ((-25567 : Int) ≤ n) = false := decide_eq_false h1
  clear h1
  go_enter Try.func27, Try.ntmps27
  go_wp2
  go_ret
  exact ⟨rfl, rfl⟩
open Go.RowKit Go.Maps
set_option maxRecDepth 20000 in
set_option maxHeartbeats 3200000 in
theorem clnk_any (l : Lnk) (A C : Option Addr) (cp d : Nat) (L c : List Acc) (w : World) (hz : AccAt w A L) (hy : AccAt w C c) (hl : L.length ≤ 1000) (hm : c.length ≤ 1000) :
  Calls Try.prog 23 #[lnkV l, .slice A L.length cp, .slice C c.length d] w fun e w' => e = .returned (.bool (lnkB L c l)) ∧ Below w.heap.size w w' := by
 have hB := below_alloc_new (w := w) (.cells #[.int .i64 l.frm, .int .i64 l.tgt, .int .i64 l.since] 46)
 have HL := Lib.hid (lb_new w 46 l)
 have HZ := Lib.hid (hz.up hB)
 have HY := Lib.hid (hy.up hB)
 have hf := fun w h => cfind_any A cp L l.frm w h hl
 have hg := fun w h => cfind_any C d c l.tgt w h hm
 have hv := fun w => vd_any l.since w
 have hE : lnkB L c l = ((fnd L l.frm).isSome && ((fnd c l.tgt).isSome && (decide ((fndA L l.frm).kind = (fndA c l.tgt).kind) && vdB l.since))) := rfl
 generalize lnkB L c l = r at *
 generalize (fnd L l.frm).isSome = q1 at *
 generalize (fnd c l.tgt).isSome = q2 at *
 generalize fndA L l.frm = fa at *
 generalize fndA c l.tgt = fb at *
 generalize vdB l.since = q4 at *
 obtain ⟨q3, hq3⟩ : ∃ q3, decide (fa.kind = fb.kind) = q3 := ⟨_, rfl⟩
 have e3 : (fa.kind == fb.kind) = q3 := by rw [← hq3, Bool.eq_iff_iff]; simp
 rw [hq3] at hE
 generalize L.length = n at *
 generalize c.length = m at *
 obtain ⟨⟨v0, v1, v2⟩, vlt⟩ := HL.out
 simp only [Nat.zero_add] at v1 v2
 have HF := Lib.hid hf
 have HG := Lib.hid hg
 have HV := Lib.hid hv
 have HE := Lib.hid hE
 clear hf hg hv hE hq3 hz hy
 cases q1 <;> cases q2 <;> cases q3
 all_goals
  go_enter Try.func23, Try.ntmps23
  go_wp2_with (first
   | (go_at_call 29; first
    | ((with_reducible refine (HF.out _ HZ.out).mono ?_); rintro e w2 ⟨rfl, hb⟩; have HA := Lib.hid (ab_new w2 50 fa); replace HL := Lib.hid ((HL.out.up hb).up (below_alloc_new (.cells #[.int .i64 fa.code, .int .i64 fa.kind, .int .i64 fa.basis, .int .i64 fa.par] 50))); replace HY := Lib.hid ((HY.out.up hb).up (below_alloc_new (.cells #[.int .i64 fa.code, .int .i64 fa.kind, .int .i64 fa.basis, .int .i64 fa.par] 50))); replace hB := below_new (below_more hB hb) (.cells #[.int .i64 fa.code, .int .i64 fa.kind, .int .i64 fa.basis, .int .i64 fa.par] 50); clear hb v0 v1 v2 vlt; obtain ⟨⟨v0, v1, v2⟩, vlt⟩ := HL.out; simp only [Nat.zero_add] at v1 v2)
    | ((with_reducible refine (HG.out _ HY.out).mono ?_); rintro e w3 ⟨rfl, hb⟩; have HA3 := Lib.hid (ab_new w3 50 fb); replace HA := Lib.hid ((HA.out.up hb).up (below_alloc_new (.cells #[.int .i64 fb.code, .int .i64 fb.kind, .int .i64 fb.basis, .int .i64 fb.par] 50))); replace HL := Lib.hid ((HL.out.up hb).up (below_alloc_new (.cells #[.int .i64 fb.code, .int .i64 fb.kind, .int .i64 fb.basis, .int .i64 fb.par] 50))); replace hB := below_new (below_more hB hb) (.cells #[.int .i64 fb.code, .int .i64 fb.kind, .int .i64 fb.basis, .int .i64 fb.par] 50); clear hb v0 v1 v2 vlt; obtain ⟨⟨v0, v1, v2⟩, vlt⟩ := HL.out; simp only [Nat.zero_add] at v1 v2; obtain ⟨⟨x0, x1, x2, x3⟩, xlt, -⟩ := HA.out; obtain ⟨⟨y0, y1, y2, y3⟩, ylt, -⟩ := HA3.out; simp only [Nat.zero_add] at x1 x2 x3 y1 y2 y3))
   | (go_at_call 28; refine (HV.out _).mono ?_; rintro e w4 ⟨rfl, rfl⟩))
  go_ret
  exact ⟨by rw [HE.out]; rfl, hB⟩
theorem wpList_setp_len {w : World} {ops : Array Oper} {rest : List Oper} {o : Oper} {a : Act} {Q : Exit → Act → World → Prop} (hg : o.guard = none) (m : Operand) (t e : TypeId) (hop : o.op = Op.call { callee := Callee.builtin Builtin.len, args := #[m], argTypes := #[t] })
  (ht : Try.prog.underlying t = some (.map 80 e)) (b n : Nat) (S : Int → Int → Bool) (hm : a.eval m = .map (some b)) (hs : SetP w b n S)
  (hK : wpList Try.prog ops Q rest (a.put o.dst (.int .i64 (n : Int))) w) : wpList Try.prog ops Q (o :: rest) a w := by
 obtain ⟨D, h1, hsz, h3⟩ := hs
 refine wpList_len_own w hg m t hop 80 e ht heldE b n D hm h1 ?_
 rw [hsz]; exact hK
structure DI (K : List Lnk) (k m : Nat) (S : Int → Int → Bool) : Prop where
 mem : ∀ x y, S x y = true ↔ ∃ i, i < k ∧ (K.getD i lnk0).frm = x ∧ (K.getD i lnk0).since = y
 le : m ≤ k
 iff : m = k ↔ allTo (dfB K) k = true
theorem DI.start {K : List Lnk} : DI K 0 0 (fun _ _ => false) := ⟨fun x y => by simp, Nat.le_refl _, by simp [allTo]⟩
set_option maxRecDepth 20000 in
set_option maxHeartbeats 3200000 in
theorem cdist_any (A : Option Addr) (cp : Nat) (K : List Lnk) (w : World) (hz : LnkAt w A K) (hl : K.length ≤ 1000) (hw : ∀ l ∈ K, WfL l) :
  Calls Try.prog 24 #[.slice A K.length cp] w fun e w' => e = .returned (.bool (allTo (dfB K) K.length)) ∧ Below w.heap.size w w' := by
 have hB := below_alloc_new (w := w) (.map #[] 0)
 have hM := SetP.made w
 obtain ⟨q, hq⟩ : ∃ q, allTo (dfB K) K.length = q := ⟨_, rfl⟩
 rw [hq]
 obtain ⟨n, hn⟩ : ∃ n, K.length = n := ⟨_, rfl⟩
 obtain ⟨s0, hs0⟩ : ∃ s0, w.heap.size = s0 := ⟨_, rfl⟩
 rw [hn] at hl hq ⊢
 rw [hs0] at hB hM ⊢
 have HN := Lib.hid hn
 have HZ := Lib.hid hz
 have HW := Lib.hid hw
 have HS0 := Lib.hid hs0
 have HM := Lib.hid hM
 have HQ := Lib.hid hq
 have hmm := @run_makeMap Try.prog
 clear hn hz hw hM hq
 go_enter Try.func24, Try.ntmps24
 go_wp2_with fail
 clear hs0
 go_loopg [9] n (fun kx s9 wr => ∃ (k m : Nat) (S : Int → Int → Bool), s9 = .int .i64 k ∧ k ≤ n ∧ n - k ≤ kx ∧ Hid (DI K k m S) ∧ Hid (SetP wr s0 m S) ∧ Below s0 w wr)
 case atStart => exact ⟨0, 0, _, rfl, by omega, by omega, Lib.hid DI.start, HM, hB⟩
 case round =>
  clear hB HM
  obtain ⟨k, m, S, rfl, hk, hkx, HD, HM, hB⟩ := hrel
  by_cases hlt : k < n
  ·have hltz : (k : Int) < (n : Int) := by omega
   have hsz : s0 ≤ wr.heap.size := by have := hB.size; have := HS0.out; omega
   obtain ⟨b, off, rfl, hbw, hcs⟩ := HZ.out (by rw [HN.out]; omega)
   obtain ⟨c0, c1, c2⟩ := (hcs k (by rw [HN.out]; exact hlt)).up hB (by have := HS0.out; omega)
   obtain ⟨x, hx⟩ : ∃ x, K.getD k lnk0 = x := ⟨_, rfl⟩
   rw [hx] at c0 c1 c2
   have HWX := Lib.hid (HW.out x (by rw [← hx]; exact getD_mem_acc (by rw [HN.out]; exact hlt)))
   have HDS := Lib.hid (HD.out.step hx)
   have hm1 : m ≤ 1000 := by have := HD.out.le; omega
   have HM1 := Lib.hid (HM.out.up (below_alloc_new (.cells #[.int .i64 x.frm, .int .i64 x.tgt, .int .i64 x.since] 46)))
   have hB1 : Below s0 w (wr.alloc (.cells #[.int .i64 x.frm, .int .i64 x.tgt, .int .i64 x.since] 46)) := hB.alloc hsz _
   have hsm := HM.out.lt
   clear hx hcs
   go_wp2_with (at_mapUpdate; refine wpList_setp_put rfl _ _ _ _ 4 rfl Try.underlying78 s0 m S rfl HM1.out x.frm x.since rfl _ rfl HWX.out.frm HWX.out.since (by omega) ?_; intro w2 hm2 hg2; have hb2 := grown_below hB1 hg2.out (Nat.le_refl _) (by simp; omega); clear hg2)
   go_roundg (n - (k + 1))
   case measure => omega
   case rel => exact ⟨k + 1, _, _, by go_num, by omega, by omega, HDS, hm2, hb2⟩
  ·obtain rfl : k = n := by omega
   have hltz : ¬ (k : Int) < (k : Int) := by omega
   have e9 : ((m : Int) == (k : Int)) = q := by
    rw [← HQ.out]
    have h1 := HD.out.iff
    cases h2 : allTo (dfB K) k with
    | true => rw [h2] at h1; have := h1.2 rfl; subst this; simp
    | false => rw [h2] at h1; simp; intro h3; have := h1.1 (by omega); cases this
   go_wp2_with (at_len; refine wpList_setp_len rfl _ _ 4 rfl Try.underlying78 s0 m S rfl HM.out ?_)
   go_ret
   exact ⟨rfl, hB⟩
open Go.ChangeShapes Go.WideShapes Go.ChangeAt Go.WideMaps Go.WideElems Go.RowKit Go.Deep Go.Joins
section
variable {H : Type} {enc : TypeId × Value → H} {P : Program} {W : World}
end
section
variable {H : Type} {enc : TypeId × Value → H} {W : World}
set_option maxRecDepth 100000 in
theorem open_ient {b0 : Nat} {v : Value} {d : DataW H} {p : List MemPlace} (hval : Value.okWide Try.prog W .any b0 25 v) (h : DataW.Trod enc Try.prog W 0 (fun _ => true) true 25 v d p) :
  ∃ nm cur A n c L B m d K jt, v = entV nm cur A n c B m d jt ∧ EntK W A n L B m K := by
 obtain ⟨cs, rfl, hsz⟩ := okWide_struct Try.underlying25 hval
 obtain ⟨fuel, hf⟩ := h
 obtain ⟨nm, cur, A, n, c, L, B, m, d, K, jt, hcs, hk⟩ := open_entC hf
 refine ⟨nm, cur, A, n, c, L, B, m, d, K, jt, ?_, hk⟩
 have h2 : cs.toList = [.string nm, .string cur, .slice A n c, .slice B m d, .bool jt] := by simpa [Value.cells] using hcs
 rw [entV, ← Array.toArray_toList (xs := cs), h2]
end
open Go.RowKit
def BestAt (links : List Lnk) (o : Option Lnk) (z : Int) : Prop := (o = none ∧ z = -1) ∨ ∃ (l : Lnk) (j : Nat), o = some l ∧ z = (j : Int) ∧ j < links.length ∧ links.getD j lnk0 = l
set_option maxRecDepth 20000 in
set_option maxHeartbeats 3200000 in
theorem rat9_any (nm cur : ByteArray) (A : Option Addr) (c : Nat) (L : List Acc) (B : Option Addr) (d : Nat) (K : List Lnk) (jt : Bool) (code day : Int) (w : World) (hz : AccAt w A L) (hy : LnkAt w B K) (hl : L.length ≤ 1000) (hm : K.length ≤ 1000) :
  Calls Try.prog 14 #[entV nm cur A L.length c B K.length d jt, .int .i64 code, .int .i64 day] w fun e w' => e = .returned (.tuple #[.int .i64 (atV L K code day), .int .i64 (atE L K code day)]) ∧ Below w.heap.size w w' := by
 have hn := eb_new w 25 nm cur A L.length c B K.length d jt
 have hB := below_alloc_new (w := w) (.cells #[.string nm, .string cur, .slice A L.length c, .slice B K.length d, .bool jt] 25)
 have HEB := Lib.hid hn
 have hz2 := hz.up hB
 have hy2 := hy.up hB
 have hf := rfind_any A c L code _ hz2 hl
 have hv := fun w => rvd_any day w
 have hE : atE L K code day = if vdB day = true then if (fnd L code).isSome = true then match atO K code day with
  | none => 15
  | some _ => 0
 else 8 else 2 := rfl
 have hV : atV L K code day = if vdB day = true then if (fnd L code).isSome = true then match atO K code day with
  | none => 0
  | some l => l.tgt
 else 0 else 0 := rfl
 generalize atE L K code day = re at *
 generalize atV L K code day = rv at *
 generalize fndA L code = fa at *
 generalize L.length = n at *
 obtain ⟨m, hm2⟩ : ∃ m, K.length = m := ⟨_, rfl⟩
 rw [hm2] at hm HEB hB hf hy2 hz2 hn ⊢
 have HM := Lib.hid hm2
 obtain ⟨c0, c1, c2, c3, c4, lt⟩ := hn
 clear hm2 hz hy
 cases hq : vdB day
 ·rw [hq] at hv hE hV
  have HE := Lib.hid hE
  have HV := Lib.hid hV
  have HVd := Lib.hid hv
  clear hv hE hV hq hf hy2 hz2
  go_enter Try.func14, Try.ntmps14
  go_wp2_with (go_at_call 27; refine (HVd.out _).mono ?_; rintro e w1 ⟨rfl, rfl⟩)
  go_ret2
  exact ⟨by rw [HE.out, HV.out]; rfl, hB⟩
 rw [hq, if_pos rfl] at hE hV
 rw [hq] at hv
 have HVd := Lib.hid hv
 clear hq hv
 cases hfs : (fnd L code).isSome
 ·rw [hfs] at hf hE hV
  have HE := Lib.hid hE
  have HV := Lib.hid hV
  have HF := Lib.hid hf
  clear hE hV hf hfs hy2 hz2
  go_enter Try.func14, Try.ntmps14
  go_wp2_with (first
   | (go_at_call 27; refine (HVd.out _).mono ?_; rintro e w1 ⟨rfl, rfl⟩)
   | (go_at_call 26; refine HF.out.mono ?_; rintro e w2 ⟨rfl, hb⟩; replace hB := below_new (below_more hB hb) (.cells #[.int .i64 fa.code, .int .i64 fa.kind, .int .i64 fa.basis, .int .i64 fa.par] 50); clear hb))
  go_ret2
  exact ⟨by rw [HE.out, HV.out]; rfl, hB⟩
 rw [hfs, if_pos rfl] at hE hV
 rw [hfs] at hf
 have HE := Lib.hid hE
 have HV := Lib.hid hV
 have HF := Lib.hid hf
 have HY := Lib.hid hy2
 clear hE hV hf hfs hy2 hz2
 go_enter Try.func14, Try.ntmps14
 go_wp2_with (first
  | (go_at_call 27; refine (HVd.out _).mono ?_; rintro e w1 ⟨rfl, rfl⟩)
  | (go_at_call 26; refine HF.out.mono ?_; rintro e w2 ⟨rfl, hb⟩; replace HEB := Lib.hid ((HEB.out.up hb).up (below_alloc_new (.cells #[.int .i64 fa.code, .int .i64 fa.kind, .int .i64 fa.basis, .int .i64 fa.par] 50))); replace HY := Lib.hid ((HY.out.up hb).up (below_alloc_new (.cells #[.int .i64 fa.code, .int .i64 fa.kind, .int .i64 fa.basis, .int .i64 fa.par] 50))); replace hB := below_new (below_more hB hb) (.cells #[.int .i64 fa.code, .int .i64 fa.kind, .int .i64 fa.basis, .int .i64 fa.par] 50); clear hb c0 c1 c2 c3 c4 lt; obtain ⟨c0, c1, c2, c3, c4, lt⟩ := HEB.out))
 obtain ⟨ge, hge⟩ : ∃ ge, w.heap.size = ge := ⟨_, rfl⟩
 rw [hge] at HEB ⊢
 generalize World.alloc w2 _ = W2 at *
 clear c0 c1 c2 c3 c4 lt HF HVd
 go_loopg [10, 11] m (fun kx s10 s11 wr => ∃ (k : Nat) (z : Int), s10 = .int .i64 z ∧ s11 = .int .i64 k ∧ k ≤ m ∧ m - k ≤ kx ∧ Hid (BestAt K (atO (K.take k) code day) z) ∧ Hid (EB wr ge nm cur A n c B m d jt) ∧ Hid (LnkAt wr B K) ∧ Below ge w wr)
 case atStart => exact ⟨0, -1, rfl, rfl, by omega, by omega, Lib.hid (.inl ⟨rfl, rfl⟩), HEB, HY, by rw [← hge]; exact hB⟩
 case round =>
  clear HEB HY hB
  obtain ⟨k, z, rfl, rfl, hk, hkx, HBA, HEB, HY, hB⟩ := hrel
  by_cases hlt : k < m
  ·have hltz : (k : Int) < (m : Int) := by omega
   obtain ⟨b, off, rfl, hbw, hcs⟩ := HY.out (by rw [HM.out]; omega)
   have l3 := hcs k (by rw [HM.out]; exact hlt)
   have hst := atO_succ (links := K) (code := code) (day := day) (k := k) (by rw [HM.out]; exact hlt)
   obtain ⟨l, hle⟩ : ∃ l, K.getD k lnk0 = l := ⟨_, rfl⟩
   rw [hle] at l3 hst
   have HLE := Lib.hid hle
   have HST := Lib.hid hst
   have HCS := Lib.hid hcs
   have hgs : ge ≤ wr.heap.size := by have := hB.size; omega
   have HB3 : Hid (Below ge w (wr.alloc (.cells #[.int .i64 l.frm, .int .i64 l.tgt, .int .i64 l.since] 46))) := Lib.hid (hB.alloc hgs _)
   have hW := below_alloc_new (w := wr) (.cells #[.int .i64 l.frm, .int .i64 l.tgt, .int .i64 l.since] 46)
   have HE3 := Lib.hid (HEB.out.up hW)
   have HY3 := Lib.hid (HY.out.up hW)
   have HL3 := Lib.hid (lb_new wr 46 l)
   have HCS3 : Hid (∀ i, i < K.length → L3 (wr.alloc (.cells #[.int .i64 l.frm, .int .i64 l.tgt, .int .i64 l.since] 46)) b (off + i * 3) (K.getD i lnk0)) := Lib.hid (fun i hi => (hcs i hi).up hW hbw)
   obtain ⟨⟨v0, v1, v2⟩, vlt⟩ := HL3.out
   simp only [Nat.zero_add] at v1 v2
   obtain ⟨c0, c1, c2, c3, c4, lt⟩ := HE3.out
   obtain ⟨d0, d1, d2⟩ := l3
   have eEB := HEB.out.c3
   clear hcs hle hst hW
   by_cases h1 : l.frm = code
   ·have q1 : (l.frm == code) = true := by simp [h1]
    rcases Int.lt_or_le day l.since with h2 | h2
    ·have q2 : decide (l.since ≤ day) = false := decide_eq_false (by omega)
     have hh : atHit code day (atO (K.take k) code day) l = false := by unfold atHit; rw [q2]; simp
     clear h1 h2
     have HBS : Hid (BestAt K (atO (K.take (k + 1)) code day) z) := Lib.hid (by rw [HST.out]; unfold atStep; rw [hh]; exact HBA.out)
     clear hh
     go_wp2_with fail
     generalize World.alloc wr _ = W7 at *
     go_quiet (fail)
     have hB4 := below_drewN HB3.out nq
     have HE4 : Hid (EB (W7.drewN nq) ge nm cur A n c (some ⟨b, off, none⟩) m d jt) := Lib.hid ⟨HE3.out.c0, HE3.out.c1, HE3.out.c2, HE3.out.c3, HE3.out.c4, HE3.out.lt⟩
     have HY4 : Hid (LnkAt (W7.drewN nq) (some ⟨b, off, none⟩) K) := Lib.hid (HY3.out.up (below_drewN (Below.refl _ _) nq))
     clear v0 v1 v2 vlt c0 c1 c2 c3 c4 lt d0 d1 d2
     generalize World.drewN _ nq = W8 at *
     go_wp2_with fail
     go_roundg (m - (k + 1))
     case measure => omega
     case rel => exact ⟨k + 1, z, rfl, by go_num, by omega, by omega, HBS, HE4, HY4, hB4⟩
    ·have q2 : decide (l.since ≤ day) = true := decide_eq_true h2
     rcases HBA.out with ⟨ho, rfl⟩ | ⟨bl, j, ho, rfl, hjl, hje⟩
     ·have hh : atHit code day (atO (K.take k) code day) l = true := by unfold atHit; rw [ho, q2, decide_eq_true h1]; rfl
      clear h1 h2 ho
      have HBS : Hid (BestAt K (atO (K.take (k + 1)) code day) (k : Int)) := Lib.hid (by rw [HST.out]; unfold atStep; rw [hh]; exact .inr ⟨l, k, rfl, rfl, by rw [HM.out]; exact hlt, HLE.out⟩)
      clear hh
      go_wp2_with fail
      generalize World.alloc wr _ = W7 at *
      go_quiet (fail)
      have hB4 := below_drewN HB3.out nq
      have HE4 : Hid (EB (W7.drewN nq) ge nm cur A n c (some ⟨b, off, none⟩) m d jt) := Lib.hid ⟨HE3.out.c0, HE3.out.c1, HE3.out.c2, HE3.out.c3, HE3.out.c4, HE3.out.lt⟩
      have HY4 : Hid (LnkAt (W7.drewN nq) (some ⟨b, off, none⟩) K) := Lib.hid (HY3.out.up (below_drewN (Below.refl _ _) nq))
      clear v0 v1 v2 vlt c0 c1 c2 c3 c4 lt d0 d1 d2
      generalize World.drewN _ nq = W8 at *
      go_wp2_with fail
      go_roundg (m - (k + 1))
      case measure => omega
      case rel => exact ⟨k + 1, (k : Int), rfl, by go_num, by omega, by omega, HBS, HE4, HY4, hB4⟩
     ·have hjm : j < m := by rw [← HM.out]; exact hjl
      have hjz : (j : Int) < (m : Int) := by omega
      have q3 : decide ((j : Int) < 0) = false := decide_eq_false (by omega)
      obtain ⟨w0, w1, w2⟩ := HCS3.out j hjl
      rw [hje] at w0 w1 w2
      rcases Int.lt_or_le bl.since l.since with h3 | h3
      ·have q4 : decide (bl.since < l.since) = true := decide_eq_true h3
       have hh : atHit code day (atO (K.take k) code day) l = true := by unfold atHit; rw [ho, q2, decide_eq_true h1]; simpa using h3
       clear h1 h2 h3 ho hje hjl
       have HBS : Hid (BestAt K (atO (K.take (k + 1)) code day) (k : Int)) := Lib.hid (by rw [HST.out]; unfold atStep; rw [hh]; exact .inr ⟨l, k, rfl, rfl, by rw [HM.out]; exact hlt, HLE.out⟩)
       clear hh
       go_wp2_with fail
       generalize World.alloc wr _ = W7 at *
       go_quiet (fail)
       have hB4 := below_drewN HB3.out nq
       have HE4 : Hid (EB (W7.drewN nq) ge nm cur A n c (some ⟨b, off, none⟩) m d jt) := Lib.hid ⟨HE3.out.c0, HE3.out.c1, HE3.out.c2, HE3.out.c3, HE3.out.c4, HE3.out.lt⟩
       have HY4 : Hid (LnkAt (W7.drewN nq) (some ⟨b, off, none⟩) K) := Lib.hid (HY3.out.up (below_drewN (Below.refl _ _) nq))
       clear v0 v1 v2 vlt c0 c1 c2 c3 c4 lt d0 d1 d2
       generalize World.drewN _ nq = W8 at *
       go_wp2_with fail
       go_roundg (m - (k + 1))
       case measure => omega
       case rel => exact ⟨k + 1, (k : Int), rfl, by go_num, by omega, by omega, HBS, HE4, HY4, hB4⟩
      ·have q4 : decide (bl.since < l.since) = false := decide_eq_false (by omega)
       have hh : atHit code day (atO (K.take k) code day) l = false := by unfold atHit; rw [ho, q2, decide_eq_true h1]; simp; omega
       clear h1 h2 h3 ho hje hjl
       have HBS : Hid (BestAt K (atO (K.take (k + 1)) code day) (j : Int)) := Lib.hid (by rw [HST.out]; unfold atStep; rw [hh]; exact HBA.out)
       clear hh
       go_wp2_with fail
       generalize World.alloc wr _ = W7 at *
       go_quiet (fail)
       have hB4 := below_drewN HB3.out nq
       have HE4 : Hid (EB (W7.drewN nq) ge nm cur A n c (some ⟨b, off, none⟩) m d jt) := Lib.hid ⟨HE3.out.c0, HE3.out.c1, HE3.out.c2, HE3.out.c3, HE3.out.c4, HE3.out.lt⟩
       have HY4 : Hid (LnkAt (W7.drewN nq) (some ⟨b, off, none⟩) K) := Lib.hid (HY3.out.up (below_drewN (Below.refl _ _) nq))
       clear v0 v1 v2 vlt c0 c1 c2 c3 c4 lt d0 d1 d2
       generalize World.drewN _ nq = W8 at *
       go_wp2_with fail
       go_roundg (m - (k + 1))
       case measure => omega
       case rel => exact ⟨k + 1, (j : Int), rfl, by go_num, by omega, by omega, HBS, HE4, HY4, hB4⟩
   ·have q1 : (l.frm == code) = false := by simp [h1]
    have hh : atHit code day (atO (K.take k) code day) l = false := by unfold atHit; rw [decide_eq_false h1]; rfl
    clear h1
    have HBS : Hid (BestAt K (atO (K.take (k + 1)) code day) z) := Lib.hid (by rw [HST.out]; unfold atStep; rw [hh]; exact HBA.out)
    clear hh
    go_wp2_with fail
    generalize World.alloc wr _ = W7 at *
    go_quiet (fail)
    have hB4 := below_drewN HB3.out nq
    have HE4 : Hid (EB (W7.drewN nq) ge nm cur A n c (some ⟨b, off, none⟩) m d jt) := Lib.hid ⟨HE3.out.c0, HE3.out.c1, HE3.out.c2, HE3.out.c3, HE3.out.c4, HE3.out.lt⟩
    have HY4 : Hid (LnkAt (W7.drewN nq) (some ⟨b, off, none⟩) K) := Lib.hid (HY3.out.up (below_drewN (Below.refl _ _) nq))
    clear v0 v1 v2 vlt c0 c1 c2 c3 c4 lt d0 d1 d2
    generalize World.drewN _ nq = W8 at *
    go_wp2_with fail
    go_roundg (m - (k + 1))
    case measure => omega
    case rel => exact ⟨k + 1, z, rfl, by go_num, by omega, by omega, HBS, HE4, HY4, hB4⟩
  ·obtain rfl : k = m := by omega
   have hltz : ¬ (k : Int) < (k : Int) := by omega
   have hall : atO (K.take k) code day = atO K code day := by rw [List.take_of_length_le (by rw [HM.out]; omega)]
   have hba := HBA.out
   rw [hall] at hba
   obtain ⟨c0, c1, c2, c3, c4, lt⟩ := HEB.out
   rcases hba with ⟨ho, rfl⟩ | ⟨bl, j, ho, rfl, hjl, hje⟩
   ·have h1 := HE.out
    have h2 := HV.out
    rw [ho] at h1 h2
    have E1 := Lib.hid h1
    have E2 := Lib.hid h2
    clear h1 h2 ho hall
    go_wp2_with fail
    go_ret2
    exact ⟨by rw [E1.out, E2.out]; rfl, hB⟩
   ·have h1 := HE.out
    have h2 := HV.out
    rw [ho] at h1 h2
    have E1 := Lib.hid h1
    have E2 : Hid (rv = bl.tgt) := Lib.hid h2
    have q3 : decide ((j : Int) < 0) = false := decide_eq_false (by omega)
    have hjm : j < k := by rw [← HM.out]; exact hjl
    have hjz : (j : Int) < (k : Int) := by omega
    obtain ⟨b, off, rfl, hbw, hcs⟩ := HY.out (by rw [HM.out]; omega)
    obtain ⟨w0, w1, w2⟩ := hcs j hjl
    rw [hje] at w0 w1 w2
    clear h1 h2 ho hall hcs hje hjl
    go_wp2_with fail
    go_ret2
    exact ⟨by rw [E1.out, E2.out]; rfl, hB⟩
end Go.Proofs.Ytmahnpbjjadipaa
namespace Go.Proofs
open Go.Shelf
def Try.keys35_ren : Go.Shelf.Ren := ⟨fun | 7 => 35 | 10 => 52 | n => n, fun | 23 => 61 | 26 => 3 | 3 => 4 | 28 => 64 | 0 => 0 | 27 => 63 | 33 => 56 | 4 => 4 | n => n, fun | n => n⟩
theorem Try.keys35 : Go.Proofs.SlLaysZI.n7 Try.prog Try.keys35_ren := {
 mixed := by kernel_rfl
 f7 := ⟨Try.f35.name, by decide, Try.func35.trans (congrArg some (by kernel_rfl))⟩
 f10 := ⟨Try.f52.name, by decide, Try.func52.trans (congrArg some (by kernel_rfl))⟩
 t0 := Try.underlying0
 a0 := Try.isAgg0
 z0 := Try.sizeOf0
 v0 := Try.zeroValue0
 t4 := Try.underlying4
 a4 := Try.isAgg4
 z4 := Try.sizeOf4
 v4 := Try.zeroValue4
 t23 := Try.underlying61
 a23 := Try.isAgg61
 z23 := Try.sizeOf61
 v23 := Try.zeroValue61
 t26 := Try.underlying3
 a26 := Try.isAgg3
 z26 := Try.sizeOf3
 v26 := Try.zeroValue3
 t27 := Try.underlying63
 a27 := Try.isAgg63
 z27 := Try.sizeOf63
 v27 := Try.zeroValue63
 t28 := Try.underlying64
 a28 := Try.isAgg64
 z28 := Try.sizeOf64
 v28 := Try.zeroValue64
 t33 := Try.underlying56
 a33 := Try.isAgg56
 z33 := Try.sizeOf56
 v33 := Try.zeroValue56 }
def Try.sorted34_ren : Go.Shelf.Ren := ⟨fun | 6 => 34 | 8 => 50 | 9 => 51 | 11 => 57 | 13 => 59 | 12 => 58 | 23 => 72 | 24 => 73 | 14 => 63 | 15 => 64 | 16 => 65 | 17 => 66 | 18 => 67 | 19 => 68 | 20 => 69 | 21 => 70 | 22 => 71 | 25 => 74 | 26 => 75 | 27 => 76 | 28 => 77 | 29 => 78 | 30 => 49 | 31 => 79 | n => n, fun | 26 => 3 | 28 => 64 | 24 => 33 | 0 => 0 | 3 => 3 | 37 => 92 | 48 => 104 | 50 => 106 | 4 => 4 | 40 => 97 | 39 => 96 | 45 => 85 | 5 => 5 | 9 => 9 | 51 => 107 | 55 => 111 | 57 => 113 | 58 => 114 | 33 => 56 | n => n, fun | n => n⟩
theorem Try.sorted34 : Go.Proofs.SlLaysZI.n6 Try.prog Try.sorted34_ren := {
 mixed := by kernel_rfl
 f6 := ⟨Try.f34.name, by decide, Try.func34.trans (congrArg some (by kernel_rfl))⟩
 f8 := ⟨Try.f50.name, by decide, Try.func50.trans (congrArg some (by kernel_rfl))⟩
 f11 := ⟨Try.f57.name, by decide, Try.func57.trans (congrArg some (by kernel_rfl))⟩
 t0 := Try.underlying0
 a0 := Try.isAgg0
 z0 := Try.sizeOf0
 v0 := Try.zeroValue0
 t24 := Try.underlying33
 a24 := Try.isAgg33
 z24 := Try.sizeOf33
 v24 := Try.zeroValue33
 t26 := Try.underlying3
 a26 := Try.isAgg3
 z26 := Try.sizeOf3
 v26 := Try.zeroValue3
 t28 := Try.underlying64
 a28 := Try.isAgg64
 z28 := Try.sizeOf64
 v28 := Try.zeroValue64
 i26 := by kernel_rfl }
def Try.sort51_ren : Go.Shelf.Ren := ⟨fun | 5 => 51 | 8 => 59 | 7 => 58 | 19 => 72 | 20 => 73 | 10 => 63 | 11 => 64 | 12 => 65 | 13 => 66 | 14 => 67 | 15 => 68 | 16 => 69 | 17 => 70 | 18 => 71 | 30 => 74 | 31 => 75 | 32 => 76 | 33 => 77 | 34 => 78 | 35 => 49 | 40 => 79 | n => n, fun | 23 => 33 | 25 => 3 | 3 => 3 | 32 => 92 | 22 => 33 | 0 => 0 | 44 => 104 | 46 => 106 | 4 => 4 | 36 => 97 | 35 => 96 | 41 => 85 | 5 => 5 | 9 => 9 | 53 => 107 | 57 => 111 | 63 => 113 | 64 => 114 | n => n, fun | n => n⟩
theorem Try.sort51 : Go.Proofs.SlLaysM.n5 Try.prog Try.sort51_ren := {
 mixed := by kernel_rfl
 f5 := ⟨Try.f51.name, by decide, Try.func51.trans (congrArg some (by kernel_rfl))⟩
 f7 := ⟨Try.f58.name, by decide, Try.func58.trans (congrArg some (by kernel_rfl))⟩
 f8 := Try.func59.trans (congrArg some (by kernel_rfl))
 f10 := ⟨Try.f63.name, by decide, Try.func63.trans (congrArg some (by kernel_rfl))⟩
 f11 := ⟨Try.f64.name, by decide, Try.func64.trans (congrArg some (by kernel_rfl))⟩
 f12 := ⟨Try.f65.name, by decide, Try.func65.trans (congrArg some (by kernel_rfl))⟩
 f13 := ⟨Try.f66.name, by decide, Try.func66.trans (congrArg some (by kernel_rfl))⟩
 f14 := ⟨Try.f67.name, by decide, Try.func67.trans (congrArg some (by kernel_rfl))⟩
 f15 := ⟨Try.f68.name, by decide, Try.func68.trans (congrArg some (by kernel_rfl))⟩
 f16 := ⟨Try.f69.name, by decide, Try.func69.trans (congrArg some (by kernel_rfl))⟩
 f17 := ⟨Try.f70.name, by decide, Try.func70.trans (congrArg some (by kernel_rfl))⟩
 f18 := ⟨Try.f71.name, by decide, Try.func71.trans (congrArg some (by kernel_rfl))⟩
 f19 := Try.func72.trans (congrArg some (by kernel_rfl))
 f20 := Try.func73.trans (congrArg some (by kernel_rfl))
 f30 := ⟨Try.f74.name, by decide, Try.func74.trans (congrArg some (by kernel_rfl))⟩
 f31 := Try.func75.trans (congrArg some (by kernel_rfl))
 f32 := Try.func76.trans (congrArg some (by kernel_rfl))
 f33 := ⟨Try.f77.name, by decide, Try.func77.trans (congrArg some (by kernel_rfl))⟩
 f34 := ⟨Try.f78.name, by decide, Try.func78.trans (congrArg some (by kernel_rfl))⟩
 f35 := ⟨Try.f49.name, by decide, Try.func49.trans (congrArg some (by kernel_rfl))⟩
 f40 := ⟨Try.f79.name, by decide, Try.func79.trans (congrArg some (by kernel_rfl))⟩
 t0 := Try.underlying0
 a0 := Try.isAgg0
 z0 := Try.sizeOf0
 v0 := Try.zeroValue0
 t3 := Try.underlying3
 a3 := Try.isAgg3
 z3 := Try.sizeOf3
 v3 := Try.zeroValue3
 t4 := Try.underlying4
 a4 := Try.isAgg4
 z4 := Try.sizeOf4
 v4 := Try.zeroValue4
 t5 := Try.underlying5
 a5 := Try.isAgg5
 z5 := Try.sizeOf5
 v5 := Try.zeroValue5
 t9 := Try.underlying9
 a9 := Try.isAgg9
 z9 := Try.sizeOf9
 v9 := Try.zeroValue9
 t22 := Try.underlying33
 a22 := Try.isAgg33
 z22 := Try.sizeOf33
 v22 := Try.zeroValue33
 t23 := Try.underlying33
 a23 := Try.isAgg33
 z23 := Try.sizeOf33
 v23 := Try.zeroValue33
 t25 := Try.underlying3
 a25 := Try.isAgg3
 z25 := Try.sizeOf3
 v25 := Try.zeroValue3
 t32 := Try.underlying92
 a32 := Try.isAgg92
 z32 := Try.sizeOf92
 v32 := Try.zeroValue92
 t35 := Try.underlying96
 a35 := Try.isAgg96
 z35 := Try.sizeOf96
 v35 := Try.zeroValue96
 t36 := Try.underlying97
 a36 := Try.isAgg97
 z36 := Try.sizeOf97
 v36 := Try.zeroValue97
 t41 := Try.underlying85
 a41 := Try.isAgg85
 z41 := Try.sizeOf85
 v41 := Try.zeroValue85
 t44 := Try.underlying104
 a44 := Try.isAgg104
 z44 := Try.sizeOf104
 v44 := Try.zeroValue104
 t46 := Try.underlying106
 a46 := Try.isAgg106
 z46 := Try.sizeOf106
 v46 := Try.zeroValue106
 t53 := Try.underlying107
 a53 := Try.isAgg107
 z53 := Try.sizeOf107
 v53 := Try.zeroValue107
 t57 := Try.underlying111
 a57 := Try.isAgg111
 z57 := Try.sizeOf111
 v57 := Try.zeroValue111
 t63 := Try.underlying113
 a63 := Try.isAgg113
 z63 := Try.sizeOf113
 v63 := Try.zeroValue113
 t64 := Try.underlying114
 a64 := Try.isAgg114
 z64 := Try.sizeOf114
 v64 := Try.zeroValue114 }
end Go.Proofs
namespace Go.Proofs.Ytmahnpbjjadipaa
open Go.RowKit Go.Maps Go.Sort Go.Shelf
theorem sorts_any (m : Nat) : AnyZI.SortsIn Try.prog Try.sorted34_ren Fence.wide m :=
  ⟨fun blk off cap ss W hH hblk hsz => callsIn_wide.2 (AnyM.slices_Sort_int Try.sort51 blk off cap ss W hH hblk hsz),
   fun p cap W => callsIn_wide.2 (AnyM.slices_Sort_int_none Try.sort51 p cap W)⟩
theorem intKeys_is {w : World} {b n : Nat} {D : DataW Value} (hown : w.ownsMap Try.prog 3 heldE b n D) : (intKeys D).Nodup ∧ ∀ x, x ∈ intKeys D ↔ Maps.has D (.int .i64 x) = true := by
 obtain ⟨es, hD, hpw, _⟩ := hown.entries ti_keyed
 obtain ⟨es', hD', hko⟩ := hown.keysOf
 obtain rfl : es = es' := by rw [hD] at hD'; simpa using hD'
 subst hD
 have hk : ∀ p ∈ es, ∃ x, p.1 = Lit.int .i64 x := fun p hp => by obtain ⟨v, hv⟩ := hko p hp; obtain ⟨x, _, hx, _⟩ := Maps.keyOf_i64 Try.underlying3 hv; exact ⟨x, hx⟩
 refine ⟨?_, fun x => ?_⟩
 ·show (es.map fun p => Go.intOf p.1).Nodup
  refine List.pairwise_map.2 (hpw.imp_of_mem fun {p q} hp' hq' hne e => hne ?_)
  obtain ⟨a, ha⟩ := hk p hp'
  obtain ⟨b, hb⟩ := hk q hq'
  rw [ha, hb] at e ⊢
  exact congrArg _ e
 ·rw [has_eq, List.any_eq_true]
  show x ∈ es.map (fun p => Go.intOf p.1) ↔ _
  rw [List.mem_map]
  constructor
  ·rintro ⟨p, hp', rfl⟩
   obtain ⟨a, ha⟩ := hk p hp'
   exact ⟨p, hp', by rw [ha]; simp [Lit.sameKey, Go.intOf]⟩
  ·rintro ⟨p, hp', hs⟩
   obtain ⟨a, ha⟩ := hk p hp'
   rw [ha] at hs
   exact ⟨p, hp', by rw [ha]; simpa [Lit.sameKey, Go.intOf] using hs⟩
theorem keysb_any (b : Nat) (w : World) : Calls Try.prog 35 #[.map (some b)] w fun e w' => e = .returned (.func (.func 52) #[] #[.pointer (some ⟨w.heap.size, 0, none⟩)]) ∧ w' = w.alloc (.cells #[.map (some b)] 61) :=
 (callsIn_wide (n := 5)).1 (AnyZI.keys_in Try.keys35 Fence.wide 5 trivial rfl (some b) w)
set_option maxHeartbeats 1000000 in
theorem sortedb_any (b n : Nat) (f : Int → Option Value) (w : World) (h : MapV w b n f) (hn : n ≤ 1000000) :
  Calls Try.prog 34 #[.func (.func 52) #[] #[.pointer (some ⟨w.heap.size, 0, none⟩)]] (w.alloc (.cells #[.map (some b)] 61)) fun e w' => ∃ (v : Value) (L : List Int), e = .returned v ∧ SlI w' v L ∧ Asc L ∧ (∀ x, x ∈ L ↔ (f x).isSome = true) ∧ Below w.heap.size w w' := by
 obtain ⟨D, hown, hD⟩ := h
 obtain ⟨hnd, hmem⟩ := intKeys_is hown
 have hbl := hown.lt
 have hsz := hown.size_le
 have hseq : SeqGives Fence.wide 2 Try.prog 52 #[.pointer (some ⟨w.heap.size, 0, none⟩)] encZ (fun ss => ss.Perm (intKeys D)) (Maps.size D) (w.alloc (.cells #[.map (some b)] 61)) :=
  AnyZI.keys_gives (ρ := Try.keys35_ren) { Try.keys35 with } Fence.wide _ trivial rfl (by omega) w.heap.size b n D _ (by simp) (by simp) (by
   obtain ⟨es, clock, hb, Ft, hs, hD⟩ := hown
   exact ⟨es, clock, (Below.heap_alloc _ _ b hbl).trans hb, Ft, hs, hD⟩)
 have cS := AnyZI.sorted_in Try.sorted34 Fence.wide 5 trivial trivial trivial trivial rfl (by omega) (sorts_any _) (enters_of Try.func51 (by kernel_rfl) rfl) 52 #[.pointer (some ⟨w.heap.size, 0, none⟩)] trivial (enters_of Try.func52 (by kernel_rfl) rfl) _ _ (by unfold maxLen; omega) (by omega) _ hseq
 refine ((callsIn_wide (n := 5)).1 cS).mono ?_
 rintro e w' ⟨v, ss, rfl, hp, hrow, _, hb⟩
 have hnd2 : ss.Nodup := hp.nodup_iff.2 hnd
 have hpm := List.mergeSort_perm ss (fun x y => decide (x ≤ y))
 refine ⟨v, ss.mergeSort (fun x y => decide (x ≤ y)), rfl, ?_, sort_asc hnd2, fun x => ?_, ?_⟩
 ·refine OwnI.sli (e := 3) (base := (w.alloc (.cells #[.map (some b)] 61)).heap.size) ?_
  unfold OwnI
  rw [List.length_mergeSort]
  exact hrow
 ·rw [hpm.mem_iff, hp.mem_iff, hmem, (hD x).1]
 ·exact ((Below.refl _ w).alloc (Nat.le_refl _) _).trans (hb.mono (by simp))
open Go.RowKit Go.Maps
theorem mvB_no1 {L : List Acc} {K : List Lnk} {c : List Acc} (h : vB c true = false) : mvB L K c = false := by unfold mvB; rw [h]; rfl
theorem mvB_no2 {L : List Acc} {K : List Lnk} {c : List Acc} (h : vB L false = false) : mvB L K c = false := by unfold mvB; rw [h]; simp
theorem mvB_no3 {L : List Acc} {K : List Lnk} {c : List Acc} (h : 400 < K.length) : mvB L K c = false := by unfold mvB; rw [decide_eq_false (show ¬ K.length ≤ 400 by omega)]; simp
theorem mvB_no4 {L : List Acc} {K : List Lnk} {c : List Acc} {k : Nat} (hk : k < K.length) (h : lnkB L c (K.getD k lnk0) = false) : mvB L K c = false := by
 unfold mvB; rw [allTo_no (p := fun i => lnkB L c (K.getD i lnk0)) hk h]; simp
theorem mvB_end {L : List Acc} {K : List Lnk} {c : List Acc} (h1 : vB c true = true) (h2 : vB L false = true) (h3 : K.length ≤ 400) (h4 : allTo (fun i => lnkB L c (K.getD i lnk0)) K.length = true) : mvB L K c = allTo (dfB K) K.length := by
 unfold mvB; rw [h1, h2, decide_eq_true h3, h4]; rfl
set_option maxRecDepth 20000 in
set_option maxHeartbeats 3200000 in
theorem cval9_any (nm cur : ByteArray) (A : Option Addr) (cp : Nat) (L : List Acc) (B : Option Addr) (d : Nat) (K : List Lnk) (jt : Bool) (C : Option Addr) (cc : Nat) (c : List Acc) (w : World) (hz : AccAt w A L) (hy : LnkAt w B K) (hx : AccAt w C c) (hl : L.length ≤ 1000) (hm : K.length ≤ 1000) (hc : c.length ≤ 1000) (hw : ∀ l ∈ K, WfL l) :
  Calls Try.prog 11 #[entV nm cur A L.length cp B K.length d jt, .slice C c.length cc] w fun e w' => e = .returned (.bool (mvB L K c)) ∧ Below w.heap.size w w' := by
 have hn := eb_new w 25 nm cur A L.length cp B K.length d jt
 have hB := below_alloc_new (w := w) (.cells #[.string nm, .string cur, .slice A L.length cp, .slice B K.length d, .bool jt] 25)
 have HEB := Lib.hid hn
 have HZ := Lib.hid (hz.up hB)
 have HY := Lib.hid (hy.up hB)
 have HX := Lib.hid (hx.up hB)
 have h1 := fun w h => cvalid8_any C cc c true w h hc
 have h2 := fun w h => cvalid8_any A cp L false w h hl
 have h3 := fun l w h h' => clnk_any l A C cp cc L c w h h' hl hc
 have h4 := fun w h => cdist_any B d K w h hm hw
 have N1 := mvB_no1 (L := L) (K := K) (c := c)
 have N2 := mvB_no2 (L := L) (K := K) (c := c)
 have N3 := mvB_no3 (L := L) (K := K) (c := c)
 have N4 := fun k => mvB_no4 (L := L) (K := K) (c := c) (k := k)
 have NE := mvB_end (L := L) (K := K) (c := c)
 obtain ⟨r, hr⟩ : ∃ r, mvB L K c = r := ⟨_, rfl⟩
 rw [hr] at N1 N2 N3 NE ⊢
 simp only [hr] at N4
 obtain ⟨P, hP⟩ : ∃ P : Nat → Bool, (fun i => lnkB L c (K.getD i lnk0)) = P := ⟨_, rfl⟩
 have hPk : ∀ k, lnkB L c (K.getD k lnk0) = P k := fun k => by rw [← hP]
 rw [hP] at NE
 simp only [hPk] at N4
 obtain ⟨q, hq⟩ : ∃ q, allTo (dfB K) K.length = q := ⟨_, rfl⟩
 rw [hq] at h4 NE
 obtain ⟨b1, hb1⟩ : ∃ b, vB c true = b := ⟨_, rfl⟩
 rw [hb1] at h1 N1 NE
 obtain ⟨b2, hb2⟩ : ∃ b, vB L false = b := ⟨_, rfl⟩
 rw [hb2] at h2 N2 NE
 obtain ⟨n, hn2⟩ : ∃ n, L.length = n := ⟨_, rfl⟩
 obtain ⟨k0, hk0⟩ : ∃ k0, c.length = k0 := ⟨_, rfl⟩
 obtain ⟨m, hm2⟩ : ∃ m, K.length = m := ⟨_, rfl⟩
 obtain ⟨s0, hs0⟩ : ∃ s0, w.heap.size = s0 := ⟨_, rfl⟩
 rw [hn2, hm2] at HEB HZ HY HX hB
 rw [hn2] at h2 h3
 rw [hk0] at h1 h3
 rw [hm2] at h4 N3 N4 NE hm
 rw [hn2, hm2, hk0]
 have HN1 := Lib.hid N1
 have HN2 := Lib.hid N2
 have HN3 := Lib.hid N3
 have HN4 := Lib.hid N4
 have HNE := Lib.hid NE
 have HP := Lib.hid hPk
 have HM := Lib.hid hm2
 have H1 := Lib.hid h1
 have H2 := Lib.hid h2
 have H3 := Lib.hid h3
 have H4 := Lib.hid h4
 have HS0 := Lib.hid hs0
 have HE0 := HEB
 rw [hs0] at hB HEB
 obtain ⟨c0, c1, c2, c3, c4, lt⟩ := HE0.out
 clear hn hz hy hx h1 h2 h3 h4 N1 N2 N3 N4 NE hr hP hPk hq hb1 hb2 hn2 hk0 hm2 hs0 hw hl hc HE0
 cases b1
 ·have HR := Lib.hid (HN1.out rfl)
  clear HN1 HN2 HN3 HN4 HNE
  go_enter Try.func11, Try.ntmps11
  go_wp2_with (go_at_call 22; first
   | ((with_reducible refine (H1.out _ HX.out).mono ?_); rintro e w1 ⟨rfl, hb⟩; replace hB := hB.trans (hb.mono (by have := hB.size; have := HS0.out; omega)); clear hb))
  go_ret
  exact ⟨by rw [HR.out]; rfl, by rw [HS0.out]; exact hB⟩
 have hv1 : ∀ (w1 : World), Below (w.alloc (.cells #[.string nm, .string cur, .slice A n cp, .slice B m d, .bool jt] 25)).heap.size (w.alloc (.cells #[.string nm, .string cur, .slice A n cp, .slice B m d, .bool jt] 25)) w1 → Hid (EB w1 s0 nm cur A n cp B m d jt) ∧ Hid (AccAt w1 A L) ∧ Hid (LnkAt w1 B K) ∧ Hid (AccAt w1 C c) ∧ Below s0 w w1 := fun w1 hb =>
  ⟨Lib.hid (HEB.out.up hb), Lib.hid (HZ.out.up hb), Lib.hid (HY.out.up hb), Lib.hid (HX.out.up hb), hB.trans (hb.mono (by have := hB.size; have := HS0.out; omega))⟩
 have HV1 := Lib.hid hv1
 clear hv1
 cases b2
 ·have HR := Lib.hid (HN2.out rfl)
  clear HN1 HN2 HN3 HN4 HNE
  go_enter Try.func11, Try.ntmps11
  go_wp2_with (go_at_call 22; first
   | ((with_reducible refine (H1.out _ HX.out).mono ?_); rintro e w1 ⟨rfl, hb⟩; obtain ⟨HEB, HZ, HY, HX, hB⟩ := HV1.out w1 hb; clear hb HV1 c0 c1 c2 c3 c4 lt; obtain ⟨c0, c1, c2, c3, c4, lt⟩ := HEB.out; rw [← HS0.out] at c0 c1 c2 c3 c4 lt)
   | ((with_reducible refine (H2.out _ HZ.out).mono ?_); rintro e w2 ⟨rfl, hb⟩; replace hB := hB.trans (hb.mono (by have := hB.size; have := HS0.out; omega)); clear hb))
  go_ret
  exact ⟨by rw [HR.out]; rfl, by rw [HS0.out]; exact hB⟩
 rcases Nat.lt_or_ge 400 m with hm4 | hm4
 ·have HR := Lib.hid (HN3.out hm4)
  have e4 : decide ((400 : Int) < (m : Int)) = true := decide_eq_true (by omega)
  clear HN1 HN2 HN3 HN4 HNE hm4
  go_enter Try.func11, Try.ntmps11
  go_wp2_with (go_at_call 22; first
   | ((with_reducible refine (H1.out _ HX.out).mono ?_); rintro e w1 ⟨rfl, hb⟩; obtain ⟨HEB, HZ, HY, HX, hB⟩ := HV1.out w1 hb; clear hb HV1 c0 c1 c2 c3 c4 lt; obtain ⟨c0, c1, c2, c3, c4, lt⟩ := HEB.out; rw [← HS0.out] at c0 c1 c2 c3 c4 lt)
   | ((with_reducible refine (H2.out _ HZ.out).mono ?_); rintro e w2 ⟨rfl, hb⟩; replace HEB := Lib.hid (HEB.out.up hb); replace hB := hB.trans (hb.mono (by have := hB.size; have := HS0.out; omega)); clear hb c0 c1 c2 c3 c4 lt; obtain ⟨c0, c1, c2, c3, c4, lt⟩ := HEB.out; rw [← HS0.out] at c0 c1 c2 c3 c4 lt))
  go_ret
  exact ⟨by rw [HR.out]; rfl, by rw [HS0.out]; exact hB⟩
 have e4 : decide ((400 : Int) < (m : Int)) = false := decide_eq_false (by omega)
 have HNE2 := Lib.hid (HNE.out rfl rfl hm4)
 clear HN1 HN2 HN3 HNE hm4
 go_enter Try.func11, Try.ntmps11
 go_wp2_with (go_at_call 22; first
  | ((with_reducible refine (H1.out _ HX.out).mono ?_); rintro e w1 ⟨rfl, hb⟩; obtain ⟨HEB, HZ, HY, HX, hB⟩ := HV1.out w1 hb; clear hb HV1 c0 c1 c2 c3 c4 lt; obtain ⟨c0, c1, c2, c3, c4, lt⟩ := HEB.out; rw [← HS0.out] at c0 c1 c2 c3 c4 lt)
  | ((with_reducible refine (H2.out _ HZ.out).mono ?_); rintro e w2 ⟨rfl, hb⟩; replace HEB := Lib.hid (HEB.out.up hb); replace HZ := Lib.hid (HZ.out.up hb); replace HY := Lib.hid (HY.out.up hb); replace HX := Lib.hid (HX.out.up hb); replace hB := hB.trans (hb.mono (by have := hB.size; have := HS0.out; omega)); clear hb c0 c1 c2 c3 c4 lt; obtain ⟨c0, c1, c2, c3, c4, lt⟩ := HEB.out; rw [← HS0.out] at c0 c1 c2 c3 c4 lt))
 clear c0 c1 c2 c3 c4 lt
 go_loopg [25] m (fun kx s25 wr => ∃ k : Nat, s25 = .int .i64 k ∧ k ≤ m ∧ m - k ≤ kx ∧ Hid (allTo P k = true) ∧ Hid (EB wr s0 nm cur A n cp B m d jt) ∧ Hid (AccAt wr A L) ∧ Hid (LnkAt wr B K) ∧ Hid (AccAt wr C c) ∧ Below s0 w wr)
 case atStart => exact ⟨0, rfl, by omega, by omega, Lib.hid rfl, HEB, HZ, HY, HX, hB⟩
 case round =>
  clear HEB HZ HY HX hB
  clear HEB HZ HY HX hB
  obtain ⟨k, rfl, hk, hkx, HA, HEB, HZ, HY, HX, hB⟩ := hrel
  have hsz : s0 ≤ wr.heap.size := by have := hB.size; have := HS0.out; omega
  by_cases hlt : k < m
  ·have hltz : (k : Int) < (m : Int) := by omega
   obtain ⟨b, off, rfl, hbw, hcs⟩ := HY.out (by rw [HM.out]; omega)
   obtain ⟨d0, d1, d2⟩ := hcs k (by rw [HM.out]; exact hlt)
   have hpk := HP.out k
   obtain ⟨x, hx⟩ : ∃ x, K.getD k lnk0 = x := ⟨_, rfl⟩
   rw [hx] at d0 d1 d2 hpk
   have hno := HN4.out k hlt
   have h3 := H3.out x
   rw [hpk] at h3
   have hW := below_alloc_new (w := wr) (.cells #[.int .i64 x.frm, .int .i64 x.tgt, .int .i64 x.since] 46)
   have HEB1 := Lib.hid (HEB.out.up hW)
   have HZ1 := Lib.hid (HZ.out.up hW)
   have HY1 := Lib.hid (HY.out.up hW)
   have HX1 := Lib.hid (HX.out.up hW)
   have hB1 : Below s0 w (wr.alloc (.cells #[.int .i64 x.frm, .int .i64 x.tgt, .int .i64 x.since] 46)) := hB.alloc hsz _
   have hs1 : s0 ≤ (wr.alloc (.cells #[.int .i64 x.frm, .int .i64 x.tgt, .int .i64 x.since] 46)).heap.size := by simp; omega
   obtain ⟨⟨v0, v1, v2⟩, vlt⟩ := lb_new wr 46 x
   simp only [Nat.zero_add] at v1 v2
   obtain ⟨c0, c1, c2, c3, c4, lt⟩ := HEB1.out
   rw [← HS0.out] at c0 c1 c2 c3 c4 lt
   have HS1 := Lib.hid hs1
   cases hpq : P k
   ·rw [hpq] at h3
    have HR := Lib.hid (hno hpq)
    have H3x := Lib.hid h3
    clear hpk hno h3 hpq hx hcs hW hs1
    go_wp2_with (go_at_call 23; (with_reducible refine (H3x.out _ HZ1.out HX1.out).mono ?_); rintro e w3 ⟨rfl, hb⟩; replace hB := hB1.trans (hb.mono HS1.out); clear hb)
    go_ret
    exact ⟨by rw [HR.out]; rfl, by rw [HS0.out]; exact hB⟩
   ·rw [hpq] at h3
    have HA2 : Hid (allTo P (k + 1) = true) := Lib.hid (by show (allTo P k && P k) = true; rw [HA.out, hpq]; rfl)
    have H3x := Lib.hid h3
    clear hpk hno h3 hpq hx hcs hW hs1
    go_wp2_with (go_at_call 23; (with_reducible refine (H3x.out _ HZ1.out HX1.out).mono ?_); rintro e w3 ⟨rfl, hb⟩; replace hB := hB1.trans (hb.mono HS1.out); replace HEB := Lib.hid (HEB1.out.up hb); replace HZ := Lib.hid (HZ1.out.up hb); replace HY := Lib.hid (HY1.out.up hb); replace HX := Lib.hid (HX1.out.up hb); clear hb)
    go_roundg (m - (k + 1))
    case measure => omega
    case rel => exact ⟨k + 1, by go_num, by omega, by omega, HA2, HEB, HZ, HY, HX, hB⟩
  ·obtain rfl : k = m := by omega
   have hltz : ¬ (k : Int) < (k : Int) := by omega
   have HR := Lib.hid (HNE2.out HA.out)
   obtain ⟨c0, c1, c2, c3, c4, lt⟩ := HEB.out
   rw [← HS0.out] at c0 c1 c2 c3 c4 lt
   go_wp2_with (go_at_call 24; (with_reducible refine (H4.out _ HY.out).mono ?_); rintro e w3 ⟨rfl, hb⟩; replace hB := hB.trans (hb.mono hsz); clear hb)
   go_ret
   exact ⟨by rw [HR.out]; rfl, by rw [HS0.out]; exact hB⟩
set_option maxRecDepth 20000 in
set_option maxHeartbeats 3200000 in
theorem cdates_any (nm cur : ByteArray) (A : Option Addr) (cp n : Nat) (B : Option Addr) (d : Nat) (K : List Lnk) (jt : Bool) (w : World) (hy : LnkAt w B K) (hm : K.length ≤ 1000) (hw : ∀ l ∈ K, WfL l) :
  Calls Try.prog 16 #[entV nm cur A n cp B K.length d jt] w fun e w' => ∃ v, e = .returned v ∧ SlI w' v (datesL K) ∧ Below w.heap.size w w' := by
 have hn := eb_new w 25 nm cur A n cp B K.length d jt
 have hB := below_alloc_new (w := w) (.cells #[.string nm, .string cur, .slice A n cp, .slice B K.length d, .bool jt] 25)
 have hD : ∀ D : List Int, Asc D → (∀ x, x ∈ D ↔ ∃ i, i < K.length ∧ (K.getD i lnk0).since = x) → D = datesL K := by
  intro D h1 h2
  refine keysL_ext h1 fun x => ?_
  rw [h2 x, List.mem_map]
  exact ⟨fun ⟨i, hi, e⟩ => ⟨_, getD_mem_acc hi, e⟩, fun ⟨l, hl, e⟩ => by obtain ⟨i, hi, rfl⟩ := mem_getD_acc (d := lnk0) hl; exact ⟨i, hi, e⟩⟩
 generalize datesL K = DL at *
 have HEB0 := Lib.hid hn
 have HY0 := Lib.hid (hy.up hB)
 have hMM := below_alloc_new (w := w.alloc (.cells #[.string nm, .string cur, .slice A n cp, .slice B K.length d, .bool jt] 25)) (.map #[] 0)
 have HEB := Lib.hid (HEB0.out.up hMM)
 have HY := Lib.hid (HY0.out.up hMM)
 have HM := Lib.hid (MapV.made (w.alloc (.cells #[.string nm, .string cur, .slice A n cp, .slice B K.length d, .bool jt] 25)))
 have hB2 := below_more hB hMM
 have eS : (w.alloc (.cells #[.string nm, .string cur, .slice A n cp, .slice B K.length d, .bool jt] 25)).heap.size = w.heap.size + 1 := by simp
 rw [eS] at HM
 obtain ⟨m, hm2⟩ : ∃ m, K.length = m := ⟨_, rfl⟩
 rw [hm2] at hm HEB HY HM hB2 hD ⊢
 obtain ⟨c0, c1, c2, c3, c4, lt⟩ := HEB.out
 have HMM := Lib.hid hm2
 have HW := Lib.hid hw
 have HD := Lib.hid hD
 have hmm := @run_makeMap Try.prog
 clear hm2 hw hy hn hB hMM eS HEB0 HY0 hD
 go_enter Try.func16, Try.ntmps16
 go_wp2_with fail
 clear c0 c1 c2 c3 c4 lt
 go_loopg [10] m (fun kx s10 wr => ∃ (k j : Nat) (f : Int → Option Value), s10 = .int .i64 k ∧ k ≤ m ∧ m - k ≤ kx ∧ j ≤ k ∧ Hid (∀ x, (f x).isSome = true ↔ ∃ i, i < k ∧ (K.getD i lnk0).since = x) ∧ Hid (MapV wr (w.heap.size + 1) j f) ∧ Hid (LnkAt wr B K) ∧ Below w.heap.size w wr)
 case atStart => exact ⟨0, 0, _, rfl, by omega, by omega, by omega, Lib.hid (fun x => by simp), HM, HY, hB2⟩
 case round =>
  clear HEB HM HY hB2
  obtain ⟨k, j, f, rfl, hk, hkx, hj, HF, HM, HY, hB⟩ := hrel
  have hsz := hB.size
  by_cases hlt : k < m
  ·have hltz : (k : Int) < (m : Int) := by omega
   obtain ⟨b, off, rfl, hbw, hcs⟩ := HY.out (by rw [HMM.out]; omega)
   obtain ⟨d0, d1, d2⟩ := hcs k (by rw [HMM.out]; exact hlt)
   obtain ⟨x, hx⟩ : ∃ x, K.getD k lnk0 = x := ⟨_, rfl⟩
   rw [hx] at d0 d1 d2
   have HWX := Lib.hid (HW.out x (by rw [← hx]; exact getD_mem_acc (by rw [HMM.out]; exact hlt)))
   have HF2 : Hid (∀ y, ((fun z => if z = x.since then some (Value.bool true) else f z) y).isSome = true ↔ ∃ i, i < k + 1 ∧ (K.getD i lnk0).since = y) := Lib.hid (fun y => by
    by_cases hy : y = x.since
    ·subst hy
     simp only [if_true, Option.isSome_some, true_iff]
     exact ⟨k, by omega, by rw [hx]⟩
    ·simp only [if_neg hy]
     rw [HF.out y]
     constructor
     ·rintro ⟨i, hi, e⟩; exact ⟨i, by omega, e⟩
     ·rintro ⟨i, hi, e⟩
      rcases Nat.lt_or_ge i k with h3 | h3
      ·exact ⟨i, h3, e⟩
      ·obtain rfl : i = k := by omega
       rw [hx] at e; exact absurd e.symm hy)
   have hW := below_alloc_new (w := wr) (.cells #[.int .i64 x.frm, .int .i64 x.tgt, .int .i64 x.since] 46)
   have HM1 := Lib.hid (HM.out.up hW)
   have HY1 := Lib.hid (HY.out.up hW)
   have hB1 := hB.alloc hsz (.cells #[.int .i64 x.frm, .int .i64 x.tgt, .int .i64 x.since] 46)
   have hml := HM1.out.lt
   obtain ⟨⟨v0, v1, v2⟩, vlt⟩ := lb_new wr 46 x
   simp only [Nat.zero_add] at v1 v2
   have hbm : b ≠ w.heap.size + 1 := by
    rintro rfl
    obtain ⟨D, ⟨es, clock, hb9, _⟩, _⟩ := HM.out
    simp [World.cell?, hb9] at d0
   have HBM := Lib.hid hbm
   have HBW := Lib.hid hbw
   clear hx hcs hW hbm
   go_wp2_with (at_mapUpdate; refine wpList_mapv_put rfl _ _ _ _ 4 rfl Try.underlying61 (w.heap.size + 1) j f rfl HM1.out x.since rfl _ rfl HWX.out.since (by omega) ?_; intro w2 hm2 hg2; have hb2 := grown_below hB1 hg2.out (by omega) (by simp; omega); have HY2 : Hid (LnkAt w2 (some ⟨b, off, none⟩) K) := Lib.hid (fun h0 => by (obtain ⟨b', off', e, hlt', hc'⟩ := HY1.out h0; cases e; have e8 := hg2.out.block b hlt' (fun e => by (injection e with e; exact HBM.out e)); exact ⟨b, off, rfl, Nat.lt_of_lt_of_le hlt' hg2.out.size, fun i hi => ⟨(World.cell?_of_block e8).trans (hc' i hi).c0, (World.cell?_of_block e8).trans (hc' i hi).c1, (World.cell?_of_block e8).trans (hc' i hi).c2⟩⟩)); clear hg2)
   go_roundg (m - (k + 1))
   case measure => omega
   case rel => exact ⟨k + 1, j + 1, _, by go_num, by omega, by omega, by omega, HF2, hm2, HY2, hb2⟩
  ·obtain rfl : k = m := by omega
   have hltz : ¬ (k : Int) < (k : Int) := by omega
   go_wp2_with (first
    | (go_at_call 35; refine (keysb_any _ _).mono ?_; rintro e w1 ⟨rfl, rfl⟩)
    | (go_at_call 34; refine (sortedb_any (w.heap.size + 1) j f wr HM.out (by omega)).mono ?_; rintro e w2 ⟨v, D, rfl, h1, h2, h3, hb⟩; replace hB := hB.trans (hb.mono hsz); have hDD := HD.out D h2 (fun x => by (rw [h3 x, HF.out x])); subst hDD; replace h1 := Lib.hid h1; clear hb h2 h3))
   go_ret
   exact ⟨_, rfl, h1.out, hB⟩
open Go.RowKit
theorem step_append_row {P : Program} {ops : Array Oper} {o : Oper} {a : Act} {tm : Array Value} {w : World} {K : Act → World → Prop} {Q : Exit → Act → World → Prop} {E : Prop} (hgd : o.guard = none) (s x : Operand) (t : TypeId)
  (ho : o.op = .call { callee := .builtin .append, args := #[s, x], argTypes := #[t, t] })
  (base : Nat) (e : TypeId) (i : TypeInfo) (z : Value) (size bytes : Nat) (ht : P.underlying t = some (.slice e)) (hi : P.info? e = some i) (hz : i.zero = some z)
  (hsize : i.size = size) (hby : i.bytes = bytes) (hzs : z.cells.size = size) (hsz : 0 < size)
  (v : Value) (n : Nat) (xs : List Value) (hs : a.eval s = v) (hown : w.ownsRow base e size v n xs)
  (X : Option Addr) (m c : Nat) (news : List Value) (hx : a.eval x = .slice X m c) (hl : news.length = m * size) (hnews : 0 < m → ∃ ad, X = some ad ∧ ∀ j u, news[j]? = some u → w.cell? (ad.add j) = some u) (h1 : ∀ u ∈ news, u.oneCell' = true)
  (h63 : n + m ≤ maxLen) (hbytes : (n + m) * bytes ≤ 140737488355328) (hbase : base ≤ w.heap.size)
  (h : ∀ v' w', Hid (w'.ownsRow base e size v' (n + m) (xs ++ news)) → Hid (w.grownBy w' v.ownBlock) → K (a.put o.dst v') w') :
  if Region.wanted o (yielded ops tm) = true then Oper.wp P o a w K Q else E := by
 have hw1 : ∀ y, Region.wanted o y = true := fun y => by simp [Region.wanted, hgd]
 rw [if_pos (hw1 _)]
 rcases Nat.eq_zero_or_pos m with h0 | h0
 ·subst h0
  have hne : news = [] := List.eq_nil_of_length_eq_zero (by rw [hl]; simp)
  subst hne
  have hrun : (Builtin.append_ #[t, t] o.type #[v, .slice X 0 c]).run P w = .ok v w := by
   rcases hown.2 with ⟨rfl, h9⟩ | ⟨g, cap, cur, rfl, hb, hg, hn, hcap, hcs, hcur⟩
   ·cases X <;> simp [Builtin.append_, run_underlying ht, sizeOf, typeInfo, hi, Builtin.lenOf, Builtin.firstCells, loadCells, loadCellsFrom]
   ·cases X <;> simp [Builtin.append_, run_underlying ht, sizeOf, typeInfo, hi, Builtin.lenOf, Builtin.firstCells, storeCells, loadCells, loadCellsFrom, hn]
  unfold Oper.wp
  simp [execOp, ho, resolve, invoke, builtin, hs, hx, hrun, Result.andThen]
  exact h v w (Lib.hid (by simpa using hown)) (Lib.hid ⟨rfl, rfl, rfl, Nat.le_refl _, fun _ _ _ => rfl⟩)
 ·obtain ⟨ad, rfl, hn2⟩ := hnews h0
  obtain ⟨v', w', hr, h2, h3, h4, h5⟩ := run_append_own_at (P := P) w base t o.type e i z size bytes ht hi hz hsize hby hzs hsz v n xs hown ad m c news hl hn2 h1 h63 hbytes hbase
  unfold Oper.wp execOp
  simp only [ho, resolve, invoke, builtin, Sem.run_bind, Sem.run_pure, Result.andThen_ok, List.map_toArray, List.map_cons, List.map_nil, hs, hx, hr]
  exact h v' w' (Lib.hid h2) (Lib.hid h3)
theorem step_app_ints {P : Program} {ops : Array Oper} {o : Oper} {a : Act} {tm : Array Value} {w : World} {K : Act → World → Prop} {Q : Exit → Act → World → Prop} {E : Prop} (hgd : o.guard = none) (s x : Operand) (t : TypeId)
  (ho : o.op = .call { callee := .builtin .append, args := #[s, x], argTypes := #[t, t] })
  (base : Nat) (e : TypeId) (i : TypeInfo) (bytes : Nat) (ht : P.underlying t = some (.slice e)) (hi : P.info? e = some i) (hz : i.zero = some (.int .i64 0)) (hsize : i.size = 1) (hby : i.bytes = bytes) (hb8 : bytes ≤ 8)
  (v : Value) (L : List Int) (hs : a.eval s = v) (hown : OwnI .i64 e w base v L) (X : Option Addr) (m c : Nat) (M : List Int) (hm : M.length = m) (hx : a.eval x = .slice X m c) (hX : IntsAt .i64 w X M)
  (hlen : L.length + m ≤ 100000000) (hbase : base ≤ w.heap.size)
  (h : ∀ v' w', Hid (OwnI .i64 e w' base v' (L ++ M)) → Hid (w.grownBy w' v.ownBlock) → Below base w w' → K (a.put o.dst v') w') :
  if Region.wanted o (yielded ops tm) = true then Oper.wp P o a w K Q else E := by
 subst hm
 have hbb : (L.length + M.length) * bytes ≤ (L.length + M.length) * 8 := Nat.mul_le_mul_left _ hb8
 refine step_append_row hgd s x t ho base e i (.int .i64 0) 1 bytes ht hi hz hsize hby rfl (by decide) v L.length (L.map fun d => Value.int .i64 d) hs hown X M.length c (M.map fun d => Value.int .i64 d) hx (by simp) ?_ ?_ (by unfold maxLen; omega) (by omega) hbase ?_
 ·intro h0
  obtain ⟨b, off, rfl, hbw, hcs⟩ := hX h0
  refine ⟨_, rfl, fun j u hj => ?_⟩
  have hjl : j < M.length := by
   rcases Nat.lt_or_ge j M.length with h1 | h1
   ·exact h1
   ·rw [List.getElem?_eq_none (by simpa using h1)] at hj; cases hj
  have h3 : u = .int .i64 (M.getD j 0) := by
   rw [List.getElem?_map, List.getElem?_eq_getElem hjl] at hj
   simp at hj
   rw [← hj, List.getD_eq_getElem?_getD, List.getElem?_eq_getElem hjl]; rfl
  rw [h3, ← hcs j hjl]
  unfold Addr.add
  split
  ·rename_i h0; subst h0; simp
  ·rfl
 ·intro u hu
  obtain ⟨d, _, rfl⟩ := List.mem_map.1 hu
  rfl
 ·intro v' w' h2 h3
  refine h v' w' (Lib.hid ?_) h3 ((Below.refl base w).grown h3.out hbase (fun j hj => (World.ownsRow.lt hown j hj).1))
  have h4 := h2.out
  rw [← List.map_append, ← List.length_append] at h4
  exact h4
theorem IntsAt.drop {w : World} {b off : Nat} {D : List Int} (h : IntsAt .i64 w (some ⟨b, off, none⟩) D) (k : Nat) : IntsAt .i64 w (some ⟨b, off + k, none⟩) (D.drop k) := fun h0 => by
 rw [List.length_drop] at h0
 obtain ⟨b', off', e, hlt, hc⟩ := h (by omega)
 cases e
 refine ⟨b, off + k, rfl, hlt, fun i hi => ?_⟩
 rw [List.length_drop] at hi
 rw [Nat.add_assoc, hc (k + i) (by omega), List.getD_eq_getElem?_getD, List.getD_eq_getElem?_getD, List.getElem?_drop]
theorem OwnI.low {k : IntKind} {e : TypeId} {w : World} {base b2 : Nat} {v : Value} {L : List Int} (h : OwnI k e w base v L) (hb : b2 ≤ base) : OwnI k e w b2 v L := by
 obtain ⟨h1, h2⟩ := h
 rcases h2 with h2 | ⟨g, cap, cur, rfl, hbg, hg⟩
 ·exact ⟨h1, .inl h2⟩
 ·exact ⟨h1, .inr ⟨g, cap, cur, rfl, Nat.le_trans hb hbg, hg⟩⟩
end Go.Proofs.Ytmahnpbjjadipaa
