/- Contracts and the law of MappingLater, part 1: what was proved of each, callees first. -/
import Derived.Laws.AppendOwnNone
import Derived.OwnWalk
import Derived.Laws.StructEq
import Derived.Deep.LoopGhost
import Derived.Deep.CutRange
import Derived.Maps.AppendAt
import Derived.Maps.OwnSet
import Derived.WalkMore
import Derived.StillTail
import Derived.DeepKeys5
import Derived.Lib.SmallJoins
import Derived.Shelf.SlIterI.Nil
import Derived.Shelf.SortM.Plain
import Derived.Shelf.SortM.SortNone
import Derived.Ground.GgzProg
import Derived.Ground.SlgmProg
import Derived.Shelf.SlGeneric
import Derived.Test.YtmahnpbjjadipaaProg
import Derived.Deep.RegionHeldLaw
import Derived.Deep.AppendLies
import Derived.Test.YtmahnpbjjadipaaMK1
namespace Go.Proofs.Ytmahnpbjjadipaa
open Go.RowKit
section
variable {k : IntKind} {e : TypeId} {w w' : World} {base B : Nat} {v : Value} {A : Option Addr} {L M zs : List Int}
theorem IntsAt.keep (h : IntsAt k w A zs) (hs : w.heap.size ≤ w'.heap.size) (hk : ∀ b j, b < w.heap.size → w'.cell? ⟨b, j, none⟩ = w.cell? ⟨b, j, none⟩) : IntsAt k w' A zs := fun h0 => by
 obtain ⟨b, off, e, hlt, hc⟩ := h h0
 exact ⟨b, off, e, Nat.lt_of_lt_of_le hlt hs, fun i hi => (hk b (off + i) hlt).trans (hc i hi)⟩
theorem IntsAt.up (h : IntsAt k w A zs) (hb : Below w.heap.size w w') : IntsAt k w' A zs := h.keep hb.size fun b j hB => hb.cell (p := ⟨b, j, none⟩) hB
end
instance : DecidableEq Bal := fun a b => decidable_of_iff (a.acct = b.acct ∧ a.amt = b.amt) (by cases a; cases b; simp)
def climbN (L : List Acc) : Nat → Int → List Int
 | 0, _ => []
 | n + 1, c => match fnd L c with
  | none => []
  | some a => c :: climbN L n a.par
def climb (L : List Acc) (c : Int) : List Int := climbN L (L.length + 1) c
def Ends (L : List Acc) (c : Int) : Prop := ∃ n, (climbN L n c).length < n
def stepN (L : List Acc) : Nat → Int → Option Int
 | 0, c => some c
 | k + 1, c => match fnd L c with
  | none => none
  | some a => stepN L k a.par
def lastC (L : List Acc) : Nat → Int
 | 0 => 0
 | k + 1 => (L.getD k acc0).code
theorem lastC_succ {L : List Acc} {k : Nat} : lastC L (k + 1) = (L.getD k acc0).code := rfl
def codesTo (L : List Acc) : Nat → Bool
 | 0 => true
 | k + 1 => codesTo L k && decide (lastC L k < (L.getD k acc0).code)
theorem codes_succ {L : List Acc} {k : Nat} : codesTo L (k + 1) = (codesTo L k && decide (lastC L k < (L.getD k acc0).code)) := rfl
theorem codesTo_le {L : List Acc} : ∀ {k m : Nat}, k ≤ m → codesTo L m = true → codesTo L k = true
  | k, m, h, hm => by
    induction m with
    | zero => obtain rfl : k = 0 := by omega
              exact hm
    | succ m ih =>
      rcases Nat.lt_or_ge k (m + 1) with h1 | h1
      · rw [codes_succ, Bool.and_eq_true] at hm
        exact ih (by omega) hm.1
      · obtain rfl : k = m + 1 := by omega
        exact hm
def codesB (L : List Acc) : Bool := codesTo L L.length && decide (lastC L L.length ≤ 99999)
theorem codesB_no {L : List Acc} {k : Nat} (hk : k < L.length) (h : (L.getD k acc0).code ≤ lastC L k) : codesB L = false := by
 cases h1 : codesTo L L.length with
 | false => unfold codesB; rw [h1]; rfl
 | true =>
  have := codesTo_le (k := k + 1) (by omega) h1
  rw [codes_succ, Bool.and_eq_true, decide_eq_true_eq] at this
  omega
theorem codesB_end {L : List Acc} (h : codesTo L L.length = true) : codesB L = decide (lastC L L.length ≤ 99999) := by unfold codesB; rw [h]; rfl
structure Srt (L : List Acc) : Prop where
 pos : ∀ i, i < L.length → 1 ≤ (L.getD i acc0).code
 mono : ∀ i j, i < j → j < L.length → (L.getD i acc0).code < (L.getD j acc0).code
theorem codesTo_is {L : List Acc} : ∀ {k : Nat}, codesTo L k = true → (∀ i, i < k → lastC L i < (L.getD i acc0).code)
 | 0, _ => fun i hi => by omega
 | k + 1, h => fun i hi => by
  rw [codes_succ, Bool.and_eq_true, decide_eq_true_eq] at h
  rcases Nat.lt_or_ge i k with h1 | h1
  ·exact codesTo_is h.1 i h1
  ·obtain rfl : i = k := by omega
   exact h.2
theorem codesTo_srt {L : List Acc} (h : codesTo L L.length = true) : Srt L := by
 have h1 := codesTo_is h
 have h2 : ∀ j, j < L.length → 1 ≤ (L.getD j acc0).code ∧ ∀ i, i < j → (L.getD i acc0).code < (L.getD j acc0).code := by
  intro j
  induction j with
  | zero =>
   intro hj
   have := h1 0 hj
   simp only [lastC] at this
   exact ⟨by omega, fun i hi => by omega⟩
  | succ j ih =>
   intro hj
   have h3 := h1 (j + 1) hj
   obtain ⟨h4, h5⟩ := ih (by omega)
   rw [lastC_succ] at h3
   refine ⟨by omega, fun i hi => ?_⟩
   rcases Nat.lt_or_ge i j with h6 | h6
   ·have := h5 i h6; omega
   ·obtain rfl : i = j := by omega
    exact h3
 exact ⟨fun i hi => (h2 i hi).1, fun i j hij hj => (h2 j hj).2 i hij⟩
theorem codesB_srt {L : List Acc} (h : codesB L = true) : Srt L := by
 unfold codesB at h; rw [Bool.and_eq_true] at h; exact codesTo_srt h.1
def loB (g : Bool) : Int := if g then 1 else 0
def hiB (g : Bool) : Int := if g then 3 else 0
def kinB (g : Bool) (a : Acc) : Bool := decide (1 ≤ a.kind) && decide (a.kind ≤ 5) && decide (loB g ≤ a.basis) && decide (a.basis ≤ hiB g)
theorem kinB_is {g : Bool} {a : Acc} (h : kinB g a = true) : 1 ≤ a.kind ∧ a.kind ≤ 5 ∧ loB g ≤ a.basis ∧ a.basis ≤ hiB g := by
 unfold kinB at h; simp only [Bool.and_eq_true, decide_eq_true_eq] at h; exact ⟨h.1.1.1, h.1.1.2, h.1.2, h.2⟩
theorem kinB_no {g : Bool} {a : Acc} (h : kinB g a = false) : a.kind < 1 ∨ (1 ≤ a.kind ∧ 5 < a.kind) ∨ (1 ≤ a.kind ∧ a.kind ≤ 5 ∧ a.basis < loB g) ∨ (1 ≤ a.kind ∧ a.kind ≤ 5 ∧ loB g ≤ a.basis ∧ hiB g < a.basis) := by
 rcases Int.lt_or_le a.kind 1 with h1 | h1
 ·exact .inl h1
 rcases Int.lt_or_le 5 a.kind with h2 | h2
 ·exact .inr (.inl ⟨h1, h2⟩)
 rcases Int.lt_or_le a.basis (loB g) with h3 | h3
 ·exact .inr (.inr (.inl ⟨h1, h2, h3⟩))
 rcases Int.lt_or_le (hiB g) a.basis with h4 | h4
 ·exact .inr (.inr (.inr ⟨h1, h2, h3, h4⟩))
 ·unfold kinB at h
  rw [decide_eq_true h1, decide_eq_true h2, decide_eq_true h3, decide_eq_true h4] at h
  cases h
def kindsB (L : List Acc) (g : Bool) : Bool := L.all (kinB g)
def parB (L : List Acc) (a : Acc) : Bool := decide (a.par = 0) || match fnd L a.par with
 | none => false
 | some p => decide (p.kind = a.kind)
def parentsB (L : List Acc) : Bool := L.all (parB L)
def topB (L : List Acc) (a : Acc) : Bool := decide ((climb L a.code).length ≤ L.length)
def topsB (L : List Acc) : Bool := L.all (topB L)
def vB (L : List Acc) (g : Bool) : Bool := decide (L.length ≤ 200) && codesB L && kindsB L g && parentsB L && topsB L
theorem parB_is {L : List Acc} {a : Acc} : parB L a = true ↔ a.par = 0 ∨ ∃ p, fnd L a.par = some p ∧ p.kind = a.kind := by
 unfold parB
 cases fnd L a.par with
 | none => simp
 | some p => simp
open Go.RowKit
structure B2 (w : World) (b o : Nat) (a : Bal) : Prop where
 c0 : w.cell? ⟨b, o, none⟩ = some (.int .i64 a.acct)
 c1 : w.cell? ⟨b, o + 1, none⟩ = some (.int .i64 a.amt)
section
variable {w w' : World} {b o g B : Nat} {a : Acc} {x : Bal} {A : Option Addr} {L : List Acc} {M : List Bal}
end
open Go.RowKit
theorem celL_len : ∀ (L : List Lnk), (L.flatMap celL).length = L.length * 3
 | [] => rfl
 | a :: L => by have := celL_len L; simp [celL] at this ⊢; omega
theorem OwnL.blk {e : TypeId} {w w' : World} {base : Nat} {v : Value} {L : List Lnk} (h : OwnL e w base v L) (hk : ∀ g, v.ownBlock = some g → w'.heap[g]? = w.heap[g]?) : OwnL e w' base v L := by
 obtain ⟨h1, h2⟩ := h
 refine ⟨h1, ?_⟩
 rcases h2 with h2 | ⟨g, cap, cur, rfl, hbg, hg, rest⟩
 ·exact .inl h2
 ·exact .inr ⟨g, cap, cur, rfl, hbg, (hk g rfl).trans hg, rest⟩
theorem OwnL.lt {e : TypeId} {w : World} {base : Nat} {v : Value} {L : List Lnk} (h : OwnL e w base v L) {g : Nat} (hg : v.ownBlock = some g) : base ≤ g ∧ g < w.heap.size := by
 have := World.ownsRow.lt h g hg
 exact this
theorem OwnL.empty {e : TypeId} {w : World} {base : Nat} (hb : base ≤ w.heap.size) : OwnL e (w.alloc (.cells #[] e)) base (.slice (some ⟨w.heap.size, 0, none⟩) 0 0) [] :=
 ⟨rfl, .inr ⟨w.heap.size, 0, #[], rfl, hb, heap_alloc_new _ _, Nat.le_refl _, Nat.zero_le _, rfl, rfl⟩⟩
set_option maxRecDepth 20000 in
set_option maxHeartbeats 1600000 in
theorem hcodes_any (A : Option Addr) (c : Nat) (L : List Acc) (w : World) (hz : AccAt w A L) (hl : L.length ≤ 1000) :
  Calls Try.prog 43 #[.slice A L.length c] w fun e w' => e = .returned (.bool (codesB L)) ∧ Below w.heap.size w w' := by
 have hB := Below.refl w.heap.size w
 obtain ⟨n, hn⟩ : ∃ n, L.length = n := ⟨_, rfl⟩
 rw [hn] at hl ⊢
 have HN := Lib.hid hn
 have HZ := Lib.hid hz
 clear hn hz
 go_enter Try.func43, Try.ntmps43
 go_wp2_with fail
 go_loopg [3, 8] n (fun kx s3 s8 wr => ∃ k : Nat, s3 = .int .i64 (lastC L k) ∧ s8 = .int .i64 k ∧ k ≤ n ∧ n - k ≤ kx ∧ Hid (codesTo L k = true) ∧ Below w.heap.size w wr)
 case atStart => exact ⟨0, rfl, rfl, by omega, by omega, Lib.hid rfl, hB⟩
 case round =>
  clear hB
  obtain ⟨k, rfl, rfl, hk, hkx, HC, hB⟩ := hrel
  by_cases hlt : k < n
  ·have hltz : (k : Int) < (n : Int) := by omega
   obtain ⟨b, off, rfl, hbw, hcs⟩ := HZ.out (by rw [HN.out]; omega)
   obtain ⟨c0, c1, c2, c3⟩ := (hcs k (by rw [HN.out]; exact hlt)).up hB hbw
   obtain ⟨x, hx⟩ : ∃ x, L.getD k acc0 = x := ⟨_, rfl⟩
   rw [hx] at c0 c1 c2 c3
   have HX := Lib.hid hx
   clear hx hcs
   rcases Int.lt_or_le (lastC L k) x.code with h1 | h1
   ·have h2 : decide (x.code ≤ lastC L k) = false := decide_eq_false (by omega)
    have HC2 : Hid (codesTo L (k + 1) = true) := Lib.hid (by rw [codes_succ, HC.out, HX.out, decide_eq_true h1]; rfl)
    have HLa : Hid (x.code = lastC L (k + 1)) := Lib.hid (by rw [lastC_succ, HX.out])
    clear h1
    go_wp2_with fail
    go_roundg (n - (k + 1))
    case measure => omega
    case rel => exact ⟨k + 1, by rw [HLa.out], by go_num, by omega, by omega, HC2, below_new hB _⟩
   ·have hno : Hid (codesB L = false) := Lib.hid (codesB_no (k := k) (by rw [HN.out]; exact hlt) (by rw [HX.out]; exact h1))
    have h2 : decide (x.code ≤ lastC L k) = true := decide_eq_true h1
    go_wp2_with fail
    go_ret
    exact ⟨by rw [hno.out]; rfl, below_new hB _⟩
  ·obtain rfl : k = n := by omega
   have hltz : ¬ (k : Int) < (k : Int) := by omega
   have hend : Hid (codesB L = decide (lastC L k ≤ 99999)) := Lib.hid (by rw [codesB_end (by rw [HN.out]; exact HC.out), HN.out])
   generalize lastC L k = z at *
   go_wp2_with fail
   go_ret
   exact ⟨by rw [hend.out]; rfl, hB⟩
set_option maxRecDepth 20000 in
set_option maxHeartbeats 1600000 in
theorem hkinds_any (A : Option Addr) (c : Nat) (L : List Acc) (g : Bool) (w : World) (hz : AccAt w A L) (hl : L.length ≤ 1000) :
    Calls Try.prog 44 #[.slice A L.length c, .bool g] w fun e w' => e = .returned (.bool (kindsB L g)) ∧ Below w.heap.size w w' := by
  have hB := Below.refl w.heap.size w
  obtain ⟨n, hn⟩ : ∃ n, L.length = n := ⟨_, rfl⟩
  rw [hn] at hl ⊢
  have HN := Lib.hid hn
  have HZ := Lib.hid hz
  have hlo : loB g = if g then 1 else 0 := rfl
  have hhi : hiB g = if g then 3 else 0 := rfl
  obtain ⟨P, hP⟩ : ∃ P, kinB g = P := ⟨_, rfl⟩
  have hpy : ∀ x, P x = true → 1 ≤ x.kind ∧ x.kind ≤ 5 ∧ loB g ≤ x.basis ∧ x.basis ≤ hiB g := fun x h => kinB_is (by rw [hP]; exact h)
  have hpn : ∀ x, P x = false → x.kind < 1 ∨ (1 ≤ x.kind ∧ 5 < x.kind) ∨ (1 ≤ x.kind ∧ x.kind ≤ 5 ∧ x.basis < loB g) ∨ (1 ≤ x.kind ∧ x.kind ≤ 5 ∧ loB g ≤ x.basis ∧ hiB g < x.basis) := fun x h => kinB_no (by rw [hP]; exact h)
  have hpk : kindsB L g = L.all P := by unfold kindsB; rw [hP]
  rw [hpk]
  have HPY := Lib.hid hpy
  have HPN := Lib.hid hpn
  clear hn hz hP hpy hpn hpk
  cases g
  all_goals
    simp only [Bool.false_eq_true, if_false, if_true] at hlo hhi
    have HLo := Lib.hid hlo
    have HHi := Lib.hid hhi
    clear hlo hhi
    go_enter Try.func44, Try.ntmps44
    go_wp2_with fail
    go_loopg [12] n (fun kx s12 wr => ∃ k : Nat, s12 = .int .i64 k ∧ k ≤ n ∧ n - k ≤ kx ∧ Hid ((L.take k).all P = true) ∧ Below w.heap.size w wr)
    case atStart => exact ⟨0, rfl, by omega, by omega, Lib.hid rfl, hB⟩
    case round =>
      clear hB
      obtain ⟨k, rfl, hk, hkx, HC, hB⟩ := hrel
      by_cases hlt : k < n
      · have hltz : (k : Int) < (n : Int) := by omega
        obtain ⟨b, off, rfl, hbw, hcs⟩ := HZ.out (by rw [HN.out]; omega)
        obtain ⟨c0, c1, c2, c3⟩ := (hcs k (by rw [HN.out]; exact hlt)).up hB hbw
        obtain ⟨x, hx⟩ : ∃ x, L.getD k acc0 = x := ⟨_, rfl⟩
        rw [hx] at c0 c1 c2 c3
        have HX := Lib.hid hx
        have h9 := take_all_getD (d := acc0) (p := P) L k (by rw [HN.out]; exact hlt)
        rw [hx] at h9
        have H9 := Lib.hid h9
        clear hx hcs h9
        cases hkb : P x
        · have hno : Hid (L.all P = false) := Lib.hid (all_false_getD (d := acc0) (k := k) (by rw [HN.out]; exact hlt) (by rw [HX.out]; exact hkb))
          have h0 := HPN.out _ hkb
          rw [HLo.out, HHi.out] at h0
          clear hkb
          rcases h0 with h1 | ⟨h1, h2⟩ | ⟨h1, h2, h3⟩ | ⟨h1, h2, h3, h4⟩
          · have e1 : decide (x.kind < 1) = true := decide_eq_true h1
            go_wp2_with fail
            go_ret
            exact ⟨by rw [hno.out]; rfl, below_new hB _⟩
          · have e1 : decide (x.kind < 1) = false := decide_eq_false (by omega)
            have e2 : decide (5 < x.kind) = true := decide_eq_true h2
            go_wp2_with fail
            go_ret
            exact ⟨by rw [hno.out]; rfl, below_new hB _⟩
          · have e1 : decide (x.kind < 1) = false := decide_eq_false (by omega)
            have e2 : decide (5 < x.kind) = false := decide_eq_false (by omega)
            first | have e3 : decide (x.basis < 0) = true := decide_eq_true h3 | have e3 : decide (x.basis < 1) = true := decide_eq_true h3
            go_wp2_with fail
            go_ret
            exact ⟨by rw [hno.out]; rfl, below_new hB _⟩
          · have e1 : decide (x.kind < 1) = false := decide_eq_false (by omega)
            have e2 : decide (5 < x.kind) = false := decide_eq_false (by omega)
            first
              | (have e3 : decide (x.basis < 0) = false := decide_eq_false (by omega)
                 have e4 : decide (0 < x.basis) = true := decide_eq_true h4
                 go_wp2_with fail
                 go_ret
                 exact ⟨by rw [hno.out]; rfl, below_new hB _⟩)
              | (have e3 : decide (x.basis < 1) = false := decide_eq_false (by omega)
                 have e4 : decide (3 < x.basis) = true := decide_eq_true h4
                 go_wp2_with fail
                 go_ret
                 exact ⟨by rw [hno.out]; rfl, below_new hB _⟩)
        · have h0 := HPY.out _ hkb
          rw [HLo.out, HHi.out] at h0
          obtain ⟨h1, h2, h3, h4⟩ := h0
          have HC2 : Hid ((L.take (k + 1)).all P = true) := Lib.hid (by rw [H9.out, HC.out, hkb]; rfl)
          have e1 : decide (x.kind < 1) = false := decide_eq_false (by omega)
          have e2 : decide (5 < x.kind) = false := decide_eq_false (by omega)
          have e3 : decide (x.basis < 0) = false := decide_eq_false (by omega)
          have e4 : decide (3 < x.basis) = false := decide_eq_false (by omega)
          first
            | (have e5 : decide (0 < x.basis) = false := decide_eq_false (by omega)
               clear hkb h1 h2 h3 h4
               go_wp2_with fail
               go_roundg (n - (k + 1))
               case measure => omega
               case rel => exact ⟨k + 1, by go_num, by omega, by omega, HC2, below_new hB _⟩)
            | (have e5 : decide (x.basis < 1) = false := decide_eq_false (by omega)
               clear hkb h1 h2 h3 h4
               go_wp2_with fail
               go_roundg (n - (k + 1))
               case measure => omega
               case rel => exact ⟨k + 1, by go_num, by omega, by omega, HC2, below_new hB _⟩)
      · obtain rfl : k = n := by omega
        have hltz : ¬ (k : Int) < (k : Int) := by omega
        have hyes : Hid (L.all P = true) := Lib.hid (by have := HC.out; rwa [List.take_of_length_le (by rw [HN.out]; omega)] at this)
        go_wp2_with fail
        go_ret
        exact ⟨by rw [hyes.out]; rfl, hB⟩
theorem cidx1_any (a : Acc) (c : Int) (w : World) : Calls Try.prog 62 #[accV a, .int .i64 c] w fun e w' => e = .returned (.int .i64 (cmI a.code c)) ∧ Below w.heap.size w w' := by
 have hn := ab_new w 50 a
 obtain ⟨⟨c0, c1, c2, c3⟩, lt, -⟩ := hn
 have hB := below_alloc_new (w := w) (.cells #[.int .i64 a.code, .int .i64 a.kind, .int .i64 a.basis, .int .i64 a.par] 50)
 go_enter Try.func62, Try.ntmps62
 go_wp2_with (go_at_call 33; refine (ccmp_any _ _ _).mono ?_; rintro e w' ⟨rfl, rfl⟩)
 go_ret
 exact ⟨rfl, hB⟩
theorem cmI_lt {x y : Int} (h : x < y) : cmI x y = -1 := by unfold cmI; rw [if_pos h]
theorem cmI_ge {x y : Int} (h : y ≤ x) : 0 ≤ cmI x y := by
 unfold cmI; rw [if_neg (by omega)]; split <;> omega
theorem cmI_eq {x : Int} : cmI x x = 0 := by unfold cmI; rw [if_neg (by omega), if_neg (by omega)]
theorem cmI_gt {x y : Int} (h : y < x) : cmI x y = 1 := by unfold cmI; rw [if_neg (by omega), if_pos h]
def FoundAt (L : List Acc) (c : Int) (i : Nat) : Prop := ∀ a, fnd L c = some a → i < L.length ∧ L.getD i acc0 = a
set_option maxRecDepth 20000 in
set_option maxHeartbeats 1600000 in
theorem cbin_any (A : Option Addr) (cp : Nat) (L : List Acc) (c : Int) (w : World) (hz : AccAt w A L) (hl : L.length ≤ 1000) (hs : Srt L) :
  Calls Try.prog 61 #[.slice A L.length cp, .int .i64 c, .func (.func 62) #[] #[]] w fun e w' => ∃ i : Nat, e = .returned (.tuple #[.int .i64 i, .bool (fnd L c).isSome]) ∧ FoundAt L c i ∧ Below w.heap.size w w' := by
 have hB := Below.refl w.heap.size w
 obtain ⟨n, hn⟩ : ∃ n, L.length = n := ⟨_, rfl⟩
 rw [hn] at hl ⊢
 have HN := Lib.hid hn
 have HZ := Lib.hid hz
 have HS := Lib.hid hs
 clear hn hz hs
 go_enter Try.func61, Try.ntmps61
 go_wp2_with fail
 go_loopg [9, 10] n (fun kx s9 s10 wr => ∃ lo hi : Nat, s9 = .int .i64 lo ∧ s10 = .int .i64 hi ∧ lo ≤ hi ∧ hi ≤ n ∧ hi - lo ≤ kx ∧ Hid (∀ t, t < lo → (L.getD t acc0).code < c) ∧ Hid (∀ t, hi ≤ t → t < n → c ≤ (L.getD t acc0).code) ∧ Below w.heap.size w wr)
 case atStart => exact ⟨0, n, rfl, rfl, Nat.zero_le _, Nat.le_refl _, by omega, Lib.hid (fun t ht => absurd ht (Nat.not_lt_zero _)), Lib.hid (fun t h1 h2 => by omega), hB⟩
 case round =>
  clear hB
  obtain ⟨lo, hi, rfl, rfl, hlh, hin, hg, HA, HC, hB⟩ := hrel
  by_cases hlt : lo < hi
  ·have hltz : (lo : Int) < (hi : Int) := by omega
   obtain ⟨m, hm⟩ : ∃ m : Nat, ((lo : Int) + (hi : Int)) / 2 = (m : Int) := ⟨(lo + hi) / 2, by omega⟩
   have hm1 : lo ≤ m := by omega
   have hm2 : m < hi := by omega
   have hmn : m < n := by omega
   have hmz : (m : Int) < (n : Int) := by omega
   obtain ⟨b, off, rfl, hbw, hcs⟩ := HZ.out (by rw [HN.out]; omega)
   obtain ⟨c0, c1, c2, c3⟩ := (hcs m (by rw [HN.out]; omega)).up hB hbw
   obtain ⟨x, hx⟩ : ∃ x, L.getD m acc0 = x := ⟨_, rfl⟩
   rw [hx] at c0 c1 c2 c3
   have HX := Lib.hid hx
   have hcm := fun w => cidx1_any x c w
   clear hx hcs
   rcases Int.lt_or_le x.code c with h1 | h1
   ·rw [cmI_lt h1] at hcm
    have HA2 : Hid (∀ t, t < m + 1 → (L.getD t acc0).code < c) := Lib.hid (fun t ht => by
     rcases Nat.lt_or_ge t m with h2 | h2
     ·have h3 := HS.out.mono t m h2 (by rw [HN.out]; omega)
      rw [HX.out] at h3; omega
     ·obtain rfl : t = m := by omega
      rw [HX.out]; exact h1)
    have HCM := Lib.hid hcm
    clear hcm h1
    go_wp2_with fail
    refine (HCM.out _).mono ?_
    rintro e w' ⟨rfl, hb⟩
    replace hB := below_more hB hb
    clear hb
    go_wp2_with fail
    go_roundg (hi - (m + 1))
    case measure => omega
    case rel => exact ⟨m + 1, hi, by go_num, rfl, by omega, hin, Nat.le_refl _, HA2, HC, hB⟩
   ·have h0 := cmI_ge h1
    generalize cmI x.code c = r at hcm h0
    have h2 : decide (r < 0) = false := decide_eq_false (by omega)
    have HC2 : Hid (∀ t, m ≤ t → t < n → c ≤ (L.getD t acc0).code) := Lib.hid (fun t ht hn => by
     rcases Nat.lt_or_ge m t with h2 | h2
     ·have h3 := HS.out.mono m t h2 (by rw [HN.out]; omega)
      rw [HX.out] at h3; omega
     ·obtain rfl : t = m := by omega
      rw [HX.out]; exact h1)
    have HCM := Lib.hid hcm
    clear hcm h1
    go_wp2_with fail
    refine (HCM.out _).mono ?_
    rintro e w' ⟨rfl, hb⟩
    replace hB := below_more hB hb
    clear hb
    go_wp2_with fail
    go_roundg (m - lo)
    case measure => omega
    case rel => exact ⟨lo, m, rfl, rfl, by omega, by omega, Nat.le_refl _, HA, HC2, hB⟩
  ·obtain rfl : lo = hi := by omega
   have hltz : ¬ (lo : Int) < (lo : Int) := by omega
   have hcut := HS.out.cut (c := c) (m := lo) (by rw [HN.out]; exact hin) HA.out (by rw [HN.out]; exact HC.out)
   rw [HN.out] at hcut
   clear HA HC
   rcases hcut with ⟨h1, h2, h3⟩ | ⟨h1 | ⟨h1, h2⟩, h3⟩
   ·obtain ⟨b, off, rfl, hbw, hcs⟩ := HZ.out (by rw [HN.out]; omega)
    obtain ⟨c0, c1, c2, c3⟩ := (hcs lo (by rw [HN.out]; exact h1)).up hB hbw
    obtain ⟨x, hx⟩ : ∃ x, L.getD lo acc0 = x := ⟨_, rfl⟩
    rw [hx] at c0 c1 c2 c3 h2 h3
    have HX := Lib.hid hx
    have H3 := Lib.hid h3
    have hcm := fun w => cidx1_any x c w
    rw [h2, cmI_eq] at hcm
    have HCM := Lib.hid hcm
    have h1z : (lo : Int) < (n : Int) := by omega
    have h1d : decide (lo < n) = true := decide_eq_true h1
    clear hx hcs h2 h3 hcm
    go_wp2_with fail
    refine (HCM.out _).mono ?_
    rintro e w' ⟨rfl, hb⟩
    replace hB := below_more hB hb
    clear hb
    go_wp2_with fail
    go_ret2
    exact ⟨lo, by rw [H3.out]; rfl, fun a ha => ⟨by rw [HN.out]; exact h1, by rw [H3.out] at ha; rw [HX.out]; injection ha⟩, hB⟩
   ·subst h1
    have H3 := Lib.hid h3
    have h1d : decide (lo < lo) = false := decide_eq_false (by omega)
    clear h3
    go_wp2_with fail
    go_ret2
    exact ⟨lo, by rw [H3.out]; rfl, fun a ha => (by rw [H3.out] at ha; cases ha), hB⟩
   ·obtain ⟨b, off, rfl, hbw, hcs⟩ := HZ.out (by rw [HN.out]; omega)
    obtain ⟨c0, c1, c2, c3⟩ := (hcs lo (by rw [HN.out]; exact h1)).up hB hbw
    obtain ⟨x, hx⟩ : ∃ x, L.getD lo acc0 = x := ⟨_, rfl⟩
    rw [hx] at c0 c1 c2 c3 h2
    have H3 := Lib.hid h3
    have hcm := fun w => cidx1_any x c w
    rw [cmI_gt h2] at hcm
    have HCM := Lib.hid hcm
    have h1z : (lo : Int) < (n : Int) := by omega
    have h1d : decide (lo < n) = true := decide_eq_true h1
    clear hx hcs h2 h3 hcm
    go_wp2_with fail
    refine (HCM.out _).mono ?_
    rintro e w' ⟨rfl, hb⟩
    replace hB := below_more hB hb
    clear hb
    go_wp2_with fail
    go_ret2
    exact ⟨lo, by rw [H3.out]; rfl, fun a ha => (by rw [H3.out] at ha; cases ha), hB⟩
theorem cidx_any (A : Option Addr) (cp : Nat) (L : List Acc) (c : Int) (w : World) (hz : AccAt w A L) (hl : L.length ≤ 1000) (hs : Srt L) :
  Calls Try.prog 56 #[.slice A L.length cp, .int .i64 c] w fun e w' => ∃ i : Nat, e = .returned (.tuple #[.int .i64 i, .bool (fnd L c).isSome]) ∧ FoundAt L c i ∧ Below w.heap.size w w' := by
 have h1 := cbin_any A cp L c w hz hl hs
 generalize (fnd L c).isSome = q at *
 have H1 := Lib.hid h1
 clear h1 hz hs
 go_enter Try.func56, Try.ntmps56
 go_wp2_with (go_at_call 61; refine H1.out.mono ?_; rintro e w' ⟨i, rfl, hf, hb⟩; replace hf := Lib.hid hf)
 go_ret2
 exact ⟨i, rfl, hf.out, hb⟩
theorem parB_zero {L : List Acc} {a : Acc} (h : a.par = 0) : parB L a = true := parB_is.2 (.inl h)
theorem parB_none {L : List Acc} {a : Acc} (h : a.par ≠ 0) (hf : fnd L a.par = none) : parB L a = false := by unfold parB; rw [decide_eq_false h, hf]; rfl
theorem parB_some {L : List Acc} {a p : Acc} (h : a.par ≠ 0) (hf : fnd L a.par = some p) : parB L a = decide (p.kind = a.kind) := by unfold parB; rw [decide_eq_false h, hf]; rfl
set_option maxRecDepth 20000 in
set_option maxHeartbeats 3200000 in
theorem hpar_any (A : Option Addr) (c : Nat) (L : List Acc) (w : World) (hz : AccAt w A L) (hl : L.length ≤ 1000) (hs : Srt L) :
    Calls Try.prog 45 #[.slice A L.length c] w fun e w' => e = .returned (.bool (parentsB L)) ∧ Below w.heap.size w w' := by
  have hB := Below.refl w.heap.size w
  have hI := fun y w h => cidx_any A c L y w h hl hs
  obtain ⟨n, hn⟩ : ∃ n, L.length = n := ⟨_, rfl⟩
  rw [hn] at hl hI ⊢
  have HN := Lib.hid hn
  have HZ := Lib.hid hz
  have HI := Lib.hid hI
  clear hn hz hI hs
  go_enter Try.func45, Try.ntmps45
  go_wp2_with fail
  go_loopg [9] n (fun kx s9 wr => ∃ k : Nat, s9 = .int .i64 k ∧ k ≤ n ∧ n - k ≤ kx ∧ Hid ((L.take k).all (parB L) = true) ∧ Below w.heap.size w wr)
  case atStart => exact ⟨0, rfl, by omega, by omega, Lib.hid rfl, hB⟩
  case round =>
    clear hB
    obtain ⟨k, rfl, hk, hkx, HC, hB⟩ := hrel
    by_cases hlt : k < n
    · have hltz : (k : Int) < (n : Int) := by omega
      have HZW := Lib.hid (HZ.out.up hB)
      obtain ⟨b, off, rfl, hbw, hcs⟩ := HZW.out (by rw [HN.out]; omega)
      obtain ⟨c0, c1, c2, c3⟩ := hcs k (by rw [HN.out]; exact hlt)
      obtain ⟨x, hx⟩ : ∃ x, L.getD k acc0 = x := ⟨_, rfl⟩
      rw [hx] at c0 c1 c2 c3
      have HX := Lib.hid hx
      have h9 := take_all_getD (d := acc0) (p := parB L) L k (by rw [HN.out]; exact hlt)
      rw [hx] at h9
      have H9 := Lib.hid h9
      have hno := fun h => all_false_getD (d := acc0) (p := parB L) (L := L) (k := k) (by rw [HN.out]; exact hlt) (by rw [hx]; exact h)
      have HNo := Lib.hid hno
      have HCS := Lib.hid hcs
      clear hx hcs h9 hno
      by_cases h0 : x.par = 0
      · have e0 : (x.par == 0) = true := by simp [h0]
        have HC2 : Hid ((L.take (k + 1)).all (parB L) = true) := Lib.hid (by rw [H9.out, HC.out, parB_zero h0]; rfl)
        clear h0
        go_wp2_with fail
        go_roundg (n - (k + 1))
        case measure => omega
        case rel => exact ⟨k + 1, by go_num, by omega, by omega, HC2, below_new hB _⟩
      · have e0 : (x.par == 0) = false := by simp [h0]
        have hB1 : Below w.heap.size w (wr.alloc (.cells #[.int .i64 x.code, .int .i64 x.kind, .int .i64 x.basis, .int .i64 x.par] 50)) := below_new hB _
        have HB1 := Lib.hid hB1
        have HAB := Lib.hid (ab_new wr 50 x)
        have hi := HI.out x.par (wr.alloc (.cells #[.int .i64 x.code, .int .i64 x.kind, .int .i64 x.basis, .int .i64 x.par] 50)) (HZ.out.up hB1)
        cases hf : fnd L x.par with
        | none =>
          have E : Hid (parentsB L = false) := Lib.hid (HNo.out (parB_none h0 hf))
          rw [hf] at hi
          have HI1 := Lib.hid hi
          clear hi hf h0 hB1
          go_wp2_with (go_at_call 56; refine HI1.out.mono ?_; rintro e w1 ⟨i, rfl, -, hb⟩; replace hB := below_more HB1.out hb; clear hb)
          go_quiet (fail)
          replace hB := below_drewN hB nq
          generalize World.drewN _ nq = W1 at *
          go_wp2_with fail
          go_ret
          exact ⟨by rw [E.out]; rfl, hB⟩
        | some p =>
          have E0 := parB_some h0 hf
          rw [hf] at hi
          have HFS := Lib.hid hf
          have HI1 := Lib.hid hi
          clear hi hf h0 hB1
          have e9 : (p.kind != x.kind) = !decide (p.kind = x.kind) := by rw [Bool.eq_iff_iff]; simp
          cases hq : decide (p.kind = x.kind)
          all_goals
            rw [hq] at E0 e9
            have EP := Lib.hid E0
            clear hq E0
            go_wp2_with (go_at_call 56; refine HI1.out.mono ?_; rintro e w1 ⟨i, rfl, hfa, hb⟩; obtain ⟨hil, hie⟩ := hfa _ HFS.out; have d4 := (HCS.out i hil).up (below_more (below_alloc_new _) hb) hbw; rw [hie] at d4; obtain ⟨d0, d1, d2, d3⟩ := d4; obtain ⟨⟨a0, a1, a2, a3⟩, alt, -⟩ := HAB.out.up hb; have hiz : (i : Int) < (n : Int) := (by rw [HN.out] at hil; omega); replace hB := below_more HB1.out hb; clear hb hfa hil hie)
            go_quiet (fail)
            replace hB := below_drewN hB nq
            generalize World.drewN _ nq = W1 at *
            go_wp2_with fail
            first
              | (have E : Hid (parentsB L = false) := Lib.hid (HNo.out EP.out)
                 go_ret
                 exact ⟨by rw [E.out]; rfl, hB⟩)
              | (have HC2 : Hid ((L.take (k + 1)).all (parB L) = true) := Lib.hid (by rw [H9.out, HC.out, EP.out]; rfl)
                 go_roundg (n - (k + 1))
                 case measure => omega
                 case rel => exact ⟨k + 1, by go_num, by omega, by omega, HC2, hB⟩)
    · obtain rfl : k = n := by omega
      have hltz : ¬ (k : Int) < (k : Int) := by omega
      have E : Hid (parentsB L = true) := Lib.hid (by have := HC.out; rwa [List.take_of_length_le (by rw [HN.out]; omega)] at this)
      go_wp2_with fail
      go_ret
      exact ⟨by rw [E.out]; rfl, hB⟩
open Go.RowKit Go.Maps
structure TO (L : List Acc) (s : Nat) (f : Int → Option Nat) (ks : List Int) : Prop where
 seen : ∀ c v, f c = some v → v < s ∧ Ends L c
 done : ∀ i, i < s → Ends L (L.getD i acc0).code
 keys : ∀ c, (f c).isSome = decide (c ∈ ks)
 nodup : ks.Nodup
 sub : ∀ c ∈ ks, c ∈ L.map Acc.code
structure TI (L : List Acc) (s : Nat) (a : Acc) (f : Int → Option Nat) (ks : List Int) : Prop where
 seen : ∀ c v, f c = some v → v ≤ s ∧ (v < s → Ends L c) ∧ (v = s → ∃ k, stepN L (k + 1) c = some a.code)
 done : ∀ i, i < s → Ends L (L.getD i acc0).code
 way : ∃ k, stepN L k (L.getD s acc0).code = some a.code
 mem : a ∈ L
 keys : ∀ c, (f c).isSome = decide (c ∈ ks)
 nodup : ks.Nodup
 sub : ∀ c ∈ ks, c ∈ L.map Acc.code
theorem TO.start {L : List Acc} : TO L 0 (fun _ => none) [] := ⟨fun c v h => (by cases h), fun i hi => (by omega), fun c => (by simp), List.nodup_nil, fun c h => (by cases h)⟩
theorem ti_zero (w : World) : (zeroValue 3).run Try.prog w = .ok (.int .i64 0) w := by kernel_rfl
def SeenM (w : World) (b n : Nat) (f : Int → Option Nat) : Prop := ∃ D : DataW Unit, w.ownsMap Try.prog 3 (plainElem Try.prog 3) b n D ∧ IsMap D ∧ ∀ c, Maps.has D (.int .i64 c) = (f c).isSome ∧ ∀ s : Nat, f c = some s → D.atKey (.int .i64 c) (.lit (.int .i64 0)) = .lit (.int .i64 (s : Int))
theorem SeenM.made (w : World) : SeenM (w.alloc (.map #[] 0)) w.heap.size 0 (fun _ => none) :=
 ⟨.map [], World.ownsMap_made _ _ _ _, isMap_empty, fun c => ⟨rfl, fun s h => by cases h⟩⟩
theorem wpList_seen_look {w : World} {ops : Array Oper} {rest : List Oper} {o : Oper} {a : Act} {Q : Exit → Act → World → Prop} (hg : o.guard = none) (m x : Operand) (hop : o.op = Op.lookup 88 m x true)
  (b n : Nat) (f : Int → Option Nat) (hm : a.eval m = .map (some b)) (hs : SeenM w b n f) (c : Int) (hx : a.eval x = .int .i64 c) (hw : (Lit.int .i64 c).wf = true)
  (hK : ∀ v : Int, Hid (∀ s : Nat, f c = some s → v = (s : Int)) → wpList Try.prog ops Q rest (a.put o.dst (.tuple #[.int .i64 v, .bool (f c).isSome])) w) : wpList Try.prog ops Q (o :: rest) a w := by
 obtain ⟨D, h1, _, h3⟩ := hs
 refine wpList_lookup_own_ok_int w hg m x 88 hop 3 3 .i64 ti_keyed Try.underlying88 Try.underlying3 (ti_zero _) b n D hm h1 _ _ hx (keyOf_int_mk Try.underlying3 hw) ?_
 intro v hat _
 rw [(h3 c).1]
 refine hK v (Lib.hid fun s hs => ?_)
 have := (h3 c).2 s hs
 rw [hat] at this
 injection this with this
 injection this
theorem wpList_seen_put {w : World} {ops : Array Oper} {rest : List Oper} {o : Oper} {a : Act} {Q : Exit → Act → World → Prop} (hg : o.guard = none) (m x y : Operand) (hop : o.op = Op.mapUpdate 88 m x y)
  (b n : Nat) (f : Int → Option Nat) (hm : a.eval m = .map (some b)) (hs : SeenM w b n f) (c : Int) (s : Nat) (hx : a.eval x = .int .i64 c) (hy : a.eval y = .int .i64 (s : Int)) (hw : (Lit.int .i64 c).wf = true) (hw2 : (Lit.int .i64 (s : Int)).wf = true) (hn : n ≤ 1000000)
  (hK : ∀ w', Hid (SeenM w' b (n + 1) (fun x => if x = c then some s else f x)) → Hid (w.grownBy w' (some b)) → wpList Try.prog ops Q rest (a.put o.dst undef) w') : wpList Try.prog ops Q (o :: rest) a w := by
 obtain ⟨D, h1, h2, h3⟩ := hs
 refine wpList_mapUpdate_own w hg m x y 88 hop 3 3 ti_keyed Try.underlying88 (plainElem Try.prog 3) b n D hm h1 (by unfold maxLen; omega) _ _ _ hx hy (keyOf_int_mk Try.underlying3 hw) _ [] (plainElem_int Try.underlying3 hw2) ?_
 intro w' h4 h5
 refine hK w' (Lib.hid ⟨_, h4, h2.put _ _, fun x => ?_⟩) (Lib.hid h5)
 dsimp only
 have hkl : ∀ z : Int, WideAt.IsKeyLit (Lit.int .i64 z) := fun z => by simp [WideAt.IsKeyLit]
 by_cases hxc : x = c
 ·subst hxc
  rw [if_pos rfl]
  refine ⟨by rw [has_put_same h2 (hkl _)]; rfl, fun s' hs' => ?_⟩
  injection hs' with hs'
  subst hs'
  exact atKey_put_same h2 (hkl _) _ _
 ·rw [if_neg hxc]
  have hne : Lit.int .i64 x ≠ Lit.int .i64 c := fun e => hxc (by injection e)
  refine ⟨by rw [has_put_other hne]; exact (h3 x).1, fun s' hs' => ?_⟩
  rw [atKey_put_other hne]
  exact (h3 x).2 s' hs'
theorem wf64 {z : Int} (h1 : -9223372036854775808 ≤ z) (h2 : z ≤ 9223372036854775807) : (Lit.int .i64 z).wf = true := WalkArith.wf_i64 ⟨h1, h2⟩
theorem ab_set4 {w : World} {g : Nat} {a : Acc} (h : AB w g a) (p : Acc) : AB ((((w.setCell ⟨g, 0, none⟩ (.int .i64 p.code)).setCell ⟨g, 1, none⟩ (.int .i64 p.kind)).setCell ⟨g, 2, none⟩ (.int .i64 p.basis)).setCell ⟨g, 3, none⟩ (.int .i64 p.par)) g p := by
 have hc : ∀ (w : World) (i j : Nat) (v u : Value), w.cell? ⟨g, i, none⟩ = some u → (w.setCell ⟨g, j, none⟩ v).cell? ⟨g, i, none⟩ = if i = j then some v else some u := by
  intro w i j v u hu
  split
  ·rename_i e; subst e; exact World.cell?_setCell_same w _ v hu
  ·rename_i e; rw [World.cell?_setCell_other w _ _ v (fun h => e (by injection h with _ h2; exact h2.symm))]; exact hu
 have z0 := h.cells.c0
 have z1 := h.cells.c1
 have z2 := h.cells.c2
 have z3 := h.cells.c3
 simp only [Nat.zero_add] at z1 z2 z3
 have hf : ∀ (w : World) (p : Addr) (v : Value) (i : Nat), (w.setCell p v).frozen? ⟨g, i, none⟩ = w.frozen? ⟨g, i, none⟩ := fun w p v i => World.frozen?_setCell w p _ v
 refine ⟨⟨?_, ?_, ?_, ?_⟩, by simpa [World.setCell] using h.lt, fun i => by rw [hf, hf, hf, hf]; exact h.fz i⟩
 ·rw [hc _ 0 3 _ _ (hc _ 0 2 _ _ (hc _ 0 1 _ _ (hc _ 0 0 _ _ z0)))]; rfl
 ·rw [Nat.zero_add, hc _ 1 3 _ _ (hc _ 1 2 _ _ (hc _ 1 1 _ _ (hc _ 1 0 _ _ z1)))]; rfl
 ·rw [Nat.zero_add, hc _ 2 3 _ _ (hc _ 2 2 _ _ (hc _ 2 1 _ _ (hc _ 2 0 _ _ z2)))]; rfl
 ·rw [Nat.zero_add, hc _ 3 3 _ _ (hc _ 3 2 _ _ (hc _ 3 1 _ _ (hc _ 3 0 _ _ z3)))]; rfl
theorem codesB_wf {L : List Acc} (h : codesB L = true) {a : Acc} (ha : a ∈ L) : 1 ≤ a.code ∧ a.code ≤ 99999 := by
 have hs := codesB_srt h
 obtain ⟨i, hi, rfl⟩ := mem_getD_acc (d := acc0) ha
 refine ⟨hs.pos i hi, ?_⟩
 unfold codesB at h
 rw [Bool.and_eq_true, decide_eq_true_eq] at h
 obtain ⟨n, hn⟩ : ∃ n, L.length = n + 1 := ⟨L.length - 1, by omega⟩
 have h2 := h.2
 rw [hn, lastC_succ] at h2
 rcases Nat.lt_or_ge i n with h3 | h3
 ·have := hs.mono i n h3 (by omega); omega
 ·obtain rfl : i = n := by omega
  exact h2
theorem parentsB_fnd {L : List Acc} (h : parentsB L = true) {a : Acc} (ha : a ∈ L) (h0 : a.par ≠ 0) : ∃ p, fnd L a.par = some p := by
 unfold parentsB at h
 rw [List.all_eq_true] at h
 rcases parB_is.1 (h a ha) with h1 | ⟨p, h1, _⟩
 ·exact absurd h1 h0
 ·exact ⟨p, h1⟩
structure TW (w W : World) (s0 g mb n : Nat) (a : Acc) (f : Int → Option Nat) (m : Nat) : Prop where
 box : AB W g a
 map : SeenM W mb m f
 below : Below s0 w W
 gs : s0 ≤ g
 ms : s0 ≤ mb
 ne : g ≠ mb
 m1 : m ≤ 1000
set_option maxRecDepth 20000 in
set_option maxHeartbeats 3200000 in
theorem htops_any (A : Option Addr) (cp : Nat) (L : List Acc) (w : World) (hz : AccAt w A L) (hl : L.length ≤ 1000) (hc : codesB L = true) (hp : parentsB L = true) :
  Calls Try.prog 46 #[.slice A L.length cp] w fun e w' => e = .returned (.bool (topsB L)) ∧ Below w.heap.size w w' := by
 have hS := codesB_srt hc
 have hI := fun y w h => cidx_any A cp L y w h hl hS
 have hB := below_alloc_new (w := w) (.map #[] 0)
 have hM := SeenM.made w
 obtain ⟨n, hn⟩ : ∃ n, L.length = n := ⟨_, rfl⟩
 obtain ⟨s0, hs0⟩ : ∃ s0, w.heap.size = s0 := ⟨_, rfl⟩
 rw [hn] at hl hI ⊢
 rw [hs0] at hB hM ⊢
 have HN := Lib.hid hn
 have HZ := Lib.hid hz
 have HI := Lib.hid hI
 have HS := Lib.hid hS
 have HC := Lib.hid hc
 have HP := Lib.hid hp
 have HS0 := Lib.hid hs0
 have HM := Lib.hid hM
 have hmm := @run_makeMap Try.prog
 clear hn hz hI hS hc hp hM
 go_enter Try.func46, Try.ntmps46
 go_wp2_with fail
 go_step3
 go_wp2_with fail
 go_step3
 go_wp2_with fail
 clear hs0
 go_loopg [13] n (fun kx s13 wr => ∃ (s m : Nat) (f : Int → Option Nat) (ks : List Int), s13 = .int .i64 s ∧ s ≤ n ∧ n - s ≤ kx ∧ Hid (TO L s f ks) ∧ Hid (SeenM wr s0 m f) ∧ Hid (m = ks.length) ∧ Below s0 w wr)
 case atStart => exact ⟨0, 0, _, [], rfl, by omega, by omega, Lib.hid TO.start, HM, Lib.hid rfl, hB⟩
 case round =>
  clear hB HM
  obtain ⟨s, m, f, ks, rfl, hs, hkx, HT, HM, HMK, hB⟩ := hrel
  by_cases hlt : s < n
  ·have hltz : (s : Int) < (n : Int) := by omega
   have hsz : s0 ≤ wr.heap.size := by have := hB.size; have := HS0.out; omega
   obtain ⟨b, off, rfl, hbw, hcs⟩ := HZ.out (by rw [HN.out]; omega)
   have hbs : b < s0 := by have := HS0.out; omega
   obtain ⟨c0, c1, c2, c3⟩ := (hcs s (by rw [HN.out]; exact hlt)).up hB hbs
   obtain ⟨x, hx⟩ : ∃ x, L.getD s acc0 = x := ⟨_, rfl⟩
   have hti := HT.out.enter (by rw [HN.out]; exact hlt)
   rw [hx] at c0 c1 c2 c3 hti
   have HTI := Lib.hid hti
   have HCS := Lib.hid hcs
   have hm1 : m ≤ 1000 := by
    have := nodup_subset_len HT.out.nodup HT.out.sub
    rw [List.length_map, HN.out] at this
    rw [HMK.out]; omega
   have HW : Hid (TW w (wr.alloc (.cells #[.int .i64 x.code, .int .i64 x.kind, .int .i64 x.basis, .int .i64 x.par] 50)) s0 wr.heap.size s0 n x f m) :=
    Lib.hid ⟨ab_new wr 50 x, HM.out.up (below_alloc_new _), hB.alloc hsz _, hsz, Nat.le_refl _, by have := HM.out.lt; omega, hm1⟩
   obtain ⟨g, hg⟩ : ∃ g, wr.heap.size = g := ⟨_, rfl⟩
   rw [hg] at HW
   have HG := Lib.hid hg
   clear hx hcs hti HM hB hg
   go_wp2_with fail
   rw [HG.out]
   go_loopg [6] (n - ks.length) (fun kx s6 W => ∃ (a : Acc) (m2 : Nat) (f2 : Int → Option Nat) (ks2 : List Int), n - ks2.length ≤ kx ∧ Hid (TI L s a f2 ks2) ∧ Hid (TW w W s0 g s0 n a f2 m2) ∧ Hid (m2 = ks2.length))
   case atStart => exact ⟨x, m, f, ks, by omega, HTI, HW, HMK⟩
   case round =>
    clear HW HTI HT HMK c0 c1 c2 c3
    obtain ⟨a, m2, f2, ks2, hkx2, HTI, HW, HMK⟩ := hrel
    obtain ⟨⟨z0, z1, z2, z3⟩, zlt, zf⟩ := HW.out.box
    simp only [Nat.zero_add] at z1 z2 z3
    have zf0 := zf 0
    have zf1 := zf 1
    have zf2 := zf 2
    have zf3 := zf 3
    clear zf
    have HWF : Hid ((Lit.int .i64 a.code).wf = true) := Lib.hid (by have := codesB_wf HC.out HTI.out.mem; exact wf64 (by omega) (by omega))
    by_cases h0 : a.par = 0
    ·have e0 : (a.par != 0) = false := by simp [h0]
     have HTO := Lib.hid (HTI.out.top HS.out h0)
     clear h0
     go_wp2_with fail
     go_roundg (n - (s + 1))
     case measure => omega
     case rel => exact ⟨s + 1, m2, f2, ks2, by go_num, by omega, by omega, HTO, Lib.hid HW.out.map, HMK, HW.out.below⟩
    ·have e0 : (a.par != 0) = true := by simp [h0]
     cases hf : f2 a.code with
     | some v =>
      have HFV := Lib.hid hf
      have hsm : Hid ((f2 a.code).isSome = true) := Lib.hid (by rw [hf]; rfl)
      by_cases hvs : v = s
      ·have E : Hid (topsB L = false) := Lib.hid (HTI.out.loop (by rw [hf, hvs]))
       have HVS := Lib.hid hvs
       clear h0 hf hvs
       go_wp2_with (at_lookup; refine wpList_seen_look rfl _ _ rfl s0 m2 f2 rfl HW.out.map a.code rfl HWF.out ?_; intro v1 hv1; have hve : v1 = (s : Int) := (by rw [hv1.out v HFV.out, HVS.out]); subst hve; rw [hsm.out]; have hss : ((s : Int) == (s : Int)) = true := (by simp); clear hv1)
       try rw [Exit.noGoto_ret]
       go_ret
       exact ⟨by rw [E.out]; rfl, HW.out.below⟩
      ·have HTO := Lib.hid (HTI.out.old hf hvs)
       have hvz : ((v : Int) == (s : Int)) = false := by simp; omega
       clear h0 hf hvs
       go_wp2_with (at_lookup; refine wpList_seen_look rfl _ _ rfl s0 m2 f2 rfl HW.out.map a.code rfl HWF.out ?_; intro v1 hv1; have hve : v1 = (v : Int) := (by rw [hv1.out v HFV.out]); subst hve; rw [hsm.out]; clear hv1)
       go_roundg (n - (s + 1))
       case measure => omega
       case rel => exact ⟨s + 1, m2, f2, ks2, by go_num, by omega, by omega, HTO, Lib.hid HW.out.map, HMK, HW.out.below⟩
     | none =>
      obtain ⟨p, hp⟩ := parentsB_fnd HP.out HTI.out.mem h0
      obtain ⟨hti2, hlen2⟩ := HTI.out.step HS.out hf hp
      have hsm : Hid ((f2 a.code).isSome = false) := Lib.hid (by rw [hf]; rfl)
      have HTI2 := Lib.hid hti2
      have HFP := Lib.hid hp
      have hl2 : ks2.length + 1 ≤ n := by rw [HN.out] at hlen2; simpa using hlen2
      have HMK2 : Hid (m2 + 1 = (a.code :: ks2).length) := Lib.hid (by rw [HMK.out]; simp)
      have HWS : Hid ((Lit.int .i64 (s : Int)).wf = true) := Lib.hid (wf64 (by omega) (by omega))
      have hgk2 : n - (a.code :: ks2).length < n - ks2.length := by simp; omega
      have hix := fun W h => HI.out a.par W h
      rw [hp] at hix
      have HIX := Lib.hid hix
      clear h0 hf hp hti2 hlen2 hix
      go_wp2_with (first
       | (at_lookup; refine wpList_seen_look rfl _ _ rfl s0 m2 f2 rfl HW.out.map a.code rfl HWF.out ?_; intro v1 hv1; rw [hsm.out]; clear hv1)
       | (at_mapUpdate; refine wpList_seen_put rfl _ _ _ rfl s0 m2 f2 rfl HW.out.map a.code s rfl rfl HWF.out HWS.out (by have := HW.out.m1; omega) ?_; intro w2 hm2 hg2; have hb2 := grown_below HW.out.below hg2.out (Nat.le_refl _) (Nat.le_of_lt HW.out.map.lt); have HAB := Lib.hid (HW.out.box.blk (hg2.out.block g zlt (by (intro e9; injection e9 with e9; exact HW.out.ne e9)))); clear z0 z1 z2 z3 zlt zf0 zf1 zf2 zf3; obtain ⟨⟨z0, z1, z2, z3⟩, zlt, -⟩ := HAB.out; simp only [Nat.zero_add] at z1 z2 z3)
       | (go_at_call 56; refine (HIX.out _ (HZ.out.up (by (rw [HS0.out]; exact hb2)))).mono ?_; rintro e w3 ⟨i, rfl, hfa, hb⟩; obtain ⟨hil, hie⟩ := hfa _ HFP.out; replace HAB := Lib.hid (HAB.out.up hb); replace hm2 := Lib.hid (hm2.out.up hb); replace hb2 := hb2.trans (hb.mono (by (have := hb2.size; have := HS0.out; omega))); have d4 := (HCS.out i hil).up hb2 hbs; rw [hie] at d4; obtain ⟨d0, d1, d2, d3⟩ := d4; have hiz : (i : Int) < (n : Int) := (by rw [HN.out] at hil; omega); clear z0 z1 z2 z3 zlt hb hfa hil hie hg2; obtain ⟨⟨z0, z1, z2, z3⟩, zlt, zf⟩ := HAB.out; simp only [Nat.zero_add] at z1 z2 z3; have zf0 := zf 0; have zf1 := zf 1; have zf2 := zf 2; have zf3 := zf 3; clear zf))
      have HW2 : Hid (TW w _ s0 g s0 n p _ (m2 + 1)) := Lib.hid ⟨ab_set4 HAB.out p, hm2.out.blk (by rw [Below.heap_setCell _ _ _ _ (Ne.symm HW.out.ne), Below.heap_setCell _ _ _ _ (Ne.symm HW.out.ne), Below.heap_setCell _ _ _ _ (Ne.symm HW.out.ne), Below.heap_setCell _ _ _ _ (Ne.symm HW.out.ne)]), bset4 hb2 HW.out.gs _ _ _ _, HW.out.gs, HW.out.ms, HW.out.ne, by have := HMK.out; omega⟩
      go_roundg (n - (a.code :: ks2).length)
      case measure => simp only [List.length_cons]; omega
      case rel => exact ⟨p, m2 + 1, _, a.code :: ks2, Nat.le_refl _, HTI2, HW2, HMK2⟩
  ·obtain rfl : s = n := by omega
   have hltz : ¬ (s : Int) < (s : Int) := by omega
   have E : Hid (topsB L = true) := Lib.hid (by have := HT.out; rw [← HN.out] at this; exact this.all)
   go_wp2_with fail
   go_ret
   exact ⟨by rw [E.out]; rfl, hB⟩
set_option maxRecDepth 20000 in
set_option maxHeartbeats 1600000 in
theorem cvalid8_any (A : Option Addr) (cp : Nat) (L : List Acc) (g : Bool) (w : World) (hz : AccAt w A L) (hl : L.length ≤ 1000) :
  Calls Try.prog 22 #[.slice A L.length cp, .bool g] w fun e w' => e = .returned (.bool (vB L g)) ∧ Below w.heap.size w w' := by
 have hB := Below.refl w.heap.size w
 have h1 := fun w h => hcodes_any A cp L w h hl
 have h2 := fun w h => hkinds_any A cp L g w h hl
 have h3 := fun hc w h => hpar_any A cp L w h hl (codesB_srt hc)
 have h4 := fun hc hp w h => htops_any A cp L w h hl hc hp
 have hv : vB L g = (decide (L.length ≤ 200) && codesB L && kindsB L g && parentsB L && topsB L) := rfl
 obtain ⟨n, hn⟩ : ∃ n, L.length = n := ⟨_, rfl⟩
 rw [hn] at hl hv h1 h2 h3 h4 ⊢
 have HZ := Lib.hid hz
 clear hn hz
 by_cases hbig : 200 < n
 ·have E : Hid (vB L g = false) := Lib.hid (by rw [hv, decide_eq_false (show ¬ n ≤ 200 by omega)]; rfl)
  have e1 : decide (n ≤ 200) = false := decide_eq_false (by omega)
  have e2 : decide ((n : Int) ≤ 200) = false := decide_eq_false (by omega)
  clear h1 h2 h3 h4 hv
  go_enter Try.func22, Try.ntmps22
  go_wp2_with fail
  go_ret
  exact ⟨by rw [E.out]; rfl, hB⟩
 have e2 : decide ((n : Int) ≤ 200) = true := decide_eq_true (by omega)
 rw [decide_eq_true (show n ≤ 200 by omega), Bool.true_and] at hv
 cases hc : codesB L
 ·rw [hc] at h1 hv
  have E := Lib.hid (show vB L g = false from hv)
  have H1 := Lib.hid h1
  clear h1 h2 h3 h4 hv hc
  go_enter Try.func22, Try.ntmps22
  go_wp2_with (go_at_call 43; refine (H1.out _ (HZ.out.up hB)).mono ?_; rintro e w1 ⟨rfl, hb⟩; replace hB := below_more hB hb; clear hb)
  go_ret
  exact ⟨by rw [E.out]; rfl, hB⟩
 replace h3 := h3 hc
 replace h4 := h4 hc
 rw [hc] at h1 hv
 have H1 := Lib.hid h1
 clear h1 hc
 cases hk : kindsB L g
 ·rw [hk] at h2 hv
  have E := Lib.hid (show vB L g = false from hv)
  have H2 := Lib.hid h2
  clear h2 h3 h4 hv hk
  go_enter Try.func22, Try.ntmps22
  go_wp2_with (first | (go_at_call 43; refine (H1.out _ (HZ.out.up hB)).mono ?_; rintro e w1 ⟨rfl, hb⟩; replace hB := below_more hB hb; clear hb) | (go_at_call 44; refine (H2.out _ (HZ.out.up hB)).mono ?_; rintro e w1 ⟨rfl, hb⟩; replace hB := below_more hB hb; clear hb))
  go_ret
  exact ⟨by rw [E.out]; rfl, hB⟩
 rw [hk] at h2 hv
 have H2 := Lib.hid h2
 clear h2 hk
 cases hp : parentsB L
 ·rw [hp] at h3 hv
  have E := Lib.hid (show vB L g = false from hv)
  have H3 := Lib.hid h3
  clear h3 h4 hv hp
  go_enter Try.func22, Try.ntmps22
  go_wp2_with (first | (go_at_call 43; refine (H1.out _ (HZ.out.up hB)).mono ?_; rintro e w1 ⟨rfl, hb⟩; replace hB := below_more hB hb; clear hb) | (go_at_call 44; refine (H2.out _ (HZ.out.up hB)).mono ?_; rintro e w1 ⟨rfl, hb⟩; replace hB := below_more hB hb; clear hb) | (go_at_call 45; refine (H3.out _ (HZ.out.up hB)).mono ?_; rintro e w1 ⟨rfl, hb⟩; replace hB := below_more hB hb; clear hb))
  go_ret
  exact ⟨by rw [E.out]; rfl, hB⟩
 replace h4 := h4 hp
 rw [hp] at h3 hv
 have E := Lib.hid (show vB L g = topsB L from hv)
 have H3 := Lib.hid h3
 have H4 := Lib.hid h4
 clear h3 h4 hv hp
 go_enter Try.func22, Try.ntmps22
 go_wp2_with (first | (go_at_call 43; refine (H1.out _ (HZ.out.up hB)).mono ?_; rintro e w1 ⟨rfl, hb⟩; replace hB := below_more hB hb; clear hb) | (go_at_call 44; refine (H2.out _ (HZ.out.up hB)).mono ?_; rintro e w1 ⟨rfl, hb⟩; replace hB := below_more hB hb; clear hb) | (go_at_call 45; refine (H3.out _ (HZ.out.up hB)).mono ?_; rintro e w1 ⟨rfl, hb⟩; replace hB := below_more hB hb; clear hb) | (go_at_call 46; refine (H4.out _ (HZ.out.up hB)).mono ?_; rintro e w1 ⟨rfl, hb⟩; replace hB := below_more hB hb; clear hb))
 go_ret
 exact ⟨by rw [E.out]; rfl, hB⟩
open Go Go.RowKit
open AS (NoInt)
section
variable {t : TypeId} {w w' : World} {g : Nat} {vs : List Value}
end
end Go.Proofs.Ytmahnpbjjadipaa
namespace Go.Proofs.Ytmahnpbjjadipaa.AS
open Go Go.RowKit
open Go.Proofs.Ytmahnpbjjadipaa (fillL upd fillL_size fillL_get fillL_upd fillL_self filter_less none_listed put_fill)
section
variable {P : Program} {ops : Array Oper} {Q : Exit → Act → World → Prop} {FL : List (Nat × Fact)} {J : Nat → List Value → World → Prop} {t0 : Array Value} {df : List Deferred} {ds : List Nat}
 {st lm al : List Nat} {js : List (List Nat)} {pt : List (List Nat)}
theorem ss {fr : (Nat → Value) → Array Value} {o : Oper} {rest : List Oper} {i k : Nat} {need : List Nat} (h0 : st.idxOf? i = some k) (h1 : pt.getD i [] = need)
  (h : StoreOk al P ops Q FL J js fr df o need k) (hs : StepsOk al P ops Q FL J js fr df pt st lm rest (i + 1)) : StepsOk al P ops Q FL J js fr df pt st lm (o :: rest) i := ⟨by rw [h0, h1]; exact h, hs⟩
end
end Go.Proofs.Ytmahnpbjjadipaa.AS
namespace Go.Proofs.Ytmahnpbjjadipaa
def insD (d : Int) : List Int → List Int
 | [] => [d]
 | x :: l => if x < d then x :: insD d l else if x = d then x :: l else d :: x :: l
def Asc (l : List Int) : Prop := l.Pairwise (· < ·)
theorem mem_insD {d x : Int} : ∀ {l : List Int}, x ∈ insD d l ↔ x = d ∨ x ∈ l
 | [] => by simp [insD]
 | y :: l => by
  unfold insD
  split
  ·rw [List.mem_cons, mem_insD, List.mem_cons]; exact ⟨fun h => by rcases h with h | h | h <;> simp [h], fun h => by rcases h with h | h | h <;> simp [h]⟩
  ·split
   ·rename_i _ h; subst h; simp
   ·simp
theorem insD_asc {d : Int} : ∀ {l : List Int}, Asc l → Asc (insD d l)
 | [], _ => by simp [insD, Asc]
 | y :: l, h => by
  have h' := h
  unfold Asc at h'
  rw [List.pairwise_cons] at h'
  unfold insD
  split
  ·rename_i hy
   unfold Asc
   rw [List.pairwise_cons]
   exact ⟨fun z hz => by rcases mem_insD.1 hz with rfl | hz; exact hy; exact h'.1 z hz, insD_asc h'.2⟩
  ·split
   ·exact h
   ·rename_i h1 h2
    unfold Asc
    rw [List.pairwise_cons]
    refine ⟨fun z hz => ?_, h⟩
    rcases List.mem_cons.1 hz with rfl | hz
    ·omega
    ·have := h'.1 z hz; omega
theorem Asc.nodup {l : List Int} (h : Asc l) : l.Nodup := List.Pairwise.imp (fun h => by omega) h
theorem Asc.ext {l m : List Int} (h : Asc l) (h2 : Asc m) (hx : ∀ x, x ∈ l ↔ x ∈ m) : l = m :=
 List.Perm.eq_of_pairwise (le := (· < ·)) (fun a b _ _ h1 h2 => by omega) h h2 ((List.perm_ext_iff_of_nodup h.nodup h2.nodup).2 hx)
def keysL (l : List Int) : List Int := l.foldl (fun m d => insD d m) []
theorem keysL_is {l : List Int} : Asc (keysL l) ∧ ∀ x, x ∈ keysL l ↔ x ∈ l := by
 suffices h : ∀ (l m : List Int), Asc m → Asc (l.foldl (fun m d => insD d m) m) ∧ ∀ x, x ∈ l.foldl (fun m d => insD d m) m ↔ x ∈ l ∨ x ∈ m by
  have := h l [] List.Pairwise.nil
  exact ⟨this.1, fun x => by rw [keysL, this.2 x]; simp⟩
 intro l
 induction l with
 | nil => intro m hm; exact ⟨hm, fun x => by simp⟩
 | cons d l ih =>
  intro m hm
  obtain ⟨h1, h2⟩ := ih (insD d m) (insD_asc hm)
  exact ⟨h1, fun x => by rw [List.foldl_cons, h2 x, mem_insD, List.mem_cons]; exact ⟨fun h => by rcases h with h | h | h <;> simp [h], fun h => by rcases h with (h | h) | h <;> simp [h]⟩⟩
theorem keysL_ext {l m : List Int} (h : Asc m) (hx : ∀ x, x ∈ m ↔ x ∈ l) : m = keysL l := h.ext keysL_is.1 (fun x => by rw [keysL_is.2, hx])
theorem sort_asc {l : List Int} (h : l.Nodup) : Asc (l.mergeSort (fun x y => decide (x ≤ y))) := by
 have h1 := List.pairwise_mergeSort (le := fun x y : Int => decide (x ≤ y)) (fun a b c h1 h2 => by simp at *; omega) (fun a b => by simp; omega) l
 have h2 : (l.mergeSort (fun x y => decide (x ≤ y))).Nodup := (List.mergeSort_perm l _).nodup_iff.2 h
 unfold Asc
 rw [List.pairwise_iff_getElem] at h1 ⊢
 intro i j hi hj hij
 have h3 := h1 i j hi hj hij
 have h4 := (List.pairwise_iff_getElem.1 h2) i j hi hj hij
 simp at h3
 omega
theorem keysL_len {l : List Int} : (keysL l).length ≤ l.length := by
 have h := nodup_subset_len (keysL_is (l := l)).1.nodup (m := l) fun x hx => (keysL_is.2 x).1 hx
 exact h
def datesL (K : List Lnk) : List Int := keysL (K.map (·.since))
def lnkB (L c : List Acc) (l : Lnk) : Bool := (fnd L l.frm).isSome && ((fnd c l.tgt).isSome && (decide ((fndA L l.frm).kind = (fndA c l.tgt).kind) && vdB l.since))
def smB (K : List Lnk) (i k : Nat) : Bool := decide ((K.getD k lnk0).frm = (K.getD i lnk0).frm) && decide ((K.getD k lnk0).since = (K.getD i lnk0).since)
def dfB (K : List Lnk) (i : Nat) : Bool := allTo (fun k => !smB K i k) i
def mvB (L : List Acc) (K : List Lnk) (c : List Acc) : Bool := vB c true && (vB L false && (decide (K.length ≤ 400) && (allTo (fun i => lnkB L c (K.getD i lnk0)) K.length && allTo (dfB K) K.length)))
open Go.RowKit Go.Maps
def MapV (w : World) (b n : Nat) (f : Int → Option Value) : Prop := ∃ D : DataW Value, w.ownsMap Try.prog 3 heldE b n D ∧ ∀ c, Maps.has D (.int .i64 c) = (f c).isSome ∧ ∀ z, D.atKey (.int .i64 c) z = (match f c with | some v => .held v | none => z)
section
variable {w w' : World} {b n m : Nat} {f : Int → Option Value}
theorem MapV.blk (h : MapV w b n f) (hk : w'.heap[b]? = w.heap[b]?) : MapV w' b n f := by
 obtain ⟨D, ⟨es, clock, hb, rest⟩, h2⟩ := h
 exact ⟨D, ⟨es, clock, hk.trans hb, rest⟩, h2⟩
theorem MapV.lt (h : MapV w b n f) : b < w.heap.size := by
 obtain ⟨D, h1, _⟩ := h
 exact h1.lt
theorem MapV.up (h : MapV w b n f) (hb : Below w.heap.size w w') : MapV w' b n f := h.blk (hb.block b h.lt)
theorem MapV.made (w : World) : MapV (w.alloc (.map #[] 0)) w.heap.size 0 (fun _ => none) :=
 ⟨.map [], World.ownsMap_made _ _ _ _, fun _ => ⟨rfl, fun _ => rfl⟩⟩
end
theorem wpList_mapv_put {w : World} {ops : Array Oper} {rest : List Oper} {o : Oper} {a : Act} {Q : Exit → Act → World → Prop} (hg : o.guard = none) (m x y : Operand) (t e : TypeId) (hop : o.op = Op.mapUpdate t m x y)
  (ht : Try.prog.underlying t = some (.map 3 e))
  (b n : Nat) (f : Int → Option Value) (hm : a.eval m = .map (some b)) (hs : MapV w b n f) (c : Int) (hx : a.eval x = .int .i64 c) (v : Value) (hy : a.eval y = v) (hw : (Lit.int .i64 c).wf = true) (hn : n ≤ 1000000)
  (hK : ∀ w', Hid (MapV w' b (n + 1) (fun x => if x = c then some v else f x)) → Hid (w.grownBy w' (some b)) → wpList Try.prog ops Q rest (a.put o.dst undef) w') : wpList Try.prog ops Q (o :: rest) a w := by
 obtain ⟨D, h1, h3⟩ := hs
 have h2 := h1.isMap
 refine wpList_mapUpdate_own w hg m x y t hop 3 e ti_keyed ht heldE b n D hm h1 (by unfold maxLen; omega) _ _ _ hx hy (keyOf_int_mk Try.underlying3 hw) (.held v) [] rfl ?_
 intro w' h4 h5
 refine hK w' (Lib.hid ⟨_, h4, fun x => ?_⟩) (Lib.hid h5)
 have hkl : ∀ z : Int, WideAt.IsKeyLit (Lit.int .i64 z) := fun z => by simp [WideAt.IsKeyLit]
 by_cases hxc : x = c
 ·subst hxc
  simp only [if_true]
  exact ⟨by rw [has_put_same h2 (hkl _)]; rfl, fun z => atKey_put_same h2 (hkl _) _ _⟩
 ·simp only [if_neg hxc]
  have hne : Lit.int .i64 x ≠ Lit.int .i64 c := fun e => hxc (by injection e)
  refine ⟨by rw [has_put_other hne]; exact (h3 x).1, fun z => ?_⟩
  rw [atKey_put_other hne]
  exact (h3 x).2 z
theorem ts_keyed : Keyed Try.prog 80 := Keyed.of_law (deep_law_gate laid_out (by decide +kernel) (by decide +kernel) (by kernel_rfl) (by kernel_rfl))
theorem start_key {a b : Int} (ha : (Lit.int .i64 a).wf = true) (hb : (Lit.int .i64 b).wf = true) : ∃ l, keyOf Try.prog 80 (.agg #[.int .i64 a, .int .i64 b]) = some l := by
 have key : ∀ d, Try.prog.keyLits (d + 2) 80 [.int .i64 a, .int .i64 b] = some [.int .i64 a, .int .i64 b] := by
  intro d
  have hc : Try.prog.cellsOf 80 = 2 := by kernel_rfl
  have hc3 : Try.prog.cellsOf 3 = 1 := by kernel_rfl
  simp [Program.keyLits, Try.underlying80, Try.underlying3, hc, hc3, ha, hb]
 have hf : Value.formed Try.prog 80 (.agg #[.int .i64 a, .int .i64 b]) = true := by
  have hc : Try.prog.cellsOf 80 = 2 := by kernel_rfl
  simp [Value.formed, Try.underlying80, hc]
 have hk : Try.prog.keyType 80 = true := by kernel_rfl
 have h1 : 1 ≤ Try.prog.types.size := by decide +kernel
 obtain ⟨n, hn⟩ : ∃ n, Try.prog.types.size + 1 = n + 2 := ⟨Try.prog.types.size - 1, by omega⟩
 refine ⟨.string (keyBytes [.int .i64 a, .int .i64 b]), ?_⟩
 unfold keyOf
 rw [Try.underlying80]
 simp only [hk, hf, Bool.and_self, if_true]
 rw [hn]
 show Option.map _ (Try.prog.keyLits (n + 2) 80 [.int .i64 a, .int .i64 b]) = _
 rw [key n]; rfl
def SetP (w : World) (b m : Nat) (S : Int → Int → Bool) : Prop := ∃ D : DataW Value, w.ownsMap Try.prog 80 heldE b m D ∧ Maps.size D = m ∧ ∀ x y l, keyOf Try.prog 80 (.agg #[.int .i64 x, .int .i64 y]) = some l → Maps.has D l = S x y
theorem SetP.made (w : World) : SetP (w.alloc (.map #[] 0)) w.heap.size 0 (fun _ _ => false) :=
 ⟨.map [], World.ownsMap_made _ _ _ _, rfl, fun _ _ _ _ => rfl⟩
theorem wpList_setp_put {w : World} {ops : Array Oper} {rest : List Oper} {o : Oper} {a : Act} {Q : Exit → Act → World → Prop} (hg : o.guard = none) (m x y : Operand) (t e : TypeId) (hop : o.op = Op.mapUpdate t m x y)
  (ht : Try.prog.underlying t = some (.map 80 e))
  (b n : Nat) (S : Int → Int → Bool) (hm : a.eval m = .map (some b)) (hs : SetP w b n S) (c d : Int) (hx : a.eval x = .agg #[.int .i64 c, .int .i64 d]) (v : Value) (hy : a.eval y = v) (hw : (Lit.int .i64 c).wf = true) (hw2 : (Lit.int .i64 d).wf = true) (hn : n ≤ 1000000)
  (hK : ∀ w', Hid (SetP w' b (if S c d = true then n else n + 1) (fun x y => decide (x = c ∧ y = d) || S x y)) → Hid (w.grownBy w' (some b)) → wpList Try.prog ops Q rest (a.put o.dst undef) w') : wpList Try.prog ops Q (o :: rest) a w := by
 obtain ⟨D, h1, hsz, h3⟩ := hs
 have h2 := h1.isMap
 have ht2 := h1.tidy ts_keyed
 obtain ⟨l, hl⟩ := start_key hw hw2
 refine wpList_mapUpdate_own w hg m x y t hop 80 e ts_keyed ht heldE b n D hm h1 (by unfold maxLen; omega) _ _ _ hx hy hl (.held v) [] rfl ?_
 intro w' h4 h5
 have hsz2 : Maps.size (D.put l (.held v)) = if S c d = true then n else n + 1 := by
  rw [size_put ht2, h3 c d l hl, hsz]
 refine hK w' (Lib.hid ⟨_, ?_, hsz2, fun x y l2 hl2 => ?_⟩) (Lib.hid h5)
 ·obtain ⟨es, clock, hb, F, hes, hD⟩ := h4
  refine ⟨es, clock, hb, F, ?_, hD⟩
  have : es.size = Maps.size (D.put l (.held v)) := by rw [hD, size_eq, length_sorted]; simp
  omega
 ·by_cases hxc : x = c ∧ y = d
  ·obtain ⟨rfl, rfl⟩ := hxc
   rw [hl] at hl2
   obtain rfl := Option.some.inj hl2
   rw [has_put_same h2 (ts_keyed.key hl)]
   simp
  ·have hne : l2 ≠ l := by
    rintro rfl
    have := ts_keyed.inj hl2 hl
    simp at this
    exact hxc this
   rw [has_put_other hne, h3 x y l2 hl2]
   show S x y = (decide (x = c ∧ y = d) || S x y)
   rw [decide_eq_false hxc]; rfl
open Go.RowKit Go.Maps
set_option maxRecDepth 20000 in
set_option maxHeartbeats 3200000 in
theorem clnk_any (l : Lnk) (A C : Option Addr) (cp d : Nat) (L c : List Acc) (w : World) (hz : AccAt w A L) (hy : AccAt w C c) (hl : L.length ≤ 1000) (hm : c.length ≤ 1000) :
  Calls Try.prog 23 #[lnkV l, .slice A L.length cp, .slice C c.length d] w fun e w' => e = .returned (.bool (lnkB L c l)) ∧ Below w.heap.size w w' := by
 have hB := below_alloc_new (w := w) (.cells #[.int .i64 l.frm, .int .i64 l.tgt, .int .i64 l.since] 46)
 have HL := Lib.hid (lb_new w 46 l)
 have HZ := Lib.hid (hz.up hB)
 have HY := Lib.hid (hy.up hB)
 have hf := fun w h => cfind_any A cp L l.frm w h hl
 have hg := fun w h => cfind_any C d c l.tgt w h hm
 have hv := fun w => vd_any l.since w
 have hE : lnkB L c l = ((fnd L l.frm).isSome && ((fnd c l.tgt).isSome && (decide ((fndA L l.frm).kind = (fndA c l.tgt).kind) && vdB l.since))) := rfl
 generalize lnkB L c l = r at *
 generalize (fnd L l.frm).isSome = q1 at *
 generalize (fnd c l.tgt).isSome = q2 at *
 generalize fndA L l.frm = fa at *
 generalize fndA c l.tgt = fb at *
 generalize vdB l.since = q4 at *
 obtain ⟨q3, hq3⟩ : ∃ q3, decide (fa.kind = fb.kind) = q3 := ⟨_, rfl⟩
 have e3 : (fa.kind == fb.kind) = q3 := by rw [← hq3, Bool.eq_iff_iff]; simp
 rw [hq3] at hE
 generalize L.length = n at *
 generalize c.length = m at *
 obtain ⟨⟨v0, v1, v2⟩, vlt⟩ := HL.out
 simp only [Nat.zero_add] at v1 v2
 have HF := Lib.hid hf
 have HG := Lib.hid hg
 have HV := Lib.hid hv
 have HE := Lib.hid hE
 clear hf hg hv hE hq3 hz hy
 cases q1 <;> cases q2 <;> cases q3
 all_goals
  go_enter Try.func23, Try.ntmps23
  go_wp2_with (first
   | (go_at_call 29; first
    | ((with_reducible refine (HF.out _ HZ.out).mono ?_); rintro e w2 ⟨rfl, hb⟩; have HA := Lib.hid (ab_new w2 50 fa); replace HL := Lib.hid ((HL.out.up hb).up (below_alloc_new (.cells #[.int .i64 fa.code, .int .i64 fa.kind, .int .i64 fa.basis, .int .i64 fa.par] 50))); replace HY := Lib.hid ((HY.out.up hb).up (below_alloc_new (.cells #[.int .i64 fa.code, .int .i64 fa.kind, .int .i64 fa.basis, .int .i64 fa.par] 50))); replace hB := below_new (below_more hB hb) (.cells #[.int .i64 fa.code, .int .i64 fa.kind, .int .i64 fa.basis, .int .i64 fa.par] 50); clear hb v0 v1 v2 vlt; obtain ⟨⟨v0, v1, v2⟩, vlt⟩ := HL.out; simp only [Nat.zero_add] at v1 v2)
    | ((with_reducible refine (HG.out _ HY.out).mono ?_); rintro e w3 ⟨rfl, hb⟩; have HA3 := Lib.hid (ab_new w3 50 fb); replace HA := Lib.hid ((HA.out.up hb).up (below_alloc_new (.cells #[.int .i64 fb.code, .int .i64 fb.kind, .int .i64 fb.basis, .int .i64 fb.par] 50))); replace HL := Lib.hid ((HL.out.up hb).up (below_alloc_new (.cells #[.int .i64 fb.code, .int .i64 fb.kind, .int .i64 fb.basis, .int .i64 fb.par] 50))); replace hB := below_new (below_more hB hb) (.cells #[.int .i64 fb.code, .int .i64 fb.kind, .int .i64 fb.basis, .int .i64 fb.par] 50); clear hb v0 v1 v2 vlt; obtain ⟨⟨v0, v1, v2⟩, vlt⟩ := HL.out; simp only [Nat.zero_add] at v1 v2; obtain ⟨⟨x0, x1, x2, x3⟩, xlt, -⟩ := HA.out; obtain ⟨⟨y0, y1, y2, y3⟩, ylt, -⟩ := HA3.out; simp only [Nat.zero_add] at x1 x2 x3 y1 y2 y3))
   | (go_at_call 28; refine (HV.out _).mono ?_; rintro e w4 ⟨rfl, rfl⟩))
  go_ret
  exact ⟨by rw [HE.out]; rfl, hB⟩
theorem wpList_setp_len {w : World} {ops : Array Oper} {rest : List Oper} {o : Oper} {a : Act} {Q : Exit → Act → World → Prop} (hg : o.guard = none) (m : Operand) (t e : TypeId) (hop : o.op = Op.call { callee := Callee.builtin Builtin.len, args := #[m], argTypes := #[t] })
  (ht : Try.prog.underlying t = some (.map 80 e)) (b n : Nat) (S : Int → Int → Bool) (hm : a.eval m = .map (some b)) (hs : SetP w b n S)
  (hK : wpList Try.prog ops Q rest (a.put o.dst (.int .i64 (n : Int))) w) : wpList Try.prog ops Q (o :: rest) a w := by
 obtain ⟨D, h1, hsz, h3⟩ := hs
 refine wpList_len_own w hg m t hop 80 e ht heldE b n D hm h1 ?_
 rw [hsz]; exact hK
structure DI (K : List Lnk) (k m : Nat) (S : Int → Int → Bool) : Prop where
 mem : ∀ x y, S x y = true ↔ ∃ i, i < k ∧ (K.getD i lnk0).frm = x ∧ (K.getD i lnk0).since = y
 le : m ≤ k
 iff : m = k ↔ allTo (dfB K) k = true
theorem DI.start {K : List Lnk} : DI K 0 0 (fun _ _ => false) := ⟨fun x y => by simp, Nat.le_refl _, by simp [allTo]⟩
set_option maxRecDepth 20000 in
set_option maxHeartbeats 3200000 in
theorem cdist_any (A : Option Addr) (cp : Nat) (K : List Lnk) (w : World) (hz : LnkAt w A K) (hl : K.length ≤ 1000) (hw : ∀ l ∈ K, WfL l) :
  Calls Try.prog 24 #[.slice A K.length cp] w fun e w' => e = .returned (.bool (allTo (dfB K) K.length)) ∧ Below w.heap.size w w' := by
 have hB := below_alloc_new (w := w) (.map #[] 0)
 have hM := SetP.made w
 obtain ⟨q, hq⟩ : ∃ q, allTo (dfB K) K.length = q := ⟨_, rfl⟩
 rw [hq]
 obtain ⟨n, hn⟩ : ∃ n, K.length = n := ⟨_, rfl⟩
 obtain ⟨s0, hs0⟩ : ∃ s0, w.heap.size = s0 := ⟨_, rfl⟩
 rw [hn] at hl hq ⊢
 rw [hs0] at hB hM ⊢
 have HN := Lib.hid hn
 have HZ := Lib.hid hz
 have HW := Lib.hid hw
 have HS0 := Lib.hid hs0
 have HM := Lib.hid hM
 have HQ := Lib.hid hq
 have hmm := @run_makeMap Try.prog
 clear hn hz hw hM hq
 go_enter Try.func24, Try.ntmps24
 go_wp2_with fail
 clear hs0
 go_loopg [9] n (fun kx s9 wr => ∃ (k m : Nat) (S : Int → Int → Bool), s9 = .int .i64 k ∧ k ≤ n ∧ n - k ≤ kx ∧ Hid (DI K k m S) ∧ Hid (SetP wr s0 m S) ∧ Below s0 w wr)
 case atStart => exact ⟨0, 0, _, rfl, by omega, by omega, Lib.hid DI.start, HM, hB⟩
 case round =>
  clear hB HM
  obtain ⟨k, m, S, rfl, hk, hkx, HD, HM, hB⟩ := hrel
  by_cases hlt : k < n
  ·have hltz : (k : Int) < (n : Int) := by omega
   have hsz : s0 ≤ wr.heap.size := by have := hB.size; have := HS0.out; omega
   obtain ⟨b, off, rfl, hbw, hcs⟩ := HZ.out (by rw [HN.out]; omega)
   obtain ⟨c0, c1, c2⟩ := (hcs k (by rw [HN.out]; exact hlt)).up hB (by have := HS0.out; omega)
   obtain ⟨x, hx⟩ : ∃ x, K.getD k lnk0 = x := ⟨_, rfl⟩
   rw [hx] at c0 c1 c2
   have HWX := Lib.hid (HW.out x (by rw [← hx]; exact getD_mem_acc (by rw [HN.out]; exact hlt)))
   have HDS := Lib.hid (HD.out.step hx)
   have hm1 : m ≤ 1000 := by have := HD.out.le; omega
   have HM1 := Lib.hid (HM.out.up (below_alloc_new (.cells #[.int .i64 x.frm, .int .i64 x.tgt, .int .i64 x.since] 46)))
   have hB1 : Below s0 w (wr.alloc (.cells #[.int .i64 x.frm, .int .i64 x.tgt, .int .i64 x.since] 46)) := hB.alloc hsz _
   have hsm := HM.out.lt
   clear hx hcs
   go_wp2_with (at_mapUpdate; refine wpList_setp_put rfl _ _ _ _ 4 rfl Try.underlying78 s0 m S rfl HM1.out x.frm x.since rfl _ rfl HWX.out.frm HWX.out.since (by omega) ?_; intro w2 hm2 hg2; have hb2 := grown_below hB1 hg2.out (Nat.le_refl _) (by simp; omega); clear hg2)
   go_roundg (n - (k + 1))
   case measure => omega
   case rel => exact ⟨k + 1, _, _, by go_num, by omega, by omega, HDS, hm2, hb2⟩
  ·obtain rfl : k = n := by omega
   have hltz : ¬ (k : Int) < (k : Int) := by omega
   have e9 : ((m : Int) == (k : Int)) = q := by
    rw [← HQ.out]
    have h1 := HD.out.iff
    cases h2 : allTo (dfB K) k with
    | true => rw [h2] at h1; have := h1.2 rfl; subst this; simp
    | false => rw [h2] at h1; simp; intro h3; have := h1.1 (by omega); cases this
   go_wp2_with (at_len; refine wpList_setp_len rfl _ _ 4 rfl Try.underlying78 s0 m S rfl HM.out ?_)
   go_ret
   exact ⟨rfl, hB⟩
theorem fltL_same {K : List Lnk} {code d1 d2 : Int} (h : ∀ l ∈ K, decide (l.since ≤ d1) = decide (l.since ≤ d2)) : fltL code d1 K = fltL code d2 K := by
 unfold fltL
 refine List.filter_congr fun l hl => ?_
 rw [h l hl]
theorem atO_same {K M : List Lnk} {code d1 d2 : Int} (h : fltL code d1 K = fltL code d2 M) : atO K code d1 = atO M code d2 := by rw [atO_flt, atO_flt, h]
theorem at_same {L : List Acc} {K M : List Lnk} {code d1 d2 : Int} (h : atO K code d1 = atO M code d2) (hd : vdB d1 = vdB d2) : atV L K code d1 = atV L M code d2 ∧ atE L K code d1 = atE L M code d2 := by
 unfold atV atE
 rw [h, hd]
 exact ⟨rfl, rfl⟩
theorem fltL_later {K : List Lnk} {code day : Int} {l : Lnk} (h : day < l.since) : fltL code day (K ++ [l]) = fltL code day K := by
 unfold fltL
 rw [List.filter_append, List.filter_cons, decide_eq_false (show ¬ l.since ≤ day by omega), Bool.and_false]
 simp
theorem atE_two {L : List Acc} {K : List Lnk} {code day : Int} (h : atE L K code day ≠ 2) : vdB day = true := by
 unfold atE at h
 cases hv : vdB day
 ·rw [hv] at h; exact absurd rfl h
 ·rfl
section
variable {w wb w2 w4 : World} {base mb : Nat} {GA GB : Int → Value} {L : List Acc} {K : List Lnk} {v : Value}
end
structure EF (w : World) (g : Nat) (nm cur : ByteArray) (A : Option Addr) (n c : Nat) (B : Option Addr) (m d : Nat) (jt : Bool) : Prop where
 cells : EB w g nm cur A n c B m d jt
 fz : ∀ i, w.frozen? ⟨g, i, none⟩ = false
theorem ef_new (w : World) (t : TypeId) (nm cur : ByteArray) (A : Option Addr) (n c : Nat) (B : Option Addr) (m d : Nat) (jt : Bool) :
  EF (w.alloc (.cells #[.string nm, .string cur, .slice A n c, .slice B m d, .bool jt] t)) w.heap.size nm cur A n c B m d jt :=
 ⟨eb_new w t nm cur A n c B m d jt, fun i => by simp only [World.frozen?]; rw [heap_alloc_new]; simp⟩
theorem EB.blk {w w' : World} {g : Nat} {nm cur : ByteArray} {A : Option Addr} {n c : Nat} {B : Option Addr} {m d : Nat} {jt : Bool} (h : EB w g nm cur A n c B m d jt) (hk : w'.heap[g]? = w.heap[g]?) : EB w' g nm cur A n c B m d jt := by
 refine ⟨(World.cell?_of_block hk).trans h.c0, (World.cell?_of_block hk).trans h.c1, (World.cell?_of_block hk).trans h.c2, (World.cell?_of_block hk).trans h.c3, (World.cell?_of_block hk).trans h.c4, ?_⟩
 have hlt := h.lt
 rcases Nat.lt_or_ge g w'.heap.size with h1 | h1
 ·exact h1
 ·rw [Array.getElem?_eq_none h1, Array.getElem?_eq_getElem hlt] at hk; cases hk
theorem EF.blk {w w' : World} {g : Nat} {nm cur : ByteArray} {A : Option Addr} {n c : Nat} {B : Option Addr} {m d : Nat} {jt : Bool} (h : EF w g nm cur A n c B m d jt) (hk : w'.heap[g]? = w.heap[g]?) : EF w' g nm cur A n c B m d jt :=
 ⟨h.cells.blk hk, fun i => (World.frozen?_of_block (a := ⟨g, i, none⟩) hk).trans (h.fz i)⟩
open Go.ChangeShapes Go.WideShapes Go.ChangeAt Go.WideMaps Go.WideElems Go.RowKit Go.Deep Go.Joins
section
variable {H : Type} {enc : TypeId × Value → H} {P : Program} {W : World}
end
theorem cells7 {cs : List Value} (h : cs.length = 7) : ∃ c0 c1 c2 c3 c4 c5 c6, cs = [c0, c1, c2, c3, c4, c5, c6] := by
 match cs, h with
 | [c0, c1, c2, c3, c4, c5, c6], _ => exact ⟨c0, c1, c2, c3, c4, c5, c6, rfl⟩
section
variable {H : Type} {enc : TypeId × Value → H} {W : World}
abbrev caseV (nm cur : ByteArray) (A : Option Addr) (n c : Nat) (B : Option Addr) (m d : Nat) (jt : Bool) (code day : Int) : Value := .agg #[.string nm, .string cur, .slice A n c, .slice B m d, .bool jt, .int .i64 code, .int .i64 day]
set_option maxRecDepth 100000 in
theorem open_icase {b0 : Nat} {v : Value} {d : DataW H} {p : List MemPlace} (hval : Value.okWide Try.prog W .any b0 44 v) (h : DataW.Trod enc Try.prog W 0 (fun _ => true) true 44 v d p) :
  ∃ nm cur A n c L B m d K jt code day, v = caseV nm cur A n c B m d jt code day ∧ EntK W A n L B m K := by
 obtain ⟨cs, rfl, hsz⟩ := okWide_struct Try.underlying44 hval
 obtain ⟨fuel, hf⟩ := h
 have hcs : (Value.agg cs).cells.toList = cs.toList := by simp [Value.cells]
 rw [hcs] at hf
 obtain ⟨xs, n', -, -, hlen, hxl, hff⟩ := DataW.trod_struct Try.underlying44 hf
 have hC : Try.prog.cellsOf 44 = 7 := by kernel_rfl
 rw [hC] at hlen
 obtain ⟨c0, c1, c2, c3, c4, c5, c6, e7⟩ := cells7 hlen
 have k25 : Try.prog.cellsOf 25 = 5 := by kernel_rfl
 have k3 : Try.prog.cellsOf 3 = 1 := by kernel_rfl
 have hxl' : xs.length = 3 := hxl
 have hget : ∀ i, i < 3 → ∃ y, xs[i]? = some y := fun i hi => ⟨_, List.getElem?_eq_getElem (by omega)⟩
 have h0 : DataW.trod enc Try.prog W 0 (fun _ => true) true n' 25 ((cs.toList.drop 0).take (Try.prog.cellsOf 25)) = xs[0]? := hff 0 _ rfl
 have h1 : DataW.trod enc Try.prog W 0 (fun _ => true) true n' 3 ((cs.toList.drop 5).take (Try.prog.cellsOf 3)) = xs[1]? := hff 1 _ rfl
 have h2 : DataW.trod enc Try.prog W 0 (fun _ => true) true n' 3 ((cs.toList.drop 6).take (Try.prog.cellsOf 3)) = xs[2]? := hff 2 _ rfl
 obtain ⟨y0, e0⟩ := hget 0 (by omega)
 obtain ⟨y1, e1⟩ := hget 1 (by omega)
 obtain ⟨y2, e2⟩ := hget 2 (by omega)
 rw [e0, e7] at h0
 rw [e1, e7] at h1
 rw [e2, e7] at h2
 rw [k25] at h0
 rw [k3] at h1 h2
 obtain ⟨nm, cur, A, n, c, L, B, m, d, K, jt, q0, hk⟩ := open_entC h0
 obtain ⟨code, q1, -⟩ := DataW.trod_int Try.underlying3 h1
 obtain ⟨day, q2, -⟩ := DataW.trod_int Try.underlying3 h2
 simp at q0 q1 q2
 obtain ⟨rfl, rfl, rfl, rfl, rfl⟩ := q0
 subst q1 q2
 exact ⟨nm, cur, A, n, c, L, B, m, d, K, jt, code, day, by rw [caseV, ← Array.toArray_toList (xs := cs), e7], hk⟩
set_option maxRecDepth 100000 in
theorem open_ilnk {b0 : Nat} {v : Value} {d : DataW H} {p : List MemPlace} (hval : Value.okWide Try.prog W .any b0 46 v) (h : DataW.Trod enc Try.prog W 0 (fun _ => true) true 46 v d p) :
  ∃ l : Lnk, v = lnkV l ∧ WfL l := by
 obtain ⟨v0, v1, v2, y0, y1, y2, n, rfl, _, _, k0, k1, k2⟩ := open_agg3 Try.underlying46 (by kernel_rfl) (by kernel_rfl) hval h
 obtain ⟨a, e0, _, w0⟩ := DataW.trod_int Try.underlying3 k0
 obtain ⟨b, e1, _, w1⟩ := DataW.trod_int Try.underlying3 k1
 obtain ⟨c, e2, _, w2⟩ := DataW.trod_int Try.underlying3 k2
 simp at e0 e1 e2
 subst e0 e1 e2
 exact ⟨⟨a, b, c⟩, rfl, w0, w1, w2⟩
end
end Go.Proofs.Ytmahnpbjjadipaa
namespace Go.Proofs
open Go.Shelf
def Try.keys35_ren : Go.Shelf.Ren := ⟨fun | 7 => 35 | 10 => 52 | n => n, fun | 23 => 61 | 26 => 3 | 3 => 4 | 28 => 64 | 0 => 0 | 27 => 63 | 33 => 56 | 4 => 4 | n => n, fun | n => n⟩
theorem Try.keys35 : Go.Proofs.SlLaysZI.n7 Try.prog Try.keys35_ren := {
 mixed := by kernel_rfl
 f7 := ⟨Try.f35.name, by decide, Try.func35.trans (congrArg some (by kernel_rfl))⟩
 f10 := ⟨Try.f52.name, by decide, Try.func52.trans (congrArg some (by kernel_rfl))⟩
 t0 := Try.underlying0
 a0 := Try.isAgg0
 z0 := Try.sizeOf0
 v0 := Try.zeroValue0
 t4 := Try.underlying4
 a4 := Try.isAgg4
 z4 := Try.sizeOf4
 v4 := Try.zeroValue4
 t23 := Try.underlying61
 a23 := Try.isAgg61
 z23 := Try.sizeOf61
 v23 := Try.zeroValue61
 t26 := Try.underlying3
 a26 := Try.isAgg3
 z26 := Try.sizeOf3
 v26 := Try.zeroValue3
 t27 := Try.underlying63
 a27 := Try.isAgg63
 z27 := Try.sizeOf63
 v27 := Try.zeroValue63
 t28 := Try.underlying64
 a28 := Try.isAgg64
 z28 := Try.sizeOf64
 v28 := Try.zeroValue64
 t33 := Try.underlying56
 a33 := Try.isAgg56
 z33 := Try.sizeOf56
 v33 := Try.zeroValue56 }
def Try.sorted34_ren : Go.Shelf.Ren := ⟨fun | 6 => 34 | 8 => 50 | 9 => 51 | 11 => 57 | 13 => 59 | 12 => 58 | 23 => 72 | 24 => 73 | 14 => 63 | 15 => 64 | 16 => 65 | 17 => 66 | 18 => 67 | 19 => 68 | 20 => 69 | 21 => 70 | 22 => 71 | 25 => 74 | 26 => 75 | 27 => 76 | 28 => 77 | 29 => 78 | 30 => 49 | 31 => 79 | n => n, fun | 26 => 3 | 28 => 64 | 24 => 33 | 0 => 0 | 3 => 3 | 37 => 92 | 48 => 104 | 50 => 106 | 4 => 4 | 40 => 97 | 39 => 96 | 45 => 85 | 5 => 5 | 9 => 9 | 51 => 107 | 55 => 111 | 57 => 113 | 58 => 114 | 33 => 56 | n => n, fun | n => n⟩
theorem Try.sorted34 : Go.Proofs.SlLaysZI.n6 Try.prog Try.sorted34_ren := {
 mixed := by kernel_rfl
 f6 := ⟨Try.f34.name, by decide, Try.func34.trans (congrArg some (by kernel_rfl))⟩
 f8 := ⟨Try.f50.name, by decide, Try.func50.trans (congrArg some (by kernel_rfl))⟩
 f11 := ⟨Try.f57.name, by decide, Try.func57.trans (congrArg some (by kernel_rfl))⟩
 t0 := Try.underlying0
 a0 := Try.isAgg0
 z0 := Try.sizeOf0
 v0 := Try.zeroValue0
 t24 := Try.underlying33
 a24 := Try.isAgg33
 z24 := Try.sizeOf33
 v24 := Try.zeroValue33
 t26 := Try.underlying3
 a26 := Try.isAgg3
 z26 := Try.sizeOf3
 v26 := Try.zeroValue3
 t28 := Try.underlying64
 a28 := Try.isAgg64
 z28 := Try.sizeOf64
 v28 := Try.zeroValue64
 i26 := by kernel_rfl }
def Try.sort51_ren : Go.Shelf.Ren := ⟨fun | 5 => 51 | 8 => 59 | 7 => 58 | 19 => 72 | 20 => 73 | 10 => 63 | 11 => 64 | 12 => 65 | 13 => 66 | 14 => 67 | 15 => 68 | 16 => 69 | 17 => 70 | 18 => 71 | 30 => 74 | 31 => 75 | 32 => 76 | 33 => 77 | 34 => 78 | 35 => 49 | 40 => 79 | n => n, fun | 23 => 33 | 25 => 3 | 3 => 3 | 32 => 92 | 22 => 33 | 0 => 0 | 44 => 104 | 46 => 106 | 4 => 4 | 36 => 97 | 35 => 96 | 41 => 85 | 5 => 5 | 9 => 9 | 53 => 107 | 57 => 111 | 63 => 113 | 64 => 114 | n => n, fun | n => n⟩
theorem Try.sort51 : Go.Proofs.SlLaysM.n5 Try.prog Try.sort51_ren := {
 mixed := by kernel_rfl
 f5 := ⟨Try.f51.name, by decide, Try.func51.trans (congrArg some (by kernel_rfl))⟩
 f7 := ⟨Try.f58.name, by decide, Try.func58.trans (congrArg some (by kernel_rfl))⟩
 f8 := Try.func59.trans (congrArg some (by kernel_rfl))
 f10 := ⟨Try.f63.name, by decide, Try.func63.trans (congrArg some (by kernel_rfl))⟩
 f11 := ⟨Try.f64.name, by decide, Try.func64.trans (congrArg some (by kernel_rfl))⟩
 f12 := ⟨Try.f65.name, by decide, Try.func65.trans (congrArg some (by kernel_rfl))⟩
 f13 := ⟨Try.f66.name, by decide, Try.func66.trans (congrArg some (by kernel_rfl))⟩
 f14 := ⟨Try.f67.name, by decide, Try.func67.trans (congrArg some (by kernel_rfl))⟩
 f15 := ⟨Try.f68.name, by decide, Try.func68.trans (congrArg some (by kernel_rfl))⟩
 f16 := ⟨Try.f69.name, by decide, Try.func69.trans (congrArg some (by kernel_rfl))⟩
 f17 := ⟨Try.f70.name, by decide, Try.func70.trans (congrArg some (by kernel_rfl))⟩
 f18 := ⟨Try.f71.name, by decide, Try.func71.trans (congrArg some (by kernel_rfl))⟩
 f19 := Try.func72.trans (congrArg some (by kernel_rfl))
 f20 := Try.func73.trans (congrArg some (by kernel_rfl))
 f30 := ⟨Try.f74.name, by decide, Try.func74.trans (congrArg some (by kernel_rfl))⟩
 f31 := Try.func75.trans (congrArg some (by kernel_rfl))
 f32 := Try.func76.trans (congrArg some (by kernel_rfl))
 f33 := ⟨Try.f77.name, by decide, Try.func77.trans (congrArg some (by kernel_rfl))⟩
 f34 := ⟨Try.f78.name, by decide, Try.func78.trans (congrArg some (by kernel_rfl))⟩
 f35 := ⟨Try.f49.name, by decide, Try.func49.trans (congrArg some (by kernel_rfl))⟩
 f40 := ⟨Try.f79.name, by decide, Try.func79.trans (congrArg some (by kernel_rfl))⟩
 t0 := Try.underlying0
 a0 := Try.isAgg0
 z0 := Try.sizeOf0
 v0 := Try.zeroValue0
 t3 := Try.underlying3
 a3 := Try.isAgg3
 z3 := Try.sizeOf3
 v3 := Try.zeroValue3
 t4 := Try.underlying4
 a4 := Try.isAgg4
 z4 := Try.sizeOf4
 v4 := Try.zeroValue4
 t5 := Try.underlying5
 a5 := Try.isAgg5
 z5 := Try.sizeOf5
 v5 := Try.zeroValue5
 t9 := Try.underlying9
 a9 := Try.isAgg9
 z9 := Try.sizeOf9
 v9 := Try.zeroValue9
 t22 := Try.underlying33
 a22 := Try.isAgg33
 z22 := Try.sizeOf33
 v22 := Try.zeroValue33
 t23 := Try.underlying33
 a23 := Try.isAgg33
 z23 := Try.sizeOf33
 v23 := Try.zeroValue33
 t25 := Try.underlying3
 a25 := Try.isAgg3
 z25 := Try.sizeOf3
 v25 := Try.zeroValue3
 t32 := Try.underlying92
 a32 := Try.isAgg92
 z32 := Try.sizeOf92
 v32 := Try.zeroValue92
 t35 := Try.underlying96
 a35 := Try.isAgg96
 z35 := Try.sizeOf96
 v35 := Try.zeroValue96
 t36 := Try.underlying97
 a36 := Try.isAgg97
 z36 := Try.sizeOf97
 v36 := Try.zeroValue97
 t41 := Try.underlying85
 a41 := Try.isAgg85
 z41 := Try.sizeOf85
 v41 := Try.zeroValue85
 t44 := Try.underlying104
 a44 := Try.isAgg104
 z44 := Try.sizeOf104
 v44 := Try.zeroValue104
 t46 := Try.underlying106
 a46 := Try.isAgg106
 z46 := Try.sizeOf106
 v46 := Try.zeroValue106
 t53 := Try.underlying107
 a53 := Try.isAgg107
 z53 := Try.sizeOf107
 v53 := Try.zeroValue107
 t57 := Try.underlying111
 a57 := Try.isAgg111
 z57 := Try.sizeOf111
 v57 := Try.zeroValue111
 t63 := Try.underlying113
 a63 := Try.isAgg113
 z63 := Try.sizeOf113
 v63 := Try.zeroValue113
 t64 := Try.underlying114
 a64 := Try.isAgg114
 z64 := Try.sizeOf114
 v64 := Try.zeroValue114 }
end Go.Proofs
namespace Go.Proofs.Ytmahnpbjjadipaa
open Go.RowKit Go.Maps Go.Sort Go.Shelf
theorem sorts_any (m : Nat) : AnyZI.SortsIn Try.prog Try.sorted34_ren Fence.wide m :=
  ⟨fun blk off cap ss W hH hblk hsz => callsIn_wide.2 (AnyM.slices_Sort_int Try.sort51 blk off cap ss W hH hblk hsz),
   fun p cap W => callsIn_wide.2 (AnyM.slices_Sort_int_none Try.sort51 p cap W)⟩
theorem intKeys_is {w : World} {b n : Nat} {D : DataW Value} (hown : w.ownsMap Try.prog 3 heldE b n D) : (intKeys D).Nodup ∧ ∀ x, x ∈ intKeys D ↔ Maps.has D (.int .i64 x) = true := by
 obtain ⟨es, hD, hpw, _⟩ := hown.entries ti_keyed
 obtain ⟨es', hD', hko⟩ := hown.keysOf
 obtain rfl : es = es' := by rw [hD] at hD'; simpa using hD'
 subst hD
 have hk : ∀ p ∈ es, ∃ x, p.1 = Lit.int .i64 x := fun p hp => by obtain ⟨v, hv⟩ := hko p hp; obtain ⟨x, _, hx, _⟩ := Maps.keyOf_i64 Try.underlying3 hv; exact ⟨x, hx⟩
 refine ⟨?_, fun x => ?_⟩
 ·show (es.map fun p => Go.intOf p.1).Nodup
  refine List.pairwise_map.2 (hpw.imp_of_mem fun {p q} hp' hq' hne e => hne ?_)
  obtain ⟨a, ha⟩ := hk p hp'
  obtain ⟨b, hb⟩ := hk q hq'
  rw [ha, hb] at e ⊢
  exact congrArg _ e
 ·rw [has_eq, List.any_eq_true]
  show x ∈ es.map (fun p => Go.intOf p.1) ↔ _
  rw [List.mem_map]
  constructor
  ·rintro ⟨p, hp', rfl⟩
   obtain ⟨a, ha⟩ := hk p hp'
   exact ⟨p, hp', by rw [ha]; simp [Lit.sameKey, Go.intOf]⟩
  ·rintro ⟨p, hp', hs⟩
   obtain ⟨a, ha⟩ := hk p hp'
   rw [ha] at hs
   exact ⟨p, hp', by rw [ha]; simpa [Lit.sameKey, Go.intOf] using hs⟩
theorem keysb_any (b : Nat) (w : World) : Calls Try.prog 35 #[.map (some b)] w fun e w' => e = .returned (.func (.func 52) #[] #[.pointer (some ⟨w.heap.size, 0, none⟩)]) ∧ w' = w.alloc (.cells #[.map (some b)] 61) :=
 (callsIn_wide (n := 5)).1 (AnyZI.keys_in Try.keys35 Fence.wide 5 trivial rfl (some b) w)
set_option maxHeartbeats 1000000 in
theorem sortedb_any (b n : Nat) (f : Int → Option Value) (w : World) (h : MapV w b n f) (hn : n ≤ 1000000) :
  Calls Try.prog 34 #[.func (.func 52) #[] #[.pointer (some ⟨w.heap.size, 0, none⟩)]] (w.alloc (.cells #[.map (some b)] 61)) fun e w' => ∃ (v : Value) (L : List Int), e = .returned v ∧ SlI w' v L ∧ Asc L ∧ (∀ x, x ∈ L ↔ (f x).isSome = true) ∧ Below w.heap.size w w' := by
 obtain ⟨D, hown, hD⟩ := h
 obtain ⟨hnd, hmem⟩ := intKeys_is hown
 have hbl := hown.lt
 have hsz := hown.size_le
 have hseq : SeqGives Fence.wide 2 Try.prog 52 #[.pointer (some ⟨w.heap.size, 0, none⟩)] encZ (fun ss => ss.Perm (intKeys D)) (Maps.size D) (w.alloc (.cells #[.map (some b)] 61)) :=
  AnyZI.keys_gives (ρ := Try.keys35_ren) { Try.keys35 with } Fence.wide _ trivial rfl (by omega) w.heap.size b n D _ (by simp) (by simp) (by
   obtain ⟨es, clock, hb, Ft, hs, hD⟩ := hown
   exact ⟨es, clock, (Below.heap_alloc _ _ b hbl).trans hb, Ft, hs, hD⟩)
 have cS := AnyZI.sorted_in Try.sorted34 Fence.wide 5 trivial trivial trivial trivial rfl (by omega) (sorts_any _) (enters_of Try.func51 (by kernel_rfl) rfl) 52 #[.pointer (some ⟨w.heap.size, 0, none⟩)] trivial (enters_of Try.func52 (by kernel_rfl) rfl) _ _ (by unfold maxLen; omega) (by omega) _ hseq
 refine ((callsIn_wide (n := 5)).1 cS).mono ?_
 rintro e w' ⟨v, ss, rfl, hp, hrow, _, hb⟩
 have hnd2 : ss.Nodup := hp.nodup_iff.2 hnd
 have hpm := List.mergeSort_perm ss (fun x y => decide (x ≤ y))
 refine ⟨v, ss.mergeSort (fun x y => decide (x ≤ y)), rfl, ?_, sort_asc hnd2, fun x => ?_, ?_⟩
 ·refine OwnI.sli (e := 3) (base := (w.alloc (.cells #[.map (some b)] 61)).heap.size) ?_
  unfold OwnI
  rw [List.length_mergeSort]
  exact hrow
 ·rw [hpm.mem_iff, hp.mem_iff, hmem, (hD x).1]
 ·exact ((Below.refl _ w).alloc (Nat.le_refl _) _).trans (hb.mono (by simp))
open Go.RowKit Go.Maps
theorem mvB_no1 {L : List Acc} {K : List Lnk} {c : List Acc} (h : vB c true = false) : mvB L K c = false := by unfold mvB; rw [h]; rfl
theorem mvB_no2 {L : List Acc} {K : List Lnk} {c : List Acc} (h : vB L false = false) : mvB L K c = false := by unfold mvB; rw [h]; simp
theorem mvB_no3 {L : List Acc} {K : List Lnk} {c : List Acc} (h : 400 < K.length) : mvB L K c = false := by unfold mvB; rw [decide_eq_false (show ¬ K.length ≤ 400 by omega)]; simp
theorem mvB_no4 {L : List Acc} {K : List Lnk} {c : List Acc} {k : Nat} (hk : k < K.length) (h : lnkB L c (K.getD k lnk0) = false) : mvB L K c = false := by
 unfold mvB; rw [allTo_no (p := fun i => lnkB L c (K.getD i lnk0)) hk h]; simp
theorem mvB_end {L : List Acc} {K : List Lnk} {c : List Acc} (h1 : vB c true = true) (h2 : vB L false = true) (h3 : K.length ≤ 400) (h4 : allTo (fun i => lnkB L c (K.getD i lnk0)) K.length = true) : mvB L K c = allTo (dfB K) K.length := by
 unfold mvB; rw [h1, h2, decide_eq_true h3, h4]; rfl
set_option maxRecDepth 20000 in
set_option maxHeartbeats 3200000 in
theorem cval9_any (nm cur : ByteArray) (A : Option Addr) (cp : Nat) (L : List Acc) (B : Option Addr) (d : Nat) (K : List Lnk) (jt : Bool) (C : Option Addr) (cc : Nat) (c : List Acc) (w : World) (hz : AccAt w A L) (hy : LnkAt w B K) (hx : AccAt w C c) (hl : L.length ≤ 1000) (hm : K.length ≤ 1000) (hc : c.length ≤ 1000) (hw : ∀ l ∈ K, WfL l) :
  Calls Try.prog 11 #[entV nm cur A L.length cp B K.length d jt, .slice C c.length cc] w fun e w' => e = .returned (.bool (mvB L K c)) ∧ Below w.heap.size w w' := by
 have hn := eb_new w 25 nm cur A L.length cp B K.length d jt
 have hB := below_alloc_new (w := w) (.cells #[.string nm, .string cur, .slice A L.length cp, .slice B K.length d, .bool jt] 25)
 have HEB := Lib.hid hn
 have HZ := Lib.hid (hz.up hB)
 have HY := Lib.hid (hy.up hB)
 have HX := Lib.hid (hx.up hB)
 have h1 := fun w h => cvalid8_any C cc c true w h hc
 have h2 := fun w h => cvalid8_any A cp L false w h hl
 have h3 := fun l w h h' => clnk_any l A C cp cc L c w h h' hl hc
 have h4 := fun w h => cdist_any B d K w h hm hw
 have N1 := mvB_no1 (L := L) (K := K) (c := c)
 have N2 := mvB_no2 (L := L) (K := K) (c := c)
 have N3 := mvB_no3 (L := L) (K := K) (c := c)
 have N4 := fun k => mvB_no4 (L := L) (K := K) (c := c) (k := k)
 have NE := mvB_end (L := L) (K := K) (c := c)
 obtain ⟨r, hr⟩ : ∃ r, mvB L K c = r := ⟨_, rfl⟩
 rw [hr] at N1 N2 N3 NE ⊢
 simp only [hr] at N4
 obtain ⟨P, hP⟩ : ∃ P : Nat → Bool, (fun i => lnkB L c (K.getD i lnk0)) = P := ⟨_, rfl⟩
 have hPk : ∀ k, lnkB L c (K.getD k lnk0) = P k := fun k => by rw [← hP]
 rw [hP] at NE
 simp only [hPk] at N4
 obtain ⟨q, hq⟩ : ∃ q, allTo (dfB K) K.length = q := ⟨_, rfl⟩
 rw [hq] at h4 NE
 obtain ⟨b1, hb1⟩ : ∃ b, vB c true = b := ⟨_, rfl⟩
 rw [hb1] at h1 N1 NE
 obtain ⟨b2, hb2⟩ : ∃ b, vB L false = b := ⟨_, rfl⟩
 rw [hb2] at h2 N2 NE
 obtain ⟨n, hn2⟩ : ∃ n, L.length = n := ⟨_, rfl⟩
 obtain ⟨k0, hk0⟩ : ∃ k0, c.length = k0 := ⟨_, rfl⟩
 obtain ⟨m, hm2⟩ : ∃ m, K.length = m := ⟨_, rfl⟩
 obtain ⟨s0, hs0⟩ : ∃ s0, w.heap.size = s0 := ⟨_, rfl⟩
 rw [hn2, hm2] at HEB HZ HY HX hB
 rw [hn2] at h2 h3
 rw [hk0] at h1 h3
 rw [hm2] at h4 N3 N4 NE hm
 rw [hn2, hm2, hk0]
 have HN1 := Lib.hid N1
 have HN2 := Lib.hid N2
 have HN3 := Lib.hid N3
 have HN4 := Lib.hid N4
 have HNE := Lib.hid NE
 have HP := Lib.hid hPk
 have HM := Lib.hid hm2
 have H1 := Lib.hid h1
 have H2 := Lib.hid h2
 have H3 := Lib.hid h3
 have H4 := Lib.hid h4
 have HS0 := Lib.hid hs0
 have HE0 := HEB
 rw [hs0] at hB HEB
 obtain ⟨c0, c1, c2, c3, c4, lt⟩ := HE0.out
 clear hn hz hy hx h1 h2 h3 h4 N1 N2 N3 N4 NE hr hP hPk hq hb1 hb2 hn2 hk0 hm2 hs0 hw hl hc HE0
 cases b1
 ·have HR := Lib.hid (HN1.out rfl)
  clear HN1 HN2 HN3 HN4 HNE
  go_enter Try.func11, Try.ntmps11
  go_wp2_with (go_at_call 22; first
   | ((with_reducible refine (H1.out _ HX.out).mono ?_); rintro e w1 ⟨rfl, hb⟩; replace hB := hB.trans (hb.mono (by have := hB.size; have := HS0.out; omega)); clear hb))
  go_ret
  exact ⟨by rw [HR.out]; rfl, by rw [HS0.out]; exact hB⟩
 have hv1 : ∀ (w1 : World), Below (w.alloc (.cells #[.string nm, .string cur, .slice A n cp, .slice B m d, .bool jt] 25)).heap.size (w.alloc (.cells #[.string nm, .string cur, .slice A n cp, .slice B m d, .bool jt] 25)) w1 → Hid (EB w1 s0 nm cur A n cp B m d jt) ∧ Hid (AccAt w1 A L) ∧ Hid (LnkAt w1 B K) ∧ Hid (AccAt w1 C c) ∧ Below s0 w w1 := fun w1 hb =>
  ⟨Lib.hid (HEB.out.up hb), Lib.hid (HZ.out.up hb), Lib.hid (HY.out.up hb), Lib.hid (HX.out.up hb), hB.trans (hb.mono (by have := hB.size; have := HS0.out; omega))⟩
 have HV1 := Lib.hid hv1
 clear hv1
 cases b2
 ·have HR := Lib.hid (HN2.out rfl)
  clear HN1 HN2 HN3 HN4 HNE
  go_enter Try.func11, Try.ntmps11
  go_wp2_with (go_at_call 22; first
   | ((with_reducible refine (H1.out _ HX.out).mono ?_); rintro e w1 ⟨rfl, hb⟩; obtain ⟨HEB, HZ, HY, HX, hB⟩ := HV1.out w1 hb; clear hb HV1 c0 c1 c2 c3 c4 lt; obtain ⟨c0, c1, c2, c3, c4, lt⟩ := HEB.out; rw [← HS0.out] at c0 c1 c2 c3 c4 lt)
   | ((with_reducible refine (H2.out _ HZ.out).mono ?_); rintro e w2 ⟨rfl, hb⟩; replace hB := hB.trans (hb.mono (by have := hB.size; have := HS0.out; omega)); clear hb))
  go_ret
  exact ⟨by rw [HR.out]; rfl, by rw [HS0.out]; exact hB⟩
 rcases Nat.lt_or_ge 400 m with hm4 | hm4
 ·have HR := Lib.hid (HN3.out hm4)
  have e4 : decide ((400 : Int) < (m : Int)) = true := decide_eq_true (by omega)
  clear HN1 HN2 HN3 HN4 HNE hm4
  go_enter Try.func11, Try.ntmps11
  go_wp2_with (go_at_call 22; first
   | ((with_reducible refine (H1.out _ HX.out).mono ?_); rintro e w1 ⟨rfl, hb⟩; obtain ⟨HEB, HZ, HY, HX, hB⟩ := HV1.out w1 hb; clear hb HV1 c0 c1 c2 c3 c4 lt; obtain ⟨c0, c1, c2, c3, c4, lt⟩ := HEB.out; rw [← HS0.out] at c0 c1 c2 c3 c4 lt)
   | ((with_reducible refine (H2.out _ HZ.out).mono ?_); rintro e w2 ⟨rfl, hb⟩; replace HEB := Lib.hid (HEB.out.up hb); replace hB := hB.trans (hb.mono (by have := hB.size; have := HS0.out; omega)); clear hb c0 c1 c2 c3 c4 lt; obtain ⟨c0, c1, c2, c3, c4, lt⟩ := HEB.out; rw [← HS0.out] at c0 c1 c2 c3 c4 lt))
  go_ret
  exact ⟨by rw [HR.out]; rfl, by rw [HS0.out]; exact hB⟩
 have e4 : decide ((400 : Int) < (m : Int)) = false := decide_eq_false (by omega)
 have HNE2 := Lib.hid (HNE.out rfl rfl hm4)
 clear HN1 HN2 HN3 HNE hm4
 go_enter Try.func11, Try.ntmps11
 go_wp2_with (go_at_call 22; first
  | ((with_reducible refine (H1.out _ HX.out).mono ?_); rintro e w1 ⟨rfl, hb⟩; obtain ⟨HEB, HZ, HY, HX, hB⟩ := HV1.out w1 hb; clear hb HV1 c0 c1 c2 c3 c4 lt; obtain ⟨c0, c1, c2, c3, c4, lt⟩ := HEB.out; rw [← HS0.out] at c0 c1 c2 c3 c4 lt)
  | ((with_reducible refine (H2.out _ HZ.out).mono ?_); rintro e w2 ⟨rfl, hb⟩; replace HEB := Lib.hid (HEB.out.up hb); replace HZ := Lib.hid (HZ.out.up hb); replace HY := Lib.hid (HY.out.up hb); replace HX := Lib.hid (HX.out.up hb); replace hB := hB.trans (hb.mono (by have := hB.size; have := HS0.out; omega)); clear hb c0 c1 c2 c3 c4 lt; obtain ⟨c0, c1, c2, c3, c4, lt⟩ := HEB.out; rw [← HS0.out] at c0 c1 c2 c3 c4 lt))
 clear c0 c1 c2 c3 c4 lt
 go_loopg [25] m (fun kx s25 wr => ∃ k : Nat, s25 = .int .i64 k ∧ k ≤ m ∧ m - k ≤ kx ∧ Hid (allTo P k = true) ∧ Hid (EB wr s0 nm cur A n cp B m d jt) ∧ Hid (AccAt wr A L) ∧ Hid (LnkAt wr B K) ∧ Hid (AccAt wr C c) ∧ Below s0 w wr)
 case atStart => exact ⟨0, rfl, by omega, by omega, Lib.hid rfl, HEB, HZ, HY, HX, hB⟩
 case round =>
  clear HEB HZ HY HX hB
  clear HEB HZ HY HX hB
  obtain ⟨k, rfl, hk, hkx, HA, HEB, HZ, HY, HX, hB⟩ := hrel
  have hsz : s0 ≤ wr.heap.size := by have := hB.size; have := HS0.out; omega
  by_cases hlt : k < m
  ·have hltz : (k : Int) < (m : Int) := by omega
   obtain ⟨b, off, rfl, hbw, hcs⟩ := HY.out (by rw [HM.out]; omega)
   obtain ⟨d0, d1, d2⟩ := hcs k (by rw [HM.out]; exact hlt)
   have hpk := HP.out k
   obtain ⟨x, hx⟩ : ∃ x, K.getD k lnk0 = x := ⟨_, rfl⟩
   rw [hx] at d0 d1 d2 hpk
   have hno := HN4.out k hlt
   have h3 := H3.out x
   rw [hpk] at h3
   have hW := below_alloc_new (w := wr) (.cells #[.int .i64 x.frm, .int .i64 x.tgt, .int .i64 x.since] 46)
   have HEB1 := Lib.hid (HEB.out.up hW)
   have HZ1 := Lib.hid (HZ.out.up hW)
   have HY1 := Lib.hid (HY.out.up hW)
   have HX1 := Lib.hid (HX.out.up hW)
   have hB1 : Below s0 w (wr.alloc (.cells #[.int .i64 x.frm, .int .i64 x.tgt, .int .i64 x.since] 46)) := hB.alloc hsz _
   have hs1 : s0 ≤ (wr.alloc (.cells #[.int .i64 x.frm, .int .i64 x.tgt, .int .i64 x.since] 46)).heap.size := by simp; omega
   obtain ⟨⟨v0, v1, v2⟩, vlt⟩ := lb_new wr 46 x
   simp only [Nat.zero_add] at v1 v2
   obtain ⟨c0, c1, c2, c3, c4, lt⟩ := HEB1.out
   rw [← HS0.out] at c0 c1 c2 c3 c4 lt
   have HS1 := Lib.hid hs1
   cases hpq : P k
   ·rw [hpq] at h3
    have HR := Lib.hid (hno hpq)
    have H3x := Lib.hid h3
    clear hpk hno h3 hpq hx hcs hW hs1
    go_wp2_with (go_at_call 23; (with_reducible refine (H3x.out _ HZ1.out HX1.out).mono ?_); rintro e w3 ⟨rfl, hb⟩; replace hB := hB1.trans (hb.mono HS1.out); clear hb)
    go_ret
    exact ⟨by rw [HR.out]; rfl, by rw [HS0.out]; exact hB⟩
   ·rw [hpq] at h3
    have HA2 : Hid (allTo P (k + 1) = true) := Lib.hid (by show (allTo P k && P k) = true; rw [HA.out, hpq]; rfl)
    have H3x := Lib.hid h3
    clear hpk hno h3 hpq hx hcs hW hs1
    go_wp2_with (go_at_call 23; (with_reducible refine (H3x.out _ HZ1.out HX1.out).mono ?_); rintro e w3 ⟨rfl, hb⟩; replace hB := hB1.trans (hb.mono HS1.out); replace HEB := Lib.hid (HEB1.out.up hb); replace HZ := Lib.hid (HZ1.out.up hb); replace HY := Lib.hid (HY1.out.up hb); replace HX := Lib.hid (HX1.out.up hb); clear hb)
    go_roundg (m - (k + 1))
    case measure => omega
    case rel => exact ⟨k + 1, by go_num, by omega, by omega, HA2, HEB, HZ, HY, HX, hB⟩
  ·obtain rfl : k = m := by omega
   have hltz : ¬ (k : Int) < (k : Int) := by omega
   have HR := Lib.hid (HNE2.out HA.out)
   obtain ⟨c0, c1, c2, c3, c4, lt⟩ := HEB.out
   rw [← HS0.out] at c0 c1 c2 c3 c4 lt
   go_wp2_with (go_at_call 24; (with_reducible refine (H4.out _ HY.out).mono ?_); rintro e w3 ⟨rfl, hb⟩; replace hB := hB.trans (hb.mono hsz); clear hb)
   go_ret
   exact ⟨by rw [HR.out]; rfl, by rw [HS0.out]; exact hB⟩
set_option maxRecDepth 20000 in
set_option maxHeartbeats 3200000 in
theorem cdates_any (nm cur : ByteArray) (A : Option Addr) (cp n : Nat) (B : Option Addr) (d : Nat) (K : List Lnk) (jt : Bool) (w : World) (hy : LnkAt w B K) (hm : K.length ≤ 1000) (hw : ∀ l ∈ K, WfL l) :
  Calls Try.prog 16 #[entV nm cur A n cp B K.length d jt] w fun e w' => ∃ v, e = .returned v ∧ SlI w' v (datesL K) ∧ Below w.heap.size w w' := by
 have hn := eb_new w 25 nm cur A n cp B K.length d jt
 have hB := below_alloc_new (w := w) (.cells #[.string nm, .string cur, .slice A n cp, .slice B K.length d, .bool jt] 25)
 have hD : ∀ D : List Int, Asc D → (∀ x, x ∈ D ↔ ∃ i, i < K.length ∧ (K.getD i lnk0).since = x) → D = datesL K := by
  intro D h1 h2
  refine keysL_ext h1 fun x => ?_
  rw [h2 x, List.mem_map]
  exact ⟨fun ⟨i, hi, e⟩ => ⟨_, getD_mem_acc hi, e⟩, fun ⟨l, hl, e⟩ => by obtain ⟨i, hi, rfl⟩ := mem_getD_acc (d := lnk0) hl; exact ⟨i, hi, e⟩⟩
 generalize datesL K = DL at *
 have HEB0 := Lib.hid hn
 have HY0 := Lib.hid (hy.up hB)
 have hMM := below_alloc_new (w := w.alloc (.cells #[.string nm, .string cur, .slice A n cp, .slice B K.length d, .bool jt] 25)) (.map #[] 0)
 have HEB := Lib.hid (HEB0.out.up hMM)
 have HY := Lib.hid (HY0.out.up hMM)
 have HM := Lib.hid (MapV.made (w.alloc (.cells #[.string nm, .string cur, .slice A n cp, .slice B K.length d, .bool jt] 25)))
 have hB2 := below_more hB hMM
 have eS : (w.alloc (.cells #[.string nm, .string cur, .slice A n cp, .slice B K.length d, .bool jt] 25)).heap.size = w.heap.size + 1 := by simp
 rw [eS] at HM
 obtain ⟨m, hm2⟩ : ∃ m, K.length = m := ⟨_, rfl⟩
 rw [hm2] at hm HEB HY HM hB2 hD ⊢
 obtain ⟨c0, c1, c2, c3, c4, lt⟩ := HEB.out
 have HMM := Lib.hid hm2
 have HW := Lib.hid hw
 have HD := Lib.hid hD
 have hmm := @run_makeMap Try.prog
 clear hm2 hw hy hn hB hMM eS HEB0 HY0 hD
 go_enter Try.func16, Try.ntmps16
 go_wp2_with fail
 clear c0 c1 c2 c3 c4 lt
 go_loopg [10] m (fun kx s10 wr => ∃ (k j : Nat) (f : Int → Option Value), s10 = .int .i64 k ∧ k ≤ m ∧ m - k ≤ kx ∧ j ≤ k ∧ Hid (∀ x, (f x).isSome = true ↔ ∃ i, i < k ∧ (K.getD i lnk0).since = x) ∧ Hid (MapV wr (w.heap.size + 1) j f) ∧ Hid (LnkAt wr B K) ∧ Below w.heap.size w wr)
 case atStart => exact ⟨0, 0, _, rfl, by omega, by omega, by omega, Lib.hid (fun x => by simp), HM, HY, hB2⟩
 case round =>
  clear HEB HM HY hB2
  obtain ⟨k, j, f, rfl, hk, hkx, hj, HF, HM, HY, hB⟩ := hrel
  have hsz := hB.size
  by_cases hlt : k < m
  ·have hltz : (k : Int) < (m : Int) := by omega
   obtain ⟨b, off, rfl, hbw, hcs⟩ := HY.out (by rw [HMM.out]; omega)
   obtain ⟨d0, d1, d2⟩ := hcs k (by rw [HMM.out]; exact hlt)
   obtain ⟨x, hx⟩ : ∃ x, K.getD k lnk0 = x := ⟨_, rfl⟩
   rw [hx] at d0 d1 d2
   have HWX := Lib.hid (HW.out x (by rw [← hx]; exact getD_mem_acc (by rw [HMM.out]; exact hlt)))
   have HF2 : Hid (∀ y, ((fun z => if z = x.since then some (Value.bool true) else f z) y).isSome = true ↔ ∃ i, i < k + 1 ∧ (K.getD i lnk0).since = y) := Lib.hid (fun y => by
    by_cases hy : y = x.since
    ·subst hy
     simp only [if_true, Option.isSome_some, true_iff]
     exact ⟨k, by omega, by rw [hx]⟩
    ·simp only [if_neg hy]
     rw [HF.out y]
     constructor
     ·rintro ⟨i, hi, e⟩; exact ⟨i, by omega, e⟩
     ·rintro ⟨i, hi, e⟩
      rcases Nat.lt_or_ge i k with h3 | h3
      ·exact ⟨i, h3, e⟩
      ·obtain rfl : i = k := by omega
       rw [hx] at e; exact absurd e.symm hy)
   have hW := below_alloc_new (w := wr) (.cells #[.int .i64 x.frm, .int .i64 x.tgt, .int .i64 x.since] 46)
   have HM1 := Lib.hid (HM.out.up hW)
   have HY1 := Lib.hid (HY.out.up hW)
   have hB1 := hB.alloc hsz (.cells #[.int .i64 x.frm, .int .i64 x.tgt, .int .i64 x.since] 46)
   have hml := HM1.out.lt
   obtain ⟨⟨v0, v1, v2⟩, vlt⟩ := lb_new wr 46 x
   simp only [Nat.zero_add] at v1 v2
   have hbm : b ≠ w.heap.size + 1 := by
    rintro rfl
    obtain ⟨D, ⟨es, clock, hb9, _⟩, _⟩ := HM.out
    simp [World.cell?, hb9] at d0
   have HBM := Lib.hid hbm
   have HBW := Lib.hid hbw
   clear hx hcs hW hbm
   go_wp2_with (at_mapUpdate; refine wpList_mapv_put rfl _ _ _ _ 4 rfl Try.underlying61 (w.heap.size + 1) j f rfl HM1.out x.since rfl _ rfl HWX.out.since (by omega) ?_; intro w2 hm2 hg2; have hb2 := grown_below hB1 hg2.out (by omega) (by simp; omega); have HY2 : Hid (LnkAt w2 (some ⟨b, off, none⟩) K) := Lib.hid (fun h0 => by (obtain ⟨b', off', e, hlt', hc'⟩ := HY1.out h0; cases e; have e8 := hg2.out.block b hlt' (fun e => by (injection e with e; exact HBM.out e)); exact ⟨b, off, rfl, Nat.lt_of_lt_of_le hlt' hg2.out.size, fun i hi => ⟨(World.cell?_of_block e8).trans (hc' i hi).c0, (World.cell?_of_block e8).trans (hc' i hi).c1, (World.cell?_of_block e8).trans (hc' i hi).c2⟩⟩)); clear hg2)
   go_roundg (m - (k + 1))
   case measure => omega
   case rel => exact ⟨k + 1, j + 1, _, by go_num, by omega, by omega, by omega, HF2, hm2, HY2, hb2⟩
  ·obtain rfl : k = m := by omega
   have hltz : ¬ (k : Int) < (k : Int) := by omega
   go_wp2_with (first
    | (go_at_call 35; refine (keysb_any _ _).mono ?_; rintro e w1 ⟨rfl, rfl⟩)
    | (go_at_call 34; refine (sortedb_any (w.heap.size + 1) j f wr HM.out (by omega)).mono ?_; rintro e w2 ⟨v, D, rfl, h1, h2, h3, hb⟩; replace hB := hB.trans (hb.mono hsz); have hDD := HD.out D h2 (fun x => by (rw [h3 x, HF.out x])); subst hDD; replace h1 := Lib.hid h1; clear hb h2 h3))
   go_ret
   exact ⟨_, rfl, h1.out, hB⟩
open Go.RowKit
theorem step_append_row {P : Program} {ops : Array Oper} {o : Oper} {a : Act} {tm : Array Value} {w : World} {K : Act → World → Prop} {Q : Exit → Act → World → Prop} {E : Prop} (hgd : o.guard = none) (s x : Operand) (t : TypeId)
  (ho : o.op = .call { callee := .builtin .append, args := #[s, x], argTypes := #[t, t] })
  (base : Nat) (e : TypeId) (i : TypeInfo) (z : Value) (size bytes : Nat) (ht : P.underlying t = some (.slice e)) (hi : P.info? e = some i) (hz : i.zero = some z)
  (hsize : i.size = size) (hby : i.bytes = bytes) (hzs : z.cells.size = size) (hsz : 0 < size)
  (v : Value) (n : Nat) (xs : List Value) (hs : a.eval s = v) (hown : w.ownsRow base e size v n xs)
  (X : Option Addr) (m c : Nat) (news : List Value) (hx : a.eval x = .slice X m c) (hl : news.length = m * size) (hnews : 0 < m → ∃ ad, X = some ad ∧ ∀ j u, news[j]? = some u → w.cell? (ad.add j) = some u) (h1 : ∀ u ∈ news, u.oneCell' = true)
  (h63 : n + m ≤ maxLen) (hbytes : (n + m) * bytes ≤ 140737488355328) (hbase : base ≤ w.heap.size)
  (h : ∀ v' w', Hid (w'.ownsRow base e size v' (n + m) (xs ++ news)) → Hid (w.grownBy w' v.ownBlock) → K (a.put o.dst v') w') :
  if Region.wanted o (yielded ops tm) = true then Oper.wp P o a w K Q else E := by
 have hw1 : ∀ y, Region.wanted o y = true := fun y => by simp [Region.wanted, hgd]
 rw [if_pos (hw1 _)]
 rcases Nat.eq_zero_or_pos m with h0 | h0
 ·subst h0
  have hne : news = [] := List.eq_nil_of_length_eq_zero (by rw [hl]; simp)
  subst hne
  have hrun : (Builtin.append_ #[t, t] o.type #[v, .slice X 0 c]).run P w = .ok v w := by
   rcases hown.2 with ⟨rfl, h9⟩ | ⟨g, cap, cur, rfl, hb, hg, hn, hcap, hcs, hcur⟩
   ·cases X <;> simp [Builtin.append_, run_underlying ht, sizeOf, typeInfo, hi, Builtin.lenOf, Builtin.firstCells, loadCells, loadCellsFrom]
   ·cases X <;> simp [Builtin.append_, run_underlying ht, sizeOf, typeInfo, hi, Builtin.lenOf, Builtin.firstCells, storeCells, loadCells, loadCellsFrom, hn]
  unfold Oper.wp
  simp [execOp, ho, resolve, invoke, builtin, hs, hx, hrun, Result.andThen]
  exact h v w (Lib.hid (by simpa using hown)) (Lib.hid ⟨rfl, rfl, rfl, Nat.le_refl _, fun _ _ _ => rfl⟩)
 ·obtain ⟨ad, rfl, hn2⟩ := hnews h0
  obtain ⟨v', w', hr, h2, h3, h4, h5⟩ := run_append_own_at (P := P) w base t o.type e i z size bytes ht hi hz hsize hby hzs hsz v n xs hown ad m c news hl hn2 h1 h63 hbytes hbase
  unfold Oper.wp execOp
  simp only [ho, resolve, invoke, builtin, Sem.run_bind, Sem.run_pure, Result.andThen_ok, List.map_toArray, List.map_cons, List.map_nil, hs, hx, hr]
  exact h v' w' (Lib.hid h2) (Lib.hid h3)
theorem datesL_len {K : List Lnk} : (datesL K).length ≤ K.length := by
 unfold datesL
 have := keysL_len (l := K.map (·.since))
 simpa using this
theorem step_app_lnks {P : Program} {ops : Array Oper} {o : Oper} {a : Act} {tm : Array Value} {w : World} {K : Act → World → Prop} {Q : Exit → Act → World → Prop} {E : Prop} (hgd : o.guard = none) (s x : Operand) (t : TypeId)
  (ho : o.op = .call { callee := .builtin .append, args := #[s, x], argTypes := #[t, t] })
  (base : Nat) (e : TypeId) (i : TypeInfo) (bytes : Nat) (ht : P.underlying t = some (.slice e)) (hi : P.info? e = some i) (hz : i.zero = some (.agg #[.int .i64 0, .int .i64 0, .int .i64 0])) (hsize : i.size = 3) (hby : i.bytes = bytes) (hb8 : bytes ≤ 24)
  (v : Value) (L : List Lnk) (hs : a.eval s = v) (hown : OwnL e w base v L) (X : Option Addr) (m c : Nat) (M : List Lnk) (hm : M.length = m) (hx : a.eval x = .slice X m c) (hX : LnkAt w X M)
  (hlen : L.length + m ≤ 100000000) (hbase : base ≤ w.heap.size)
  (h : ∀ v' w', Hid (OwnL e w' base v' (L ++ M)) → Hid (w.grownBy w' v.ownBlock) → Below base w w' → K (a.put o.dst v') w') :
  if Region.wanted o (yielded ops tm) = true then Oper.wp P o a w K Q else E := by
 subst hm
 have hbb : (L.length + M.length) * bytes ≤ (L.length + M.length) * 24 := Nat.mul_le_mul_left _ hb8
 refine step_append_row hgd s x t ho base e i (.agg #[.int .i64 0, .int .i64 0, .int .i64 0]) 3 bytes ht hi hz hsize hby rfl (by decide) v L.length (L.flatMap celL) hs hown X M.length c (M.flatMap celL) hx (celL_len M) ?_ ?_ (by unfold maxLen; omega) (by omega) hbase ?_
 ·intro h0
  obtain ⟨b, off, rfl, hbw, hcs⟩ := hX h0
  refine ⟨_, rfl, fun j u hj => ?_⟩
  have hjl : j < M.length * 3 := by
   rcases Nat.lt_or_ge j (M.length * 3) with h1 | h1
   ·exact h1
   ·rw [List.getElem?_eq_none (by rw [celL_len]; exact h1)] at hj; cases hj
  have hadd : (⟨b, off, none⟩ : Addr).add j = ⟨b, off + j, none⟩ := by unfold Addr.add; split <;> simp_all
  rw [hadd, ← hj]
  have h3 : j % 3 = 0 ∨ j % 3 = 1 ∨ j % 3 = 2 := by omega
  rcases h3 with h2 | h2 | h2
  ·obtain ⟨q, rfl⟩ : ∃ q, j = q * 3 := ⟨j / 3, by omega⟩
   rw [(celL_get M q (by omega)).1]
   exact (hcs q (by omega)).c0
  ·obtain ⟨q, rfl⟩ : ∃ q, j = q * 3 + 1 := ⟨j / 3, by omega⟩
   rw [(celL_get M q (by omega)).2.1, ← Nat.add_assoc]
   exact (hcs q (by omega)).c1
  ·obtain ⟨q, rfl⟩ : ∃ q, j = q * 3 + 2 := ⟨j / 3, by omega⟩
   rw [(celL_get M q (by omega)).2.2, ← Nat.add_assoc]
   exact (hcs q (by omega)).c2
 ·intro u hu
  obtain ⟨d, _, hu⟩ := List.mem_flatMap.1 hu
  simp [celL] at hu
  rcases hu with rfl | rfl | rfl <;> rfl
 ·intro v' w' h2 h3
  refine h v' w' (Lib.hid ?_) h3 ((Below.refl base w).grown h3.out hbase (fun j hj => (World.ownsRow.lt hown j hj).1))
  have h4 := h2.out
  rw [← List.flatMap_append, ← List.length_append] at h4
  exact h4
structure CB (w : World) (g : Nat) (nm cur : ByteArray) (A : Option Addr) (n c : Nat) (B : Option Addr) (m d : Nat) (jt : Bool) (code day : Int) : Prop where
 c0 : w.cell? ⟨g, 0, none⟩ = some (.string nm)
 c1 : w.cell? ⟨g, 1, none⟩ = some (.string cur)
 c2 : w.cell? ⟨g, 2, none⟩ = some (.slice A n c)
 c3 : w.cell? ⟨g, 3, none⟩ = some (.slice B m d)
 c4 : w.cell? ⟨g, 4, none⟩ = some (.bool jt)
 c5 : w.cell? ⟨g, 5, none⟩ = some (.int .i64 code)
 c6 : w.cell? ⟨g, 6, none⟩ = some (.int .i64 day)
 lt : g < w.heap.size
section
variable {w w' : World} {g : Nat} {nm cur : ByteArray} {A : Option Addr} {n c : Nat} {B : Option Addr} {m d : Nat} {jt : Bool} {code day : Int}
theorem CB.blk (h : CB w g nm cur A n c B m d jt code day) (hk : w'.heap[g]? = w.heap[g]?) : CB w' g nm cur A n c B m d jt code day := by
 refine ⟨(World.cell?_of_block hk).trans h.c0, (World.cell?_of_block hk).trans h.c1, (World.cell?_of_block hk).trans h.c2, (World.cell?_of_block hk).trans h.c3, (World.cell?_of_block hk).trans h.c4, (World.cell?_of_block hk).trans h.c5, (World.cell?_of_block hk).trans h.c6, ?_⟩
 have hlt := h.lt
 rcases Nat.lt_or_ge g w'.heap.size with h1 | h1
 ·exact h1
 ·rw [Array.getElem?_eq_none h1, Array.getElem?_eq_getElem hlt] at hk; cases hk
theorem CB.up (h : CB w g nm cur A n c B m d jt code day) (hb : Below w.heap.size w w') : CB w' g nm cur A n c B m d jt code day := h.blk (hb.block g h.lt)
end
theorem cb_new (w : World) (t : TypeId) (nm cur : ByteArray) (A : Option Addr) (n c : Nat) (B : Option Addr) (m d : Nat) (jt : Bool) (code day : Int) :
  CB (w.alloc (.cells #[.string nm, .string cur, .slice A n c, .slice B m d, .bool jt, .int .i64 code, .int .i64 day] t)) w.heap.size nm cur A n c B m d jt code day := by
 refine ⟨?_, ?_, ?_, ?_, ?_, ?_, ?_, by simp⟩ <;> (simp only [World.cell?]; rw [heap_alloc_new]; rfl)
theorem lb_o9 (w : World) (t : TypeId) (x : Lnk) (o : Obj) : LB ((w.alloc (.cells #[.int .i64 x.frm, .int .i64 x.tgt, .int .i64 x.since] t)).alloc o) w.heap.size x := (lb_new w t x).up (below_alloc_new o)
theorem lb_n9 (w : World) (t : TypeId) (x : Lnk) (o : Obj) : LB ((w.alloc o).alloc (.cells #[.int .i64 x.frm, .int .i64 x.tgt, .int .i64 x.since] t)) (w.heap.size + 1) x := by
 have h := lb_new (w.alloc o) t x
 have e : (w.alloc o).heap.size = w.heap.size + 1 := by simp
 rwa [e] at h
theorem LB.drew9 {w : World} {g : Nat} {x : Lnk} (h : LB w g x) : LB w.drew g x := ⟨⟨h.cells.c0, h.cells.c1, h.cells.c2⟩, h.lt⟩
theorem LB.grown {w w' : World} {g : Nat} {x : Lnk} {r : Option Nat} (hg : w.grownBy w' r) (h : LB w g x) (hne : some g ≠ r) : LB w' g x :=
 ⟨⟨hg.cell h.cells.c0 hne, hg.cell h.cells.c1 hne, hg.cell h.cells.c2 hne⟩, Nat.lt_of_lt_of_le h.lt hg.size⟩
theorem LB.row {w : World} {g : Nat} {x : Lnk} (h : LB w g x) : LnkAt w (some ⟨g, 0, none⟩) [x] := fun _ => ⟨g, 0, rfl, h.lt, fun i hi => by
 obtain rfl : i = 0 := by simpa using hi
 exact h.cells⟩
theorem ownL_second (w : World) (o : Obj) (e : TypeId) : OwnL e ((w.alloc o).alloc (.cells #[] e)) w.heap.size (.slice (some ⟨w.heap.size + 1, 0, none⟩) 0 0) [] := by
 have h := OwnL.empty (e := e) (base := w.heap.size) (w := w.alloc o) (by simp)
 have e1 : (w.alloc o).heap.size = w.heap.size + 1 := by simp
 rwa [e1] at h
theorem OwnL.far {e : TypeId} {w : World} {base : Nat} {v : Value} {L : List Lnk} (h : OwnL e w base v L) {g : Nat} (hg : g < base) (i : Nat) (u : Value) : OwnL e (w.setCell ⟨g, i, none⟩ u) base v L :=
 h.blk fun j hj => Below.heap_setCell _ _ _ _ (by show j ≠ g; have := (h.lt hj).1; omega)
theorem EF.put3 {w : World} {g : Nat} {nm cur : ByteArray} {A : Option Addr} {n c : Nat} {B : Option Addr} {m d : Nat} {jt : Bool} (h : EF w g nm cur A n c B m d jt) (B2 : Option Addr) (m2 d2 : Nat) :
  EF (w.setCell ⟨g, 3, none⟩ (.slice B2 m2 d2)) g nm cur A n c B2 m2 d2 jt := by
 have hc : ∀ (i : Nat) (u : Value), w.cell? ⟨g, i, none⟩ = some u → (w.setCell ⟨g, 3, none⟩ (.slice B2 m2 d2)).cell? ⟨g, i, none⟩ = if i = 3 then some (.slice B2 m2 d2) else some u := by
  intro i u hu
  split
  ·rename_i e; subst e; exact World.cell?_setCell_same w _ _ hu
  ·rename_i e; rw [World.cell?_setCell_other w _ _ _ (fun h => e (by injection h with _ h2; exact h2.symm))]; exact hu
 obtain ⟨⟨e0, e1, e2, e3, e4, lt⟩, hf⟩ := h
 exact ⟨⟨hc 0 _ e0, hc 1 _ e1, hc 2 _ e2, hc 3 _ e3, hc 4 _ e4, by simpa [World.setCell] using lt⟩, fun i => by rw [World.frozen?_setCell]; exact hf i⟩
theorem later_same {L : List Acc} {K : List Lnk} {code d1 d2 : Int} (h : ∀ i, i < (datesL K).length → decide ((datesL K).getD i 0 ≤ d1) = decide ((datesL K).getD i 0 ≤ d2)) (h1 : atE L K code d1 ≠ 2) (h2 : atE L K code d2 ≠ 2) :
  atV L K code d2 = atV L K code d1 ∧ atE L K code d2 = atE L K code d1 := by
 have hs : ∀ l ∈ K, decide (l.since ≤ d1) = decide (l.since ≤ d2) := fun l hl => by
  have hin : l.since ∈ datesL K := (keysL_is.2 _).2 (List.mem_map.2 ⟨l, hl, rfl⟩)
  obtain ⟨i, hi, e⟩ := mem_getD_acc (d := (0 : Int)) hin
  have := h i hi
  rwa [e] at this
 have h3 := at_same (L := L) (code := code) (atO_same (fltL_same (code := code) hs)) ((atE_two h1).trans (atE_two h2).symm)
 exact ⟨h3.1.symm, h3.2.symm⟩
theorem later_link {L : List Acc} {K : List Lnk} {code day : Int} {l : Lnk} (h : day < l.since) : atV L (K ++ [l]) code day = atV L K code day ∧ atE L (K ++ [l]) code day = atE L K code day :=
 at_same (atO_same (fltL_later h)) rfl
set_option maxRecDepth 20000 in
set_option maxHeartbeats 6400000 in
theorem law_mplater (nm cur : ByteArray) (A : Option Addr) (n c : Nat) (L : List Acc) (B : Option Addr) (m d : Nat) (K : List Lnk) (jt : Bool) (code day : Int) (l : Lnk) (other : Int) (w : World) (hk : EntK w A n L B m K) (_hwl : WfL l) :
    Calls Try.prog 7 #[caseV nm cur A n c B m d jt code day, lnkV l, .int .i64 other] w fun e w' => e = .returned (.bool true) ∧ Below w.heap.size w w' := by
  have hB0 := below_alloc_new (w := w) (.cells #[.string nm, .string cur, .slice A n c, .slice B m d, .bool jt, .int .i64 code, .int .i64 day] 44)
  have hup := below_alloc_new (w := w.alloc (.cells #[.string nm, .string cur, .slice A n c, .slice B m d, .bool jt, .int .i64 code, .int .i64 day] 44)) (.cells #[.int .i64 l.frm, .int .i64 l.tgt, .int .i64 l.since] 46)
  have hB := below_more hB0 hup
  have e1 : (w.alloc (.cells #[.string nm, .string cur, .slice A n c, .slice B m d, .bool jt, .int .i64 code, .int .i64 day] 44)).heap.size = w.heap.size + 1 := by simp
  have HC := Lib.hid ((cb_new w 44 nm cur A n c B m d jt code day).up hup)
  have hl9 := lb_new (w.alloc (.cells #[.string nm, .string cur, .slice A n c, .slice B m d, .bool jt, .int .i64 code, .int .i64 day] 44)) 46 l
  rw [e1] at hl9
  have HL := Lib.hid hl9
  have HZ0 := Lib.hid hk.hz
  have HY0 := Lib.hid hk.hy
  have hfw := fun w => rfew9_any nm cur A n c B m d jt w
  have hfq := fewB_is (nm := nm) (cur := cur) (n := n) (m := m)
  generalize fewB nm cur n m = fb at *
  obtain ⟨s0, hs0⟩ : ∃ s0, w.heap.size = s0 := ⟨_, rfl⟩
  rw [hs0] at hB
  have HS0 := Lib.hid hs0
  have HFW := Lib.hid hfw
  have HK := Lib.hid hk
  clear hk hfw hs0 hB0 hup e1 hl9
  obtain ⟨c0, c1, c2, c3, c4, c5, c6, lt⟩ := HC.out
  obtain ⟨⟨l0, l1, l2⟩, llt⟩ := HL.out
  simp only [Nat.zero_add] at l1 l2
  cases fb
  · clear hfq HK
    go_enter Try.func7, Try.ntmps7
    go_wp2_with (first
      | (go_at_call 9; refine (mpawake_any _).mono ?_; rintro e w1 ⟨rfl, hb⟩; replace HC := Lib.hid (HC.out.up hb); replace HL := Lib.hid (HL.out.up hb); have hsq := hB.size; rw [HS0.out] at hsq; replace hB := hB.trans (hb.mono hsq); clear l0 l1 l2 llt; obtain ⟨⟨l0, l1, l2⟩, llt⟩ := HL.out; simp only [Nat.zero_add] at l1 l2; clear hb hsq c0 c1 c2 c3 c4 c5 c6 lt; obtain ⟨c0, c1, c2, c3, c4, c5, c6, lt⟩ := HC.out)
      | (go_at_call 10; (with_reducible refine (HFW.out _).mono ?_); rintro e w1 ⟨rfl, hb⟩; replace HC := Lib.hid (HC.out.up hb); replace HL := Lib.hid (HL.out.up hb); have hsq := hB.size; rw [HS0.out] at hsq; replace hB := hB.trans (hb.mono hsq); clear l0 l1 l2 llt; obtain ⟨⟨l0, l1, l2⟩, llt⟩ := HL.out; simp only [Nat.zero_add] at l1 l2; clear hb hsq c0 c1 c2 c3 c4 c5 c6 lt; obtain ⟨c0, c1, c2, c3, c4, c5, c6, lt⟩ := HC.out))
    go_ret
    exact ⟨rfl, by first | exact hB | (rw [HS0.out]; exact hB)⟩
  obtain ⟨h5, h6⟩ := hfq rfl
  clear hfq
  rcases Nat.lt_or_ge 59 m with hm6 | hm6
  · have ek : decide ((59 : Int) < (m : Int)) = true := decide_eq_true (by omega)
    clear HK hm6 h5 h6
    go_enter Try.func7, Try.ntmps7
    go_wp2_with (first
      | (go_at_call 9; refine (mpawake_any _).mono ?_; rintro e w1 ⟨rfl, hb⟩; replace HC := Lib.hid (HC.out.up hb); replace HL := Lib.hid (HL.out.up hb); have hsq := hB.size; rw [HS0.out] at hsq; replace hB := hB.trans (hb.mono hsq); clear l0 l1 l2 llt; obtain ⟨⟨l0, l1, l2⟩, llt⟩ := HL.out; simp only [Nat.zero_add] at l1 l2; clear hb hsq c0 c1 c2 c3 c4 c5 c6 lt; obtain ⟨c0, c1, c2, c3, c4, c5, c6, lt⟩ := HC.out)
      | (go_at_call 10; (with_reducible refine (HFW.out _).mono ?_); rintro e w1 ⟨rfl, hb⟩; replace HC := Lib.hid (HC.out.up hb); replace HL := Lib.hid (HL.out.up hb); have hsq := hB.size; rw [HS0.out] at hsq; replace hB := hB.trans (hb.mono hsq); clear l0 l1 l2 llt; obtain ⟨⟨l0, l1, l2⟩, llt⟩ := HL.out; simp only [Nat.zero_add] at l1 l2; clear hb hsq c0 c1 c2 c3 c4 c5 c6 lt; obtain ⟨c0, c1, c2, c3, c4, c5, c6, lt⟩ := HC.out))
    go_ret
    exact ⟨rfl, by first | exact hB | (rw [HS0.out]; exact hB)⟩
  have ek : decide ((59 : Int) < (m : Int)) = false := decide_eq_false (by omega)
  have hK2 := HK.out
  have hln : L.length ≤ 1000 := by have := hK2.ln; omega
  have hlm : K.length ≤ 1000 := by have := hK2.lm; omega
  have hlk : (K ++ [l]).length ≤ 1000 := by rw [List.length_append]; have := hK2.lm; simp; omega
  have h1 := fun w h h' => cat9_any nm cur A c L B d K jt code day w h h' hln hlm
  have h1o := fun w h h' => cat9_any nm cur A c L B d K jt code other w h h' hln hlm
  have h1y := fun B2 d2 w h h' => cat9_any nm cur A c L B2 d2 (K ++ [l]) jt code day w h h' hln hlk
  have h4 := fun w h => cdates_any nm cur A c n B d K jt w h hlm hK2.wl
  have hfin := later_same (L := L) (K := K) (code := code) (d1 := day) (d2 := other)
  have hlat := later_link (L := L) (K := K) (code := code) (day := day) (l := l)
  have hlk1 : (K ++ [l]).length = m + 1 := by rw [List.length_append, hK2.lm]; rfl
  rw [hK2.ln, hK2.lm] at h1 h1o
  rw [hK2.ln, hlk1] at h1y
  rw [hK2.lm] at h4
  have HKL := Lib.hid hK2.lm
  have hdl := datesL_len (K := K)
  generalize datesL K = D at *
  obtain ⟨nd, hnd⟩ : ∃ nd, D.length = nd := ⟨_, rfl⟩
  rw [hnd] at hfin hdl
  have hnd1 : nd ≤ 1000 := by omega
  have HND := Lib.hid hnd
  obtain ⟨iL, hiL, hL0, hL1, hL2⟩ := info_parts infoL
  obtain ⟨te, hte⟩ : ∃ te, atV L K code day = te := ⟨_, rfl⟩
  obtain ⟨ee, hee⟩ : ∃ ee, atE L K code day = ee := ⟨_, rfl⟩
  obtain ⟨te2, hte2⟩ : ∃ te2, atV L K code other = te2 := ⟨_, rfl⟩
  obtain ⟨ee2, hee2⟩ : ∃ ee2, atE L K code other = ee2 := ⟨_, rfl⟩
  rw [hte, hee] at h1 hfin hlat
  rw [hte2, hee2] at h1o hfin
  have H1 := Lib.hid h1
  have H1O := Lib.hid h1o
  have H4 := Lib.hid h4
  have HFIN := Lib.hid hfin
  have ett : (te != te) = false := by simp
  have eee : (ee != ee) = false := by simp
  clear h1 h1o h4 hfin hnd hdl hte hee hte2 hee2 hln hlm hlk hlk1 hK2 HK h5 h6
  by_cases hls : day < l.since
  · have el : decide (day < l.since) = true := decide_eq_true hls
    rw [(hlat hls).1, (hlat hls).2] at h1y
    have H1Y := Lib.hid h1y
    clear h1y hls hlat
    go_enter Try.func7, Try.ntmps7
    go_wp2_with (first
      | (go_at_call 9; refine (mpawake_any _).mono ?_; rintro e w1 ⟨rfl, hb⟩; replace HC := Lib.hid (HC.out.up hb); replace HL := Lib.hid (HL.out.up hb); have hsq := hB.size; rw [HS0.out] at hsq; replace hB := hB.trans (hb.mono hsq); clear l0 l1 l2 llt; obtain ⟨⟨l0, l1, l2⟩, llt⟩ := HL.out; simp only [Nat.zero_add] at l1 l2; clear hb hsq c0 c1 c2 c3 c4 c5 c6 lt; obtain ⟨c0, c1, c2, c3, c4, c5, c6, lt⟩ := HC.out)
      | (go_at_call 10; (with_reducible refine (HFW.out _).mono ?_); rintro e w1 ⟨rfl, hb⟩; replace HC := Lib.hid (HC.out.up hb); replace HL := Lib.hid (HL.out.up hb); have hsq := hB.size; rw [HS0.out] at hsq; replace hB := hB.trans (hb.mono hsq); clear l0 l1 l2 llt; obtain ⟨⟨l0, l1, l2⟩, llt⟩ := HL.out; simp only [Nat.zero_add] at l1 l2; clear hb hsq c0 c1 c2 c3 c4 c5 c6 lt; obtain ⟨c0, c1, c2, c3, c4, c5, c6, lt⟩ := HC.out)
      | (go_at_call 13; (with_reducible refine (H1.out _ (HZ0.out.up (by rw [HS0.out]; exact hB)) (HY0.out.up (by rw [HS0.out]; exact hB))).mono ?_); rintro e w1 ⟨rfl, hb⟩; replace HC := Lib.hid (HC.out.up hb); replace HL := Lib.hid (HL.out.up hb); have hsq := hB.size; rw [HS0.out] at hsq; replace hB := hB.trans (hb.mono hsq); clear l0 l1 l2 llt; obtain ⟨⟨l0, l1, l2⟩, llt⟩ := HL.out; simp only [Nat.zero_add] at l1 l2; clear hb hsq c0 c1 c2 c3 c4 c5 c6 lt; obtain ⟨c0, c1, c2, c3, c4, c5, c6, lt⟩ := HC.out))
    rw [HS0.out]
    rename World => w3
    obtain ⟨g9, hg9⟩ : ∃ g9, w3.heap.size = g9 := ⟨_, rfl⟩
    have hb9 := below_alloc_new (w := w3) (.cells #[.string nm, .string cur, .slice A n c, .slice B m d, .bool jt] 25)
    have hef := ef_new w3 25 nm cur A n c B m d jt
    have hgl : g9 < (w3.alloc (.cells #[.string nm, .string cur, .slice A n c, .slice B m d, .bool jt] 25)).heap.size := by simp; omega
    have HCW := Lib.hid (HC.out.up hb9)
    have HLW := Lib.hid (HL.out.up hb9)
    have hsq := hB.size
    rw [HS0.out] at hsq
    have HLT3 : Hid (s0 < w3.heap.size ∧ s0 + 1 < w3.heap.size) := Lib.hid (by have h1 := HC.out.lt; have h2 := HL.out.lt; rw [HS0.out] at h1 h2; exact ⟨h1, h2⟩)
    have hBW := hB.trans (hb9.mono hsq)
    rw [hg9] at hef HLT3 ⊢
    generalize World.alloc w3 _ = W7 at *
    have HEF := Lib.hid hef
    have HGL := Lib.hid hgl
    have HY7 := Lib.hid (HY0.out.up (by rw [HS0.out]; exact hBW))
    have HLT : Hid (s0 < W7.heap.size ∧ s0 + 1 < W7.heap.size) := Lib.hid ⟨by have := HLT3.out; omega, by have := HLT3.out; omega⟩
    have hlt3 := HLT3.out
    have hS0 : W7.cell? ⟨s0, 3, none⟩ = some (.slice B m d) ∧ W7.cell? ⟨s0 + 1, 0, none⟩ = some (.int .i64 l.frm) ∧ W7.cell? ⟨s0 + 1, 1, none⟩ = some (.int .i64 l.tgt) ∧ W7.cell? ⟨s0 + 1, 2, none⟩ = some (.int .i64 l.since) := by have h1 := HCW.out; have h2 := HLW.out.cells; rw [HS0.out] at h1 h2; exact ⟨h1.c3, h2.c0, by simpa using h2.c1, by simpa using h2.c2⟩
    clear hb9 hef hgl hsq hg9 c0 c1 c2 c3 c4 c5 c6 lt l0 l1 l2 llt HC HL hB
    go_region_held_law (fun w' => w'.cell? ⟨s0, 3, none⟩ = some (.slice B m d) ∧ w'.cell? ⟨s0 + 1, 0, none⟩ = some (.int .i64 l.frm) ∧ w'.cell? ⟨s0 + 1, 1, none⟩ = some (.int .i64 l.tgt) ∧ w'.cell? ⟨s0 + 1, 2, none⟩ = some (.int .i64 l.since)) (first | exact hS7 | exact hS6 | exact hS5 | exact hS0 | go_keep)
      (first
      | (refine step_app_lnks rfl (.tmp 46) (.tmp 49) 23 rfl W7.heap.size 46 iL 24 Try.underlying23 hiL hL0 hL1 hL2 (by omega) (.slice (some ⟨W7.heap.size, 0, none⟩) 0 0) [] rfl (by first | exact OwnL.empty (Nat.le_refl _) | exact (OwnL.empty (Nat.le_refl _)).alloc _) B m _ K HKL.out rfl (by first | exact HY7.out.up (dc_drew (below_alloc_new _)) | exact HY7.out.up (dc_drew (below_new (below_alloc_new _) _))) (by first | (simp; done) | (simp; omega)) (by first | (simp; done) | (simp; omega)) ?_
         intro v5 w5 ho5 hg5 hb5
         have HB5 : Below W7.heap.size W7 w5 := by first | exact (dc_drew (below_alloc_new _)).trans hb5 | exact (dc_drew (below_new (below_alloc_new _) _)).trans hb5
         have hS5 : w5.cell? ⟨s0, 3, none⟩ = some (.slice B m d) ∧ w5.cell? ⟨s0 + 1, 0, none⟩ = some (.int .i64 l.frm) ∧ w5.cell? ⟨s0 + 1, 1, none⟩ = some (.int .i64 l.tgt) ∧ w5.cell? ⟨s0 + 1, 2, none⟩ = some (.int .i64 l.since) := ⟨(HB5.cell (p := ⟨s0, 3, none⟩) HLT.out.1).trans hS0.1, (HB5.cell (p := ⟨s0 + 1, 0, none⟩) HLT.out.2).trans hS0.2.1, (HB5.cell (p := ⟨s0 + 1, 1, none⟩) HLT.out.2).trans hS0.2.2.1, (HB5.cell (p := ⟨s0 + 1, 2, none⟩) HLT.out.2).trans hS0.2.2.2⟩
         try (have hbx : LB w5 (W7.heap.size + 1) l := by first | exact LB.grown hg5.out (lb_n9 _ _ _ _) (by simp [Value.ownBlock]) | exact LB.grown hg5.out (lb_n9 _ _ _ _).drew9 (by simp [Value.ownBlock]))
         clear hb5 hg5)
      | (refine step_app_lnks rfl (.tmp 46) (.tmp 49) 23 rfl W7.heap.size 46 iL 24 Try.underlying23 hiL hL0 hL1 hL2 (by omega) (.slice (some ⟨W7.heap.size + 1, 0, none⟩) 0 0) [] rfl (by first | exact ownL_second _ _ _) B m _ K HKL.out rfl (by first | exact HY7.out.up (dc_drew (below_alloc_new _)) | exact HY7.out.up (dc_drew (below_new (below_alloc_new _) _))) (by first | (simp; done) | (simp; omega)) (by first | (simp; done) | (simp; omega)) ?_
         intro v5 w5 ho5 hg5 hb5
         have HB5 : Below W7.heap.size W7 w5 := by first | exact (dc_drew (below_alloc_new _)).trans hb5 | exact (dc_drew (below_new (below_alloc_new _) _)).trans hb5
         have hS5 : w5.cell? ⟨s0, 3, none⟩ = some (.slice B m d) ∧ w5.cell? ⟨s0 + 1, 0, none⟩ = some (.int .i64 l.frm) ∧ w5.cell? ⟨s0 + 1, 1, none⟩ = some (.int .i64 l.tgt) ∧ w5.cell? ⟨s0 + 1, 2, none⟩ = some (.int .i64 l.since) := ⟨(HB5.cell (p := ⟨s0, 3, none⟩) HLT.out.1).trans hS0.1, (HB5.cell (p := ⟨s0 + 1, 0, none⟩) HLT.out.2).trans hS0.2.1, (HB5.cell (p := ⟨s0 + 1, 1, none⟩) HLT.out.2).trans hS0.2.2.1, (HB5.cell (p := ⟨s0 + 1, 2, none⟩) HLT.out.2).trans hS0.2.2.2⟩
         try (have hbx : LB w5 (W7.heap.size) l := by first | exact LB.grown hg5.out (lb_o9 _ _ _ _) (by simp [Value.ownBlock]) | exact LB.grown hg5.out (lb_o9 _ _ _ _).drew9 (by simp [Value.ownBlock]))
         clear hb5 hg5)
      | (refine step_app_lnks rfl (.tmp 50) (.tmp 52) 23 rfl W7.heap.size 46 iL 24 Try.underlying23 hiL hL0 hL1 hL2 (by omega) v5 K rfl (by first | exact ho5.out | exact ho5.out.alloc _) (some ⟨_, 0, none⟩) 1 _ [l] rfl rfl (by first | exact hbx.row | exact (lb_new _ _ l).row) (by rw [HKL.out]; omega) (by have := HB5.size; first | exact this | (simp; omega)) ?_
         intro v6 w6 ho6 hg6 hb6
         have HB6 : Below W7.heap.size W7 w6 := by first | exact HB5.trans hb6 | exact (below_new HB5 _).trans hb6
         have hS6 : w6.cell? ⟨s0, 3, none⟩ = some (.slice B m d) ∧ w6.cell? ⟨s0 + 1, 0, none⟩ = some (.int .i64 l.frm) ∧ w6.cell? ⟨s0 + 1, 1, none⟩ = some (.int .i64 l.tgt) ∧ w6.cell? ⟨s0 + 1, 2, none⟩ = some (.int .i64 l.since) := ⟨(HB6.cell (p := ⟨s0, 3, none⟩) HLT.out.1).trans hS0.1, (HB6.cell (p := ⟨s0 + 1, 0, none⟩) HLT.out.2).trans hS0.2.1, (HB6.cell (p := ⟨s0 + 1, 1, none⟩) HLT.out.2).trans hS0.2.2.1, (HB6.cell (p := ⟨s0 + 1, 2, none⟩) HLT.out.2).trans hS0.2.2.2⟩
         obtain ⟨A6, c6', hv6, hA6⟩ := ho6.out.reads
         rw [List.length_append, HKL.out] at hv6
         have hv6' : v6 = .slice A6 (m + 1) c6' := hv6
         have HE6 := Lib.hid (HEF.out.blk (HB6.block g9 HGL.out))
         subst hv6'
         obtain ⟨⟨f0, f1, f2, f3, f4, flt⟩, ffz⟩ := HE6.out
         have ff3 := ffz 3
         have hS7 : (w6.setCell ⟨g9, 3, none⟩ (.slice A6 (m + 1) c6')).cell? ⟨s0, 3, none⟩ = some (.slice B m d) ∧ (w6.setCell ⟨g9, 3, none⟩ (.slice A6 (m + 1) c6')).cell? ⟨s0 + 1, 0, none⟩ = some (.int .i64 l.frm) ∧ (w6.setCell ⟨g9, 3, none⟩ (.slice A6 (m + 1) c6')).cell? ⟨s0 + 1, 1, none⟩ = some (.int .i64 l.tgt) ∧ (w6.setCell ⟨g9, 3, none⟩ (.slice A6 (m + 1) c6')).cell? ⟨s0 + 1, 2, none⟩ = some (.int .i64 l.since) := ⟨(World.cell?_setCell_other w6 _ _ _ (fun e => by injection e with e1; omega)).trans hS6.1, (World.cell?_setCell_other w6 _ _ _ (fun e => by injection e with e1; omega)).trans hS6.2.1, (World.cell?_setCell_other w6 _ _ _ (fun e => by injection e with e1; omega)).trans hS6.2.2.1, (World.cell?_setCell_other w6 _ _ _ (fun e => by injection e with e1; omega)).trans hS6.2.2.2⟩
         clear hb6 hg6 hv6))
    all_goals
      have hB8 : Below s0 w (w6.setCell ⟨g9, 3, none⟩ (.slice A6 (m + 1) c6')) := Below.setCell (p := ⟨g9, 3, none⟩) (hBW.trans (HB6.mono (Nat.le_of_lt HLT.out.1))) (by show s0 ≤ g9; omega) _
      have HE8 := Lib.hid (HE6.out.put3 A6 (m + 1) c6')
      have HC8 : Hid (CB (w6.setCell ⟨g9, 3, none⟩ (.slice A6 (m + 1) c6')) s0 nm cur A n c B m d jt code day) := Lib.hid (by
        have h1 := HCW.out
        rw [HS0.out] at h1
        exact (h1.up HB6).blk (Below.heap_setCell _ _ _ _ (by show s0 ≠ g9; omega)))
      have HK8 : Hid (LnkAt (w6.setCell ⟨g9, 3, none⟩ (.slice A6 (m + 1) c6')) A6 (K ++ [l])) := Lib.hid (by
        have h1 := (ho6.out.far HGL.out 3 (.slice A6 (m + 1) c6')).reads
        obtain ⟨A9, c9, e9, h9⟩ := h1
        rw [List.length_append, HKL.out] at e9
        have e9' : (.slice A6 (m + 1) c6' : Value) = .slice A9 (m + 1) c9 := e9
        cases e9'
        exact h9)
      clear hS5 hS6 hS7 f0 f1 f2 f3 f4 flt ffz ff3 HE6 ho5 ho6 HB5 HB6 HCW HLW
      rename World => w6
      generalize World.setCell w6 _ _ = W8 at *
      obtain ⟨⟨f0, f1, f2, f3, f4, flt⟩, ffz⟩ := HE8.out
      obtain ⟨c0, c1, c2, c3, c4, c5, c6, lt⟩ := HC8.out
      go_wp2_with (go_at_call 13; (with_reducible refine (H1Y.out _ _ _ (HZ0.out.up (by rw [HS0.out]; exact hB8)) HK8.out).mono ?_); rintro e w9 ⟨rfl, hb⟩; have HC := Lib.hid (HC8.out.up hb); have hsq := hB8.size; rw [HS0.out] at hsq; have hB := hB8.trans (hb.mono hsq); clear hb hsq c0 c1 c2 c3 c4 c5 c6 lt; obtain ⟨c0, c1, c2, c3, c4, c5, c6, lt⟩ := HC.out)
      clear HC8 hB8 f0 f1 f2 f3 f4 flt ffz HE8 HK8
      clear c0 c1 c2 c3 c4 c5 c6 lt
      obtain ⟨c0, c1, c2, c3, c4, c5, c6, lt⟩ := HC.out
      go_wp2_with (go_at_call 16; (with_reducible refine (H4.out _ (HY0.out.up (by rw [HS0.out]; exact hB))).mono ?_); rintro e w8 ⟨v8, rfl, hs8, hb⟩; obtain ⟨A8, c8, hv8, hI8⟩ := hs8; rw [HND.out] at hv8; subst hv8; have HI8 := Lib.hid hI8; replace HC := Lib.hid (HC.out.up hb); have hsq := hB.size; rw [HS0.out] at hsq; replace hB := hB.trans (hb.mono hsq); clear hI8; clear hb hsq c0 c1 c2 c3 c4 c5 c6 lt; obtain ⟨c0, c1, c2, c3, c4, c5, c6, lt⟩ := HC.out)
      clear c0 c1 c2 c3 c4 c5 c6 lt
      go_loopg [13] nd (fun kx s13 wr => ∃ t : Nat, s13 = .int .i64 t ∧ t ≤ nd ∧ nd - t ≤ kx ∧ Hid (∀ i, i < t → decide (D.getD i 0 ≤ day) = decide (D.getD i 0 ≤ other)) ∧ Hid (CB wr s0 nm cur A n c B m d jt code day) ∧ Hid (IntsAt .i64 wr A8 D) ∧ Below s0 w wr)
      case atStart => exact ⟨0, rfl, by omega, by omega, Lib.hid (fun i h => absurd h (by omega)), HC, HI8, hB⟩
      case round =>
        clear HC HI8 hB
        try clear HC
        try clear HC
        rename World => wr
        obtain ⟨t, rfl, ht, htx, HALL, HC, HI8, hB⟩ := hrel
        obtain ⟨c0, c1, c2, c3, c4, c5, c6, lt⟩ := HC.out
        by_cases htl : t < nd
        · have htz : (t : Int) < (nd : Int) := by omega
          obtain ⟨b8, off8, e8, hb8, hc8⟩ := HI8.out (by rw [HND.out]; omega)
          cases e8
          have p0 := hc8 t (by rw [HND.out]; exact htl)
          obtain ⟨x, hx⟩ : ∃ x, D.getD t 0 = x := ⟨_, rfl⟩
          rw [hx] at p0
          have HXE := Lib.hid hx
          obtain ⟨q1, hq1⟩ : ∃ q1, decide (x ≤ day) = q1 := ⟨_, rfl⟩
          obtain ⟨q2, hq2⟩ : ∃ q2, decide (x ≤ other) = q2 := ⟨_, rfl⟩
          have HQ1 := Lib.hid hq1
          have HQ2 := Lib.hid hq2
          clear hc8 hx
          cases q1 <;> cases q2
          all_goals
            go_wp2_with fail
            go_quiet (fail)
            have hB9 := below_drewN hB nq
            have HC9 := Lib.hid (HC.out.up (below_drewN (Below.refl _ _) nq))
            have HI9 := Lib.hid (HI8.out.up (below_drewN (Below.refl _ _) nq))
            clear HC HI8 hB c0 c1 c2 c3 c4 c5 c6 lt p0
            generalize World.drewN _ nq = W8 at *
            go_wp2_with fail
            first
              | (have HA2 : Hid (∀ i, i < t + 1 → decide (D.getD i 0 ≤ day) = decide (D.getD i 0 ≤ other)) := Lib.hid (fun i hi => by
                   rcases Nat.lt_or_ge i t with h9 | h9
                   · exact HALL.out i h9
                   · obtain rfl : i = t := by omega
                     rw [HXE.out, HQ1.out, HQ2.out])
                 go_roundg (nd - (t + 1))
                 case measure => omega
                 case rel => exact ⟨t + 1, by go_num, by omega, by omega, HA2, HC9, HI9, hB9⟩)
              | (go_ret
                 exact ⟨rfl, by first | exact hB9 | (rw [HS0.out]; exact hB9)⟩)
        · obtain rfl : t = nd := by omega
          have htz : ¬ (t : Int) < (t : Int) := by omega
          have hfin := HFIN.out HALL.out
          by_cases he1 : ee = 2
          · have e1 : (ee == 2) = true := by simp [he1]
            clear hfin
            go_wp2_with (go_at_call 13; (with_reducible refine (H1O.out _ (HZ0.out.up (by rw [HS0.out]; exact hB)) (HY0.out.up (by rw [HS0.out]; exact hB))).mono ?_); rintro e w9 ⟨rfl, hb⟩; have hsq := hB.size; rw [HS0.out] at hsq; replace hB := hB.trans (hb.mono hsq); clear hb hsq)
            go_ret
            exact ⟨rfl, by first | exact hB | (rw [HS0.out]; exact hB)⟩
          · have e1 : (ee == 2) = false := by simp [he1]
            by_cases he2 : ee2 = 2
            · have e2 : (ee2 == 2) = true := by simp [he2]
              clear hfin
              go_wp2_with (go_at_call 13; (with_reducible refine (H1O.out _ (HZ0.out.up (by rw [HS0.out]; exact hB)) (HY0.out.up (by rw [HS0.out]; exact hB))).mono ?_); rintro e w9 ⟨rfl, hb⟩; have hsq := hB.size; rw [HS0.out] at hsq; replace hB := hB.trans (hb.mono hsq); clear hb hsq)
              go_ret
              exact ⟨rfl, by first | exact hB | (rw [HS0.out]; exact hB)⟩
            · have e2 : (ee2 == 2) = false := by simp [he2]
              obtain ⟨hv, he⟩ := hfin he1 he2
              have e3 : (te == te2) = true := by simp [hv]
              have e4 : (ee == ee2) = true := by simp [he]
              clear hfin hv he
              go_wp2_with (go_at_call 13; (with_reducible refine (H1O.out _ (HZ0.out.up (by rw [HS0.out]; exact hB)) (HY0.out.up (by rw [HS0.out]; exact hB))).mono ?_); rintro e w9 ⟨rfl, hb⟩; have hsq := hB.size; rw [HS0.out] at hsq; replace hB := hB.trans (hb.mono hsq); clear hb hsq)
              go_ret
              exact ⟨rfl, by first | exact hB | (rw [HS0.out]; exact hB)⟩
  · have el : decide (day < l.since) = false := decide_eq_false hls
    clear h1y hls hlat
    go_enter Try.func7, Try.ntmps7
    go_wp2_with (first
      | (go_at_call 9; refine (mpawake_any _).mono ?_; rintro e w1 ⟨rfl, hb⟩; replace HC := Lib.hid (HC.out.up hb); replace HL := Lib.hid (HL.out.up hb); have hsq := hB.size; rw [HS0.out] at hsq; replace hB := hB.trans (hb.mono hsq); clear l0 l1 l2 llt; obtain ⟨⟨l0, l1, l2⟩, llt⟩ := HL.out; simp only [Nat.zero_add] at l1 l2; clear hb hsq c0 c1 c2 c3 c4 c5 c6 lt; obtain ⟨c0, c1, c2, c3, c4, c5, c6, lt⟩ := HC.out)
      | (go_at_call 10; (with_reducible refine (HFW.out _).mono ?_); rintro e w1 ⟨rfl, hb⟩; replace HC := Lib.hid (HC.out.up hb); replace HL := Lib.hid (HL.out.up hb); have hsq := hB.size; rw [HS0.out] at hsq; replace hB := hB.trans (hb.mono hsq); clear l0 l1 l2 llt; obtain ⟨⟨l0, l1, l2⟩, llt⟩ := HL.out; simp only [Nat.zero_add] at l1 l2; clear hb hsq c0 c1 c2 c3 c4 c5 c6 lt; obtain ⟨c0, c1, c2, c3, c4, c5, c6, lt⟩ := HC.out)
      | (go_at_call 13; (with_reducible refine (H1.out _ (HZ0.out.up (by rw [HS0.out]; exact hB)) (HY0.out.up (by rw [HS0.out]; exact hB))).mono ?_); rintro e w1 ⟨rfl, hb⟩; replace HC := Lib.hid (HC.out.up hb); replace HL := Lib.hid (HL.out.up hb); have hsq := hB.size; rw [HS0.out] at hsq; replace hB := hB.trans (hb.mono hsq); clear l0 l1 l2 llt; obtain ⟨⟨l0, l1, l2⟩, llt⟩ := HL.out; simp only [Nat.zero_add] at l1 l2; clear hb hsq c0 c1 c2 c3 c4 c5 c6 lt; obtain ⟨c0, c1, c2, c3, c4, c5, c6, lt⟩ := HC.out))
    rw [HS0.out]
    have HCS := HC
    rw [HS0.out] at HCS
    clear c0 c1 c2 c3 c4 c5 c6 lt l0 l1 l2 llt HC HL
    have HC := HCS
    clear HCS
    obtain ⟨c0, c1, c2, c3, c4, c5, c6, lt⟩ := HC.out
    clear c0 c1 c2 c3 c4 c5 c6 lt
    obtain ⟨c0, c1, c2, c3, c4, c5, c6, lt⟩ := HC.out
    go_wp2_with (go_at_call 16; (with_reducible refine (H4.out _ (HY0.out.up (by rw [HS0.out]; exact hB))).mono ?_); rintro e w8 ⟨v8, rfl, hs8, hb⟩; obtain ⟨A8, c8, hv8, hI8⟩ := hs8; rw [HND.out] at hv8; subst hv8; have HI8 := Lib.hid hI8; replace HC := Lib.hid (HC.out.up hb); have hsq := hB.size; rw [HS0.out] at hsq; replace hB := hB.trans (hb.mono hsq); clear hI8; clear hb hsq c0 c1 c2 c3 c4 c5 c6 lt; obtain ⟨c0, c1, c2, c3, c4, c5, c6, lt⟩ := HC.out)
    clear c0 c1 c2 c3 c4 c5 c6 lt
    go_loopg [13] nd (fun kx s13 wr => ∃ t : Nat, s13 = .int .i64 t ∧ t ≤ nd ∧ nd - t ≤ kx ∧ Hid (∀ i, i < t → decide (D.getD i 0 ≤ day) = decide (D.getD i 0 ≤ other)) ∧ Hid (CB wr s0 nm cur A n c B m d jt code day) ∧ Hid (IntsAt .i64 wr A8 D) ∧ Below s0 w wr)
    case atStart => exact ⟨0, rfl, by omega, by omega, Lib.hid (fun i h => absurd h (by omega)), HC, HI8, hB⟩
    case round =>
      clear HC HI8 hB
      try clear HC
      try clear HC
      rename World => wr
      obtain ⟨t, rfl, ht, htx, HALL, HC, HI8, hB⟩ := hrel
      obtain ⟨c0, c1, c2, c3, c4, c5, c6, lt⟩ := HC.out
      by_cases htl : t < nd
      · have htz : (t : Int) < (nd : Int) := by omega
        obtain ⟨b8, off8, e8, hb8, hc8⟩ := HI8.out (by rw [HND.out]; omega)
        cases e8
        have p0 := hc8 t (by rw [HND.out]; exact htl)
        obtain ⟨x, hx⟩ : ∃ x, D.getD t 0 = x := ⟨_, rfl⟩
        rw [hx] at p0
        have HXE := Lib.hid hx
        obtain ⟨q1, hq1⟩ : ∃ q1, decide (x ≤ day) = q1 := ⟨_, rfl⟩
        obtain ⟨q2, hq2⟩ : ∃ q2, decide (x ≤ other) = q2 := ⟨_, rfl⟩
        have HQ1 := Lib.hid hq1
        have HQ2 := Lib.hid hq2
        clear hc8 hx
        cases q1 <;> cases q2
        all_goals
          go_wp2_with fail
          go_quiet (fail)
          have hB9 := below_drewN hB nq
          have HC9 := Lib.hid (HC.out.up (below_drewN (Below.refl _ _) nq))
          have HI9 := Lib.hid (HI8.out.up (below_drewN (Below.refl _ _) nq))
          clear HC HI8 hB c0 c1 c2 c3 c4 c5 c6 lt p0
          generalize World.drewN _ nq = W8 at *
          go_wp2_with fail
          first
            | (have HA2 : Hid (∀ i, i < t + 1 → decide (D.getD i 0 ≤ day) = decide (D.getD i 0 ≤ other)) := Lib.hid (fun i hi => by
                 rcases Nat.lt_or_ge i t with h9 | h9
                 · exact HALL.out i h9
                 · obtain rfl : i = t := by omega
                   rw [HXE.out, HQ1.out, HQ2.out])
               go_roundg (nd - (t + 1))
               case measure => omega
               case rel => exact ⟨t + 1, by go_num, by omega, by omega, HA2, HC9, HI9, hB9⟩)
            | (go_ret
               exact ⟨rfl, by first | exact hB9 | (rw [HS0.out]; exact hB9)⟩)
      · obtain rfl : t = nd := by omega
        have htz : ¬ (t : Int) < (t : Int) := by omega
        have hfin := HFIN.out HALL.out
        by_cases he1 : ee = 2
        · have e1 : (ee == 2) = true := by simp [he1]
          clear hfin
          go_wp2_with (go_at_call 13; (with_reducible refine (H1O.out _ (HZ0.out.up (by rw [HS0.out]; exact hB)) (HY0.out.up (by rw [HS0.out]; exact hB))).mono ?_); rintro e w9 ⟨rfl, hb⟩; have hsq := hB.size; rw [HS0.out] at hsq; replace hB := hB.trans (hb.mono hsq); clear hb hsq)
          go_ret
          exact ⟨rfl, by first | exact hB | (rw [HS0.out]; exact hB)⟩
        · have e1 : (ee == 2) = false := by simp [he1]
          by_cases he2 : ee2 = 2
          · have e2 : (ee2 == 2) = true := by simp [he2]
            clear hfin
            go_wp2_with (go_at_call 13; (with_reducible refine (H1O.out _ (HZ0.out.up (by rw [HS0.out]; exact hB)) (HY0.out.up (by rw [HS0.out]; exact hB))).mono ?_); rintro e w9 ⟨rfl, hb⟩; have hsq := hB.size; rw [HS0.out] at hsq; replace hB := hB.trans (hb.mono hsq); clear hb hsq)
            go_ret
            exact ⟨rfl, by first | exact hB | (rw [HS0.out]; exact hB)⟩
          · have e2 : (ee2 == 2) = false := by simp [he2]
            obtain ⟨hv, he⟩ := hfin he1 he2
            have e3 : (te == te2) = true := by simp [hv]
            have e4 : (ee == ee2) = true := by simp [he]
            clear hfin hv he
            go_wp2_with (go_at_call 13; (with_reducible refine (H1O.out _ (HZ0.out.up (by rw [HS0.out]; exact hB)) (HY0.out.up (by rw [HS0.out]; exact hB))).mono ?_); rintro e w9 ⟨rfl, hb⟩; have hsq := hB.size; rw [HS0.out] at hsq; replace hB := hB.trans (hb.mono hsq); clear hb hsq)
            go_ret
            exact ⟨rfl, by first | exact hB | (rw [HS0.out]; exact hB)⟩
end Go.Proofs.Ytmahnpbjjadipaa
