/- The reference's 'trim' and 'signed'; both signs. -/
import Derived.Test.YtbfbijokhlkekaaDoorReadNat
namespace Go.Proofs.YtbfbijokhlkekaaDoor
open Go.RowKit

def lenOf : Value → Nat
  | .slice _ k _ => k
  | _ => 0

set_option maxHeartbeats 800000 in
theorem rtrim_any (A : Option Addr) (c : Nat) (L : List Nat) (w : World) (B : Nat) (hl : L.length ≤ 4000000) (hR : Row .i64 w B A c L) :
    Calls Tryd.prog 64 #[.slice A L.length c] w fun e w' => e = .returned (.slice A (trimN L L.length) c) ∧ w = w' := by
  have hlc := hR.len
  generalize hn : L.length = n at *
  have HN := Lib.hid hn
  clear hn
  go_enter Tryd.func64, Tryd.ntmps64
  go_wp2
  go_loop [0] (fun v => ∃ k : Nat, k ≤ n ∧ v = .slice A k c ∧ Hid (trimN L k = trimN L n)) lenOf
  case atStart => exact ⟨n, Nat.le_refl _, rfl, rfl⟩
  case round =>
    obtain ⟨k, hk, rfl, ht⟩ := hrel
    rcases Nat.eq_zero_or_pos k with rfl | hpos
    · have hd : decide ((0 : Int) < ((0 : Nat) : Int)) = false := by simp
      go_wp2
      go_ret
      exact ⟨by rw [← ht.out]; rfl, rfl⟩
    · obtain ⟨b, o, rfl, hb, hcell⟩ := hR.spot (by rw [HN.out]; omega)
      obtain ⟨m, rfl⟩ : ∃ m, k = m + 1 := ⟨k - 1, by omega⟩
      have h1 : ((0 : Int) < ((m + 1 : Nat) : Int)) := by omega
      have hc := hcell m (by rw [HN.out]; omega)
      clear hcell
      by_cases hz : nth L m = 0
      · go_wp2
        go_round
        case rel => exact ⟨m, by omega, rfl, by have := ht.out; rw [trimN, if_pos hz] at this; exact this⟩
        case measure => simp [lenOf]
      · go_wp2
        go_ret
        exact ⟨by have := ht.out; rw [trimN, if_neg hz] at this; rw [← this]; rfl, rfl⟩

set_option maxHeartbeats 800000 in
theorem rsigned_any (neg : Bool) (A : Option Addr) (c : Nat) (L : List Nat) (w : World) (hl : L.length ≤ 4000000) (hR : Row .i64 w w.heap.size A c L) :
    Calls Tryd.prog 44 #[.bool neg, .slice A L.length c] w fun e w' => e = .returned (.agg #[.bool (neg && decide (0 < trimN L L.length)), .slice A (trimN L L.length) c]) ∧ Below w.heap.size w w' := by
  have hT := fun W h => rtrim_any A c L W w.heap.size hl h
  have htl := trimN_le L L.length
  have HT := Lib.hid hT
  clear hT
  generalize hm : trimN L L.length = m at *
  have HM := Lib.hid hm
  clear hm
  rcases Nat.eq_zero_or_pos m with rfl | hn
  · have hd : decide ((0 : Int) < ((0 : Nat) : Int)) = false := by simp
    cases neg
    all_goals
      go_enter Tryd.func44, Tryd.ntmps44
      go_wp2_with fail
      refine (HT.out _ (hR.alloc (Nat.le_refl _) _)).mono ?_
      rintro e w1 ⟨rfl, rfl⟩
      go_wp2_with fail
      exact bodyPost_ret (v := .agg #[.bool false, .slice A 0 c]) (by simp [results, Tryd.results44, go_sem]) rfl ⟨rfl, ((Below.refl _ _).alloc (Nat.le_refl _) _)⟩
  · have hd : decide ((0 : Int) < (m : Int)) = true := by simp; omega
    have hd2 : decide (0 < m) = true := by simp; omega
    rw [hd2]
    clear hd2
    cases neg
    · go_enter Tryd.func44, Tryd.ntmps44
      go_wp2_with fail
      refine (HT.out _ (hR.alloc (Nat.le_refl _) _)).mono ?_
      rintro e w1 ⟨rfl, rfl⟩
      go_wp2_with fail
      exact bodyPost_ret (v := .agg #[.bool false, .slice A m c]) (by simp [results, Tryd.results44, go_sem]) rfl ⟨rfl, ((Below.refl _ _).alloc (Nat.le_refl _) _)⟩
    · go_enter Tryd.func44, Tryd.ntmps44
      go_wp2_with fail
      refine (HT.out _ (hR.alloc (Nat.le_refl _) _)).mono ?_
      rintro e w1 ⟨rfl, rfl⟩
      go_wp2_with fail
      exact bodyPost_ret (v := .agg #[.bool true, .slice A m c]) (by simp [results, Tryd.results44, go_sem]) rfl ⟨rfl, ((Below.refl _ _).alloc (Nat.le_refl _) _)⟩

/-- A value that is an integer of the reference: its sign and limbs. -/
structure RefR (w : World) (B : Nat) (neg : Bool) (A : Option Addr) (c : Nat) (L : List Nat) : Prop where
  row : Row .i64 w B A c L
  lim : ∀ d ∈ L, d < 10000
  top : 0 < L.length → nth L (L.length - 1) ≠ 0
  sgn : neg = true → L ≠ []
theorem RefR.below {w w' : World} {B : Nat} {neg : Bool} {A : Option Addr} {c : Nat} {L : List Nat} (h : RefR w B neg A c L) (hb : Below B w w') : RefR w' B neg A c L := ⟨h.row.below hb, h.lim, h.top, h.sgn⟩
theorem RefR.more {w : World} {B B' : Nat} {neg : Bool} {A : Option Addr} {c : Nat} {L : List Nat} (h : RefR w B neg A c L) (hb : B ≤ B') : RefR w B' neg A c L := ⟨h.row.more hb, h.lim, h.top, h.sgn⟩
theorem RefR.zero (w : World) (B : Nat) (A : Option Addr) (c : Nat) : RefR w B false A c [] := ⟨Row.nil _ _ _ _ _, fun _ h => absurd h (List.not_mem_nil), fun h => absurd h (Nat.lt_irrefl 0), fun h => absurd h Bool.false_ne_true⟩

/-- The sign of an integer as -1, 0, 1. -/
def sgnI (neg : Bool) (L : List Nat) : Int := if neg then -1 else if L.length = 0 then 0 else 1
set_option maxHeartbeats 800000 in
theorem rsign_any (neg : Bool) (A : Option Addr) (c : Nat) (L : List Nat) (w : World) (hs : neg = true → L ≠ []) :
    Calls Tryd.prog 18 #[.agg #[.bool neg, .slice A L.length c]] w fun e w' => e = .returned (.int .i64 (sgnI neg L)) ∧ Below w.heap.size w w' := by
  generalize hn : L.length = n at *
  have hk : sgnI neg L = if neg then -1 else if n = 0 then 0 else 1 := by rw [sgnI, hn]
  rw [hk]
  have hs2 : neg = true → 0 < n := fun h => by rw [← hn]; exact List.length_pos_iff.2 (hs h)
  clear hk hs hn
  rcases Nat.eq_zero_or_pos n with rfl | hpos
  · cases neg
    · go_enter Tryd.func18, Tryd.ntmps18
      go_wp2
      go_ret
      exact ⟨rfl, below_alloc_new _⟩
    · exact absurd (hs2 rfl) (by omega)
  · have h0 : ((n : Int) == 0) = false := by simp; omega
    have hn0 : ¬ n = 0 := by omega
    cases neg
    · go_enter Tryd.func18, Tryd.ntmps18
      go_wp2
      go_ret
      exact ⟨rfl, below_alloc_new _⟩
    · go_enter Tryd.func18, Tryd.ntmps18
      go_wp2
      go_ret
      exact ⟨rfl, below_alloc_new _⟩
set_option maxHeartbeats 800000 in
theorem sign_any (neg : Bool) (A : Option Addr) (c : Nat) (L : List Nat) (w : World) :
    Calls Tryd.prog 15 #[.agg #[.bool neg, .slice A L.length c]] w fun e w' => e = .returned (.int .i64 (sgnI neg L)) ∧ Below w.heap.size w w' := by
  generalize hn : L.length = n at *
  have hk : sgnI neg L = if neg then -1 else if n = 0 then 0 else 1 := by rw [sgnI, hn]
  rw [hk]
  clear hk hn
  rcases Nat.eq_zero_or_pos n with rfl | hpos
  · have hd : decide ((0 : Int) < ((0 : Nat) : Int)) = false := by simp
    cases neg
    · go_enter Tryd.func15, Tryd.ntmps15
      go_wp2
      go_ret
      exact ⟨rfl, below_alloc_new _⟩
    · go_enter Tryd.func15, Tryd.ntmps15
      go_wp2
      go_ret
      exact ⟨rfl, below_alloc_new _⟩
  · have h0 : decide ((0 : Int) < (n : Int)) = true := by simp; omega
    have hn0 : ¬ n = 0 := by omega
    cases neg
    · go_enter Tryd.func15, Tryd.ntmps15
      go_wp2
      go_ret
      exact ⟨rfl, below_alloc_new _⟩
    · go_enter Tryd.func15, Tryd.ntmps15
      go_wp2
      go_ret
      exact ⟨rfl, below_alloc_new _⟩
end Go.Proofs.YtbfbijokhlkekaaDoor
