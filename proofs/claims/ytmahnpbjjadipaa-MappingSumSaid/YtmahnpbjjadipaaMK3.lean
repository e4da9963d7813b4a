/- Contracts of the functions that the statements reach, part 3: what was proved of each, callees first. -/
import Derived.Lib.SmallJoins
import Derived.Shelf.SlIterI.Nil
import Derived.Shelf.SortM.Plain
import Derived.Shelf.SortM.SortNone
import Derived.Ground.GgzProg
import Derived.Ground.SlgmProg
import Derived.Shelf.SlGeneric
import Derived.Test.YtmahnpbjjadipaaProg
import Derived.Test.YtmahnpbjjadipaaMK2
namespace Go.Proofs.Ytmahnpbjjadipaa
open Go.RowKit
def fltL (code day : Int) (K : List Lnk) : List Lnk := K.filter fun l => decide (l.frm = code) && decide (l.since ≤ day)
theorem fltL_take {code day : Int} {K : List Lnk} {k : Nat} (hk : k < K.length) : fltL code day (K.take (k + 1)) = if (decide ((K.getD k lnk0).frm = code) && decide ((K.getD k lnk0).since ≤ day)) = true then fltL code day (K.take k) ++ [K.getD k lnk0] else fltL code day (K.take k) := by
 unfold fltL
 rw [take_succ_getD (d := lnk0) hk, List.filter_append]
 split
 ·rename_i h; simp only [List.filter_cons, h, if_true, List.filter_nil]
 ·rename_i h; simp only [List.filter_cons, h, List.filter_nil]; simp
theorem fltL_len {code day : Int} {K : List Lnk} : (fltL code day K).length ≤ K.length := List.length_filter_le _ _
def mxS (m x : Lnk) : Lnk := if m.since < x.since then x else m
def mxL (K : List Lnk) : Lnk := K.tail.foldl mxS (K.getD 0 lnk0)
theorem mxL_one {K : List Lnk} (h : 0 < K.length) : mxL (K.take 1) = K.getD 0 lnk0 := by
 cases K with
 | nil => simp at h
 | cons a K => rfl
theorem mxL_succ {K : List Lnk} {k : Nat} (h0 : 0 < k) (hk : k < K.length) : mxL (K.take (k + 1)) = mxS (mxL (K.take k)) (K.getD k lnk0) := by
 cases K with
 | nil => simp at hk
 | cons a K =>
  obtain ⟨j, rfl⟩ : ∃ j, k = j + 1 := ⟨k - 1, by omega⟩
  simp only [List.take_succ_cons, mxL, List.tail_cons, List.getD_cons_zero, List.getD_cons_succ]
  rw [take_succ_getD (d := lnk0) (by simpa using hk), List.foldl_append]
  rfl
theorem atO_flt {K : List Lnk} {code day : Int} : atO K code day = if (fltL code day K).length = 0 then none else some (mxL (fltL code day K)) := by
 have key : ∀ (K : List Lnk) (o : Option Lnk), K.foldl (atStep code day) o = (match o with
   | none => (match fltL code day K with
    | [] => none
    | a :: l => some (l.foldl mxS a))
   | some m => some ((fltL code day K).foldl mxS m)) := by
  intro K
  induction K with
  | nil => intro o; cases o <;> rfl
  | cons x K ih =>
   intro o
   rw [List.foldl_cons, ih]
   by_cases h1 : x.frm = code
   ·by_cases h2 : x.since ≤ day
    ·have hf : fltL code day (x :: K) = x :: fltL code day K := by unfold fltL; rw [List.filter_cons, decide_eq_true h1, decide_eq_true h2]; rfl
     cases o with
     | none =>
      have : atStep code day none x = some x := by unfold atStep atHit; rw [decide_eq_true h1, decide_eq_true h2]; rfl
      rw [this, hf]
     | some m =>
      have : atStep code day (some m) x = some (mxS m x) := by
       unfold atStep atHit mxS; rw [decide_eq_true h1, decide_eq_true h2]; simp only [Bool.true_and, decide_eq_true_eq]; split <;> rfl
      rw [this, hf]; rfl
    ·have hf : fltL code day (x :: K) = fltL code day K := by unfold fltL; rw [List.filter_cons, decide_eq_false h2, Bool.and_false]; rfl
     have : atStep code day o x = o := by unfold atStep atHit; rw [decide_eq_false h2]; simp
     rw [this, hf]
   ·have hf : fltL code day (x :: K) = fltL code day K := by unfold fltL; rw [List.filter_cons, decide_eq_false h1]; rfl
    have : atStep code day o x = o := by unfold atStep atHit; rw [decide_eq_false h1]; simp
    rw [this, hf]
 have h := key K none
 unfold atO
 rw [h]
 cases hf : fltL code day K with
 | nil => rfl
 | cons a l => rfl
set_option maxRecDepth 20000 in
set_option maxHeartbeats 1600000 in
theorem cuntil_any (A : Option Addr) (cp : Nat) (K : List Lnk) (code day : Int) (w : World) (hz : LnkAt w A K) (hl : K.length ≤ 100000) :
  Calls Try.prog 30 #[.slice A K.length cp, .int .i64 code, .int .i64 day] w fun e w' => ∃ v, e = .returned v ∧ OwnL 46 w' w.heap.size v (fltL code day K) ∧ Below w.heap.size w w' := by
 have hB := Below.refl w.heap.size w
 obtain ⟨n, hn⟩ : ∃ n, K.length = n := ⟨_, rfl⟩
 obtain ⟨s0, hs0⟩ : ∃ s0, w.heap.size = s0 := ⟨_, rfl⟩
 rw [hn] at hl ⊢
 rw [hs0] at hB ⊢
 have HN := Lib.hid hn
 have HZ := Lib.hid hz
 have HS0 := Lib.hid hs0
 obtain ⟨i0, hi, hz0, hz1, hz2⟩ := info_parts infoL
 clear hn hz hs0
 go_enter Try.func30, Try.ntmps30
 go_wp2_with fail
 have hO : Hid (OwnL 46 w s0 (.slice none 0 0) (fltL code day (K.take 0))) := Lib.hid OwnL.nil
 go_loopg [7, 12] n (fun kx s7 s12 wr => ∃ k : Nat, s12 = .int .i64 k ∧ k ≤ n ∧ n - k ≤ kx ∧ Hid (OwnL 46 wr s0 s7 (fltL code day (K.take k))) ∧ Below s0 w wr)
 case atStart => exact ⟨0, rfl, by omega, by omega, hO, hB⟩
 case round =>
  clear hB hO
  obtain ⟨k, rfl, hk, hkx, hO, hB⟩ := hrel
  have hsz : s0 ≤ wr.heap.size := by have := hB.size; have := HS0.out; omega
  by_cases hlt : k < n
  ·have hltz : (k : Int) < (n : Int) := by omega
   obtain ⟨b, off, rfl, hbw, hcs⟩ := HZ.out (by rw [HN.out]; omega)
   obtain ⟨c0, c1, c2⟩ := (hcs k (by rw [HN.out]; exact hlt)).up hB (by have := HS0.out; omega)
   obtain ⟨x, hx⟩ : ∃ x, K.getD k lnk0 = x := ⟨_, rfl⟩
   rw [hx] at c0 c1 c2
   have hf := fltL_take (K := K) (code := code) (day := day) (k := k) (by rw [HN.out]; exact hlt)
   rw [hx] at hf
   have hln : Hid ((fltL code day (K.take k)).length ≤ 100000000) := Lib.hid (by have := fltL_len (K := K.take k) (code := code) (day := day); rw [List.length_take] at this; omega)
   have hB1 : Below s0 w (wr.alloc (.cells #[.int .i64 x.frm, .int .i64 x.tgt, .int .i64 x.since] 46)) := hB.alloc hsz _
   have hO1 := Lib.hid (hO.out.alloc (.cells #[.int .i64 x.frm, .int .i64 x.tgt, .int .i64 x.since] 46))
   have hsz1 : s0 ≤ (wr.alloc (.cells #[.int .i64 x.frm, .int .i64 x.tgt, .int .i64 x.since] 46)).heap.size := by simp; omega
   clear hx hcs
   by_cases h1 : x.frm = code
   ·have q1 : (x.frm == code) = true := by simp [h1]
    by_cases h2 : x.since ≤ day
    ·have q2 : decide (x.since ≤ day) = true := decide_eq_true h2
     rw [if_pos (by rw [decide_eq_true h1, q2]; rfl)] at hf
     have HF := Lib.hid hf
     have HSZ := Lib.hid hsz1
     clear hf h1 h2 hsz1
     go_wp2_with (at_builtin; refine wpList_append_lk _ rfl (.tmp 26) (.tmp 28) 23 rfl s0 46 i0 24 Try.underlying23 hi hz0 hz1 hz2 (by omega) u7 _ (by rfl) hO1.out x _ 1 (by simp) rfl hln.out HSZ.out ?_; intro v2 w2 ho2 hg2 hl2 hb2; clear hg2 hl2; replace ho2 := ho2.out; rw [← HF.out] at ho2; replace ho2 := Lib.hid ho2; replace hB := hB1.trans hb2; clear hb2)
     go_roundg (n - (k + 1))
     case measure => omega
     case rel => exact ⟨k + 1, by go_num, by omega, by omega, ho2, hB⟩
    ·have q2 : decide (x.since ≤ day) = false := decide_eq_false h2
     rw [if_neg (by rw [q2, Bool.and_false]; simp)] at hf
     rw [← hf] at hO1
     clear hf h1 h2
     go_wp2_with fail
     go_roundg (n - (k + 1))
     case measure => omega
     case rel => exact ⟨k + 1, by go_num, by omega, by omega, hO1, hB1⟩
   ·have q1 : (x.frm == code) = false := by simp [h1]
    rw [if_neg (by rw [decide_eq_false h1]; simp)] at hf
    rw [← hf] at hO1
    clear hf h1
    go_wp2_with fail
    go_roundg (n - (k + 1))
    case measure => omega
    case rel => exact ⟨k + 1, by go_num, by omega, by omega, hO1, hB1⟩
  ·obtain rfl : k = n := by omega
   have hltz : ¬ (k : Int) < (k : Int) := by omega
   have ho := hO.out
   rw [List.take_of_length_le (by rw [HN.out]; omega)] at ho
   have HO := Lib.hid ho
   clear ho
   go_wp2_with fail
   go_ret
   exact ⟨_, rfl, HO.out, hB⟩
set_option maxRecDepth 20000 in
set_option maxHeartbeats 1600000 in
theorem cat1_any (x y : Lnk) (w : World) : Calls Try.prog 32 #[lnkV x, lnkV y] w fun e w' => e = .returned (.int .i64 (cmI x.since y.since)) ∧ Below w.heap.size w w' := by
 have hB := ((Below.refl w.heap.size w).alloc (Nat.le_refl _) (.cells #[.int .i64 x.frm, .int .i64 x.tgt, .int .i64 x.since] 46)).alloc (by simp) (.cells #[.int .i64 y.frm, .int .i64 y.tgt, .int .i64 y.since] 46)
 have hx := (lb_new w 46 x).up (below_alloc_new (.cells #[.int .i64 y.frm, .int .i64 y.tgt, .int .i64 y.since] 46))
 have hy := lb_new (w.alloc (.cells #[.int .i64 x.frm, .int .i64 x.tgt, .int .i64 x.since] 46)) 46 y
 obtain ⟨⟨c0, c1, c2⟩, clt⟩ := hx
 obtain ⟨⟨d0, d1, d2⟩, dlt⟩ := hy
 simp only [Nat.zero_add] at c1 c2 d1 d2
 go_enter Try.func32, Try.ntmps32
 go_wp2_with (go_at_call 33; refine (ccmp_any _ _ _).mono ?_; rintro e w' ⟨rfl, rfl⟩)
 go_ret
 exact ⟨rfl, hB⟩
def mxF (b off n cp k _g : Nat) (x m : Lnk) (z : Int) : List (Nat × AS.Fact) := [(20, AS.Fact.is (.func (.func 32) #[] #[])), (21, AS.Fact.is (.slice (some ⟨b, off, none⟩) (n : Nat) cp)), (22, AS.Fact.is (.int .i64 (k : Int))), (23, AS.Fact.is (.pointer (some ⟨b, off + k * 3, none⟩))), (24, AS.Fact.is (lnkV x)), (25, AS.Fact.is (lnkV m)), (26, AS.Fact.is (.int .i64 z)), (27, AS.Fact.is (.bool (decide (0 < z))))]
theorem cmI_lt9 {x y : Int} : decide (0 < cmI x y) = decide (y < x) := by
 unfold cmI
 split
 ·simp; omega
 ·split
  ·rename_i h; simp [h]
  ·rename_i h; simp [h]
structure LF (w : World) (g : Nat) (l : Lnk) : Prop where
 cells : L3 w g 0 l
 lt : g < w.heap.size
 fz : ∀ i, w.frozen? ⟨g, i, none⟩ = false
theorem LF.up {w w' : World} {g : Nat} {l : Lnk} (h : LF w g l) (hb : Below w.heap.size w w') : LF w' g l :=
 ⟨h.cells.up hb h.lt, Nat.lt_of_lt_of_le h.lt hb.size, fun i => (hb.frozen (p := ⟨g, i, none⟩) h.lt).trans (h.fz i)⟩
theorem lf_new (w : World) (t : TypeId) (a : Lnk) : LF (w.alloc (.cells #[.int .i64 a.frm, .int .i64 a.tgt, .int .i64 a.since] t)) w.heap.size a := by
 refine ⟨⟨?_, ?_, ?_⟩, by simp, fun i => by simp only [World.frozen?]; rw [heap_alloc_new]; simp⟩ <;> (simp only [World.cell?]; rw [heap_alloc_new]; rfl)
theorem lf_set {w : World} {g : Nat} {p : Lnk} (h : LF w g p) (x : Lnk) : LF (((w.setCell ⟨g, 0, none⟩ (.int .i64 x.frm)).setCell ⟨g, 1, none⟩ (.int .i64 x.tgt)).setCell ⟨g, 2, none⟩ (.int .i64 x.since)) g x := by
 have hc : ∀ (w : World) (i j : Nat) (v u : Value), w.cell? ⟨g, i, none⟩ = some u → (w.setCell ⟨g, j, none⟩ v).cell? ⟨g, i, none⟩ = if i = j then some v else some u := by
  intro w i j v u hu
  split
  ·rename_i e; subst e; exact World.cell?_setCell_same w _ v hu
  ·rename_i e; rw [World.cell?_setCell_other w _ _ v (fun h => e (by injection h with _ h2; exact h2.symm))]; exact hu
 have z0 := h.cells.c0
 have z1 := h.cells.c1
 have z2 := h.cells.c2
 simp only [Nat.zero_add] at z1 z2
 have hf : ∀ (w : World) (p : Addr) (v : Value) (i : Nat), (w.setCell p v).frozen? ⟨g, i, none⟩ = w.frozen? ⟨g, i, none⟩ := fun w p v i => World.frozen?_setCell w p _ v
 refine ⟨⟨?_, ?_, ?_⟩, by simpa [World.setCell] using h.lt, fun i => by rw [hf, hf, hf]; exact h.fz i⟩
 ·rw [hc _ 0 2 _ _ (hc _ 0 1 _ _ (hc _ 0 0 _ _ z0))]; rfl
 ·rw [Nat.zero_add, hc _ 1 2 _ _ (hc _ 1 1 _ _ (hc _ 1 0 _ _ z1))]; rfl
 ·rw [Nat.zero_add, hc _ 2 2 _ _ (hc _ 2 1 _ _ (hc _ 2 0 _ _ z2))]; rfl
theorem bset3 {B : Nat} {w0 w1 : World} {g : Nat} (h : Below B w0 w1) (hg : B ≤ g) (a b c : Value) : Below B w0 (((w1.setCell ⟨g, 0, none⟩ a).setCell ⟨g, 1, none⟩ b).setCell ⟨g, 2, none⟩ c) :=
 Below.setCell (p := ⟨g, 2, none⟩) (Below.setCell (p := ⟨g, 1, none⟩) (Below.setCell (p := ⟨g, 0, none⟩) h hg a) hg b) hg c
theorem lf_far {w : World} {g g' : Nat} {p : Lnk} (h : LF w g p) (hne : g' ≠ g) (x : Lnk) : LF (((w.setCell ⟨g', 0, none⟩ (.int .i64 x.frm)).setCell ⟨g', 1, none⟩ (.int .i64 x.tgt)).setCell ⟨g', 2, none⟩ (.int .i64 x.since)) g p := by
 have hb : ∀ (w : World) (i : Nat) (v : Value), (w.setCell ⟨g', i, none⟩ v).heap[g]? = w.heap[g]? := fun w i v => Below.heap_setCell w _ v g (Ne.symm hne)
 have hk : (((w.setCell ⟨g', 0, none⟩ (.int .i64 x.frm)).setCell ⟨g', 1, none⟩ (.int .i64 x.tgt)).setCell ⟨g', 2, none⟩ (.int .i64 x.since)).heap[g]? = w.heap[g]? := by rw [hb, hb, hb]
 exact ⟨⟨(World.cell?_of_block hk).trans h.cells.c0, (World.cell?_of_block hk).trans h.cells.c1, (World.cell?_of_block hk).trans h.cells.c2⟩, by have := h.lt; simpa [World.setCell] using this, fun i => by simp only [World.frozen?, hk]; exact h.fz i⟩
set_option maxRecDepth 20000 in
set_option maxHeartbeats 3200000 in
theorem cmax_any (A : Option Addr) (cp : Nat) (K : List Lnk) (w : World) (hz : LnkAt w A K) (h0 : 0 < K.length) (hl : K.length ≤ 100000) :
  Calls Try.prog 31 #[.slice A K.length cp, .func (.func 32) #[] #[]] w fun e w' => e = .returned (lnkV (mxL K)) ∧ Below w.heap.size w w' := by
 obtain ⟨b, off, rfl, hbw, hcs⟩ := hz h0
 have HC := Lib.hid (fun x y w => cat1_any x y w)
 have h3 := hcs 0 h0
 have hone := mxL_one h0
 obtain ⟨x0, hx0⟩ : ∃ x, K.getD 0 lnk0 = x := ⟨_, rfl⟩
 rw [hx0] at h3 hone
 obtain ⟨n, hn⟩ : ∃ n, K.length = n := ⟨_, rfl⟩
 have HONE := Lib.hid hone
 have HN := Lib.hid hn
 have HCS := Lib.hid hcs
 have hbz := Lib.hid hbw
 rw [hn] at hl h0 ⊢
 have hB := ((Below.refl w.heap.size w).alloc (Nat.le_refl _) (.cells #[.int .i64 lnk0.frm, .int .i64 lnk0.tgt, .int .i64 lnk0.since] 46)).alloc (by simp) (.cells #[.int .i64 x0.frm, .int .i64 x0.tgt, .int .i64 x0.since] 46)
 have hM := lf_new (w.alloc (.cells #[.int .i64 lnk0.frm, .int .i64 lnk0.tgt, .int .i64 lnk0.since] 46)) 46 x0
 have hR := (lf_new w 46 lnk0).up (below_alloc_new (.cells #[.int .i64 x0.frm, .int .i64 x0.tgt, .int .i64 x0.since] 46))
 obtain ⟨d0, d1, d2⟩ := h3.up ((Below.refl w.heap.size w).alloc (Nat.le_refl _) (.cells #[.int .i64 lnk0.frm, .int .i64 lnk0.tgt, .int .i64 lnk0.since] 46)) hbw
 simp only [Nat.zero_mul, Nat.add_zero] at d0 d1 d2
 have hd1 : decide ((n : Int) < 1) = false := decide_eq_false (by omega)
 have h0z : (0 : Int) < (n : Int) := by omega
 have eR : (w.alloc (.cells #[.int .i64 lnk0.frm, .int .i64 lnk0.tgt, .int .i64 lnk0.since] 46)).heap.size = w.heap.size + 1 := by simp
 obtain ⟨s0, hs0⟩ : ∃ s0, w.heap.size = s0 := ⟨_, rfl⟩
 rw [eR] at hM
 rw [hs0] at hB hM hR ⊢
 have HS0 := Lib.hid hs0
 have HM := Lib.hid hM
 have HR := Lib.hid hR
 clear hn hz hcs h3 hone hx0 hM hR hs0 eR
 go_enter Try.func31, Try.ntmps31
 go_wp2_with fail
 go_loopg [6] n (fun kx s6 wr => ∃ k : Nat, s6 = .int .i64 k ∧ 1 ≤ k ∧ k ≤ n ∧ n - k ≤ kx ∧ Hid (LF wr (s0 + 1) (mxL (K.take k))) ∧ Hid (LF wr s0 lnk0) ∧ Below s0 w wr)
 case atStart => exact ⟨1, rfl, by omega, by omega, by omega, Lib.hid (by rw [HONE.out]; exact HM.out), HR, hB⟩
 case round =>
  clear hB HM HR
  obtain ⟨k, rfl, hk1, hk, hkx, HM, HR, hB⟩ := hrel
  have hsz : s0 ≤ wr.heap.size := by have := hB.size; have := HS0.out; omega
  by_cases hlt : k < n
  ·have hltz : (k : Int) < (n : Int) := by omega
   have hX3 := (HCS.out k (by rw [HN.out]; exact hlt)).up hB (by have := hbz.out; have := HS0.out; omega)
   have hst := mxL_succ (K := K) (k := k) (by omega) (by rw [HN.out]; exact hlt)
   obtain ⟨x, hx⟩ : ∃ x, K.getD k lnk0 = x := ⟨_, rfl⟩
   obtain ⟨m, hm⟩ : ∃ m, mxL (K.take k) = m := ⟨_, rfl⟩
   rw [hx] at hX3 hst
   rw [hm] at HM hst
   have hbW : b < wr.heap.size := by have := hbz.out; have := hB.size; omega
   have HX3 := Lib.hid hX3
   have HMB := HM
   have hz9 := HC.out x m
   obtain ⟨z, hze⟩ : ∃ z, cmI x.since m.since = z := ⟨_, rfl⟩
   rw [hze] at hz9
   have HZE := Lib.hid hze
   have HC9 := HC
   have HC := Lib.hid hz9
   have HST := Lib.hid hst
   obtain ⟨g, hg⟩ : ∃ g, s0 + 1 = g := ⟨_, rfl⟩
   rw [hg] at HM HMB
   have HG := Lib.hid hg
   clear hx hm hst hX3 hz9 hze
   have e9 : w.heap.size + 1 = g := by rw [HS0.out]; exact hg
   go_wp2_with fail
   rw [e9]
   clear hg e9
   refine AS.region_facts (mxF b off n cp k g x m z) (HNo wr) [[], [], [], [21, 22], [23], [], [20, 24, 25], [26]] [] [[]] [0, 0, 0, 0, 0, 0, 0, 0] [] (fun u => by simp only [mxF, AS.temps, List.map_cons, List.map_nil, fillL, List.setIfInBounds_toArray, List.set_cons_zero, List.set_cons_succ]; rfl) (by kernel_rfl) (by kernel_rfl) (HNo.st wr) (dc_drew (Below.refl _ _)) ?_ ?_
   ·refine AS.sc rfl rfl rfl ?_ ?_
    ·intro k_ u w_ hk_ hJ hF K hK
     clear hF
     go_simp
     exact hK.out _ _ (Below.refl _ _) (rfl) trivial
    refine AS.sc rfl rfl rfl ?_ ?_
    ·intro k_ u w_ hk_ hJ hF K hK
     clear hF
     go_simp
     exact hK.out _ _ (Below.refl _ _) (rfl) trivial
    refine AS.sc rfl rfl rfl ?_ ?_
    ·intro k_ u w_ hk_ hJ hF K hK
     clear hF
     go_simp
     exact hK.out _ _ (Below.refl _ _) (rfl) trivial
    refine AS.sc rfl rfl rfl ?_ ?_
    ·intro k_ u w_ hk_ hJ hF K hK
     have h21 : u 21 = .slice (some ⟨b, off, none⟩) (n : Nat) cp := AS.facts_get hF 21 (by simp)
     have h22 : u 22 = .int .i64 (k : Int) := AS.facts_get hF 22 (by simp)
     clear hF
     simp only [h21, h22] at hK ⊢
     clear h21 h22
     go_simp
     exact hK.out _ _ (Below.refl _ _) (rfl) trivial
    refine AS.sc rfl rfl rfl ?_ ?_
    ·intro k_ u w_ hk_ hJ hF K hK
     have h23 : u 23 = .pointer (some ⟨b, off + k * 3, none⟩) := AS.facts_get hF 23 (by simp)
     have hJ0 : Below wr.heap.size wr w_ := hJ
     clear hF
     simp only [h23] at hK ⊢
     clear h23
     obtain ⟨c0, c1, c2⟩ := HX3.out.up hJ0 hbW
     go_simp
     exact hK.out _ _ (Below.refl _ _) (rfl) trivial
    refine AS.sc rfl rfl rfl ?_ ?_
    ·intro k_ u w_ hk_ hJ hF K hK
     have hJ0 : Below wr.heap.size wr w_ := hJ
     clear hF
     obtain ⟨⟨c0, c1, c2⟩, clt⟩ := HMB.out.up hJ0
     simp only [Nat.zero_add] at c1 c2
     go_simp
     exact hK.out _ _ (Below.refl _ _) (rfl) trivial
    refine AS.sc rfl rfl rfl ?_ ?_
    ·intro k_ u w_ hk_ hJ hF K hK
     have h20 : u 20 = .func (.func 32) #[] #[] := AS.facts_get hF 20 (by simp)
     have h24 : u 24 = lnkV x := AS.facts_get hF 24 (by simp)
     have h25 : u 25 = lnkV m := AS.facts_get hF 25 (by simp)
     clear hF
     simp only [h20, h24, h25] at hK ⊢
     clear h20 h24 h25
     go_simp
     refine (HC.out _).mono ?_
     rintro e w3 ⟨rfl, h9⟩
     exact hK.out _ _ h9 (rfl) trivial
    refine AS.sc rfl rfl rfl ?_ ?_
    ·intro k_ u w_ hk_ hJ hF K hK
     have h26 : u 26 = .int .i64 z := AS.facts_get hF 26 (by simp)
     clear hF
     simp only [h26] at hK ⊢
     clear h26
     go_simp
     exact hK.out _ _ (Below.refl _ _) (rfl) trivial
    exact AS.StepsOk.nil
   ·intro u W9 hJ9 hF
    have h27 : u 27 = .bool (decide (0 < z)) := AS.facts_get hF 27 (by simp [mxF, AS.temps])
    have hB9 : Below wr.heap.size wr W9 := hJ9
    clear hF hJ9
    obtain ⟨q, hq⟩ : ∃ q, decide (0 < z) = q := ⟨_, rfl⟩
    rw [hq] at h27
    have HM9 := Lib.hid (HM.out.up hB9)
    have HR9 := Lib.hid (HR.out.up hB9)
    have hX9 := HX3.out.up hB9 hbW
    have hBn := hB.trans (hB9.mono hsz)
    clear hB9
    simp only [h27]
    clear h27
    cases q
    ·have HL : Hid (LF W9 (s0 + 1) (mxL (K.take (k + 1)))) := Lib.hid (by
      rw [HST.out, HG.out]; unfold mxS
      have h5 : ¬ m.since < x.since := by
       have := hq; rw [← HZE.out, cmI_lt9] at this; simpa using this
      rw [if_neg h5]; exact HM9.out)
     clear hq hX9
     go_wp2_with fail
     have e8 : g = w.heap.size + 1 := by rw [HS0.out]; exact HG.out.symm
     subst e8
     go_roundg (n - (k + 1))
     case measure => omega
     case rel => exact ⟨k + 1, by go_num, by omega, by omega, by omega, HL, HR9, hBn⟩
    ·have HL : Hid (LF (((W9.setCell ⟨g, 0, none⟩ (.int .i64 x.frm)).setCell ⟨g, 1, none⟩ (.int .i64 x.tgt)).setCell ⟨g, 2, none⟩ (.int .i64 x.since)) (s0 + 1) (mxL (K.take (k + 1)))) := Lib.hid (by
      rw [HST.out, HG.out]; unfold mxS
      have h5 : m.since < x.since := by
       have := hq; rw [← HZE.out, cmI_lt9] at this; simpa using this
      rw [if_pos h5]; exact lf_set HM9.out x)
     have HR8 : Hid (LF (((W9.setCell ⟨g, 0, none⟩ (.int .i64 x.frm)).setCell ⟨g, 1, none⟩ (.int .i64 x.tgt)).setCell ⟨g, 2, none⟩ (.int .i64 x.since)) s0 lnk0) := Lib.hid (lf_far HR9.out (by have := HG.out; omega) x)
     have hB8 := bset3 hBn (by have := HG.out; omega) (.int .i64 x.frm) (.int .i64 x.tgt) (.int .i64 x.since) (g := g)
     obtain ⟨d0, d1, d2⟩ := hX9
     obtain ⟨⟨e0, e1, e2⟩, elt, ef⟩ := HM9.out
     simp only [Nat.zero_add] at e1 e2
     have ef0 := ef 0
     have ef1 := ef 1
     have ef2 := ef 2
     clear hq ef
     go_wp2_with fail
     have e8 : g = w.heap.size + 1 := by rw [HS0.out]; exact HG.out.symm
     subst e8
     go_roundg (n - (k + 1))
     case measure => omega
     case rel => exact ⟨k + 1, by go_num, by omega, by omega, by omega, HL, HR8, hB8⟩
  ·obtain rfl : k = n := by omega
   have hltz : ¬ (k : Int) < (k : Int) := by omega
   have ho := HM.out
   rw [List.take_of_length_le (by rw [HN.out]; omega)] at ho
   obtain ⟨m, hm⟩ : ∃ m, mxL K = m := ⟨_, rfl⟩
   rw [hm] at ho
   have HMM := Lib.hid hm
   have e9 : w.heap.size + 1 = s0 + 1 := by rw [HS0.out]
   obtain ⟨⟨e0, e1, e2⟩, elt, -⟩ := ho
   obtain ⟨⟨z0, z1, z2⟩, zlt, zf⟩ := HR.out
   have zf0 := zf 0
   have zf1 := zf 1
   have zf2 := zf 2
   simp only [Nat.zero_add] at z1 z2 e1 e2
   clear zf hm
   rw [← HS0.out] at z0 z1 z2 zlt zf0 zf1 zf2 e0 e1 e2 elt
   clear e9
   go_wp2_with fail
   exact bodyPost_ret (v := lnkV m) (by simp [results, Try.results31, go_sem, z0, z1, z2]) rfl ⟨by rw [HMM.out], by rw [← HS0.out]; exact bset3 (by rw [HS0.out]; exact hB) (Nat.le_refl _) _ _ _⟩
open Go.RowKit Go.Maps
set_option maxRecDepth 20000 in
set_option maxHeartbeats 3200000 in
theorem clnk_any (l : Lnk) (A C : Option Addr) (cp d : Nat) (L c : List Acc) (w : World) (hz : AccAt w A L) (hy : AccAt w C c) (hl : L.length ≤ 1000) (hm : c.length ≤ 1000) :
  Calls Try.prog 23 #[lnkV l, .slice A L.length cp, .slice C c.length d] w fun e w' => e = .returned (.bool (lnkB L c l)) ∧ Below w.heap.size w w' := by
 have hB := below_alloc_new (w := w) (.cells #[.int .i64 l.frm, .int .i64 l.tgt, .int .i64 l.since] 46)
 have HL := Lib.hid (lb_new w 46 l)
 have HZ := Lib.hid (hz.up hB)
 have HY := Lib.hid (hy.up hB)
 have hf := fun w h => cfind_any A cp L l.frm w h hl
 have hg := fun w h => cfind_any C d c l.tgt w h hm
 have hv := fun w => vd_any l.since w
 have hE : lnkB L c l = ((fnd L l.frm).isSome && ((fnd c l.tgt).isSome && (decide ((fndA L l.frm).kind = (fndA c l.tgt).kind) && vdB l.since))) := rfl
 generalize lnkB L c l = r at *
 generalize (fnd L l.frm).isSome = q1 at *
 generalize (fnd c l.tgt).isSome = q2 at *
 generalize fndA L l.frm = fa at *
 generalize fndA c l.tgt = fb at *
 generalize vdB l.since = q4 at *
 obtain ⟨q3, hq3⟩ : ∃ q3, decide (fa.kind = fb.kind) = q3 := ⟨_, rfl⟩
 have e3 : (fa.kind == fb.kind) = q3 := by rw [← hq3, Bool.eq_iff_iff]; simp
 rw [hq3] at hE
 generalize L.length = n at *
 generalize c.length = m at *
 obtain ⟨⟨v0, v1, v2⟩, vlt⟩ := HL.out
 simp only [Nat.zero_add] at v1 v2
 have HF := Lib.hid hf
 have HG := Lib.hid hg
 have HV := Lib.hid hv
 have HE := Lib.hid hE
 clear hf hg hv hE hq3 hz hy
 cases q1 <;> cases q2 <;> cases q3
 all_goals
  go_enter Try.func23, Try.ntmps23
  go_wp2_with (first
   | (go_at_call 29; first
    | ((with_reducible refine (HF.out _ HZ.out).mono ?_); rintro e w2 ⟨rfl, hb⟩; have HA := Lib.hid (ab_new w2 50 fa); replace HL := Lib.hid ((HL.out.up hb).up (below_alloc_new (.cells #[.int .i64 fa.code, .int .i64 fa.kind, .int .i64 fa.basis, .int .i64 fa.par] 50))); replace HY := Lib.hid ((HY.out.up hb).up (below_alloc_new (.cells #[.int .i64 fa.code, .int .i64 fa.kind, .int .i64 fa.basis, .int .i64 fa.par] 50))); replace hB := below_new (below_more hB hb) (.cells #[.int .i64 fa.code, .int .i64 fa.kind, .int .i64 fa.basis, .int .i64 fa.par] 50); clear hb v0 v1 v2 vlt; obtain ⟨⟨v0, v1, v2⟩, vlt⟩ := HL.out; simp only [Nat.zero_add] at v1 v2)
    | ((with_reducible refine (HG.out _ HY.out).mono ?_); rintro e w3 ⟨rfl, hb⟩; have HA3 := Lib.hid (ab_new w3 50 fb); replace HA := Lib.hid ((HA.out.up hb).up (below_alloc_new (.cells #[.int .i64 fb.code, .int .i64 fb.kind, .int .i64 fb.basis, .int .i64 fb.par] 50))); replace HL := Lib.hid ((HL.out.up hb).up (below_alloc_new (.cells #[.int .i64 fb.code, .int .i64 fb.kind, .int .i64 fb.basis, .int .i64 fb.par] 50))); replace hB := below_new (below_more hB hb) (.cells #[.int .i64 fb.code, .int .i64 fb.kind, .int .i64 fb.basis, .int .i64 fb.par] 50); clear hb v0 v1 v2 vlt; obtain ⟨⟨v0, v1, v2⟩, vlt⟩ := HL.out; simp only [Nat.zero_add] at v1 v2; obtain ⟨⟨x0, x1, x2, x3⟩, xlt, -⟩ := HA.out; obtain ⟨⟨y0, y1, y2, y3⟩, ylt, -⟩ := HA3.out; simp only [Nat.zero_add] at x1 x2 x3 y1 y2 y3))
   | (go_at_call 28; refine (HV.out _).mono ?_; rintro e w4 ⟨rfl, rfl⟩))
  go_ret
  exact ⟨by rw [HE.out]; rfl, hB⟩
theorem wpList_setp_len {w : World} {ops : Array Oper} {rest : List Oper} {o : Oper} {a : Act} {Q : Exit → Act → World → Prop} (hg : o.guard = none) (m : Operand) (t e : TypeId) (hop : o.op = Op.call { callee := Callee.builtin Builtin.len, args := #[m], argTypes := #[t] })
  (ht : Try.prog.underlying t = some (.map 80 e)) (b n : Nat) (S : Int → Int → Bool) (hm : a.eval m = .map (some b)) (hs : SetP w b n S)
  (hK : wpList Try.prog ops Q rest (a.put o.dst (.int .i64 (n : Int))) w) : wpList Try.prog ops Q (o :: rest) a w := by
 obtain ⟨D, h1, hsz, h3⟩ := hs
 refine wpList_len_own w hg m t hop 80 e ht heldE b n D hm h1 ?_
 rw [hsz]; exact hK
structure DI (K : List Lnk) (k m : Nat) (S : Int → Int → Bool) : Prop where
 mem : ∀ x y, S x y = true ↔ ∃ i, i < k ∧ (K.getD i lnk0).frm = x ∧ (K.getD i lnk0).since = y
 le : m ≤ k
 iff : m = k ↔ allTo (dfB K) k = true
theorem DI.start {K : List Lnk} : DI K 0 0 (fun _ _ => false) := ⟨fun x y => by simp, Nat.le_refl _, by simp [allTo]⟩
theorem dfB_is {K : List Lnk} {i : Nat} : dfB K i = true ↔ ∀ k, k < i → ¬ ((K.getD k lnk0).frm = (K.getD i lnk0).frm ∧ (K.getD k lnk0).since = (K.getD i lnk0).since) := by
 unfold dfB
 rw [allTo_is]
 have e : ∀ k, (!smB K i k) = true ↔ ¬ ((K.getD k lnk0).frm = (K.getD i lnk0).frm ∧ (K.getD k lnk0).since = (K.getD i lnk0).since) := by
  intro k
  unfold smB
  rw [Bool.not_eq_true', Bool.and_eq_false_iff, decide_eq_false_iff_not, decide_eq_false_iff_not]
  exact ⟨fun h h2 => h.elim (fun h3 => h3 h2.1) (fun h3 => h3 h2.2), fun h => by
   by_cases h1 : (K.getD k lnk0).frm = (K.getD i lnk0).frm
   ·exact .inr fun h2 => h ⟨h1, h2⟩
   ·exact .inl h1⟩
 exact ⟨fun h k hk => (e k).1 (h k hk), fun h k hk => (e k).2 (h k hk)⟩
theorem DI.step {K : List Lnk} {k m : Nat} {S : Int → Int → Bool} {x : Lnk} (h : DI K k m S) (hx : K.getD k lnk0 = x) :
  DI K (k + 1) (if S x.frm x.since = true then m else m + 1) (fun a b => decide (a = x.frm ∧ b = x.since) || S a b) := by
 have hd : dfB K k = !S x.frm x.since := by
  cases hS : S x.frm x.since with
  | true =>
   obtain ⟨i, hi, h1, h2⟩ := (h.mem _ _).1 hS
   cases hq : dfB K k with
   | false => rfl
   | true => exact absurd ⟨by rw [hx]; exact h1, by rw [hx]; exact h2⟩ (dfB_is.1 hq i hi)
  | false =>
   show dfB K k = true
   rw [dfB_is]
   rintro i hi ⟨h1, h2⟩
   have := (h.mem x.frm x.since).2 ⟨i, hi, by rw [h1, hx], by rw [h2, hx]⟩
   rw [hS] at this; cases this
 refine ⟨fun a b => ?_, ?_, ?_⟩
 ·simp only [Bool.or_eq_true, decide_eq_true_eq, h.mem]
  constructor
  ·rintro (⟨rfl, rfl⟩ | ⟨i, hi, h1, h2⟩)
   ·exact ⟨k, by omega, by rw [hx], by rw [hx]⟩
   ·exact ⟨i, by omega, h1, h2⟩
  ·rintro ⟨i, hi, h1, h2⟩
   rcases Nat.lt_or_ge i k with h3 | h3
   ·exact .inr ⟨i, h3, h1, h2⟩
   ·obtain rfl : i = k := by omega
    rw [hx] at h1 h2
    exact .inl ⟨h1.symm, h2.symm⟩
 ·have := h.le; split <;> omega
 ·have h1 := h.le
  have h2 := h.iff
  simp only [allTo, Bool.and_eq_true, hd]
  cases hS : S x.frm x.since
  ·simp only [Bool.not_false, and_true, if_neg (show ¬ (false = true) by simp)]
   rw [← h2]; omega
  ·simp only [Bool.not_true, if_true]
   constructor
   ·intro h3; omega
   ·rintro ⟨_, h3⟩; cases h3
structure WfL (l : Lnk) : Prop where
 frm : (Lit.int .i64 l.frm).wf = true
 tgt : (Lit.int .i64 l.tgt).wf = true
 since : (Lit.int .i64 l.since).wf = true
set_option maxRecDepth 20000 in
set_option maxHeartbeats 3200000 in
theorem cdist_any (A : Option Addr) (cp : Nat) (K : List Lnk) (w : World) (hz : LnkAt w A K) (hl : K.length ≤ 1000) (hw : ∀ l ∈ K, WfL l) :
  Calls Try.prog 24 #[.slice A K.length cp] w fun e w' => e = .returned (.bool (allTo (dfB K) K.length)) ∧ Below w.heap.size w w' := by
 have hB := below_alloc_new (w := w) (.map #[] 0)
 have hM := SetP.made w
 obtain ⟨q, hq⟩ : ∃ q, allTo (dfB K) K.length = q := ⟨_, rfl⟩
 rw [hq]
 obtain ⟨n, hn⟩ : ∃ n, K.length = n := ⟨_, rfl⟩
 obtain ⟨s0, hs0⟩ : ∃ s0, w.heap.size = s0 := ⟨_, rfl⟩
 rw [hn] at hl hq ⊢
 rw [hs0] at hB hM ⊢
 have HN := Lib.hid hn
 have HZ := Lib.hid hz
 have HW := Lib.hid hw
 have HS0 := Lib.hid hs0
 have HM := Lib.hid hM
 have HQ := Lib.hid hq
 have hmm := @run_makeMap Try.prog
 clear hn hz hw hM hq
 go_enter Try.func24, Try.ntmps24
 go_wp2_with fail
 clear hs0
 go_loopg [9] n (fun kx s9 wr => ∃ (k m : Nat) (S : Int → Int → Bool), s9 = .int .i64 k ∧ k ≤ n ∧ n - k ≤ kx ∧ Hid (DI K k m S) ∧ Hid (SetP wr s0 m S) ∧ Below s0 w wr)
 case atStart => exact ⟨0, 0, _, rfl, by omega, by omega, Lib.hid DI.start, HM, hB⟩
 case round =>
  clear hB HM
  obtain ⟨k, m, S, rfl, hk, hkx, HD, HM, hB⟩ := hrel
  by_cases hlt : k < n
  ·have hltz : (k : Int) < (n : Int) := by omega
   have hsz : s0 ≤ wr.heap.size := by have := hB.size; have := HS0.out; omega
   obtain ⟨b, off, rfl, hbw, hcs⟩ := HZ.out (by rw [HN.out]; omega)
   obtain ⟨c0, c1, c2⟩ := (hcs k (by rw [HN.out]; exact hlt)).up hB (by have := HS0.out; omega)
   obtain ⟨x, hx⟩ : ∃ x, K.getD k lnk0 = x := ⟨_, rfl⟩
   rw [hx] at c0 c1 c2
   have HWX := Lib.hid (HW.out x (by rw [← hx]; exact getD_mem_acc (by rw [HN.out]; exact hlt)))
   have HDS := Lib.hid (HD.out.step hx)
   have hm1 : m ≤ 1000 := by have := HD.out.le; omega
   have HM1 := Lib.hid (HM.out.up (below_alloc_new (.cells #[.int .i64 x.frm, .int .i64 x.tgt, .int .i64 x.since] 46)))
   have hB1 : Below s0 w (wr.alloc (.cells #[.int .i64 x.frm, .int .i64 x.tgt, .int .i64 x.since] 46)) := hB.alloc hsz _
   have hsm := HM.out.lt
   clear hx hcs
   go_wp2_with (at_mapUpdate; refine wpList_setp_put rfl _ _ _ _ 4 rfl Try.underlying78 s0 m S rfl HM1.out x.frm x.since rfl _ rfl HWX.out.frm HWX.out.since (by omega) ?_; intro w2 hm2 hg2; have hb2 := grown_below hB1 hg2.out (Nat.le_refl _) (by simp; omega); clear hg2)
   go_roundg (n - (k + 1))
   case measure => omega
   case rel => exact ⟨k + 1, _, _, by go_num, by omega, by omega, HDS, hm2, hb2⟩
  ·obtain rfl : k = n := by omega
   have hltz : ¬ (k : Int) < (k : Int) := by omega
   have e9 : ((m : Int) == (k : Int)) = q := by
    rw [← HQ.out]
    have h1 := HD.out.iff
    cases h2 : allTo (dfB K) k with
    | true => rw [h2] at h1; have := h1.2 rfl; subst this; simp
    | false => rw [h2] at h1; simp; intro h3; have := h1.1 (by omega); cases this
   go_wp2_with (at_len; refine wpList_setp_len rfl _ _ 4 rfl Try.underlying78 s0 m S rfl HM.out ?_)
   go_ret
   exact ⟨rfl, hB⟩
theorem sum_one {z : Int} {t : Int} : ∀ {l : List Int}, l.Nodup → t ∈ l → sumI l (fun s => if t = s then z else 0) = z
 | [], _, h => by cases h
 | x :: l, hn, h => by
  rw [List.nodup_cons] at hn
  rw [sumI_cons]
  rcases List.mem_cons.1 h with rfl | h
  ·rw [if_pos rfl, sumI_zero (fun y hy => if_neg (fun e => hn.1 (by rw [e]; exact hy)))]; omega
  ·rw [if_neg (fun e => hn.1 (by rw [← e]; exact h)), sum_one hn.2 h]; omega
theorem sumsL_sum {P : List Bal} {h : Int → Bool} : sumI (sumsL P) (fun x => if h x.acct = true then x.amt else 0) = sumI P (fun x => if h x.acct = true then x.amt else 0) := by
 obtain ⟨hasc, hmem⟩ := keysL_is (l := P.map (·.acct))
 unfold sumsL
 rw [sumI_map]
 have e1 : sumI (keysL (P.map (·.acct))) (fun t => if h t = true then ofS P t else 0) = sumI (keysL (P.map (·.acct))) (fun t => sumI P (fun y => if y.acct = t then (if h y.acct = true then y.amt else 0) else 0)) := by
  refine sumI_congr fun t _ => ?_
  unfold ofS
  by_cases ht : h t = true
  ·rw [if_pos ht]
   refine sumI_congr fun y _ => ?_
   by_cases hy : y.acct = t
   ·rw [if_pos hy, if_pos hy, hy, if_pos ht]
   ·rw [if_neg hy, if_neg hy]
  ·rw [if_neg ht, sumI_zero]
   intro y _
   by_cases hy : y.acct = t
   ·rw [if_pos hy, hy, if_neg ht]
   ·rw [if_neg hy]
 rw [show (fun x : Int => if h x = true then ofS P x else 0) = fun t => if h t = true then ofS P t else 0 from rfl, e1, sumI_swap]
 refine sumI_congr fun y hy => ?_
 exact sum_one hasc.nodup ((hmem _).2 (List.mem_map.2 ⟨y, hy, rfl⟩))
theorem pick0_sum {l : List Bal} {h : Int → Bool} : sumI (pick0 l) (fun x => if h x.acct = true then x.amt else 0) = sumI l (fun x => if h x.acct = true then x.amt else 0) := by
 unfold pick0
 rw [sumI_filter]
 refine sumI_congr fun y _ => ?_
 by_cases hy : y.amt = 0
 ·rw [if_neg (by simp [hy])]; split <;> simp [hy]
 ·rw [if_pos (by simp [hy])]
def kinOf (L : List Acc) (k : Int) (c : Int) : Bool := decide (k = 0) || ((fnd L c).isSome && decide ((fndA L c).kind = k))
def kinS (L : List Acc) (b : List Bal) (k : Int) : Int := sumI b (fun x => if kinOf L k x.acct = true then x.amt else 0)
theorem kinS_take {L : List Acc} {b : List Bal} {k : Int} {i : Nat} (hi : i < b.length) : kinS L (b.take (i + 1)) k = kinS L (b.take i) k + if kinOf L k (b.getD i bal0).acct = true then (b.getD i bal0).amt else 0 := by
 unfold kinS
 rw [take_succ_getD (d := bal0) hi, sumI_app, sumI_cons, sumI_nil]; omega
theorem kinS_bound {L : List Acc} {k : Int} : ∀ {b : List Bal}, (∀ x ∈ b, amtB x.amt = true) → -(b.length * 1000000000000 : Int) ≤ kinS L b k ∧ kinS L b k ≤ b.length * 1000000000000
 | [], _ => by simp [kinS, sumI]
 | x :: l, h => by
  have ih := kinS_bound (L := L) (k := k) (b := l) (fun y hy => h y (List.mem_cons_of_mem _ hy))
  have hx := amtB_is.1 (h x (List.mem_cons_self ..))
  unfold kinS at ih ⊢
  rw [sumI_cons, List.length_cons]
  split <;> omega
theorem atO_mem {K : List Lnk} {code day : Int} {l : Lnk} (h : atO K code day = some l) : l ∈ K ∧ l.frm = code ∧ l.since ≤ day := by
 have key : ∀ (K : List Lnk) (o : Option Lnk), K.foldl (atStep code day) o = some l → (l ∈ K ∧ l.frm = code ∧ l.since ≤ day) ∨ o = some l := by
  intro K
  induction K with
  | nil => intro o h; exact .inr h
  | cons x K ih =>
   intro o h
   rw [List.foldl_cons] at h
   rcases ih _ h with ⟨h1, h2⟩ | h1
   ·exact .inl ⟨List.mem_cons_of_mem _ h1, h2⟩
   ·unfold atStep at h1
    split at h1
    ·rename_i hh
     cases h1
     unfold atHit at hh
     simp only [Bool.and_eq_true, decide_eq_true_eq] at hh
     exact .inl ⟨List.mem_cons_self .., hh.1, hh.2.1⟩
    ·exact .inr h1
 rcases key K none h with h | h
 ·exact h
 ·cases h
theorem atE_zero {L : List Acc} {K : List Lnk} {code day : Int} (h : atE L K code day = 0) : ∃ a l, fnd L code = some a ∧ atO K code day = some l ∧ atV L K code day = l.tgt := by
 unfold atE at h
 unfold atV
 split at h
 ·rename_i hv
  split at h
  ·rename_i hs
   obtain ⟨a, ha⟩ := Option.isSome_iff_exists.1 hs
   split at h
   ·cases h
   ·rename_i l hl
    exact ⟨a, l, ha, hl, by rw [if_pos hv, if_pos hs]⟩
  ·cases h
 ·cases h
structure Mapped (L : List Acc) (K : List Lnk) (c : List Acc) : Prop where
 chart : vB c true = true
 own : vB L false = true
 few : K.length ≤ 400
 lnk : ∀ l ∈ K, lnkB L c l = true
 dst : K.Pairwise fun x y => ¬ (x.frm = y.frm ∧ x.since = y.since)
theorem mvB_is {L : List Acc} {K : List Lnk} {c : List Acc} : mvB L K c = true ↔ Mapped L K c := by
 unfold mvB
 simp only [Bool.and_eq_true, decide_eq_true_eq]
 constructor
 ·rintro ⟨h1, h2, h3, h4, h5⟩
  refine ⟨h1, h2, h3, fun l hl => ?_, ?_⟩
  ·obtain ⟨i, hi, rfl⟩ := mem_getD_acc (d := lnk0) hl
   exact allTo_is.1 h4 i hi
  ·rw [List.pairwise_iff_getElem]
   intro i j hi hj hij
   have h6 := allTo_is.1 h5 j hj
   unfold dfB at h6
   have h7 := allTo_is.1 h6 i hij
   unfold smB at h7
   rw [List.getD_eq_getElem?_getD, List.getElem?_eq_getElem hi, List.getD_eq_getElem?_getD, List.getElem?_eq_getElem hj] at h7
   rintro ⟨e1, e2⟩
   simp [e1, e2] at h7
 ·rintro ⟨h1, h2, h3, h4, h5⟩
  refine ⟨h1, h2, h3, allTo_is.2 fun i hi => h4 _ (getD_mem_acc hi), allTo_is.2 fun j hj => ?_⟩
  unfold dfB
  refine allTo_is.2 fun i hij => ?_
  have h6 := (List.pairwise_iff_getElem.1 h5) i j (by omega) hj hij
  unfold smB
  rw [List.getD_eq_getElem?_getD, List.getElem?_eq_getElem (by omega : i < K.length), List.getD_eq_getElem?_getD, List.getElem?_eq_getElem hj]
  rcases Decidable.not_and_iff_or_not.1 h6 with e | e
  ·simp [e]
  ·simp [e]
theorem lnkB_is {L c : List Acc} {l : Lnk} (h : lnkB L c l = true) : ∃ a b, fnd L l.frm = some a ∧ fnd c l.tgt = some b ∧ a.kind = b.kind := by
 unfold lnkB at h
 simp only [Bool.and_eq_true, decide_eq_true_eq] at h
 obtain ⟨h1, h2, h3, -⟩ := h
 obtain ⟨a, ha⟩ := Option.isSome_iff_exists.1 h1
 obtain ⟨b, hb⟩ := Option.isSome_iff_exists.1 h2
 refine ⟨a, b, ha, hb, ?_⟩
 unfold fndA at h3
 rw [ha, hb] at h3
 exact h3
theorem kin_moves {L : List Acc} {K : List Lnk} {c : List Acc} (h : Mapped L K c) {code day k : Int} (he : atE L K code day = 0) : kinOf c k (atV L K code day) = kinOf L k code := by
 obtain ⟨a, l, ha, hl, hv⟩ := atE_zero he
 obtain ⟨hm, hf, -⟩ := atO_mem hl
 obtain ⟨a', b, ha', hb, hk⟩ := lnkB_is (h.lnk l hm)
 rw [hf, ha] at ha'
 cases ha'
 unfold kinOf fndA
 rw [hv, hb, ha]
 show (decide (k = 0) || (true && decide (b.kind = k))) = (decide (k = 0) || (true && decide (a.kind = k)))
 rw [hk]
theorem moves_sum {L : List Acc} {K : List Lnk} {c : List Acc} {day : Int} {b : List Bal} (h : Mapped L K c) (he : moveE L K day b = 0) (k : Int) : kinS c (moveL L K day b) k = kinS L b k := by
 rw [moveL_ok he]
 have hf : feE L K day b = 0 := by
  unfold moveE at he
  split at he
  ·split at he
   ·assumption
   ·exact he
  ·cases he
 have h2 := feE_zero_iff hf
 unfold kinS
 rw [pick0_sum (h := kinOf c k), sumsL_sum (h := kinOf c k)]
 unfold tosL
 rw [sumI_map]
 refine sumI_congr fun x hx => ?_
 show (if kinOf c k (atV L K x.acct day) = true then x.amt else 0) = _
 rw [kin_moves h (h2 x hx)]
theorem moveE_amts {L : List Acc} {K : List Lnk} {day : Int} {b : List Bal} (he : moveE L K day b = 0) : (∀ x ∈ b, amtB x.amt = true) ∧ ∀ x ∈ moveL L K day b, amtB x.amt = true := by
 rw [moveL_ok he]
 unfold moveE at he
 split at he
 ·rename_i ha
  split at he
  ·split at he
   ·rename_i hs
    refine ⟨fun x hx => ?_, fun x hx => ?_⟩
    ·obtain ⟨i, hi, rfl⟩ := mem_getD_acc (d := bal0) hx
     have h1 := allTo_is.1 ha i hi
     unfold ascP at h1
     simp only [Bool.and_eq_true] at h1
     exact h1.2
    ·unfold pick0 at hx
     exact List.all_eq_true.1 hs x (List.mem_filter.1 hx).1
   ·cases he
  ·rename_i h; exact absurd he h
 ·cases he
theorem fltL_same {K : List Lnk} {code d1 d2 : Int} (h : ∀ l ∈ K, decide (l.since ≤ d1) = decide (l.since ≤ d2)) : fltL code d1 K = fltL code d2 K := by
 unfold fltL
 refine List.filter_congr fun l hl => ?_
 rw [h l hl]
theorem atO_same {K M : List Lnk} {code d1 d2 : Int} (h : fltL code d1 K = fltL code d2 M) : atO K code d1 = atO M code d2 := by rw [atO_flt, atO_flt, h]
theorem at_same {L : List Acc} {K M : List Lnk} {code d1 d2 : Int} (h : atO K code d1 = atO M code d2) (hd : vdB d1 = vdB d2) : atV L K code d1 = atV L M code d2 ∧ atE L K code d1 = atE L M code d2 := by
 unfold atV atE
 rw [h, hd]
 exact ⟨rfl, rfl⟩
theorem fltL_later {K : List Lnk} {code day : Int} {l : Lnk} (h : day < l.since) : fltL code day (K ++ [l]) = fltL code day K := by
 unfold fltL
 rw [List.filter_append, List.filter_cons, decide_eq_false (show ¬ l.since ≤ day by omega), Bool.and_false]
 simp
theorem atE_two {L : List Acc} {K : List Lnk} {code day : Int} (h : atE L K code day ≠ 2) : vdB day = true := by
 unfold atE at h
 cases hv : vdB day
 ·rw [hv] at h; exact absurd rfl h
 ·rfl
theorem mxL_is : ∀ {K : List Lnk}, 0 < K.length → mxL K ∈ K ∧ ∀ x ∈ K, x.since ≤ (mxL K).since
 | [], h => by simp at h
 | a :: K, _ => by
  have key : ∀ (K : List Lnk) (m : Lnk), (K.foldl mxS m = m ∨ K.foldl mxS m ∈ K) ∧ m.since ≤ (K.foldl mxS m).since ∧ ∀ x ∈ K, x.since ≤ (K.foldl mxS m).since := by
   intro K
   induction K with
   | nil => intro m; exact ⟨.inl rfl, Int.le_refl _, fun x hx => by cases hx⟩
   | cons y K ih =>
    intro m
    obtain ⟨h1, h2, h3⟩ := ih (mxS m y)
    rw [List.foldl_cons]
    have h4 : m.since ≤ (mxS m y).since ∧ y.since ≤ (mxS m y).since ∧ (mxS m y = m ∨ mxS m y = y) := by
     unfold mxS
     split
     ·exact ⟨by omega, Int.le_refl _, .inr rfl⟩
     ·exact ⟨Int.le_refl _, by omega, .inl rfl⟩
    refine ⟨?_, by omega, fun x hx => ?_⟩
    ·rcases h1 with h1 | h1
     ·rw [h1]
      rcases h4.2.2 with h5 | h5
      ·exact .inl h5
      ·rw [h5]; exact .inr (List.mem_cons_self ..)
     ·exact .inr (List.mem_cons_of_mem _ h1)
    ·rcases List.mem_cons.1 hx with rfl | hx
     ·omega
     ·exact h3 x hx
  obtain ⟨h1, h2, h3⟩ := key K a
  have e : mxL (a :: K) = K.foldl mxS a := rfl
  rw [e]
  refine ⟨?_, fun x hx => ?_⟩
  ·rcases h1 with h1 | h1
   ·rw [h1]; exact List.mem_cons_self ..
   ·exact List.mem_cons_of_mem _ h1
  ·rcases List.mem_cons.1 hx with rfl | hx
   ·exact h2
   ·exact h3 x hx
theorem pair_eq {K : List Lnk} (h : K.Pairwise fun x y => ¬ (x.frm = y.frm ∧ x.since = y.since)) {x y : Lnk} (hx : x ∈ K) (hy : y ∈ K) (h1 : x.frm = y.frm) (h2 : x.since = y.since) : x = y := by
 obtain ⟨i, hi, rfl⟩ := List.mem_iff_getElem.1 hx
 obtain ⟨j, hj, rfl⟩ := List.mem_iff_getElem.1 hy
 rcases Nat.lt_trichotomy i j with h3 | h3 | h3
 ·exact absurd ⟨h1, h2⟩ ((List.pairwise_iff_getElem.1 h) i j hi hj h3)
 ·subst h3; rfl
 ·exact absurd ⟨h1.symm, h2.symm⟩ ((List.pairwise_iff_getElem.1 h) j i hj hi h3)
theorem atO_reverse {K : List Lnk} (h : K.Pairwise fun x y => ¬ (x.frm = y.frm ∧ x.since = y.since)) {code day : Int} : atO K.reverse code day = atO K code day := by
 rw [atO_flt, atO_flt]
 have e : fltL code day K.reverse = (fltL code day K).reverse := by unfold fltL; rw [List.filter_reverse]
 rw [e, List.length_reverse]
 by_cases h0 : (fltL code day K).length = 0
 ·rw [if_pos h0, if_pos h0]
 ·rw [if_neg h0, if_neg h0]
  obtain ⟨h1, h2⟩ := mxL_is (K := (fltL code day K).reverse) (by rw [List.length_reverse]; omega)
  obtain ⟨h3, h4⟩ := mxL_is (K := fltL code day K) (by omega)
  rw [List.mem_reverse] at h1
  have m1 := List.mem_filter.1 h1
  have m3 := List.mem_filter.1 h3
  simp only [Bool.and_eq_true, decide_eq_true_eq] at m1 m3
  refine congrArg some (pair_eq h m1.1 m3.1 (by rw [m1.2.1, m3.2.1]) ?_)
  have := h2 _ (List.mem_reverse.2 h3)
  have := h4 _ h1
  omega
theorem Mapped.reverse {L : List Acc} {K : List Lnk} {c : List Acc} (h : Mapped L K c) : Mapped L K.reverse c :=
 ⟨h.chart, h.own, by rw [List.length_reverse]; exact h.few, fun l hl => h.lnk l (List.mem_reverse.1 hl), by rw [List.pairwise_reverse]; exact h.dst.imp fun h e => h ⟨e.1.symm, e.2.symm⟩⟩
theorem at_reverse {L : List Acc} {K : List Lnk} {c : List Acc} (h : Mapped L K c) {code day : Int} : atV L K.reverse code day = atV L K code day ∧ atE L K.reverse code day = atE L K code day := at_same (atO_reverse h.dst) rfl
theorem feE_congr {L : List Acc} {K M : List Lnk} {day : Int} (h : ∀ code, atE L M code day = atE L K code day) : ∀ {b : List Bal}, feE L M day b = feE L K day b
 | [] => rfl
 | x :: l => by unfold feE; rw [h, feE_congr h]
theorem move_reverse {L : List Acc} {K : List Lnk} {c : List Acc} (h : Mapped L K c) {day : Int} {b : List Bal} : moveE L K.reverse day b = moveE L K day b ∧ moveL L K.reverse day b = moveL L K day b := by
 have e1 : feE L K.reverse day b = feE L K day b := feE_congr fun code => (at_reverse h).2
 have e2 : tosL L K.reverse day b = tosL L K day b := by
  unfold tosL
  refine List.map_congr_left fun x _ => ?_
  rw [(at_reverse h).1]
 have e3 : moveE L K.reverse day b = moveE L K day b := by unfold moveE; rw [e1, e2]
 exact ⟨e3, by unfold moveL; rw [e3, e2]⟩
theorem fnd_part {L : List Acc} {c : Int} : fnd (L.filter fun a => decide (a.code = c)) c = fnd L c := by
 unfold fnd
 rw [List.find?_filter]
 congr 1
 funext a
 simp
theorem flt_part {K : List Lnk} {c day : Int} : fltL c day (K.filter fun l => decide (l.frm = c)) = fltL c day K := by
 unfold fltL
 rw [List.filter_filter]
 congr 1
 funext l
 by_cases h : l.frm = c <;> simp [h]
theorem at_part {L : List Acc} {K : List Lnk} {c day : Int} : atV (L.filter fun a => decide (a.code = c)) (K.filter fun l => decide (l.frm = c)) c day = atV L K c day ∧ atE (L.filter fun a => decide (a.code = c)) (K.filter fun l => decide (l.frm = c)) c day = atE L K c day := by
 unfold atV atE
 rw [fnd_part, atO_same flt_part]
 exact ⟨rfl, rfl⟩
def WfC (L : List Acc) : Prop := ∀ a ∈ L, (Lit.int .i64 a.code).wf = true
abbrev nilV : Value := .slice none 0 0
abbrev entP (va vb : Value) : Value := .agg #[.string ⟨#[]⟩, .string ⟨#[]⟩, va, vb, .bool false]
def accC (L : List Acc) (c : Int) : List Acc := L.filter fun a => decide (a.code = c)
def lnkC (K : List Lnk) (c : Int) : List Lnk := K.filter fun l => decide (l.frm = c)
theorem accC_same {L : List Acc} {x : Acc} : accC (L ++ [x]) x.code = accC L x.code ++ [x] := by unfold accC; rw [List.filter_append]; simp
theorem accC_other {L : List Acc} {x : Acc} {c : Int} (h : ¬ c = x.code) : accC (L ++ [x]) c = accC L c := by unfold accC; rw [List.filter_append]; simp; omega
theorem lnkC_same {L : List Lnk} {x : Lnk} : lnkC (L ++ [x]) x.frm = lnkC L x.frm ++ [x] := by unfold lnkC; rw [List.filter_append]; simp
theorem lnkC_other {L : List Lnk} {x : Lnk} {c : Int} (h : ¬ c = x.frm) : lnkC (L ++ [x]) c = lnkC L c := by unfold lnkC; rw [List.filter_append]; simp; omega
theorem accC_len {L : List Acc} {c : Int} : (accC L c).length ≤ L.length := List.length_filter_le _ _
theorem lnkC_len {L : List Lnk} {c : Int} : (lnkC L c).length ≤ L.length := List.length_filter_le _ _
theorem nil_block {g : Nat} : nilV.ownBlock = some g → False := fun h => by cases h
structure Fam (w : World) (base : Nat) (GA GB : Int → Value) (L : List Acc) (K : List Lnk) : Prop where
 a : ∀ c, OwnA 50 w base (GA c) (accC L c)
 b : ∀ c, OwnL 46 w base (GB c) (lnkC K c)
 aa : ∀ c c' g, (GA c).ownBlock = some g → (GA c').ownBlock = some g → c = c'
 bb : ∀ c c' g, (GB c).ownBlock = some g → (GB c').ownBlock = some g → c = c'
 ab : ∀ c c' g, (GA c).ownBlock = some g → (GB c').ownBlock = some g → False
section
variable {w wb w2 w4 : World} {base mb : Nat} {GA GB : Int → Value} {L : List Acc} {K : List Lnk} {v : Value}
theorem Fam.none : Fam w base (fun _ => nilV) (fun _ => nilV) [] [] :=
 ⟨fun _ => OwnA.nil, fun _ => OwnL.nil, fun _ _ _ h => (nil_block h).elim, fun _ _ _ h => (nil_block h).elim, fun _ _ _ h => (nil_block h).elim⟩
theorem Fam.up (h : Fam w base GA GB L K) (hb : Below w.heap.size w w2) : Fam w2 base GA GB L K :=
 ⟨fun c => (h.a c).up hb, fun c => (h.b c).up hb, h.aa, h.bb, h.ab⟩
theorem Fam.roundA {x : Acc} (h : Fam w base GA GB L K) (h1 : Below w.heap.size w wb) (hsz : wb.heap.size = w.heap.size + 2) (hg : wb.grownBy w2 (GA x.code).ownBlock)
  (hown : OwnA 50 w2 base v (accC L x.code ++ [x])) (hl : v.ownBlock = (GA x.code).ownBlock ∨ v.ownBlock = some (wb.heap.size + 1))
  (h4 : ∀ g, g < w2.heap.size → g ≠ w.heap.size + 1 → g ≠ mb → w4.heap[g]? = w2.heap[g]?) (hmb : mb < base) : Fam w4 base (fun c => if c = x.code then v else GA c) GB (L ++ [x]) K := by
 have hv : ∀ g, v.ownBlock = some g → ((GA x.code).ownBlock = some g ∧ g < w.heap.size) ∨ g = w.heap.size + 3 := fun g hgv => by
  rcases hl with e | e
  ·rw [hgv] at e; exact .inl ⟨e.symm, ((h.a x.code).lt e.symm).2⟩
  ·rw [hgv] at e; injection e with e; exact .inr (by omega)
 have old : ∀ g, base ≤ g → g < w.heap.size → (GA x.code).ownBlock ≠ some g → w4.heap[g]? = w.heap[g]? := fun g hb hlt hne => by
  rw [h4 g (by have := hg.size; omega) (by omega) (by omega), hg.block g (by omega) (fun e => hne e.symm), h1.block g hlt]
 refine ⟨fun c => ?_, fun c => ?_, fun c c' g => ?_, h.bb, fun c c' g => ?_⟩
 ·by_cases hc : c = x.code
  ·subst hc
   simp only [if_true]
   rw [accC_same]
   refine hown.blk fun g hgv => ?_
   have h6 := hown.lt hgv
   exact h4 g h6.2 (by rcases hv g hgv with h7 | h7 <;> omega) (by omega)
  ·simp only [if_neg hc]
   rw [accC_other hc]
   refine (h.a c).blk fun g hgv => ?_
   have h6 := (h.a c).lt hgv
   exact old g h6.1 h6.2 fun e => hc (h.aa c x.code g hgv e)
 ·refine (h.b c).blk fun g hgv => ?_
  have h6 := (h.b c).lt hgv
  exact old g h6.1 h6.2 fun e => h.ab x.code c g e hgv
 ·by_cases hc : c = x.code
  ·by_cases hc' : c' = x.code
   ·intro _ _; rw [hc, hc']
   ·simp only [if_pos hc, if_neg hc']
    intro e1 e2
    rcases hv g e1 with h7 | h7
    ·exact absurd (h.aa _ _ _ e2 h7.1) hc'
    ·have := (h.a c').lt e2; omega
  ·by_cases hc' : c' = x.code
   ·simp only [if_neg hc, if_pos hc']
    intro e1 e2
    rcases hv g e2 with h7 | h7
    ·exact absurd (h.aa _ _ _ e1 h7.1) hc
    ·have := (h.a c).lt e1; omega
   ·simp only [if_neg hc, if_neg hc']
    exact h.aa c c' g
 ·by_cases hc : c = x.code
  ·simp only [if_pos hc]
   intro e1 e2
   rcases hv g e1 with h7 | h7
   ·exact h.ab _ _ _ h7.1 e2
   ·have := (h.b c').lt e2; omega
  ·simp only [if_neg hc]
   exact h.ab c c' g
theorem Fam.roundB {x : Lnk} (h : Fam w base GA GB L K) (h1 : Below w.heap.size w wb) (hsz : wb.heap.size = w.heap.size + 2) (hg : wb.grownBy w2 (GB x.frm).ownBlock)
  (hown : OwnL 46 w2 base v (lnkC K x.frm ++ [x])) (hl : v.ownBlock = (GB x.frm).ownBlock ∨ v.ownBlock = some (wb.heap.size + 1))
  (h4 : ∀ g, g < w2.heap.size → g ≠ w.heap.size + 1 → g ≠ mb → w4.heap[g]? = w2.heap[g]?) (hmb : mb < base) : Fam w4 base GA (fun c => if c = x.frm then v else GB c) L (K ++ [x]) := by
 have hv : ∀ g, v.ownBlock = some g → ((GB x.frm).ownBlock = some g ∧ g < w.heap.size) ∨ g = w.heap.size + 3 := fun g hgv => by
  rcases hl with e | e
  ·rw [hgv] at e; exact .inl ⟨e.symm, ((h.b x.frm).lt e.symm).2⟩
  ·rw [hgv] at e; injection e with e; exact .inr (by omega)
 have old : ∀ g, base ≤ g → g < w.heap.size → (GB x.frm).ownBlock ≠ some g → w4.heap[g]? = w.heap[g]? := fun g hb hlt hne => by
  rw [h4 g (by have := hg.size; omega) (by omega) (by omega), hg.block g (by omega) (fun e => hne e.symm), h1.block g hlt]
 refine ⟨fun c => ?_, fun c => ?_, h.aa, fun c c' g => ?_, fun c c' g => ?_⟩
 ·refine (h.a c).blk fun g hgv => ?_
  have h6 := (h.a c).lt hgv
  exact old g h6.1 h6.2 fun e => h.ab c x.frm g hgv e
 ·by_cases hc : c = x.frm
  ·subst hc
   simp only [if_true]
   rw [lnkC_same]
   refine hown.blk fun g hgv => ?_
   have h6 := hown.lt hgv
   exact h4 g h6.2 (by rcases hv g hgv with h7 | h7 <;> omega) (by omega)
  ·simp only [if_neg hc]
   rw [lnkC_other hc]
   refine (h.b c).blk fun g hgv => ?_
   have h6 := (h.b c).lt hgv
   exact old g h6.1 h6.2 fun e => hc (h.bb c x.frm g hgv e)
 ·by_cases hc : c = x.frm
  ·by_cases hc' : c' = x.frm
   ·intro _ _; rw [hc, hc']
   ·simp only [if_pos hc, if_neg hc']
    intro e1 e2
    rcases hv g e1 with h7 | h7
    ·exact absurd (h.bb _ _ _ e2 h7.1) hc'
    ·have := (h.b c').lt e2; omega
  ·by_cases hc' : c' = x.frm
   ·simp only [if_neg hc, if_pos hc']
    intro e1 e2
    rcases hv g e2 with h7 | h7
    ·exact absurd (h.bb _ _ _ e1 h7.1) hc
    ·have := (h.b c).lt e1; omega
   ·simp only [if_neg hc, if_neg hc']
    exact h.bb c c' g
 ·by_cases hc : c' = x.frm
  ·simp only [if_pos hc]
   intro e1 e2
   rcases hv g e2 with h7 | h7
   ·exact h.ab _ _ _ e1 h7.1
   ·have := (h.a c).lt e1; omega
  ·simp only [if_neg hc]
   exact h.ab c c' g
end
structure PI (w : World) (mb base n : Nat) (f : Int → Option Value) (GA GB : Int → Value) (L : List Acc) (K : List Lnk) : Prop where
 map : MapV w mb n f
 fam : Fam w base GA GB L K
 val : ∀ c, (f c).getD (entP nilV nilV) = entP (GA c) (GB c)
theorem PI.up {w w2 : World} {mb base n : Nat} {f : Int → Option Value} {GA GB : Int → Value} {L : List Acc} {K : List Lnk} (h : PI w mb base n f GA GB L K) (hb : Below w.heap.size w w2) : PI w2 mb base n f GA GB L K :=
 ⟨h.map.up hb, h.fam.up hb, h.val⟩
theorem ent_zero (w : World) : (zeroValue 25).run Try.prog w = .ok (entP nilV nilV) w := by kernel_rfl
theorem sum_zero (w : World) : (zeroValue 73).run Try.prog w = .ok (.agg #[.int .i64 0, .int .i64 0]) w := by kernel_rfl
structure EF (w : World) (g : Nat) (nm cur : ByteArray) (A : Option Addr) (n c : Nat) (B : Option Addr) (m d : Nat) (jt : Bool) : Prop where
 cells : EB w g nm cur A n c B m d jt
 fz : ∀ i, w.frozen? ⟨g, i, none⟩ = false
theorem ef_new (w : World) (t : TypeId) (nm cur : ByteArray) (A : Option Addr) (n c : Nat) (B : Option Addr) (m d : Nat) (jt : Bool) :
  EF (w.alloc (.cells #[.string nm, .string cur, .slice A n c, .slice B m d, .bool jt] t)) w.heap.size nm cur A n c B m d jt :=
 ⟨eb_new w t nm cur A n c B m d jt, fun i => by simp only [World.frozen?]; rw [heap_alloc_new]; simp⟩
theorem EB.blk {w w' : World} {g : Nat} {nm cur : ByteArray} {A : Option Addr} {n c : Nat} {B : Option Addr} {m d : Nat} {jt : Bool} (h : EB w g nm cur A n c B m d jt) (hk : w'.heap[g]? = w.heap[g]?) : EB w' g nm cur A n c B m d jt := by
 refine ⟨(World.cell?_of_block hk).trans h.c0, (World.cell?_of_block hk).trans h.c1, (World.cell?_of_block hk).trans h.c2, (World.cell?_of_block hk).trans h.c3, (World.cell?_of_block hk).trans h.c4, ?_⟩
 have hlt := h.lt
 rcases Nat.lt_or_ge g w'.heap.size with h1 | h1
 ·exact h1
 ·rw [Array.getElem?_eq_none h1, Array.getElem?_eq_getElem hlt] at hk; cases hk
theorem EF.blk {w w' : World} {g : Nat} {nm cur : ByteArray} {A : Option Addr} {n c : Nat} {B : Option Addr} {m d : Nat} {jt : Bool} (h : EF w g nm cur A n c B m d jt) (hk : w'.heap[g]? = w.heap[g]?) : EF w' g nm cur A n c B m d jt :=
 ⟨h.cells.blk hk, fun i => (World.frozen?_of_block (a := ⟨g, i, none⟩) hk).trans (h.fz i)⟩
theorem LB.blk {w w' : World} {g : Nat} {l : Lnk} (h : LB w g l) (hk : w'.heap[g]? = w.heap[g]?) : LB w' g l := by
 refine ⟨⟨(World.cell?_of_block hk).trans h.cells.c0, (World.cell?_of_block hk).trans h.cells.c1, (World.cell?_of_block hk).trans h.cells.c2⟩, ?_⟩
 have hlt := h.lt
 rcases Nat.lt_or_ge g w'.heap.size with h1 | h1
 ·exact h1
 ·rw [Array.getElem?_eq_none h1, Array.getElem?_eq_getElem hlt] at hk; cases hk
open Go.ChangeShapes Go.WideShapes Go.ChangeAt Go.WideMaps Go.WideElems Go.RowKit Go.Deep Go.Joins
section
variable {H : Type} {enc : TypeId × Value → H} {P : Program} {W : World}
theorem open_wrows {T E I : TypeId} {fs : Array Field} {fuel : Nat} {cs : List Value} {x : DataW H × List MemPlace} (hT : P.underlying T = some (.slice E)) (hE : P.underlying E = some (.struct fs))
  (hone : oneCellFields P fs = true) (hC : P.cellsOf E = fs.size) (hty : (fs.toList.all fun f => f.type == I) = true) (hI : P.underlying I = some (.int .i64)) (hn : 0 < fs.size)
  (hf : DataW.trod enc P W 0 (fun _ => true) true fuel T cs = some x) :
  ∃ A len cap, cs = [.slice A len cap] ∧ len ≤ 9223372036854775807 ∧ ∃ X : Nat → Nat → Int, 0 < len → ∃ b off, A = some ⟨b, off, none⟩ ∧ b < W.heap.size ∧ ∀ k, k < len → ∀ j, j < fs.size → W.cell? ⟨b, off + (k * fs.size + j), none⟩ = some (.int .i64 (X k j)) ∧ (Lit.int .i64 (X k j)).wf = true := by
 rcases open_slice hT hf with ⟨hcs, -⟩ | ⟨a, len, cap, m, n, D, Pl, hcs, -, hl, hm, hmm, -, hx⟩
 ·exact ⟨none, 0, 0, hcs, by omega, fun _ _ => 0, fun h => by omega⟩
 ·simp only [if_true] at hmm
  subst hmm
  unfold maxLen at hm
  have key : ∀ k, k < len → ∀ j, j < fs.size → ∃ z : Int, W.cell? (a.add (k * fs.size + j)) = some (.int .i64 z) ∧ (Lit.int .i64 z).wf = true := by
   intro k hk j hj
   obtain ⟨cs', h1, h2⟩ := hx k (by omega)
   rw [hC] at h1
   obtain ⟨_, hlen, hcell⟩ := World.cells?_some h1
   obtain ⟨xs, n', -, -, -, hxl, hff⟩ := DataW.trod_struct hE h2
   have hfj : fs[j]? = some fs[j] := Array.getElem?_eq_getElem hj
   obtain ⟨ho, hk1⟩ := hone_of hone j _ hfj
   have ht : fs[j].type = I := by
    have := List.all_eq_true.1 hty fs[j] (by simp)
    simpa using this
   have hxj : xs[j]? = some (xs[j]'(by omega)) := List.getElem?_eq_getElem (by omega)
   have h3 := hff j _ hfj
   rw [ho, hk1, ht, hxj] at h3
   obtain ⟨z, hz, -, hw⟩ := DataW.trod_int hI h3
   refine ⟨z, ?_, hw⟩
   have h4 := hcell j hj
   rw [add_add] at h4
   rw [h4]
   have h5 : (cs'.drop j).take 1 = [cs'[j]'(by omega)] := by
    rw [List.drop_eq_getElem_cons (by omega)]; rfl
   rw [h5] at hz
   rw [List.getElem?_eq_getElem (by omega)]
   injection hz with hz
   rw [hz]
  obtain ⟨b, off, spot⟩ := a
  refine ⟨_, len, _, hcs, by omega, fun k j => cellNum (W.cell? (Addr.add ⟨b, off, spot⟩ (k * fs.size + j))), fun h0 => ?_⟩
  obtain ⟨z0, hz0, -⟩ := key 0 h0 0 hn
  have hspot : spot = none := by simpa [Addr.add] using World.cell?_spot hz0
  subst hspot
  have hlt : b < W.heap.size := by
   rcases Nat.lt_or_ge b W.heap.size with hlt | hge
   ·exact hlt
   ·unfold World.cell? at hz0
    rw [show (Addr.add ⟨b, off, none⟩ (0 * fs.size + 0)).block = b from by rw [block_add], Array.getElem?_eq_none hge] at hz0
    simp at hz0
  refine ⟨b, off, rfl, hlt, fun k hk j hj => ?_⟩
  obtain ⟨z, hz, hw⟩ := key k hk j hj
  dsimp only
  rw [hz]
  rw [Go.WideShapes.add_plain] at hz
  exact ⟨hz, hw⟩
theorem open_waccs {T E I : TypeId} {f0 f1 f2 f3 : Field} {fuel : Nat} {cs : List Value} {x : DataW H × List MemPlace} (hT : P.underlying T = some (.slice E)) (hE : P.underlying E = some (.struct #[f0, f1, f2, f3]))
  (hone : oneCellFields P #[f0, f1, f2, f3] = true) (hC : P.cellsOf E = 4) (hty : ([f0, f1, f2, f3].all fun f => f.type == I) = true) (hI : P.underlying I = some (.int .i64))
  (hf : DataW.trod enc P W 0 (fun _ => true) true fuel T cs = some x) :
  ∃ A len cap L, cs = [.slice A len cap] ∧ L.length = len ∧ len ≤ 9223372036854775807 ∧ AccAt W A L ∧ WfC L := by
 obtain ⟨A, len, cap, rfl, hmax, X, hX⟩ := open_wrows hT hE hone hC hty hI (by simp) hf
 have hg : ∀ i, i < len → ((List.range len).map fun k => (⟨X k 0, X k 1, X k 2, X k 3⟩ : Acc)).getD i acc0 = ⟨X i 0, X i 1, X i 2, X i 3⟩ := fun i hi2 => by
  rw [List.getD_eq_getElem?_getD, List.getElem?_map, List.getElem?_range hi2]; rfl
 refine ⟨A, len, cap, (List.range len).map fun k => ⟨X k 0, X k 1, X k 2, X k 3⟩, rfl, by simp, hmax, fun h0 => ?_, fun a ha => ?_⟩
 ·obtain ⟨b, off, e, hlt, hc⟩ := hX (by simpa using h0)
  refine ⟨b, off, e, hlt, fun i hi => ?_⟩
  have hi2 : i < len := by simpa using hi
  rw [hg i hi2]
  exact ⟨(hc i hi2 0 (by simp)).1, (hc i hi2 1 (by simp)).1, (hc i hi2 2 (by simp)).1, (hc i hi2 3 (by simp)).1⟩
 ·obtain ⟨k, hk, rfl⟩ := List.mem_map.1 ha
  have hk2 : k < len := by simpa using hk
  obtain ⟨b, off, e, hlt, hc⟩ := hX (by omega)
  exact (hc k hk2 0 (by simp)).2
theorem open_wlnks {T E I : TypeId} {f0 f1 f2 : Field} {fuel : Nat} {cs : List Value} {x : DataW H × List MemPlace} (hT : P.underlying T = some (.slice E)) (hE : P.underlying E = some (.struct #[f0, f1, f2]))
  (hone : oneCellFields P #[f0, f1, f2] = true) (hC : P.cellsOf E = 3) (hty : ([f0, f1, f2].all fun f => f.type == I) = true) (hI : P.underlying I = some (.int .i64))
  (hf : DataW.trod enc P W 0 (fun _ => true) true fuel T cs = some x) :
  ∃ A len cap K, cs = [.slice A len cap] ∧ K.length = len ∧ len ≤ 9223372036854775807 ∧ LnkAt W A K ∧ ∀ l ∈ K, WfL l := by
 obtain ⟨A, len, cap, rfl, hmax, X, hX⟩ := open_wrows hT hE hone hC hty hI (by simp) hf
 have hg : ∀ i, i < len → ((List.range len).map fun k => (⟨X k 0, X k 1, X k 2⟩ : Lnk)).getD i lnk0 = ⟨X i 0, X i 1, X i 2⟩ := fun i hi2 => by
  rw [List.getD_eq_getElem?_getD, List.getElem?_map, List.getElem?_range hi2]; rfl
 refine ⟨A, len, cap, (List.range len).map fun k => ⟨X k 0, X k 1, X k 2⟩, rfl, by simp, hmax, fun h0 => ?_, fun a ha => ?_⟩
 ·obtain ⟨b, off, e, hlt, hc⟩ := hX (by simpa using h0)
  refine ⟨b, off, e, hlt, fun i hi => ?_⟩
  have hi2 : i < len := by simpa using hi
  rw [hg i hi2]
  exact ⟨(hc i hi2 0 (by simp)).1, (hc i hi2 1 (by simp)).1, (hc i hi2 2 (by simp)).1⟩
 ·obtain ⟨k, hk, rfl⟩ := List.mem_map.1 ha
  have hk2 : k < len := by simpa using hk
  obtain ⟨b, off, e, hlt, hc⟩ := hX (by omega)
  exact ⟨(hc k hk2 0 (by simp)).2, (hc k hk2 1 (by simp)).2, (hc k hk2 2 (by simp)).2⟩
theorem open_wbals {T E I : TypeId} {f0 f1 : Field} {fuel : Nat} {cs : List Value} {x : DataW H × List MemPlace} (hT : P.underlying T = some (.slice E)) (hE : P.underlying E = some (.struct #[f0, f1]))
  (hone : oneCellFields P #[f0, f1] = true) (hC : P.cellsOf E = 2) (hty : ([f0, f1].all fun f => f.type == I) = true) (hI : P.underlying I = some (.int .i64))
  (hf : DataW.trod enc P W 0 (fun _ => true) true fuel T cs = some x) :
  ∃ A len cap b, cs = [.slice A len cap] ∧ b.length = len ∧ len ≤ 9223372036854775807 ∧ BalAt W A b ∧ ∀ y ∈ b, (Lit.int .i64 y.acct).wf = true := by
 obtain ⟨A, len, cap, rfl, hmax, X, hX⟩ := open_wrows hT hE hone hC hty hI (by simp) hf
 have hg : ∀ i, i < len → ((List.range len).map fun k => (⟨X k 0, X k 1⟩ : Bal)).getD i bal0 = ⟨X i 0, X i 1⟩ := fun i hi2 => by
  rw [List.getD_eq_getElem?_getD, List.getElem?_map, List.getElem?_range hi2]; rfl
 refine ⟨A, len, cap, (List.range len).map fun k => ⟨X k 0, X k 1⟩, rfl, by simp, hmax, fun h0 => ?_, fun a ha => ?_⟩
 ·obtain ⟨b, off, e, hlt, hc⟩ := hX (by simpa using h0)
  refine ⟨b, off, e, hlt, fun i hi => ?_⟩
  have hi2 : i < len := by simpa using hi
  rw [hg i hi2]
  exact ⟨(hc i hi2 0 (by simp)).1, (hc i hi2 1 (by simp)).1⟩
 ·obtain ⟨k, hk, rfl⟩ := List.mem_map.1 ha
  have hk2 : k < len := by simpa using hk
  obtain ⟨b, off, e, hlt, hc⟩ := hX (by omega)
  exact (hc k hk2 0 (by simp)).2
structure EntK (W : World) (A : Option Addr) (n : Nat) (L : List Acc) (B : Option Addr) (m : Nat) (K : List Lnk) : Prop where
 ln : L.length = n
 lm : K.length = m
 hz : AccAt W A L
 hy : LnkAt W B K
 wa : WfC L
 wl : ∀ l ∈ K, WfL l
end
theorem cells5 {cs : List Value} (h : cs.length = 5) : ∃ c0 c1 c2 c3 c4, cs = [c0, c1, c2, c3, c4] := by
 match cs, h with
 | [c0, c1, c2, c3, c4], _ => exact ⟨c0, c1, c2, c3, c4, rfl⟩
theorem cells7 {cs : List Value} (h : cs.length = 7) : ∃ c0 c1 c2 c3 c4 c5 c6, cs = [c0, c1, c2, c3, c4, c5, c6] := by
 match cs, h with
 | [c0, c1, c2, c3, c4, c5, c6], _ => exact ⟨c0, c1, c2, c3, c4, c5, c6, rfl⟩
section
variable {H : Type} {enc : TypeId × Value → H} {W : World}
set_option maxRecDepth 100000 in
theorem open_entC {fuel : Nat} {cs : List Value} {x : DataW H × List MemPlace} (hf : DataW.trod enc Try.prog W 0 (fun _ => true) true fuel 25 cs = some x) :
  ∃ nm cur A n c L B m d K jt, cs = [.string nm, .string cur, .slice A n c, .slice B m d, .bool jt] ∧ EntK W A n L B m K := by
 obtain ⟨xs, n', -, -, hlen, hxl, hff⟩ := DataW.trod_struct Try.underlying25 hf
 have hC : Try.prog.cellsOf 25 = 5 := by kernel_rfl
 rw [hC] at hlen
 obtain ⟨c0, c1, c2, c3, c4, rfl⟩ := cells5 hlen
 have k9 : Try.prog.cellsOf 9 = 1 := by kernel_rfl
 have k22 : Try.prog.cellsOf 22 = 1 := by kernel_rfl
 have k23 : Try.prog.cellsOf 23 = 1 := by kernel_rfl
 have k4 : Try.prog.cellsOf 4 = 1 := by kernel_rfl
 have hxl' : xs.length = 5 := hxl
 have hget : ∀ i, i < 5 → ∃ y, xs[i]? = some y := fun i hi => ⟨_, List.getElem?_eq_getElem (by omega)⟩
 have h0 : DataW.trod enc Try.prog W 0 (fun _ => true) true n' 9 (([c0, c1, c2, c3, c4].drop 0).take (Try.prog.cellsOf 9)) = xs[0]? := hff 0 _ rfl
 have h1 : DataW.trod enc Try.prog W 0 (fun _ => true) true n' 9 (([c0, c1, c2, c3, c4].drop 1).take (Try.prog.cellsOf 9)) = xs[1]? := hff 1 _ rfl
 have h2 : DataW.trod enc Try.prog W 0 (fun _ => true) true n' 22 (([c0, c1, c2, c3, c4].drop 2).take (Try.prog.cellsOf 22)) = xs[2]? := hff 2 _ rfl
 have h3 : DataW.trod enc Try.prog W 0 (fun _ => true) true n' 23 (([c0, c1, c2, c3, c4].drop 3).take (Try.prog.cellsOf 23)) = xs[3]? := hff 3 _ rfl
 have h4 : DataW.trod enc Try.prog W 0 (fun _ => true) true n' 4 (([c0, c1, c2, c3, c4].drop 4).take (Try.prog.cellsOf 4)) = xs[4]? := hff 4 _ rfl
 obtain ⟨y0, e0⟩ := hget 0 (by omega)
 obtain ⟨y1, e1⟩ := hget 1 (by omega)
 obtain ⟨y2, e2⟩ := hget 2 (by omega)
 obtain ⟨y3, e3⟩ := hget 3 (by omega)
 obtain ⟨y4, e4⟩ := hget 4 (by omega)
 rw [e0] at h0
 rw [e1] at h1
 rw [e2] at h2
 rw [e3] at h3
 rw [e4] at h4
 rw [k9] at h0 h1
 rw [k22] at h2
 rw [k23] at h3
 rw [k4] at h4
 obtain ⟨nm, q0, -⟩ := DataW.trod_string Try.underlying9 h0
 obtain ⟨cur, q1, -⟩ := DataW.trod_string Try.underlying9 h1
 obtain ⟨A, n, c, L, q2, ln, -, hz, wa⟩ := open_waccs Try.underlying22 Try.underlying50 (by kernel_rfl) (by kernel_rfl) (by kernel_rfl) Try.underlying3 h2
 obtain ⟨B, m, d, K, q3, lm, -, hy, wl⟩ := open_wlnks Try.underlying23 Try.underlying46 (by kernel_rfl) (by kernel_rfl) (by kernel_rfl) Try.underlying3 h3
 obtain ⟨jt, q4, -⟩ := DataW.trod_bool Try.underlying4 h4
 simp at q0 q1 q2 q3 q4
 subst q0 q1 q2 q3 q4
 exact ⟨nm, cur, A, n, c, L, B, m, d, K, jt, rfl, ln, lm, hz, hy, wa, wl⟩
set_option maxRecDepth 100000 in
theorem open_ient {b0 : Nat} {v : Value} {d : DataW H} {p : List MemPlace} (hval : Value.okWide Try.prog W .any b0 25 v) (h : DataW.Trod enc Try.prog W 0 (fun _ => true) true 25 v d p) :
  ∃ nm cur A n c L B m d K jt, v = entV nm cur A n c B m d jt ∧ EntK W A n L B m K := by
 obtain ⟨cs, rfl, hsz⟩ := okWide_struct Try.underlying25 hval
 obtain ⟨fuel, hf⟩ := h
 obtain ⟨nm, cur, A, n, c, L, B, m, d, K, jt, hcs, hk⟩ := open_entC hf
 refine ⟨nm, cur, A, n, c, L, B, m, d, K, jt, ?_, hk⟩
 have h2 : cs.toList = [.string nm, .string cur, .slice A n c, .slice B m d, .bool jt] := by simpa [Value.cells] using hcs
 rw [entV, ← Array.toArray_toList (xs := cs), h2]
abbrev caseV (nm cur : ByteArray) (A : Option Addr) (n c : Nat) (B : Option Addr) (m d : Nat) (jt : Bool) (code day : Int) : Value := .agg #[.string nm, .string cur, .slice A n c, .slice B m d, .bool jt, .int .i64 code, .int .i64 day]
set_option maxRecDepth 100000 in
theorem open_icase {b0 : Nat} {v : Value} {d : DataW H} {p : List MemPlace} (hval : Value.okWide Try.prog W .any b0 44 v) (h : DataW.Trod enc Try.prog W 0 (fun _ => true) true 44 v d p) :
  ∃ nm cur A n c L B m d K jt code day, v = caseV nm cur A n c B m d jt code day ∧ EntK W A n L B m K := by
 obtain ⟨cs, rfl, hsz⟩ := okWide_struct Try.underlying44 hval
 obtain ⟨fuel, hf⟩ := h
 have hcs : (Value.agg cs).cells.toList = cs.toList := by simp [Value.cells]
 rw [hcs] at hf
 obtain ⟨xs, n', -, -, hlen, hxl, hff⟩ := DataW.trod_struct Try.underlying44 hf
 have hC : Try.prog.cellsOf 44 = 7 := by kernel_rfl
 rw [hC] at hlen
 obtain ⟨c0, c1, c2, c3, c4, c5, c6, e7⟩ := cells7 hlen
 have k25 : Try.prog.cellsOf 25 = 5 := by kernel_rfl
 have k3 : Try.prog.cellsOf 3 = 1 := by kernel_rfl
 have hxl' : xs.length = 3 := hxl
 have hget : ∀ i, i < 3 → ∃ y, xs[i]? = some y := fun i hi => ⟨_, List.getElem?_eq_getElem (by omega)⟩
 have h0 : DataW.trod enc Try.prog W 0 (fun _ => true) true n' 25 ((cs.toList.drop 0).take (Try.prog.cellsOf 25)) = xs[0]? := hff 0 _ rfl
 have h1 : DataW.trod enc Try.prog W 0 (fun _ => true) true n' 3 ((cs.toList.drop 5).take (Try.prog.cellsOf 3)) = xs[1]? := hff 1 _ rfl
 have h2 : DataW.trod enc Try.prog W 0 (fun _ => true) true n' 3 ((cs.toList.drop 6).take (Try.prog.cellsOf 3)) = xs[2]? := hff 2 _ rfl
 obtain ⟨y0, e0⟩ := hget 0 (by omega)
 obtain ⟨y1, e1⟩ := hget 1 (by omega)
 obtain ⟨y2, e2⟩ := hget 2 (by omega)
 rw [e0, e7] at h0
 rw [e1, e7] at h1
 rw [e2, e7] at h2
 rw [k25] at h0
 rw [k3] at h1 h2
 obtain ⟨nm, cur, A, n, c, L, B, m, d, K, jt, q0, hk⟩ := open_entC h0
 obtain ⟨code, q1, -⟩ := DataW.trod_int Try.underlying3 h1
 obtain ⟨day, q2, -⟩ := DataW.trod_int Try.underlying3 h2
 simp at q0 q1 q2
 obtain ⟨rfl, rfl, rfl, rfl, rfl⟩ := q0
 subst q1 q2
 exact ⟨nm, cur, A, n, c, L, B, m, d, K, jt, code, day, by rw [caseV, ← Array.toArray_toList (xs := cs), e7], hk⟩
set_option maxRecDepth 100000 in
theorem open_ilnk {b0 : Nat} {v : Value} {d : DataW H} {p : List MemPlace} (hval : Value.okWide Try.prog W .any b0 46 v) (h : DataW.Trod enc Try.prog W 0 (fun _ => true) true 46 v d p) :
  ∃ l : Lnk, v = lnkV l ∧ WfL l := by
 obtain ⟨v0, v1, v2, y0, y1, y2, n, rfl, _, _, k0, k1, k2⟩ := open_agg3 Try.underlying46 (by kernel_rfl) (by kernel_rfl) hval h
 obtain ⟨a, e0, _, w0⟩ := DataW.trod_int Try.underlying3 k0
 obtain ⟨b, e1, _, w1⟩ := DataW.trod_int Try.underlying3 k1
 obtain ⟨c, e2, _, w2⟩ := DataW.trod_int Try.underlying3 k2
 simp at e0 e1 e2
 subst e0 e1 e2
 exact ⟨⟨a, b, c⟩, rfl, w0, w1, w2⟩
set_option maxRecDepth 100000 in
theorem open_waccV {b0 : Nat} {v : Value} {d : DataW H} {p : List MemPlace} (hval : Value.okWide Try.prog W .any b0 22 v) (h : DataW.Trod enc Try.prog W 0 (fun _ => true) true 22 v d p) :
  ∃ A len cap L, v = .slice A len cap ∧ L.length = len ∧ AccAt W A L ∧ WfC L := by
 obtain ⟨a0, len0, cap0, rfl⟩ := okWide_slice Try.underlying22 hval
 obtain ⟨fuel, hf⟩ := h
 obtain ⟨A, n, c, L, q2, ln, -, hz, wa⟩ := open_waccs Try.underlying22 Try.underlying50 (by kernel_rfl) (by kernel_rfl) (by kernel_rfl) Try.underlying3 hf
 simp [Value.cells] at q2
 obtain ⟨rfl, rfl, rfl⟩ := q2
 exact ⟨_, _, _, L, rfl, ln, hz, wa⟩
set_option maxRecDepth 100000 in
theorem open_wbalV {b0 : Nat} {v : Value} {d : DataW H} {p : List MemPlace} (hval : Value.okWide Try.prog W .any b0 36 v) (h : DataW.Trod enc Try.prog W 0 (fun _ => true) true 36 v d p) :
  ∃ A len cap b, v = .slice A len cap ∧ b.length = len ∧ BalAt W A b ∧ ∀ y ∈ b, (Lit.int .i64 y.acct).wf = true := by
 obtain ⟨a0, len0, cap0, rfl⟩ := okWide_slice Try.underlying36 hval
 obtain ⟨fuel, hf⟩ := h
 obtain ⟨A, n, c, b, q2, ln, -, hz, wb⟩ := open_wbals Try.underlying36 Try.underlying71 (by kernel_rfl) (by kernel_rfl) (by kernel_rfl) Try.underlying3 hf
 simp [Value.cells] at q2
 obtain ⟨rfl, rfl, rfl⟩ := q2
 exact ⟨_, _, _, b, rfl, ln, hz, wb⟩
end
open Go.RowKit
def fewB (nm cur : ByteArray) (n m : Nat) : Bool := decide (n ≤ 60) && (decide (m ≤ 60) && (decide (nm.size ≤ 100) && decide (cur.size ≤ 100)))
set_option maxRecDepth 20000 in
theorem rfew9_any (nm cur : ByteArray) (A : Option Addr) (n c : Nat) (B : Option Addr) (m d : Nat) (jt : Bool) (w : World) :
  Calls Try.prog 10 #[entV nm cur A n c B m d jt] w fun e w' => e = .returned (.bool (fewB nm cur n m)) ∧ Below w.heap.size w w' := by
 have hn := eb_new w 25 nm cur A n c B m d jt
 have hB := below_alloc_new (w := w) (.cells #[.string nm, .string cur, .slice A n c, .slice B m d, .bool jt] 25)
 obtain ⟨c0, c1, c2, c3, c4, lt⟩ := hn
 unfold fewB
 rcases Nat.lt_or_ge 60 n with h1 | h1
 ·have e1 : decide (n ≤ 60) = false := decide_eq_false (by omega)
  have e2 : decide ((n : Int) ≤ 60) = false := decide_eq_false (by omega)
  rw [e1]
  clear h1
  go_enter Try.func10, Try.ntmps10
  go_wp2_with fail
  go_ret
  exact ⟨rfl, hB⟩
 have e1 : decide (n ≤ 60) = true := decide_eq_true h1
 have e2 : decide ((n : Int) ≤ 60) = true := decide_eq_true (by omega)
 rw [e1]
 clear h1
 rcases Nat.lt_or_ge 60 m with h1 | h1
 ·have f1 : decide (m ≤ 60) = false := decide_eq_false (by omega)
  have f2 : decide ((m : Int) ≤ 60) = false := decide_eq_false (by omega)
  rw [f1]
  clear h1
  go_enter Try.func10, Try.ntmps10
  go_wp2_with fail
  go_ret
  exact ⟨rfl, hB⟩
 have f1 : decide (m ≤ 60) = true := decide_eq_true h1
 have f2 : decide ((m : Int) ≤ 60) = true := decide_eq_true (by omega)
 rw [f1]
 clear h1
 rcases Nat.lt_or_ge 100 nm.size with h1 | h1
 ·have g1 : decide (nm.size ≤ 100) = false := decide_eq_false (by omega)
  have g2 : decide ((nm.size : Int) ≤ 100) = false := decide_eq_false (by omega)
  rw [g1]
  clear h1
  go_enter Try.func10, Try.ntmps10
  go_wp2_with fail
  go_ret
  exact ⟨rfl, hB⟩
 have g1 : decide (nm.size ≤ 100) = true := decide_eq_true h1
 have g2 : decide ((nm.size : Int) ≤ 100) = true := decide_eq_true (by omega)
 rw [g1]
 clear h1
 rcases Nat.lt_or_ge 100 cur.size with h1 | h1
 ·have k1 : decide (cur.size ≤ 100) = false := decide_eq_false (by omega)
  have k2 : decide ((cur.size : Int) ≤ 100) = false := decide_eq_false (by omega)
  rw [k1]
  clear h1
  go_enter Try.func10, Try.ntmps10
  go_wp2_with fail
  go_ret
  exact ⟨rfl, hB⟩
 ·have k1 : decide (cur.size ≤ 100) = true := decide_eq_true h1
  have k2 : decide ((cur.size : Int) ≤ 100) = true := decide_eq_true (by omega)
  rw [k1]
  clear h1
  go_enter Try.func10, Try.ntmps10
  go_wp2_with fail
  go_ret
  exact ⟨rfl, hB⟩
def BestAt (links : List Lnk) (o : Option Lnk) (z : Int) : Prop := (o = none ∧ z = -1) ∨ ∃ (l : Lnk) (j : Nat), o = some l ∧ z = (j : Int) ∧ j < links.length ∧ links.getD j lnk0 = l
set_option maxRecDepth 20000 in
set_option maxHeartbeats 3200000 in
theorem rat9_any (nm cur : ByteArray) (A : Option Addr) (c : Nat) (L : List Acc) (B : Option Addr) (d : Nat) (K : List Lnk) (jt : Bool) (code day : Int) (w : World) (hz : AccAt w A L) (hy : LnkAt w B K) (hl : L.length ≤ 1000) (hm : K.length ≤ 1000) :
  Calls Try.prog 14 #[entV nm cur A L.length c B K.length d jt, .int .i64 code, .int .i64 day] w fun e w' => e = .returned (.tuple #[.int .i64 (atV L K code day), .int .i64 (atE L K code day)]) ∧ Below w.heap.size w w' := by
 have hn := eb_new w 25 nm cur A L.length c B K.length d jt
 have hB := below_alloc_new (w := w) (.cells #[.string nm, .string cur, .slice A L.length c, .slice B K.length d, .bool jt] 25)
 have HEB := Lib.hid hn
 have hz2 := hz.up hB
 have hy2 := hy.up hB
 have hf := rfind_any A c L code _ hz2 hl
 have hv := fun w => rvd_any day w
 have hE : atE L K code day = if vdB day = true then if (fnd L code).isSome = true then match atO K code day with
  | none => 15
  | some _ => 0
 else 8 else 2 := rfl
 have hV : atV L K code day = if vdB day = true then if (fnd L code).isSome = true then match atO K code day with
  | none => 0
  | some l => l.tgt
 else 0 else 0 := rfl
 generalize atE L K code day = re at *
 generalize atV L K code day = rv at *
 generalize fndA L code = fa at *
 generalize L.length = n at *
 obtain ⟨m, hm2⟩ : ∃ m, K.length = m := ⟨_, rfl⟩
 rw [hm2] at hm HEB hB hf hy2 hz2 hn ⊢
 have HM := Lib.hid hm2
 obtain ⟨c0, c1, c2, c3, c4, lt⟩ := hn
 clear hm2 hz hy
 cases hq : vdB day
 ·rw [hq] at hv hE hV
  have HE := Lib.hid hE
  have HV := Lib.hid hV
  have HVd := Lib.hid hv
  clear hv hE hV hq hf hy2 hz2
  go_enter Try.func14, Try.ntmps14
  go_wp2_with (go_at_call 27; refine (HVd.out _).mono ?_; rintro e w1 ⟨rfl, rfl⟩)
  go_ret2
  exact ⟨by rw [HE.out, HV.out]; rfl, hB⟩
 rw [hq, if_pos rfl] at hE hV
 rw [hq] at hv
 have HVd := Lib.hid hv
 clear hq hv
 cases hfs : (fnd L code).isSome
 ·rw [hfs] at hf hE hV
  have HE := Lib.hid hE
  have HV := Lib.hid hV
  have HF := Lib.hid hf
  clear hE hV hf hfs hy2 hz2
  go_enter Try.func14, Try.ntmps14
  go_wp2_with (first
   | (go_at_call 27; refine (HVd.out _).mono ?_; rintro e w1 ⟨rfl, rfl⟩)
   | (go_at_call 26; refine HF.out.mono ?_; rintro e w2 ⟨rfl, hb⟩; replace hB := below_new (below_more hB hb) (.cells #[.int .i64 fa.code, .int .i64 fa.kind, .int .i64 fa.basis, .int .i64 fa.par] 50); clear hb))
  go_ret2
  exact ⟨by rw [HE.out, HV.out]; rfl, hB⟩
 rw [hfs, if_pos rfl] at hE hV
 rw [hfs] at hf
 have HE := Lib.hid hE
 have HV := Lib.hid hV
 have HF := Lib.hid hf
 have HY := Lib.hid hy2
 clear hE hV hf hfs hy2 hz2
 go_enter Try.func14, Try.ntmps14
 go_wp2_with (first
  | (go_at_call 27; refine (HVd.out _).mono ?_; rintro e w1 ⟨rfl, rfl⟩)
  | (go_at_call 26; refine HF.out.mono ?_; rintro e w2 ⟨rfl, hb⟩; replace HEB := Lib.hid ((HEB.out.up hb).up (below_alloc_new (.cells #[.int .i64 fa.code, .int .i64 fa.kind, .int .i64 fa.basis, .int .i64 fa.par] 50))); replace HY := Lib.hid ((HY.out.up hb).up (below_alloc_new (.cells #[.int .i64 fa.code, .int .i64 fa.kind, .int .i64 fa.basis, .int .i64 fa.par] 50))); replace hB := below_new (below_more hB hb) (.cells #[.int .i64 fa.code, .int .i64 fa.kind, .int .i64 fa.basis, .int .i64 fa.par] 50); clear hb c0 c1 c2 c3 c4 lt; obtain ⟨c0, c1, c2, c3, c4, lt⟩ := HEB.out))
 obtain ⟨ge, hge⟩ : ∃ ge, w.heap.size = ge := ⟨_, rfl⟩
 rw [hge] at HEB ⊢
 generalize World.alloc w2 _ = W2 at *
 clear c0 c1 c2 c3 c4 lt HF HVd
 go_loopg [10, 11] m (fun kx s10 s11 wr => ∃ (k : Nat) (z : Int), s10 = .int .i64 z ∧ s11 = .int .i64 k ∧ k ≤ m ∧ m - k ≤ kx ∧ Hid (BestAt K (atO (K.take k) code day) z) ∧ Hid (EB wr ge nm cur A n c B m d jt) ∧ Hid (LnkAt wr B K) ∧ Below ge w wr)
 case atStart => exact ⟨0, -1, rfl, rfl, by omega, by omega, Lib.hid (.inl ⟨rfl, rfl⟩), HEB, HY, by rw [← hge]; exact hB⟩
 case round =>
  clear HEB HY hB
  obtain ⟨k, z, rfl, rfl, hk, hkx, HBA, HEB, HY, hB⟩ := hrel
  by_cases hlt : k < m
  ·have hltz : (k : Int) < (m : Int) := by omega
   obtain ⟨b, off, rfl, hbw, hcs⟩ := HY.out (by rw [HM.out]; omega)
   have l3 := hcs k (by rw [HM.out]; exact hlt)
   have hst := atO_succ (links := K) (code := code) (day := day) (k := k) (by rw [HM.out]; exact hlt)
   obtain ⟨l, hle⟩ : ∃ l, K.getD k lnk0 = l := ⟨_, rfl⟩
   rw [hle] at l3 hst
   have HLE := Lib.hid hle
   have HST := Lib.hid hst
   have HCS := Lib.hid hcs
   have hgs : ge ≤ wr.heap.size := by have := hB.size; omega
   have HB3 : Hid (Below ge w (wr.alloc (.cells #[.int .i64 l.frm, .int .i64 l.tgt, .int .i64 l.since] 46))) := Lib.hid (hB.alloc hgs _)
   have hW := below_alloc_new (w := wr) (.cells #[.int .i64 l.frm, .int .i64 l.tgt, .int .i64 l.since] 46)
   have HE3 := Lib.hid (HEB.out.up hW)
   have HY3 := Lib.hid (HY.out.up hW)
   have HL3 := Lib.hid (lb_new wr 46 l)
   have HCS3 : Hid (∀ i, i < K.length → L3 (wr.alloc (.cells #[.int .i64 l.frm, .int .i64 l.tgt, .int .i64 l.since] 46)) b (off + i * 3) (K.getD i lnk0)) := Lib.hid (fun i hi => (hcs i hi).up hW hbw)
   obtain ⟨⟨v0, v1, v2⟩, vlt⟩ := HL3.out
   simp only [Nat.zero_add] at v1 v2
   obtain ⟨c0, c1, c2, c3, c4, lt⟩ := HE3.out
   obtain ⟨d0, d1, d2⟩ := l3
   have eEB := HEB.out.c3
   clear hcs hle hst hW
   by_cases h1 : l.frm = code
   ·have q1 : (l.frm == code) = true := by simp [h1]
    rcases Int.lt_or_le day l.since with h2 | h2
    ·have q2 : decide (l.since ≤ day) = false := decide_eq_false (by omega)
     have hh : atHit code day (atO (K.take k) code day) l = false := by unfold atHit; rw [q2]; simp
     clear h1 h2
     have HBS : Hid (BestAt K (atO (K.take (k + 1)) code day) z) := Lib.hid (by rw [HST.out]; unfold atStep; rw [hh]; exact HBA.out)
     clear hh
     go_wp2_with fail
     generalize World.alloc wr _ = W7 at *
     go_quiet (fail)
     have hB4 := below_drewN HB3.out nq
     have HE4 : Hid (EB (W7.drewN nq) ge nm cur A n c (some ⟨b, off, none⟩) m d jt) := Lib.hid ⟨HE3.out.c0, HE3.out.c1, HE3.out.c2, HE3.out.c3, HE3.out.c4, HE3.out.lt⟩
     have HY4 : Hid (LnkAt (W7.drewN nq) (some ⟨b, off, none⟩) K) := Lib.hid (HY3.out.up (below_drewN (Below.refl _ _) nq))
     clear v0 v1 v2 vlt c0 c1 c2 c3 c4 lt d0 d1 d2
     generalize World.drewN _ nq = W8 at *
     go_wp2_with fail
     go_roundg (m - (k + 1))
     case measure => omega
     case rel => exact ⟨k + 1, z, rfl, by go_num, by omega, by omega, HBS, HE4, HY4, hB4⟩
    ·have q2 : decide (l.since ≤ day) = true := decide_eq_true h2
     rcases HBA.out with ⟨ho, rfl⟩ | ⟨bl, j, ho, rfl, hjl, hje⟩
     ·have hh : atHit code day (atO (K.take k) code day) l = true := by unfold atHit; rw [ho, q2, decide_eq_true h1]; rfl
      clear h1 h2 ho
      have HBS : Hid (BestAt K (atO (K.take (k + 1)) code day) (k : Int)) := Lib.hid (by rw [HST.out]; unfold atStep; rw [hh]; exact .inr ⟨l, k, rfl, rfl, by rw [HM.out]; exact hlt, HLE.out⟩)
      clear hh
      go_wp2_with fail
      generalize World.alloc wr _ = W7 at *
      go_quiet (fail)
      have hB4 := below_drewN HB3.out nq
      have HE4 : Hid (EB (W7.drewN nq) ge nm cur A n c (some ⟨b, off, none⟩) m d jt) := Lib.hid ⟨HE3.out.c0, HE3.out.c1, HE3.out.c2, HE3.out.c3, HE3.out.c4, HE3.out.lt⟩
      have HY4 : Hid (LnkAt (W7.drewN nq) (some ⟨b, off, none⟩) K) := Lib.hid (HY3.out.up (below_drewN (Below.refl _ _) nq))
      clear v0 v1 v2 vlt c0 c1 c2 c3 c4 lt d0 d1 d2
      generalize World.drewN _ nq = W8 at *
      go_wp2_with fail
      go_roundg (m - (k + 1))
      case measure => omega
      case rel => exact ⟨k + 1, (k : Int), rfl, by go_num, by omega, by omega, HBS, HE4, HY4, hB4⟩
     ·have hjm : j < m := by rw [← HM.out]; exact hjl
      have hjz : (j : Int) < (m : Int) := by omega
      have q3 : decide ((j : Int) < 0) = false := decide_eq_false (by omega)
      obtain ⟨w0, w1, w2⟩ := HCS3.out j hjl
      rw [hje] at w0 w1 w2
      rcases Int.lt_or_le bl.since l.since with h3 | h3
      ·have q4 : decide (bl.since < l.since) = true := decide_eq_true h3
       have hh : atHit code day (atO (K.take k) code day) l = true := by unfold atHit; rw [ho, q2, decide_eq_true h1]; simpa using h3
       clear h1 h2 h3 ho hje hjl
       have HBS : Hid (BestAt K (atO (K.take (k + 1)) code day) (k : Int)) := Lib.hid (by rw [HST.out]; unfold atStep; rw [hh]; exact .inr ⟨l, k, rfl, rfl, by rw [HM.out]; exact hlt, HLE.out⟩)
       clear hh
       go_wp2_with fail
       generalize World.alloc wr _ = W7 at *
       go_quiet (fail)
       have hB4 := below_drewN HB3.out nq
       have HE4 : Hid (EB (W7.drewN nq) ge nm cur A n c (some ⟨b, off, none⟩) m d jt) := Lib.hid ⟨HE3.out.c0, HE3.out.c1, HE3.out.c2, HE3.out.c3, HE3.out.c4, HE3.out.lt⟩
       have HY4 : Hid (LnkAt (W7.drewN nq) (some ⟨b, off, none⟩) K) := Lib.hid (HY3.out.up (below_drewN (Below.refl _ _) nq))
       clear v0 v1 v2 vlt c0 c1 c2 c3 c4 lt d0 d1 d2
       generalize World.drewN _ nq = W8 at *
       go_wp2_with fail
       go_roundg (m - (k + 1))
       case measure => omega
       case rel => exact ⟨k + 1, (k : Int), rfl, by go_num, by omega, by omega, HBS, HE4, HY4, hB4⟩
      ·have q4 : decide (bl.since < l.since) = false := decide_eq_false (by omega)
       have hh : atHit code day (atO (K.take k) code day) l = false := by unfold atHit; rw [ho, q2, decide_eq_true h1]; simp; omega
       clear h1 h2 h3 ho hje hjl
       have HBS : Hid (BestAt K (atO (K.take (k + 1)) code day) (j : Int)) := Lib.hid (by rw [HST.out]; unfold atStep; rw [hh]; exact HBA.out)
       clear hh
       go_wp2_with fail
       generalize World.alloc wr _ = W7 at *
       go_quiet (fail)
       have hB4 := below_drewN HB3.out nq
       have HE4 : Hid (EB (W7.drewN nq) ge nm cur A n c (some ⟨b, off, none⟩) m d jt) := Lib.hid ⟨HE3.out.c0, HE3.out.c1, HE3.out.c2, HE3.out.c3, HE3.out.c4, HE3.out.lt⟩
       have HY4 : Hid (LnkAt (W7.drewN nq) (some ⟨b, off, none⟩) K) := Lib.hid (HY3.out.up (below_drewN (Below.refl _ _) nq))
       clear v0 v1 v2 vlt c0 c1 c2 c3 c4 lt d0 d1 d2
       generalize World.drewN _ nq = W8 at *
       go_wp2_with fail
       go_roundg (m - (k + 1))
       case measure => omega
       case rel => exact ⟨k + 1, (j : Int), rfl, by go_num, by omega, by omega, HBS, HE4, HY4, hB4⟩
   ·have q1 : (l.frm == code) = false := by simp [h1]
    have hh : atHit code day (atO (K.take k) code day) l = false := by unfold atHit; rw [decide_eq_false h1]; rfl
    clear h1
    have HBS : Hid (BestAt K (atO (K.take (k + 1)) code day) z) := Lib.hid (by rw [HST.out]; unfold atStep; rw [hh]; exact HBA.out)
    clear hh
    go_wp2_with fail
    generalize World.alloc wr _ = W7 at *
    go_quiet (fail)
    have hB4 := below_drewN HB3.out nq
    have HE4 : Hid (EB (W7.drewN nq) ge nm cur A n c (some ⟨b, off, none⟩) m d jt) := Lib.hid ⟨HE3.out.c0, HE3.out.c1, HE3.out.c2, HE3.out.c3, HE3.out.c4, HE3.out.lt⟩
    have HY4 : Hid (LnkAt (W7.drewN nq) (some ⟨b, off, none⟩) K) := Lib.hid (HY3.out.up (below_drewN (Below.refl _ _) nq))
    clear v0 v1 v2 vlt c0 c1 c2 c3 c4 lt d0 d1 d2
    generalize World.drewN _ nq = W8 at *
    go_wp2_with fail
    go_roundg (m - (k + 1))
    case measure => omega
    case rel => exact ⟨k + 1, z, rfl, by go_num, by omega, by omega, HBS, HE4, HY4, hB4⟩
  ·obtain rfl : k = m := by omega
   have hltz : ¬ (k : Int) < (k : Int) := by omega
   have hall : atO (K.take k) code day = atO K code day := by rw [List.take_of_length_le (by rw [HM.out]; omega)]
   have hba := HBA.out
   rw [hall] at hba
   obtain ⟨c0, c1, c2, c3, c4, lt⟩ := HEB.out
   rcases hba with ⟨ho, rfl⟩ | ⟨bl, j, ho, rfl, hjl, hje⟩
   ·have h1 := HE.out
    have h2 := HV.out
    rw [ho] at h1 h2
    have E1 := Lib.hid h1
    have E2 := Lib.hid h2
    clear h1 h2 ho hall
    go_wp2_with fail
    go_ret2
    exact ⟨by rw [E1.out, E2.out]; rfl, hB⟩
   ·have h1 := HE.out
    have h2 := HV.out
    rw [ho] at h1 h2
    have E1 := Lib.hid h1
    have E2 : Hid (rv = bl.tgt) := Lib.hid h2
    have q3 : decide ((j : Int) < 0) = false := decide_eq_false (by omega)
    have hjm : j < k := by rw [← HM.out]; exact hjl
    have hjz : (j : Int) < (k : Int) := by omega
    obtain ⟨b, off, rfl, hbw, hcs⟩ := HY.out (by rw [HM.out]; omega)
    obtain ⟨w0, w1, w2⟩ := hcs j hjl
    rw [hje] at w0 w1 w2
    clear h1 h2 ho hall hcs hje hjl
    go_wp2_with fail
    go_ret2
    exact ⟨by rw [E1.out, E2.out]; rfl, hB⟩
end Go.Proofs.Ytmahnpbjjadipaa
namespace Go.Proofs
open Go.Shelf
def Try.keys35_ren : Go.Shelf.Ren := ⟨fun | 7 => 35 | 10 => 52 | n => n, fun | 23 => 61 | 26 => 3 | 3 => 4 | 28 => 64 | 0 => 0 | 27 => 63 | 33 => 56 | 4 => 4 | n => n, fun | n => n⟩
theorem Try.keys35 : Go.Proofs.SlLaysZI.n7 Try.prog Try.keys35_ren := {
 mixed := by kernel_rfl
 f7 := ⟨Try.f35.name, by decide, Try.func35.trans (congrArg some (by kernel_rfl))⟩
 f10 := ⟨Try.f52.name, by decide, Try.func52.trans (congrArg some (by kernel_rfl))⟩
 t0 := Try.underlying0
 a0 := Try.isAgg0
 z0 := Try.sizeOf0
 v0 := Try.zeroValue0
 t4 := Try.underlying4
 a4 := Try.isAgg4
 z4 := Try.sizeOf4
 v4 := Try.zeroValue4
 t23 := Try.underlying61
 a23 := Try.isAgg61
 z23 := Try.sizeOf61
 v23 := Try.zeroValue61
 t26 := Try.underlying3
 a26 := Try.isAgg3
 z26 := Try.sizeOf3
 v26 := Try.zeroValue3
 t27 := Try.underlying63
 a27 := Try.isAgg63
 z27 := Try.sizeOf63
 v27 := Try.zeroValue63
 t28 := Try.underlying64
 a28 := Try.isAgg64
 z28 := Try.sizeOf64
 v28 := Try.zeroValue64
 t33 := Try.underlying56
 a33 := Try.isAgg56
 z33 := Try.sizeOf56
 v33 := Try.zeroValue56 }
def Try.keys54_ren : Go.Shelf.Ren := ⟨fun | 7 => 54 | 10 => 60 | n => n, fun | 23 => 69 | 26 => 3 | 3 => 73 | 28 => 64 | 0 => 0 | 27 => 63 | 33 => 56 | 4 => 4 | n => n, fun | n => n⟩
theorem Try.keys54 : Go.Proofs.SlLaysZI.n7 Try.prog Try.keys54_ren := {
 mixed := by kernel_rfl
 f7 := ⟨Try.f54.name, by decide, Try.func54.trans (congrArg some (by kernel_rfl))⟩
 f10 := ⟨Try.f60.name, by decide, Try.func60.trans (congrArg some (by kernel_rfl))⟩
 t0 := Try.underlying0
 a0 := Try.isAgg0
 z0 := Try.sizeOf0
 v0 := Try.zeroValue0
 t4 := Try.underlying4
 a4 := Try.isAgg4
 z4 := Try.sizeOf4
 v4 := Try.zeroValue4
 t23 := Try.underlying69
 a23 := Try.isAgg69
 z23 := Try.sizeOf69
 v23 := Try.zeroValue69
 t26 := Try.underlying3
 a26 := Try.isAgg3
 z26 := Try.sizeOf3
 v26 := Try.zeroValue3
 t27 := Try.underlying63
 a27 := Try.isAgg63
 z27 := Try.sizeOf63
 v27 := Try.zeroValue63
 t28 := Try.underlying64
 a28 := Try.isAgg64
 z28 := Try.sizeOf64
 v28 := Try.zeroValue64
 t33 := Try.underlying56
 a33 := Try.isAgg56
 z33 := Try.sizeOf56
 v33 := Try.zeroValue56 }
def Try.sorted34_ren : Go.Shelf.Ren := ⟨fun | 6 => 34 | 8 => 50 | 9 => 51 | 11 => 57 | 13 => 59 | 12 => 58 | 23 => 72 | 24 => 73 | 14 => 63 | 15 => 64 | 16 => 65 | 17 => 66 | 18 => 67 | 19 => 68 | 20 => 69 | 21 => 70 | 22 => 71 | 25 => 74 | 26 => 75 | 27 => 76 | 28 => 77 | 29 => 78 | 30 => 49 | 31 => 79 | n => n, fun | 26 => 3 | 28 => 64 | 24 => 33 | 0 => 0 | 3 => 3 | 37 => 92 | 48 => 104 | 50 => 106 | 4 => 4 | 40 => 97 | 39 => 96 | 45 => 85 | 5 => 5 | 9 => 9 | 51 => 107 | 55 => 111 | 57 => 113 | 58 => 114 | 33 => 56 | n => n, fun | n => n⟩
theorem Try.sorted34 : Go.Proofs.SlLaysZI.n6 Try.prog Try.sorted34_ren := {
 mixed := by kernel_rfl
 f6 := ⟨Try.f34.name, by decide, Try.func34.trans (congrArg some (by kernel_rfl))⟩
 f8 := ⟨Try.f50.name, by decide, Try.func50.trans (congrArg some (by kernel_rfl))⟩
 f11 := ⟨Try.f57.name, by decide, Try.func57.trans (congrArg some (by kernel_rfl))⟩
 t0 := Try.underlying0
 a0 := Try.isAgg0
 z0 := Try.sizeOf0
 v0 := Try.zeroValue0
 t24 := Try.underlying33
 a24 := Try.isAgg33
 z24 := Try.sizeOf33
 v24 := Try.zeroValue33
 t26 := Try.underlying3
 a26 := Try.isAgg3
 z26 := Try.sizeOf3
 v26 := Try.zeroValue3
 t28 := Try.underlying64
 a28 := Try.isAgg64
 z28 := Try.sizeOf64
 v28 := Try.zeroValue64
 i26 := by kernel_rfl }
def Try.sort51_ren : Go.Shelf.Ren := ⟨fun | 5 => 51 | 8 => 59 | 7 => 58 | 19 => 72 | 20 => 73 | 10 => 63 | 11 => 64 | 12 => 65 | 13 => 66 | 14 => 67 | 15 => 68 | 16 => 69 | 17 => 70 | 18 => 71 | 30 => 74 | 31 => 75 | 32 => 76 | 33 => 77 | 34 => 78 | 35 => 49 | 40 => 79 | n => n, fun | 23 => 33 | 25 => 3 | 3 => 3 | 32 => 92 | 22 => 33 | 0 => 0 | 44 => 104 | 46 => 106 | 4 => 4 | 36 => 97 | 35 => 96 | 41 => 85 | 5 => 5 | 9 => 9 | 53 => 107 | 57 => 111 | 63 => 113 | 64 => 114 | n => n, fun | n => n⟩
theorem Try.sort51 : Go.Proofs.SlLaysM.n5 Try.prog Try.sort51_ren := {
 mixed := by kernel_rfl
 f5 := ⟨Try.f51.name, by decide, Try.func51.trans (congrArg some (by kernel_rfl))⟩
 f7 := ⟨Try.f58.name, by decide, Try.func58.trans (congrArg some (by kernel_rfl))⟩
 f8 := Try.func59.trans (congrArg some (by kernel_rfl))
 f10 := ⟨Try.f63.name, by decide, Try.func63.trans (congrArg some (by kernel_rfl))⟩
 f11 := ⟨Try.f64.name, by decide, Try.func64.trans (congrArg some (by kernel_rfl))⟩
 f12 := ⟨Try.f65.name, by decide, Try.func65.trans (congrArg some (by kernel_rfl))⟩
 f13 := ⟨Try.f66.name, by decide, Try.func66.trans (congrArg some (by kernel_rfl))⟩
 f14 := ⟨Try.f67.name, by decide, Try.func67.trans (congrArg some (by kernel_rfl))⟩
 f15 := ⟨Try.f68.name, by decide, Try.func68.trans (congrArg some (by kernel_rfl))⟩
 f16 := ⟨Try.f69.name, by decide, Try.func69.trans (congrArg some (by kernel_rfl))⟩
 f17 := ⟨Try.f70.name, by decide, Try.func70.trans (congrArg some (by kernel_rfl))⟩
 f18 := ⟨Try.f71.name, by decide, Try.func71.trans (congrArg some (by kernel_rfl))⟩
 f19 := Try.func72.trans (congrArg some (by kernel_rfl))
 f20 := Try.func73.trans (congrArg some (by kernel_rfl))
 f30 := ⟨Try.f74.name, by decide, Try.func74.trans (congrArg some (by kernel_rfl))⟩
 f31 := Try.func75.trans (congrArg some (by kernel_rfl))
 f32 := Try.func76.trans (congrArg some (by kernel_rfl))
 f33 := ⟨Try.f77.name, by decide, Try.func77.trans (congrArg some (by kernel_rfl))⟩
 f34 := ⟨Try.f78.name, by decide, Try.func78.trans (congrArg some (by kernel_rfl))⟩
 f35 := ⟨Try.f49.name, by decide, Try.func49.trans (congrArg some (by kernel_rfl))⟩
 f40 := ⟨Try.f79.name, by decide, Try.func79.trans (congrArg some (by kernel_rfl))⟩
 t0 := Try.underlying0
 a0 := Try.isAgg0
 z0 := Try.sizeOf0
 v0 := Try.zeroValue0
 t3 := Try.underlying3
 a3 := Try.isAgg3
 z3 := Try.sizeOf3
 v3 := Try.zeroValue3
 t4 := Try.underlying4
 a4 := Try.isAgg4
 z4 := Try.sizeOf4
 v4 := Try.zeroValue4
 t5 := Try.underlying5
 a5 := Try.isAgg5
 z5 := Try.sizeOf5
 v5 := Try.zeroValue5
 t9 := Try.underlying9
 a9 := Try.isAgg9
 z9 := Try.sizeOf9
 v9 := Try.zeroValue9
 t22 := Try.underlying33
 a22 := Try.isAgg33
 z22 := Try.sizeOf33
 v22 := Try.zeroValue33
 t23 := Try.underlying33
 a23 := Try.isAgg33
 z23 := Try.sizeOf33
 v23 := Try.zeroValue33
 t25 := Try.underlying3
 a25 := Try.isAgg3
 z25 := Try.sizeOf3
 v25 := Try.zeroValue3
 t32 := Try.underlying92
 a32 := Try.isAgg92
 z32 := Try.sizeOf92
 v32 := Try.zeroValue92
 t35 := Try.underlying96
 a35 := Try.isAgg96
 z35 := Try.sizeOf96
 v35 := Try.zeroValue96
 t36 := Try.underlying97
 a36 := Try.isAgg97
 z36 := Try.sizeOf97
 v36 := Try.zeroValue97
 t41 := Try.underlying85
 a41 := Try.isAgg85
 z41 := Try.sizeOf85
 v41 := Try.zeroValue85
 t44 := Try.underlying104
 a44 := Try.isAgg104
 z44 := Try.sizeOf104
 v44 := Try.zeroValue104
 t46 := Try.underlying106
 a46 := Try.isAgg106
 z46 := Try.sizeOf106
 v46 := Try.zeroValue106
 t53 := Try.underlying107
 a53 := Try.isAgg107
 z53 := Try.sizeOf107
 v53 := Try.zeroValue107
 t57 := Try.underlying111
 a57 := Try.isAgg111
 z57 := Try.sizeOf111
 v57 := Try.zeroValue111
 t63 := Try.underlying113
 a63 := Try.isAgg113
 z63 := Try.sizeOf113
 v63 := Try.zeroValue113
 t64 := Try.underlying114
 a64 := Try.isAgg114
 z64 := Try.sizeOf114
 v64 := Try.zeroValue114 }
end Go.Proofs
namespace Go.Proofs.Ytmahnpbjjadipaa
open Go.RowKit Go.Maps Go.Sort Go.Shelf
theorem sorts_any (m : Nat) : AnyZI.SortsIn Try.prog Try.sorted34_ren Fence.wide m :=
  ⟨fun blk off cap ss W hH hblk hsz => callsIn_wide.2 (AnyM.slices_Sort_int Try.sort51 blk off cap ss W hH hblk hsz),
   fun p cap W => callsIn_wide.2 (AnyM.slices_Sort_int_none Try.sort51 p cap W)⟩
theorem intKeys_is {w : World} {b n : Nat} {D : DataW Value} (hown : w.ownsMap Try.prog 3 heldE b n D) : (intKeys D).Nodup ∧ ∀ x, x ∈ intKeys D ↔ Maps.has D (.int .i64 x) = true := by
 obtain ⟨es, hD, hpw, _⟩ := hown.entries ti_keyed
 obtain ⟨es', hD', hko⟩ := hown.keysOf
 obtain rfl : es = es' := by rw [hD] at hD'; simpa using hD'
 subst hD
 have hk : ∀ p ∈ es, ∃ x, p.1 = Lit.int .i64 x := fun p hp => by obtain ⟨v, hv⟩ := hko p hp; obtain ⟨x, _, hx, _⟩ := Maps.keyOf_i64 Try.underlying3 hv; exact ⟨x, hx⟩
 refine ⟨?_, fun x => ?_⟩
 ·show (es.map fun p => Go.intOf p.1).Nodup
  refine List.pairwise_map.2 (hpw.imp_of_mem fun {p q} hp' hq' hne e => hne ?_)
  obtain ⟨a, ha⟩ := hk p hp'
  obtain ⟨b, hb⟩ := hk q hq'
  rw [ha, hb] at e ⊢
  exact congrArg _ e
 ·rw [has_eq, List.any_eq_true]
  show x ∈ es.map (fun p => Go.intOf p.1) ↔ _
  rw [List.mem_map]
  constructor
  ·rintro ⟨p, hp', rfl⟩
   obtain ⟨a, ha⟩ := hk p hp'
   exact ⟨p, hp', by rw [ha]; simp [Lit.sameKey, Go.intOf]⟩
  ·rintro ⟨p, hp', hs⟩
   obtain ⟨a, ha⟩ := hk p hp'
   rw [ha] at hs
   exact ⟨p, hp', by rw [ha]; simpa [Lit.sameKey, Go.intOf] using hs⟩
theorem keysb_any (b : Nat) (w : World) : Calls Try.prog 35 #[.map (some b)] w fun e w' => e = .returned (.func (.func 52) #[] #[.pointer (some ⟨w.heap.size, 0, none⟩)]) ∧ w' = w.alloc (.cells #[.map (some b)] 61) :=
 (callsIn_wide (n := 5)).1 (AnyZI.keys_in Try.keys35 Fence.wide 5 trivial rfl (some b) w)
set_option maxHeartbeats 1000000 in
theorem sortedb_any (b n : Nat) (f : Int → Option Value) (w : World) (h : MapV w b n f) (hn : n ≤ 1000000) :
  Calls Try.prog 34 #[.func (.func 52) #[] #[.pointer (some ⟨w.heap.size, 0, none⟩)]] (w.alloc (.cells #[.map (some b)] 61)) fun e w' => ∃ (v : Value) (L : List Int), e = .returned v ∧ SlI w' v L ∧ Asc L ∧ (∀ x, x ∈ L ↔ (f x).isSome = true) ∧ Below w.heap.size w w' := by
 obtain ⟨D, hown, hD⟩ := h
 obtain ⟨hnd, hmem⟩ := intKeys_is hown
 have hbl := hown.lt
 have hsz := hown.size_le
 have hseq : SeqGives Fence.wide 2 Try.prog 52 #[.pointer (some ⟨w.heap.size, 0, none⟩)] encZ (fun ss => ss.Perm (intKeys D)) (Maps.size D) (w.alloc (.cells #[.map (some b)] 61)) :=
  AnyZI.keys_gives (ρ := Try.keys35_ren) { Try.keys35 with } Fence.wide _ trivial rfl (by omega) w.heap.size b n D _ (by simp) (by simp) (by
   obtain ⟨es, clock, hb, Ft, hs, hD⟩ := hown
   exact ⟨es, clock, (Below.heap_alloc _ _ b hbl).trans hb, Ft, hs, hD⟩)
 have cS := AnyZI.sorted_in Try.sorted34 Fence.wide 5 trivial trivial trivial trivial rfl (by omega) (sorts_any _) (enters_of Try.func51 (by kernel_rfl) rfl) 52 #[.pointer (some ⟨w.heap.size, 0, none⟩)] trivial (enters_of Try.func52 (by kernel_rfl) rfl) _ _ (by unfold maxLen; omega) (by omega) _ hseq
 refine ((callsIn_wide (n := 5)).1 cS).mono ?_
 rintro e w' ⟨v, ss, rfl, hp, hrow, _, hb⟩
 have hnd2 : ss.Nodup := hp.nodup_iff.2 hnd
 have hpm := List.mergeSort_perm ss (fun x y => decide (x ≤ y))
 refine ⟨v, ss.mergeSort (fun x y => decide (x ≤ y)), rfl, ?_, sort_asc hnd2, fun x => ?_, ?_⟩
 ·refine OwnI.sli (e := 3) (base := (w.alloc (.cells #[.map (some b)] 61)).heap.size) ?_
  unfold OwnI
  rw [List.length_mergeSort]
  exact hrow
 ·rw [hpm.mem_iff, hp.mem_iff, hmem, (hD x).1]
 ·exact ((Below.refl _ w).alloc (Nat.le_refl _) _).trans (hb.mono (by simp))
theorem keyss_any (b : Nat) (w : World) : Calls Try.prog 54 #[.map (some b)] w fun e w' => e = .returned (.func (.func 60) #[] #[.pointer (some ⟨w.heap.size, 0, none⟩)]) ∧ w' = w.alloc (.cells #[.map (some b)] 69) :=
 (callsIn_wide (n := 5)).1 (AnyZI.keys_in Try.keys54 Fence.wide 5 trivial rfl (some b) w)
set_option maxHeartbeats 1000000 in
theorem sorteds_any (b n : Nat) (f : Int → Option Value) (w : World) (h : MapV w b n f) (hn : n ≤ 1000000) :
  Calls Try.prog 34 #[.func (.func 60) #[] #[.pointer (some ⟨w.heap.size, 0, none⟩)]] (w.alloc (.cells #[.map (some b)] 69)) fun e w' => ∃ (v : Value) (L : List Int), e = .returned v ∧ SlI w' v L ∧ Asc L ∧ (∀ x, x ∈ L ↔ (f x).isSome = true) ∧ Below w.heap.size w w' := by
 obtain ⟨D, hown, hD⟩ := h
 obtain ⟨hnd, hmem⟩ := intKeys_is hown
 have hbl := hown.lt
 have hsz := hown.size_le
 have hseq : SeqGives Fence.wide 2 Try.prog 60 #[.pointer (some ⟨w.heap.size, 0, none⟩)] encZ (fun ss => ss.Perm (intKeys D)) (Maps.size D) (w.alloc (.cells #[.map (some b)] 69)) :=
  AnyZI.keys_gives (ρ := Try.keys54_ren) { Try.keys54 with } Fence.wide _ trivial rfl (by omega) w.heap.size b n D _ (by simp) (by simp) (by
   obtain ⟨es, clock, hb, Ft, hs, hD⟩ := hown
   exact ⟨es, clock, (Below.heap_alloc _ _ b hbl).trans hb, Ft, hs, hD⟩)
 have cS := AnyZI.sorted_in Try.sorted34 Fence.wide 5 trivial trivial trivial trivial rfl (by omega) (sorts_any _) (enters_of Try.func51 (by kernel_rfl) rfl) 60 #[.pointer (some ⟨w.heap.size, 0, none⟩)] trivial (enters_of Try.func60 (by kernel_rfl) rfl) _ _ (by unfold maxLen; omega) (by omega) _ hseq
 refine ((callsIn_wide (n := 5)).1 cS).mono ?_
 rintro e w' ⟨v, ss, rfl, hp, hrow, _, hb⟩
 have hnd2 : ss.Nodup := hp.nodup_iff.2 hnd
 have hpm := List.mergeSort_perm ss (fun x y => decide (x ≤ y))
 refine ⟨v, ss.mergeSort (fun x y => decide (x ≤ y)), rfl, ?_, sort_asc hnd2, fun x => ?_, ?_⟩
 ·refine OwnI.sli (e := 3) (base := (w.alloc (.cells #[.map (some b)] 69)).heap.size) ?_
  unfold OwnI
  rw [List.length_mergeSort]
  exact hrow
 ·rw [hpm.mem_iff, hp.mem_iff, hmem, (hD x).1]
 ·exact ((Below.refl _ w).alloc (Nat.le_refl _) _).trans (hb.mono (by simp))
open Go.RowKit Go.Maps
theorem mvB_no1 {L : List Acc} {K : List Lnk} {c : List Acc} (h : vB c true = false) : mvB L K c = false := by unfold mvB; rw [h]; rfl
theorem mvB_no2 {L : List Acc} {K : List Lnk} {c : List Acc} (h : vB L false = false) : mvB L K c = false := by unfold mvB; rw [h]; simp
theorem mvB_no3 {L : List Acc} {K : List Lnk} {c : List Acc} (h : 400 < K.length) : mvB L K c = false := by unfold mvB; rw [decide_eq_false (show ¬ K.length ≤ 400 by omega)]; simp
theorem mvB_no4 {L : List Acc} {K : List Lnk} {c : List Acc} {k : Nat} (hk : k < K.length) (h : lnkB L c (K.getD k lnk0) = false) : mvB L K c = false := by
 unfold mvB; rw [allTo_no (p := fun i => lnkB L c (K.getD i lnk0)) hk h]; simp
theorem mvB_end {L : List Acc} {K : List Lnk} {c : List Acc} (h1 : vB c true = true) (h2 : vB L false = true) (h3 : K.length ≤ 400) (h4 : allTo (fun i => lnkB L c (K.getD i lnk0)) K.length = true) : mvB L K c = allTo (dfB K) K.length := by
 unfold mvB; rw [h1, h2, decide_eq_true h3, h4]; rfl
set_option maxRecDepth 20000 in
set_option maxHeartbeats 3200000 in
theorem cval9_any (nm cur : ByteArray) (A : Option Addr) (cp : Nat) (L : List Acc) (B : Option Addr) (d : Nat) (K : List Lnk) (jt : Bool) (C : Option Addr) (cc : Nat) (c : List Acc) (w : World) (hz : AccAt w A L) (hy : LnkAt w B K) (hx : AccAt w C c) (hl : L.length ≤ 1000) (hm : K.length ≤ 1000) (hc : c.length ≤ 1000) (hw : ∀ l ∈ K, WfL l) :
  Calls Try.prog 11 #[entV nm cur A L.length cp B K.length d jt, .slice C c.length cc] w fun e w' => e = .returned (.bool (mvB L K c)) ∧ Below w.heap.size w w' := by
 have hn := eb_new w 25 nm cur A L.length cp B K.length d jt
 have hB := below_alloc_new (w := w) (.cells #[.string nm, .string cur, .slice A L.length cp, .slice B K.length d, .bool jt] 25)
 have HEB := Lib.hid hn
 have HZ := Lib.hid (hz.up hB)
 have HY := Lib.hid (hy.up hB)
 have HX := Lib.hid (hx.up hB)
 have h1 := fun w h => cvalid8_any C cc c true w h hc
 have h2 := fun w h => cvalid8_any A cp L false w h hl
 have h3 := fun l w h h' => clnk_any l A C cp cc L c w h h' hl hc
 have h4 := fun w h => cdist_any B d K w h hm hw
 have N1 := mvB_no1 (L := L) (K := K) (c := c)
 have N2 := mvB_no2 (L := L) (K := K) (c := c)
 have N3 := mvB_no3 (L := L) (K := K) (c := c)
 have N4 := fun k => mvB_no4 (L := L) (K := K) (c := c) (k := k)
 have NE := mvB_end (L := L) (K := K) (c := c)
 obtain ⟨r, hr⟩ : ∃ r, mvB L K c = r := ⟨_, rfl⟩
 rw [hr] at N1 N2 N3 NE ⊢
 simp only [hr] at N4
 obtain ⟨P, hP⟩ : ∃ P : Nat → Bool, (fun i => lnkB L c (K.getD i lnk0)) = P := ⟨_, rfl⟩
 have hPk : ∀ k, lnkB L c (K.getD k lnk0) = P k := fun k => by rw [← hP]
 rw [hP] at NE
 simp only [hPk] at N4
 obtain ⟨q, hq⟩ : ∃ q, allTo (dfB K) K.length = q := ⟨_, rfl⟩
 rw [hq] at h4 NE
 obtain ⟨b1, hb1⟩ : ∃ b, vB c true = b := ⟨_, rfl⟩
 rw [hb1] at h1 N1 NE
 obtain ⟨b2, hb2⟩ : ∃ b, vB L false = b := ⟨_, rfl⟩
 rw [hb2] at h2 N2 NE
 obtain ⟨n, hn2⟩ : ∃ n, L.length = n := ⟨_, rfl⟩
 obtain ⟨k0, hk0⟩ : ∃ k0, c.length = k0 := ⟨_, rfl⟩
 obtain ⟨m, hm2⟩ : ∃ m, K.length = m := ⟨_, rfl⟩
 obtain ⟨s0, hs0⟩ : ∃ s0, w.heap.size = s0 := ⟨_, rfl⟩
 rw [hn2, hm2] at HEB HZ HY HX hB
 rw [hn2] at h2 h3
 rw [hk0] at h1 h3
 rw [hm2] at h4 N3 N4 NE hm
 rw [hn2, hm2, hk0]
 have HN1 := Lib.hid N1
 have HN2 := Lib.hid N2
 have HN3 := Lib.hid N3
 have HN4 := Lib.hid N4
 have HNE := Lib.hid NE
 have HP := Lib.hid hPk
 have HM := Lib.hid hm2
 have H1 := Lib.hid h1
 have H2 := Lib.hid h2
 have H3 := Lib.hid h3
 have H4 := Lib.hid h4
 have HS0 := Lib.hid hs0
 have HE0 := HEB
 rw [hs0] at hB HEB
 obtain ⟨c0, c1, c2, c3, c4, lt⟩ := HE0.out
 clear hn hz hy hx h1 h2 h3 h4 N1 N2 N3 N4 NE hr hP hPk hq hb1 hb2 hn2 hk0 hm2 hs0 hw hl hc HE0
 cases b1
 ·have HR := Lib.hid (HN1.out rfl)
  clear HN1 HN2 HN3 HN4 HNE
  go_enter Try.func11, Try.ntmps11
  go_wp2_with (go_at_call 22; first
   | ((with_reducible refine (H1.out _ HX.out).mono ?_); rintro e w1 ⟨rfl, hb⟩; replace hB := hB.trans (hb.mono (by have := hB.size; have := HS0.out; omega)); clear hb))
  go_ret
  exact ⟨by rw [HR.out]; rfl, by rw [HS0.out]; exact hB⟩
 have hv1 : ∀ (w1 : World), Below (w.alloc (.cells #[.string nm, .string cur, .slice A n cp, .slice B m d, .bool jt] 25)).heap.size (w.alloc (.cells #[.string nm, .string cur, .slice A n cp, .slice B m d, .bool jt] 25)) w1 → Hid (EB w1 s0 nm cur A n cp B m d jt) ∧ Hid (AccAt w1 A L) ∧ Hid (LnkAt w1 B K) ∧ Hid (AccAt w1 C c) ∧ Below s0 w w1 := fun w1 hb =>
  ⟨Lib.hid (HEB.out.up hb), Lib.hid (HZ.out.up hb), Lib.hid (HY.out.up hb), Lib.hid (HX.out.up hb), hB.trans (hb.mono (by have := hB.size; have := HS0.out; omega))⟩
 have HV1 := Lib.hid hv1
 clear hv1
 cases b2
 ·have HR := Lib.hid (HN2.out rfl)
  clear HN1 HN2 HN3 HN4 HNE
  go_enter Try.func11, Try.ntmps11
  go_wp2_with (go_at_call 22; first
   | ((with_reducible refine (H1.out _ HX.out).mono ?_); rintro e w1 ⟨rfl, hb⟩; obtain ⟨HEB, HZ, HY, HX, hB⟩ := HV1.out w1 hb; clear hb HV1 c0 c1 c2 c3 c4 lt; obtain ⟨c0, c1, c2, c3, c4, lt⟩ := HEB.out; rw [← HS0.out] at c0 c1 c2 c3 c4 lt)
   | ((with_reducible refine (H2.out _ HZ.out).mono ?_); rintro e w2 ⟨rfl, hb⟩; replace hB := hB.trans (hb.mono (by have := hB.size; have := HS0.out; omega)); clear hb))
  go_ret
  exact ⟨by rw [HR.out]; rfl, by rw [HS0.out]; exact hB⟩
 rcases Nat.lt_or_ge 400 m with hm4 | hm4
 ·have HR := Lib.hid (HN3.out hm4)
  have e4 : decide ((400 : Int) < (m : Int)) = true := decide_eq_true (by omega)
  clear HN1 HN2 HN3 HN4 HNE hm4
  go_enter Try.func11, Try.ntmps11
  go_wp2_with (go_at_call 22; first
   | ((with_reducible refine (H1.out _ HX.out).mono ?_); rintro e w1 ⟨rfl, hb⟩; obtain ⟨HEB, HZ, HY, HX, hB⟩ := HV1.out w1 hb; clear hb HV1 c0 c1 c2 c3 c4 lt; obtain ⟨c0, c1, c2, c3, c4, lt⟩ := HEB.out; rw [← HS0.out] at c0 c1 c2 c3 c4 lt)
   | ((with_reducible refine (H2.out _ HZ.out).mono ?_); rintro e w2 ⟨rfl, hb⟩; replace HEB := Lib.hid (HEB.out.up hb); replace hB := hB.trans (hb.mono (by have := hB.size; have := HS0.out; omega)); clear hb c0 c1 c2 c3 c4 lt; obtain ⟨c0, c1, c2, c3, c4, lt⟩ := HEB.out; rw [← HS0.out] at c0 c1 c2 c3 c4 lt))
  go_ret
  exact ⟨by rw [HR.out]; rfl, by rw [HS0.out]; exact hB⟩
 have e4 : decide ((400 : Int) < (m : Int)) = false := decide_eq_false (by omega)
 have HNE2 := Lib.hid (HNE.out rfl rfl hm4)
 clear HN1 HN2 HN3 HNE hm4
 go_enter Try.func11, Try.ntmps11
 go_wp2_with (go_at_call 22; first
  | ((with_reducible refine (H1.out _ HX.out).mono ?_); rintro e w1 ⟨rfl, hb⟩; obtain ⟨HEB, HZ, HY, HX, hB⟩ := HV1.out w1 hb; clear hb HV1 c0 c1 c2 c3 c4 lt; obtain ⟨c0, c1, c2, c3, c4, lt⟩ := HEB.out; rw [← HS0.out] at c0 c1 c2 c3 c4 lt)
  | ((with_reducible refine (H2.out _ HZ.out).mono ?_); rintro e w2 ⟨rfl, hb⟩; replace HEB := Lib.hid (HEB.out.up hb); replace HZ := Lib.hid (HZ.out.up hb); replace HY := Lib.hid (HY.out.up hb); replace HX := Lib.hid (HX.out.up hb); replace hB := hB.trans (hb.mono (by have := hB.size; have := HS0.out; omega)); clear hb c0 c1 c2 c3 c4 lt; obtain ⟨c0, c1, c2, c3, c4, lt⟩ := HEB.out; rw [← HS0.out] at c0 c1 c2 c3 c4 lt))
 clear c0 c1 c2 c3 c4 lt
 go_loopg [25] m (fun kx s25 wr => ∃ k : Nat, s25 = .int .i64 k ∧ k ≤ m ∧ m - k ≤ kx ∧ Hid (allTo P k = true) ∧ Hid (EB wr s0 nm cur A n cp B m d jt) ∧ Hid (AccAt wr A L) ∧ Hid (LnkAt wr B K) ∧ Hid (AccAt wr C c) ∧ Below s0 w wr)
 case atStart => exact ⟨0, rfl, by omega, by omega, Lib.hid rfl, HEB, HZ, HY, HX, hB⟩
 case round =>
  clear HEB HZ HY HX hB
  clear HEB HZ HY HX hB
  obtain ⟨k, rfl, hk, hkx, HA, HEB, HZ, HY, HX, hB⟩ := hrel
  have hsz : s0 ≤ wr.heap.size := by have := hB.size; have := HS0.out; omega
  by_cases hlt : k < m
  ·have hltz : (k : Int) < (m : Int) := by omega
   obtain ⟨b, off, rfl, hbw, hcs⟩ := HY.out (by rw [HM.out]; omega)
   obtain ⟨d0, d1, d2⟩ := hcs k (by rw [HM.out]; exact hlt)
   have hpk := HP.out k
   obtain ⟨x, hx⟩ : ∃ x, K.getD k lnk0 = x := ⟨_, rfl⟩
   rw [hx] at d0 d1 d2 hpk
   have hno := HN4.out k hlt
   have h3 := H3.out x
   rw [hpk] at h3
   have hW := below_alloc_new (w := wr) (.cells #[.int .i64 x.frm, .int .i64 x.tgt, .int .i64 x.since] 46)
   have HEB1 := Lib.hid (HEB.out.up hW)
   have HZ1 := Lib.hid (HZ.out.up hW)
   have HY1 := Lib.hid (HY.out.up hW)
   have HX1 := Lib.hid (HX.out.up hW)
   have hB1 : Below s0 w (wr.alloc (.cells #[.int .i64 x.frm, .int .i64 x.tgt, .int .i64 x.since] 46)) := hB.alloc hsz _
   have hs1 : s0 ≤ (wr.alloc (.cells #[.int .i64 x.frm, .int .i64 x.tgt, .int .i64 x.since] 46)).heap.size := by simp; omega
   obtain ⟨⟨v0, v1, v2⟩, vlt⟩ := lb_new wr 46 x
   simp only [Nat.zero_add] at v1 v2
   obtain ⟨c0, c1, c2, c3, c4, lt⟩ := HEB1.out
   rw [← HS0.out] at c0 c1 c2 c3 c4 lt
   have HS1 := Lib.hid hs1
   cases hpq : P k
   ·rw [hpq] at h3
    have HR := Lib.hid (hno hpq)
    have H3x := Lib.hid h3
    clear hpk hno h3 hpq hx hcs hW hs1
    go_wp2_with (go_at_call 23; (with_reducible refine (H3x.out _ HZ1.out HX1.out).mono ?_); rintro e w3 ⟨rfl, hb⟩; replace hB := hB1.trans (hb.mono HS1.out); clear hb)
    go_ret
    exact ⟨by rw [HR.out]; rfl, by rw [HS0.out]; exact hB⟩
   ·rw [hpq] at h3
    have HA2 : Hid (allTo P (k + 1) = true) := Lib.hid (by show (allTo P k && P k) = true; rw [HA.out, hpq]; rfl)
    have H3x := Lib.hid h3
    clear hpk hno h3 hpq hx hcs hW hs1
    go_wp2_with (go_at_call 23; (with_reducible refine (H3x.out _ HZ1.out HX1.out).mono ?_); rintro e w3 ⟨rfl, hb⟩; replace hB := hB1.trans (hb.mono HS1.out); replace HEB := Lib.hid (HEB1.out.up hb); replace HZ := Lib.hid (HZ1.out.up hb); replace HY := Lib.hid (HY1.out.up hb); replace HX := Lib.hid (HX1.out.up hb); clear hb)
    go_roundg (m - (k + 1))
    case measure => omega
    case rel => exact ⟨k + 1, by go_num, by omega, by omega, HA2, HEB, HZ, HY, HX, hB⟩
  ·obtain rfl : k = m := by omega
   have hltz : ¬ (k : Int) < (k : Int) := by omega
   have HR := Lib.hid (HNE2.out HA.out)
   obtain ⟨c0, c1, c2, c3, c4, lt⟩ := HEB.out
   rw [← HS0.out] at c0 c1 c2 c3 c4 lt
   go_wp2_with (go_at_call 24; (with_reducible refine (H4.out _ HY.out).mono ?_); rintro e w3 ⟨rfl, hb⟩; replace hB := hB.trans (hb.mono hsz); clear hb)
   go_ret
   exact ⟨by rw [HR.out]; rfl, by rw [HS0.out]; exact hB⟩
set_option maxRecDepth 20000 in
set_option maxHeartbeats 3200000 in
theorem cdates_any (nm cur : ByteArray) (A : Option Addr) (cp n : Nat) (B : Option Addr) (d : Nat) (K : List Lnk) (jt : Bool) (w : World) (hy : LnkAt w B K) (hm : K.length ≤ 1000) (hw : ∀ l ∈ K, WfL l) :
  Calls Try.prog 16 #[entV nm cur A n cp B K.length d jt] w fun e w' => ∃ v, e = .returned v ∧ SlI w' v (datesL K) ∧ Below w.heap.size w w' := by
 have hn := eb_new w 25 nm cur A n cp B K.length d jt
 have hB := below_alloc_new (w := w) (.cells #[.string nm, .string cur, .slice A n cp, .slice B K.length d, .bool jt] 25)
 have hD : ∀ D : List Int, Asc D → (∀ x, x ∈ D ↔ ∃ i, i < K.length ∧ (K.getD i lnk0).since = x) → D = datesL K := by
  intro D h1 h2
  refine keysL_ext h1 fun x => ?_
  rw [h2 x, List.mem_map]
  exact ⟨fun ⟨i, hi, e⟩ => ⟨_, getD_mem_acc hi, e⟩, fun ⟨l, hl, e⟩ => by obtain ⟨i, hi, rfl⟩ := mem_getD_acc (d := lnk0) hl; exact ⟨i, hi, e⟩⟩
 generalize datesL K = DL at *
 have HEB0 := Lib.hid hn
 have HY0 := Lib.hid (hy.up hB)
 have hMM := below_alloc_new (w := w.alloc (.cells #[.string nm, .string cur, .slice A n cp, .slice B K.length d, .bool jt] 25)) (.map #[] 0)
 have HEB := Lib.hid (HEB0.out.up hMM)
 have HY := Lib.hid (HY0.out.up hMM)
 have HM := Lib.hid (MapV.made (w.alloc (.cells #[.string nm, .string cur, .slice A n cp, .slice B K.length d, .bool jt] 25)))
 have hB2 := below_more hB hMM
 have eS : (w.alloc (.cells #[.string nm, .string cur, .slice A n cp, .slice B K.length d, .bool jt] 25)).heap.size = w.heap.size + 1 := by simp
 rw [eS] at HM
 obtain ⟨m, hm2⟩ : ∃ m, K.length = m := ⟨_, rfl⟩
 rw [hm2] at hm HEB HY HM hB2 hD ⊢
 obtain ⟨c0, c1, c2, c3, c4, lt⟩ := HEB.out
 have HMM := Lib.hid hm2
 have HW := Lib.hid hw
 have HD := Lib.hid hD
 have hmm := @run_makeMap Try.prog
 clear hm2 hw hy hn hB hMM eS HEB0 HY0 hD
 go_enter Try.func16, Try.ntmps16
 go_wp2_with fail
 clear c0 c1 c2 c3 c4 lt
 go_loopg [10] m (fun kx s10 wr => ∃ (k j : Nat) (f : Int → Option Value), s10 = .int .i64 k ∧ k ≤ m ∧ m - k ≤ kx ∧ j ≤ k ∧ Hid (∀ x, (f x).isSome = true ↔ ∃ i, i < k ∧ (K.getD i lnk0).since = x) ∧ Hid (MapV wr (w.heap.size + 1) j f) ∧ Hid (LnkAt wr B K) ∧ Below w.heap.size w wr)
 case atStart => exact ⟨0, 0, _, rfl, by omega, by omega, by omega, Lib.hid (fun x => by simp), HM, HY, hB2⟩
 case round =>
  clear HEB HM HY hB2
  obtain ⟨k, j, f, rfl, hk, hkx, hj, HF, HM, HY, hB⟩ := hrel
  have hsz := hB.size
  by_cases hlt : k < m
  ·have hltz : (k : Int) < (m : Int) := by omega
   obtain ⟨b, off, rfl, hbw, hcs⟩ := HY.out (by rw [HMM.out]; omega)
   obtain ⟨d0, d1, d2⟩ := hcs k (by rw [HMM.out]; exact hlt)
   obtain ⟨x, hx⟩ : ∃ x, K.getD k lnk0 = x := ⟨_, rfl⟩
   rw [hx] at d0 d1 d2
   have HWX := Lib.hid (HW.out x (by rw [← hx]; exact getD_mem_acc (by rw [HMM.out]; exact hlt)))
   have HF2 : Hid (∀ y, ((fun z => if z = x.since then some (Value.bool true) else f z) y).isSome = true ↔ ∃ i, i < k + 1 ∧ (K.getD i lnk0).since = y) := Lib.hid (fun y => by
    by_cases hy : y = x.since
    ·subst hy
     simp only [if_true, Option.isSome_some, true_iff]
     exact ⟨k, by omega, by rw [hx]⟩
    ·simp only [if_neg hy]
     rw [HF.out y]
     constructor
     ·rintro ⟨i, hi, e⟩; exact ⟨i, by omega, e⟩
     ·rintro ⟨i, hi, e⟩
      rcases Nat.lt_or_ge i k with h3 | h3
      ·exact ⟨i, h3, e⟩
      ·obtain rfl : i = k := by omega
       rw [hx] at e; exact absurd e.symm hy)
   have hW := below_alloc_new (w := wr) (.cells #[.int .i64 x.frm, .int .i64 x.tgt, .int .i64 x.since] 46)
   have HM1 := Lib.hid (HM.out.up hW)
   have HY1 := Lib.hid (HY.out.up hW)
   have hB1 := hB.alloc hsz (.cells #[.int .i64 x.frm, .int .i64 x.tgt, .int .i64 x.since] 46)
   have hml := HM1.out.lt
   obtain ⟨⟨v0, v1, v2⟩, vlt⟩ := lb_new wr 46 x
   simp only [Nat.zero_add] at v1 v2
   have hbm : b ≠ w.heap.size + 1 := by
    rintro rfl
    obtain ⟨D, ⟨es, clock, hb9, _⟩, _⟩ := HM.out
    simp [World.cell?, hb9] at d0
   have HBM := Lib.hid hbm
   have HBW := Lib.hid hbw
   clear hx hcs hW hbm
   go_wp2_with (at_mapUpdate; refine wpList_mapv_put rfl _ _ _ _ 4 rfl Try.underlying61 (w.heap.size + 1) j f rfl HM1.out x.since rfl _ rfl HWX.out.since (by omega) ?_; intro w2 hm2 hg2; have hb2 := grown_below hB1 hg2.out (by omega) (by simp; omega); have HY2 : Hid (LnkAt w2 (some ⟨b, off, none⟩) K) := Lib.hid (fun h0 => by (obtain ⟨b', off', e, hlt', hc'⟩ := HY1.out h0; cases e; have e8 := hg2.out.block b hlt' (fun e => by (injection e with e; exact HBM.out e)); exact ⟨b, off, rfl, Nat.lt_of_lt_of_le hlt' hg2.out.size, fun i hi => ⟨(World.cell?_of_block e8).trans (hc' i hi).c0, (World.cell?_of_block e8).trans (hc' i hi).c1, (World.cell?_of_block e8).trans (hc' i hi).c2⟩⟩)); clear hg2)
   go_roundg (m - (k + 1))
   case measure => omega
   case rel => exact ⟨k + 1, j + 1, _, by go_num, by omega, by omega, by omega, HF2, hm2, HY2, hb2⟩
  ·obtain rfl : k = m := by omega
   have hltz : ¬ (k : Int) < (k : Int) := by omega
   go_wp2_with (first
    | (go_at_call 35; refine (keysb_any _ _).mono ?_; rintro e w1 ⟨rfl, rfl⟩)
    | (go_at_call 34; refine (sortedb_any (w.heap.size + 1) j f wr HM.out (by omega)).mono ?_; rintro e w2 ⟨v, D, rfl, h1, h2, h3, hb⟩; replace hB := hB.trans (hb.mono hsz); have hDD := HD.out D h2 (fun x => by (rw [h3 x, HF.out x])); subst hDD; replace h1 := Lib.hid h1; clear hb h2 h3))
   go_ret
   exact ⟨_, rfl, h1.out, hB⟩
end Go.Proofs.Ytmahnpbjjadipaa
