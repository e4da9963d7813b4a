/- Contracts of the functions that the statements reach, part 2: what was proved of each, callees first. -/
import Derived.Lib.AppendIntMem
import Derived.Lib.ItoaLen
import Derived.Test.YthndbonfcdphgaaDoorRows
import Derived.Handed
import Derived.ProofKit
import Derived.LaidMore
import Derived.Lay
import Derived.OpenShut
import Derived.Stop.Joined
import Derived.ChangeSame
import Derived.Lib.LaidTab
import Derived.Shelf.Vars
import Derived.Stop.LaidErr
import Derived.ChangeSlices
import Derived.Carry
import Derived.Test.YthndbonfcdphgaaDoorD1
namespace Go.Proofs.YthndbonfcdphgaaDoor
open Go.RowKit
open AS (Keep NoInt)
theorem repeat48 (c : Nat) : Lib.repeatL [48] c = List.replicate c 48 := by
 induction c with
 | zero => rfl
 | succ c ih => simp [Lib.repeatL, List.replicate_succ] at ih ⊢ <;> exact ih
theorem rep48 (c : Nat) (w : World) (hc : c ≤ 20) : Calls Tryd.prog 47 #[.string ⟨#[48]⟩, .int .i64 c] w fun e w' => e = .returned (.string ⟨(Lib.repeatL [48] c).toArray⟩) ∧ Below w.heap.size w w' :=
 Tryd.strings_Repeat ⟨#[48]⟩ c w (by omega) (by rw [show (⟨#[48]⟩ : ByteArray).size = 1 from rfl]; omega)
def padD (D : List UInt8) (s : Nat) : List UInt8 := List.replicate (s + 1 - D.length) 48 ++ D
theorem padD_len (D : List UInt8) (s : Nat) : s < (padD D s).length := by unfold padD; simp; omega
theorem padD_le {D : List UInt8} {s n : Nat} (h : D.length ≤ n) (h2 : s < n) : (padD D s).length ≤ n := by unfold padD; simp; omega
def bareT (P : List UInt8) (s : Nat) : List UInt8 := if s = 0 then P else P.take (P.length - s) ++ 46 :: P.drop (P.length - s)
def signT (neg : Bool) (T : List UInt8) : List UInt8 := if neg then 45 :: T else T
set_option maxHeartbeats 800000 in
theorem dtext_000 (n : Int) (I D : List UInt8) (s : Nat) (w : World) (ht : DTab w.heap.size w) (hv : validB n s = true) (hd : Lib.itoa n = I) (h1 : Lib.trimPrefix I [45] = D) (h2 : Lib.hasPrefix I [45] = false) (hl : D.length ≤ 20) (hm : s < D.length) (hs : 0 < s) :
  Calls Tryd.prog 43 #[.int .i64 n, .int .i64 s] w fun e w' => e = .returned (.string ⟨(signT false (bareT (padD D s) s)).toArray⟩) ∧ Below w.heap.size w w' := by
 have hn := validB_is hv
 have hpl := padD_len D s
 have hple := padD_le (D := D) (s := s) (n := 20) hl (by omega)
 have hp0 : padD D s = D := by unfold padD; rw [show s + 1 - D.length = 0 by omega]; rfl
 rw [hp0] at *
 have hlt : decide ((D.length : Int) < (s : Int) + 1) = false := decide_eq_false (by omega)
 clear hp0
 obtain ⟨R, hR⟩ : ∃ R, signT false (bareT D s) = R := ⟨_, rfl⟩
 rw [hR]
 have HR := Lib.hid hR
 clear hR
 have hB := Below.refl w.heap.size w
 have HS := Lib.hid hs
 go_enter Tryd.func43, Tryd.ntmps43
 go_wp2_with (first | (go_at_call 48; refine (valid_any _ _ _).mono ?_; rintro e w' ⟨rfl, rfl⟩) | (go_at_call 37; refine (itoa_any _ (by omega) (by omega) _ ht).mono ?_; rintro e w' ⟨rfl, hb⟩; replace hB := below_more hB hb; clear hb) | (go_at_call 52; refine (Tryd.strings_CutPrefix _ _ _).mono ?_; rintro e w' ⟨rfl, hw⟩; subst hw) | (go_at_call 47; refine (rep48 c _ hc9).mono ?_; rintro e w' ⟨rfl, hb⟩; replace hB := below_more hB hb; clear hb))
 go_ret
 exact ⟨dret_str (bytes_eq (by rw [← HR.out]; simp [signT, bareT, ByteArray.data_append, Nat.pos_iff_ne_zero.1 HS.out, Lib.extract_data] <;> exact List.take_of_length_le (by simp))), hB⟩
set_option maxHeartbeats 800000 in
theorem dtext_100 (n : Int) (I D : List UInt8) (s : Nat) (w : World) (ht : DTab w.heap.size w) (hv : validB n s = true) (hd : Lib.itoa n = I) (h1 : Lib.trimPrefix I [45] = D) (h2 : Lib.hasPrefix I [45] = true) (hl : D.length ≤ 20) (hm : s < D.length) (hs : 0 < s) :
  Calls Tryd.prog 43 #[.int .i64 n, .int .i64 s] w fun e w' => e = .returned (.string ⟨(signT true (bareT (padD D s) s)).toArray⟩) ∧ Below w.heap.size w w' := by
 have hn := validB_is hv
 have hpl := padD_len D s
 have hple := padD_le (D := D) (s := s) (n := 20) hl (by omega)
 have hp0 : padD D s = D := by unfold padD; rw [show s + 1 - D.length = 0 by omega]; rfl
 rw [hp0] at *
 have hlt : decide ((D.length : Int) < (s : Int) + 1) = false := decide_eq_false (by omega)
 clear hp0
 obtain ⟨R, hR⟩ : ∃ R, signT true (bareT D s) = R := ⟨_, rfl⟩
 rw [hR]
 have HR := Lib.hid hR
 clear hR
 have hB := Below.refl w.heap.size w
 have HS := Lib.hid hs
 go_enter Tryd.func43, Tryd.ntmps43
 go_wp2_with (first | (go_at_call 48; refine (valid_any _ _ _).mono ?_; rintro e w' ⟨rfl, rfl⟩) | (go_at_call 37; refine (itoa_any _ (by omega) (by omega) _ ht).mono ?_; rintro e w' ⟨rfl, hb⟩; replace hB := below_more hB hb; clear hb) | (go_at_call 52; refine (Tryd.strings_CutPrefix _ _ _).mono ?_; rintro e w' ⟨rfl, hw⟩; subst hw) | (go_at_call 47; refine (rep48 c _ hc9).mono ?_; rintro e w' ⟨rfl, hb⟩; replace hB := below_more hB hb; clear hb))
 go_ret
 exact ⟨dret_str (bytes_eq (by rw [← HR.out]; simp [signT, bareT, ByteArray.data_append, Nat.pos_iff_ne_zero.1 HS.out, Lib.extract_data] <;> exact List.take_of_length_le (by simp))), hB⟩
theorem cut_sign (U : List UInt8) : cutW (45 :: U) = 45 :: cutW U ∧ cutR (45 :: U) = cutR U := by
 have h45 : (46 : UInt8) ≠ 45 := by decide
 unfold cutW cutR
 rcases cut_split U 46 with ⟨W, R, hw, rfl⟩ | hn
 ·rw [cut_hit hw, show (45 : UInt8) :: (W ++ 46 :: R) = (45 :: W) ++ 46 :: R from rfl, cut_hit (by simp [hw])]
  exact ⟨rfl, rfl⟩
 ·rw [cut_miss hn, cut_miss (by simp [hn])]
  exact ⟨rfl, rfl⟩
def dcN (l : List UInt8) (k : Nat) : Nat := numOf (cutW (unL l) ++ cutR (unL l) ++ List.replicate (k - (cutR (unL l)).length) 48)
def dcpE (l : List UInt8) (k : Nat) : Int := if dform l = true then (if k < (cutR (unL l)).length then 2 else if validB (sgZ (ngL l) (dcN l k)) k = true then 0 else 2) else 3
def dcpV (l : List UInt8) (k : Nat) : Int := if dform l = true then (if k < (cutR (unL l)).length then 0 else if validB (sgZ (ngL l) (dcN l k)) k = true then sgZ (ngL l) (dcN l k) else 0) else 0
theorem dform_dgs {l : List UInt8} (h : dform l = true) : dgs (cutW (unL l)) = true ∧ (∀ c ∈ cutR (unL l), isDig c = true) := by
 unfold dform okD at h
 simp only [Bool.and_eq_true] at h
 obtain ⟨⟨h1, h2, -⟩, -⟩ := h
 refine ⟨h1, fun c hc => ?_⟩
 rcases cut_three (unL l) with ⟨a1, -⟩ | ⟨-, -, a3, -⟩
 ·rw [a1] at h2
  exact (dgs_is (by simpa using h2)).2 c hc
 ·rw [a3] at hc; cases hc
theorem dgs_more {W R : List UInt8} (h1 : dgs W = true) (h2 : ∀ c ∈ R, isDig c = true) : dgs (W ++ R) = true := by
 obtain ⟨a1, a2⟩ := dgs_is h1
 refine dgs_mk (by simp [a1]) fun c hc => ?_
 rcases List.mem_append.1 hc with h | h
 ·exact a2 c h
 ·exact h2 c h
theorem sign_parts (l : List UInt8) : cutR l = cutR (unL l) ∧ cutW l = (if ngL l then 45 :: cutW (unL l) else cutW (unL l)) := by
 rcases sign_cases l with ⟨h1, h2⟩ | ⟨h1, h2⟩
 ·have := cut_sign (unL l)
  rw [← h2] at this
  rw [h1]; exact ⟨this.2, this.1⟩
 ·rw [h1, ← h2]; exact ⟨rfl, rfl⟩
theorem valid_far {neg : Bool} {n k : Nat} (h : 1000000000000000 < n) : validB (sgZ neg n) k = false := by
 unfold validB sgZ
 cases neg
 ·rw [if_neg (by decide), decide_eq_false (show ¬ (n : Int) ≤ 1000000000000000 by omega), Bool.and_false, Bool.false_and]
 ·rw [if_pos rfl, decide_eq_false (show ¬ (-1000000000000000 : Int) ≤ -(n : Int) by omega), Bool.false_and, Bool.false_and]
set_option maxRecDepth 20000 in
set_option maxHeartbeats 3200000 in
theorem dparse_in (l : List UInt8) (k : Nat) (w : World) (hm : MaxC w) (hv : ErrC w) (hl : l.length ≤ 500) (hk : k ≤ 9) : Calls Tryd.prog 28 #[.string ⟨l.toArray⟩, .int .i64 (k : Int)] w fun e w' => e = .returned (.tuple #[.int .i64 (dcpV l k), .int .i64 (dcpE l k)]) ∧ Below w.heap.size w w' := by
 have hB := Below.refl w.heap.size w
 have hF := fun w h => istext_any l w h (by omega)
 have hS := fun w => isScale_any (k : Int) w
 rw [show scaleB (k : Int) = true by simp [scaleB]; omega] at hS
 have HSC := Lib.hid hS
 have HM := Lib.hid hm
 have HV := Lib.hid hv
 clear hS hm hv
 unfold dcpV dcpE
 cases hf : dform l
 ·rw [hf] at hF
  have HF := Lib.hid hF
  clear hF hf
  go_enter Tryd.func28, Tryd.ntmps28
  go_wp2_with (first | (go_at_call 44; refine (HSC.out _).mono ?_; rintro e w' ⟨rfl, rfl⟩) | (go_at_call 45; refine (HF.out _ HM.out).mono ?_; rintro e w0 ⟨rfl, hb⟩; replace hB := below_more hB hb; clear hb))
  go_ret2
  exact ⟨rfl, hB⟩
 ·rw [hf] at hF
  rw [if_pos rfl, if_pos rfl]
  have HF := Lib.hid hF
  have hcu := fun w h => cutd_any l w h (by omega)
  have hsp := sign_parts l
  have hdg := dform_dgs hf
  have hcl := cut_le l
  obtain ⟨R, hR⟩ : ∃ R, cutR (unL l) = R := ⟨_, rfl⟩
  obtain ⟨pre, hpre⟩ : ∃ pre, cutW l = pre := ⟨_, rfl⟩
  have hN : dcN l k = numOf (cutW (unL l) ++ R ++ List.replicate (k - R.length) 48) := by unfold dcN; rw [hR]
  rw [hR] at hsp hdg ⊢
  rw [hsp.1, hpre] at hcu
  rw [hpre, hsp.1] at hcl
  rw [hpre] at hsp
  obtain ⟨r, hr'⟩ : ∃ r, R.length = r := ⟨_, rfl⟩
  rw [hr'] at hN hcl ⊢
  have HCU := Lib.hid hcu
  have HR := Lib.hid hr'
  clear hF hcu
  by_cases hlt : k < r
  ·rw [if_pos hlt, if_pos hlt]
   have hlt' : (k : Int) < (r : Int) := by omega
   clear hf hsp hdg hR hpre hN hlt
   go_enter Tryd.func28, Tryd.ntmps28
   go_wp2_with (first | (go_at_call 44; refine (HSC.out _).mono ?_; rintro e w' ⟨rfl, rfl⟩) | (go_at_call 45; refine (HF.out _ HM.out).mono ?_; rintro e w0 ⟨rfl, hb⟩; replace hB := below_more hB hb; clear hb) | (go_at_call 46; refine (HCU.out _ (HM.out.up hB)).mono ?_; rintro e w1 ⟨rfl, hb⟩; replace hB := below_more hB hb; clear hb))
   go_ret2
   exact ⟨rfl, hB⟩
  ·rw [if_neg hlt, if_neg hlt]
   have hlt' : decide (k < r) = false := decide_eq_false hlt
   obtain ⟨c, hc⟩ : ∃ c, k - r = c := ⟨_, rfl⟩
   rw [hc] at hN
   have hz : List.replicate c (48 : UInt8) = Lib.repeatL [48] c := (repeat48 c).symm
   have hzd : ∀ x ∈ List.replicate c (48 : UInt8), isDig x = true := fun x hx => by rw [(List.mem_replicate.1 hx).2]; decide
   have hat : Lib.atoiAll (pre ++ R ++ Lib.repeatL [48] c) = endZ (ngL l) (dcN l k) := by
    rw [← hz, hsp.2, hN]
    have hd := dgs_more (dgs_more hdg.1 hdg.2) hzd
    cases hng : ngL l
    ·rw [if_neg (by decide)]; exact atoi_digits hd
    ·rw [if_pos rfl]; exact atoi_minus hd
   have hs0 : (((⟨pre.toArray⟩ : ByteArray) ++ ⟨R.toArray⟩) ++ ⟨(Lib.repeatL [48] c).toArray⟩).data.toList = pre ++ R ++ Lib.repeatL [48] c := by simp [ByteArray.data_append]
   have hzl : (Lib.repeatL [48] c).length = c := by rw [← hz]; simp
   have hsz : (((⟨pre.toArray⟩ : ByteArray) ++ ⟨R.toArray⟩) ++ ⟨(Lib.repeatL [48] c).toArray⟩).size ≤ 1000000 := by
    rw [ByteArray.size_append, ByteArray.size_append, Lib.size_mk, Lib.size_mk, Lib.size_mk, hzl, hr']; omega
   rw [← hs0] at hat
   have hci : (k : Int) - (r : Int) = (c : Int) := by omega
   have hcw : IntKind.i64.wrap ((k : Int) - (r : Int)) = (c : Int) := by rw [IntKind.wrap_i64]; omega
   have HC9 : Hid (c ≤ 20) := Lib.hid (by omega)
   have hov3 : ¬ 9223372036854775807 < pre.length + r + (Lib.repeatL [48] c).length := by rw [hzl]; omega
   rcases endZ_cases (ngL l) (dcN l k) with ⟨v, he⟩ | he
   ·have hA := fun w h => atoi_okT (w := w) h hsz hat he
    have hvz := endZ_ok he
    have hvd := fun w => valid_any v k w
    rw [← hvz]
    have HA := Lib.hid hA
    have hov : ¬ 9223372036854775807 < pre.length + r := by omega
    clear hA he hat hs0 hsz hN hz hzd hf hsp hdg hR hpre hc hvz
    cases hval : validB v k
    all_goals
     rw [hval] at hvd
     have HVD := Lib.hid hvd
     clear hvd hval
     go_enter Tryd.func28, Tryd.ntmps28
     go_wp2_with (first | (go_at_call 44; refine (HSC.out _).mono ?_; rintro e w' ⟨rfl, rfl⟩) | (go_at_call 45; refine (HF.out _ HM.out).mono ?_; rintro e w0 ⟨rfl, hb⟩; replace hB := below_more hB hb; clear hb) | (go_at_call 46; refine (HCU.out _ (HM.out.up hB)).mono ?_; rintro e w1 ⟨rfl, hb⟩; replace hB := below_more hB hb; clear hb) | (go_at_call 47; refine (rep48 c _ HC9.out).mono ?_; rintro e w1 ⟨rfl, hb⟩; replace hB := below_more hB hb; clear hb) | (go_at_call 40; refine (HA.out _ (HV.out.up hB)).mono ?_; rintro e w1 ⟨rfl, hb⟩; replace hB := below_more hB hb; clear hb) | (go_at_call 48; refine (HVD.out _).mono ?_; rintro e w1 ⟨rfl, rfl⟩))
     go_ret2
     exact ⟨rfl, hB⟩
   ·have hA := fun w h => atoi_rngT (w := w) h hsz hat he
    have hno : validB (sgZ (ngL l) (dcN l k)) k = false := valid_far (by have := endZ_range he; omega)
    rw [hno]
    have HA := Lib.hid hA
    have hov : ¬ 9223372036854775807 < pre.length + r := by omega
    clear hA he hat hs0 hsz hN hz hzd hf hsp hdg hR hpre hc hno
    go_enter Tryd.func28, Tryd.ntmps28
    go_wp2_with (first | (go_at_call 44; refine (HSC.out _).mono ?_; rintro e w' ⟨rfl, rfl⟩) | (go_at_call 45; refine (HF.out _ HM.out).mono ?_; rintro e w0 ⟨rfl, hb⟩; replace hB := below_more hB hb; clear hb) | (go_at_call 46; refine (HCU.out _ (HM.out.up hB)).mono ?_; rintro e w1 ⟨rfl, hb⟩; replace hB := below_more hB hb; clear hb) | (go_at_call 47; refine (rep48 c _ HC9.out).mono ?_; rintro e w1 ⟨rfl, hb⟩; replace hB := below_more hB hb; clear hb) | (go_at_call 40; refine (HA.out _ (HV.out.up hB)).mono ?_; rintro e w1 ⟨⟨v, g, rfl⟩, hb⟩; replace hB := below_more hB hb; clear hb))
    go_ret2
    exact ⟨rfl, hB⟩
theorem dparse_any (l : List UInt8) (sc : Int) (w : World) (hm : MaxC w) (hv : ErrC w) (hl : l.length ≤ 500) : Calls Tryd.prog 28 #[.string ⟨l.toArray⟩, .int .i64 sc] w fun e w' => e = .returned (.tuple #[.int .i64 (if scaleB sc = true then dcpV l sc.toNat else 0), .int .i64 (if scaleB sc = true then dcpE l sc.toNat else 1)]) ∧ Below w.heap.size w w' := by
 cases hs : scaleB sc
 ·have hS := fun w => isScale_any sc w
  rw [hs] at hS
  have HSC := Lib.hid hS
  have hB := Below.refl w.heap.size w
  clear hS
  go_enter Tryd.func28, Tryd.ntmps28
  go_wp2_with (first | (go_at_call 44; refine (HSC.out _).mono ?_; rintro e w' ⟨rfl, rfl⟩))
  go_ret2
  exact ⟨rfl, hB⟩
 ·obtain ⟨h1, h2⟩ := scaleB_is hs
  have := dparse_in l sc.toNat w hm hv hl (by omega)
  rw [show (sc.toNat : Int) = sc by omega] at this
  exact this
def byt (t : List UInt8) (i : Nat) : UInt8 := t.getD i 0
theorem sign_head {l : List UInt8} (h : ngL l = false) : l = [] ∨ ∃ c t, l = c :: t ∧ c ≠ 45 := by
 cases l with
 | nil => exact .inl rfl
 | cons c t =>
  refine .inr ⟨c, t, rfl, ?_⟩
  rintro rfl
  unfold ngL Lib.hasPrefix at h
  simp at h
theorem take_byt {t : List UInt8} {i : Nat} (h : i < t.length) : t.take (i + 1) = t.take i ++ [byt t i] := by
 rw [List.take_succ_eq_append_getElem h]
 unfold byt
 rw [List.getD_eq_getElem?_getD, List.getElem?_eq_getElem h]; rfl
def dgl (t : List UInt8) : Nat := (t.takeWhile isDig).length
theorem byt_zero (c : UInt8) (t : List UInt8) : byt (c :: t) 0 = c := rfl
theorem byt_succ (c : UInt8) (t : List UInt8) (i : Nat) : byt (c :: t) (i + 1) = byt t i := by unfold byt; rw [List.getD_eq_getElem?_getD, List.getD_eq_getElem?_getD, List.getElem?_cons_succ]
theorem dgl_is {t : List UInt8} {n : Nat} (hn : n ≤ t.length) (hd : ∀ j, j < n → isDig (byt t j) = true) (he : n = t.length ∨ isDig (byt t n) = false) : dgl t = n := by
 induction t generalizing n with
 | nil => simp at hn; subst hn; rfl
 | cons c t ih =>
  unfold dgl
  rw [List.takeWhile_cons]
  cases n with
  | zero =>
   rcases he with he | he
   ·simp at he
   ·rw [byt_zero] at he; rw [he]; rfl
  | succ n =>
   have h0 := hd 0 (by omega)
   rw [byt_zero] at h0
   rw [h0]
   have := ih (n := n) (by simpa using hn) (fun j hj => by have := hd (j + 1) (by omega); rwa [byt_succ] at this) (by
    rcases he with he | he
    ·left; simpa using he
    ·right; rwa [byt_succ] at he)
   unfold dgl at this
   simp [this]
set_option maxRecDepth 20000 in
set_option maxHeartbeats 3200000 in
theorem digits_any (t : List UInt8) (w : World) (hl : t.length ≤ 1000) : Calls Tryd.prog 68 #[.string ⟨t.toArray⟩] w fun e w' => e = .returned (.int .i64 (dgl t : Int)) ∧ w = w' := by
 have hi0 : ∀ i h, (⟨t.toArray⟩ : ByteArray)[i]'h = byt t i := fun i h => by
  have h2 : i < t.length := by rw [Lib.size_mk] at h; exact h
  unfold byt; rw [List.getD_eq_getElem?_getD, List.getElem?_eq_getElem h2]; rfl
 have HI := Lib.hid hi0
 obtain ⟨n, hn⟩ : ∃ n, t.length = n := ⟨_, rfl⟩
 have HN := Lib.hid hn
 clear hi0
 go_enter Tryd.func68, Tryd.ntmps68
 go_wp2_with fail
 go_loop [3] (fun v => ∃ i : Nat, i ≤ n ∧ v = .int .i64 i ∧ Hid (∀ j, j < i → isDig (byt t j) = true)) (fun v => n - (intOf v).toNat)
 case atStart => exact ⟨0, by omega, rfl, fun j h => absurd h (by omega)⟩
 case round =>
  obtain ⟨i, hi, rfl, hd⟩ := hrel
  by_cases hlt : i < n
  ·have hlt' : (i : Int) < (n : Int) := by omega
   obtain ⟨b, hb⟩ : ∃ b, byt t i = b := ⟨_, rfl⟩
   have hcb : ∀ h, (⟨t.toArray⟩ : ByteArray)[i]'h = b := fun h => (HI.out i h).trans hb
   have HB := Lib.hid hb
   clear hb
   by_cases hb1 : b.toNat < 48
   ·have hq : decide (48 ≤ (b.toNat : Int)) = false := decide_eq_false (by omega)
    have he : Hid (dgl t = i) := Lib.hid (dgl_is (by rw [HN.out]; exact hi) hd.out (.inr (by rw [HB.out]; simp [isDig]; omega)))
    clear hb1
    go_wp2_with fail
    go_ret
    exact ⟨by rw [he.out]; rfl, rfl⟩
   ·have hq : 48 ≤ (b.toNat : Int) := by omega
    by_cases hb2 : 57 < b.toNat
    ·have hq2 : decide ((b.toNat : Int) ≤ 57) = false := decide_eq_false (by omega)
     have he : Hid (dgl t = i) := Lib.hid (dgl_is (by rw [HN.out]; exact hi) hd.out (.inr (by rw [HB.out]; simp [isDig]; omega)))
     clear hb1 hb2
     go_wp2_with fail
     go_ret
     exact ⟨by rw [he.out]; rfl, rfl⟩
    ·have hq2 : (b.toNat : Int) ≤ 57 := by omega
     have hdb : Hid (isDig b = true) := Lib.hid (isDig_iff.2 ⟨by omega, by omega⟩)
     clear hb1 hb2
     go_wp2_with fail
     go_round
     case rel => exact ⟨i + 1, by omega, by go_num, fun j hj => by
      rcases Nat.lt_succ_iff_lt_or_eq.1 hj with h | rfl
      ·exact hd.out j h
      ·rw [HB.out]; exact hdb.out⟩
     case measure => simp [intOf]; omega
  ·obtain rfl : i = n := by omega
   have hge : decide ((i : Int) < (i : Int)) = false := by simp
   have he : Hid (dgl t = i) := Lib.hid (dgl_is (by rw [HN.out]; exact hi) hd.out (.inl HN.out.symm))
   go_wp2_with fail
   go_ret
   exact ⟨by rw [he.out]; rfl, rfl⟩
theorem dgl_all {W R : List UInt8} (hW : ∀ c ∈ W, isDig c = true) : dgl (W ++ R) = W.length + dgl R := by
 unfold dgl
 induction W with
 | nil => simp
 | cons c t ih =>
  rw [List.cons_append, List.takeWhile_cons, hW c (by simp)]
  simp only [if_true, List.length_cons]
  rw [ih fun x hx => hW x (by simp [hx])]
  omega
theorem dgl_dig {P : List UInt8} (h : ∀ c ∈ P, isDig c = true) : dgl P = P.length := by have := dgl_all (R := []) h; simpa [dgl] using this
theorem dgl_dig_iff {P : List UInt8} (h : dgl P = P.length) : ∀ c ∈ P, isDig c = true := by
 intro c hc
 have h2 : P.takeWhile isDig = P := (List.takeWhile_prefix _).eq_of_length h
 rw [← h2] at hc
 have := List.all_takeWhile (p := isDig) (l := P)
 rw [List.all_eq_true] at this
 exact this c hc
theorem dig_cases (t : List UInt8) : ∃ W rest, t = W ++ rest ∧ (∀ c ∈ W, isDig c = true) ∧ dgl t = W.length ∧ (rest = [] ∨ ∃ c R, rest = c :: R ∧ isDig c = false) := by
 induction t with
 | nil => exact ⟨[], [], rfl, by simp, rfl, .inl rfl⟩
 | cons c t ih =>
  by_cases h : isDig c = true
  ·obtain ⟨W, rest, e, hd, hl, hr⟩ := ih
   refine ⟨c :: W, rest, by rw [e]; rfl, ?_, ?_, hr⟩
   ·intro x hx
    rcases List.mem_cons.1 hx with rfl | hx
    ·exact h
    ·exact hd x hx
   ·unfold dgl at hl ⊢
    rw [List.takeWhile_cons, h]
    simp [hl]
  ·have h2 : isDig c = false := by simpa using h
   refine ⟨[], c :: t, rfl, by simp, ?_, .inr ⟨c, t, rfl, h2⟩⟩
   unfold dgl
   rw [List.takeWhile_cons, h2]; rfl
def lead0 (W : List UInt8) : Bool := decide (1 < W.length) && W.head? == some 48
theorem dot_dig {W : List UInt8} (h : ∀ c ∈ W, isDig c = true) : 46 ∉ W := dig_no h (by decide)
theorem okD_all {W : List UInt8} (h : ∀ c ∈ W, isDig c = true) : okD W = (dgs W && !lead0 W) ∧ cutW W = W ∧ cutR W = [] := by
 have hc := cut_miss (dot_dig h)
 unfold okD cutH cutW cutR lead0
 rw [hc]
 exact ⟨by simp, rfl, rfl⟩
theorem okD_dot {W R : List UInt8} (h : ∀ c ∈ W, isDig c = true) : okD (W ++ 46 :: R) = (dgs W && (dgs R && !lead0 W)) ∧ cutW (W ++ 46 :: R) = W ∧ cutR (W ++ 46 :: R) = R := by
 have hc := cut_hit (R := R) (dot_dig h)
 unfold okD cutH cutW cutR lead0
 rw [hc]
 exact ⟨by simp, rfl, rfl⟩
theorem okD_bad {W R : List UInt8} {c : UInt8} (hd : ∀ c ∈ W, isDig c = true) (hc : isDig c = false) (h46 : c ≠ 46) : okD (W ++ c :: R) = false := by
 have hno : ∀ {X : List UInt8}, c ∈ X → dgs X = false := fun {X} hm => by
  cases h : dgs X
  ·rfl
  ·have := (dgs_is h).2 c hm
   rw [hc] at this; cases this
 have hin : c ∈ cutW (W ++ c :: R) := by
  unfold cutW
  rcases cut_split R 46 with ⟨A, B, ha, rfl⟩ | hn
  ·have h1 : 46 ∉ W ++ c :: A := by
    intro h
    rcases List.mem_append.1 h with h | h
    ·exact dot_dig hd h
    ·rcases List.mem_cons.1 h with h | h
     ·exact h46 h.symm
     ·exact ha h
   rw [show W ++ c :: (A ++ 46 :: B) = (W ++ c :: A) ++ 46 :: B by simp, cut_hit h1]
   simp
  ·have h1 : 46 ∉ W ++ c :: R := by
    intro h
    rcases List.mem_append.1 h with h | h
    ·exact dot_dig hd h
    ·rcases List.mem_cons.1 h with h | h
     ·exact h46 h.symm
     ·exact hn h
   rw [cut_miss h1]; simp
 unfold okD
 rw [hno hin, Bool.false_and]
theorem indexAny_any (l cs : List UInt8) : decide (0 ≤ Lib.indexAny l cs) = l.any (cs.contains ·) := by
 induction l with
 | nil => rfl
 | cons b t ih =>
  rw [Lib.indexAny, List.any_cons]
  by_cases h : cs.contains b = true
  ·rw [if_pos h, h]; rfl
  ·rw [if_neg h]
   have h2 : cs.contains b = false := by simpa using h
   rw [h2, Bool.false_or, ← ih]
   have := Lib.indexAny_ge cs t
   by_cases h3 : Lib.indexAny t cs = -1
   ·rw [h3]; rfl
   ·have h4 : (Lib.indexAny t cs == -1) = false := by simpa using h3
    rw [h4]
    simp only [Bool.false_eq_true, if_false]
    rw [decide_eq_true (show 0 ≤ Lib.indexAny t cs + 1 by omega), decide_eq_true (show 0 ≤ Lib.indexAny t cs by omega)]
def allZ (l : List UInt8) : Bool := l.all (fun c => c == 48)
theorem nine_dig {c : UInt8} (h : isDig c = true) : nine.contains c = !(c == 48) := by
 have h1 := isDig_iff.1 h
 have e : ∀ k : Nat, k < 256 → c.toNat = k → c = UInt8.ofNat k := fun k hk h => by
  apply UInt8.toNat_inj.1; rw [h]; simp; omega
 have h3 : c.toNat = 48 ∨ c.toNat = 49 ∨ c.toNat = 50 ∨ c.toNat = 51 ∨ c.toNat = 52 ∨ c.toNat = 53 ∨ c.toNat = 54 ∨ c.toNat = 55 ∨ c.toNat = 56 ∨ c.toNat = 57 := by omega
 rcases h3 with h | h | h | h | h | h | h | h | h | h <;> rw [e _ (by omega) h] <;> decide
theorem nz_dig {W : List UInt8} (h : ∀ c ∈ W, isDig c = true) : W.any (nine.contains ·) = !allZ W := by
 unfold allZ
 induction W with
 | nil => rfl
 | cons c t ih => rw [List.any_cons, List.all_cons, ih fun x hx => h x (by simp [hx]), nine_dig (h c (by simp)), Bool.not_and]
theorem hasNZ_all {W : List UInt8} (h : ∀ c ∈ W, isDig c = true) : hasNZ W = !allZ W := by
 unfold hasNZ Lib.containsAny
 rw [indexAny_any, nz_dig h]
theorem hasNZ_dot {W R : List UInt8} (h : ∀ c ∈ W, isDig c = true) (h2 : ∀ c ∈ R, isDig c = true) : hasNZ (W ++ 46 :: R) = !allZ (W ++ R) := by
 unfold hasNZ Lib.containsAny
 rw [indexAny_any, List.any_append, List.any_cons, nz_dig h, nz_dig h2, show nine.contains (46 : UInt8) = false by decide, Bool.false_or]
 unfold allZ
 rw [List.all_append, Bool.not_and]
theorem allZ_take {t : List UInt8} {i : Nat} (h : i < t.length) : allZ (t.take (i + 1)) = (allZ (t.take i) && byt t i == 48) := by
 unfold allZ
 rw [take_byt h, List.all_append]
 simp
def FP (l : List UInt8) (w : World) (e : Ending) (w' : World) : Prop := ∃ a b c, e = .returned (.tuple #[.bool a, .string b, .string c, .bool (dform l)]) ∧ (dform l = true → a = ngL l ∧ b = ⟨(cutW (unL l)).toArray⟩ ∧ c = ⟨(cutR (unL l)).toArray⟩) ∧ Below w.heap.size w w'
theorem FP.fail {l : List UInt8} {w w' : World} (h : dform l = false) (hB : Below w.heap.size w w') : FP l w (.returned (.tuple #[.bool false, .string ⟨#[]⟩, .string ⟨#[]⟩, .bool false])) w' :=
 ⟨false, ⟨#[]⟩, ⟨#[]⟩, by rw [h], ⟨fun h2 => absurd (h.symm.trans h2) (by decide), hB⟩⟩
set_option maxRecDepth 20000 in
set_option maxHeartbeats 1600000 in
theorem rform_neg (l U : List UInt8) (w : World) (hl : l.length ≤ 500) (hng : ngL l = true) (hU : unL l = U) (hlU : l = 45 :: U) : Calls Tryd.prog 49 #[.string ⟨l.toArray⟩] w (FP l w) := by
 have hB := Below.refl w.heap.size w
 have hmf : dform l = (okD U && (!true || hasNZ U)) := by unfold dform; rw [hng, hU]
 have hul : U.length ≤ 500 := by rw [hlU] at hl; simp at hl; omega
 have hdg := fun w => digits_any U w (by omega)
 obtain ⟨W, rest, hUe, hWd, hk, hrest⟩ := dig_cases U
 rw [hk] at hdg
 have HD := Lib.hid hdg
 have hn : U.length = W.length + rest.length := by rw [hUe]; simp
 have hx1 : (⟨U.toArray⟩ : ByteArray).extract 0 W.length = ⟨W.toArray⟩ := by rw [Lib.extract_mk, hUe]; simp
 have hx2 : (⟨U.toArray⟩ : ByteArray).extract W.length U.length = ⟨rest.toArray⟩ := by rw [Lib.extract_mk, hUe]; simp
 have hx0 : (⟨l.toArray⟩ : ByteArray).extract 1 l.length = ⟨U.toArray⟩ := by rw [Lib.extract_mk, hlU]; simp
 have hi : ∀ h, (⟨l.toArray⟩ : ByteArray)[0]'h = 45 := by subst hlU; exact fun _ => rfl
 have hlen : l.length = U.length + 1 := by rw [hlU]; simp
 have h0n : (0 : Int) < (l.length : Int) := by omega
 have h0m : 0 < l.length := by omega
 have h1n : (1 : Int) ≤ (l.length : Int) := by omega
 clear hlen hlU
 obtain ⟨k, hkk⟩ : ∃ k, W.length = k := ⟨_, rfl⟩
 obtain ⟨m, hmm⟩ : ∃ m, U.length = m := ⟨_, rfl⟩
 rw [hkk, hmm] at hn
 rw [hkk] at hx1 hx2 HD
 rw [hmm] at hx2
 have hkm : k ≤ m := by omega
 have hkm2 : (k : Int) ≤ (m : Int) := by omega
 have hm5 : m ≤ 500 := by omega
 have hk0 : (0 : Int) ≤ (k : Int) := by omega
 clear hn hdg hk
 by_cases hk1 : k = 0
 ·have hdf : Hid (dform l = false) := Lib.hid (by
   have hw : W = [] := List.eq_nil_of_length_eq_zero (by omega)
   rw [hmf]
   subst hw
   rcases hrest with rfl | ⟨c, R, rfl, hc⟩
   ·rw [hUe, List.append_nil, (okD_all (W := []) (by simp)).1]; rfl
   ·by_cases h46 : c = 46
    ·subst h46; rw [hUe, (okD_dot (W := []) (by simp)).1]; rfl
    ·rw [hUe, okD_bad (by simp) hc h46]; rfl)
  subst hk1
  clear hmf hrest hUe hWd hng hU
  go_enter Tryd.func49, Tryd.ntmps49
  go_wp2_with (go_at_call 68; refine (HD.out _).mono ?_; rintro e w' ⟨rfl, rfl⟩)
  go_quiet (fail)
  replace hB := below_drewN hB nq
  generalize w.drewN nq = W1 at *
  go_wp2_with fail
  exact bodyPost_ret (v := .tuple #[.bool false, .string ⟨#[]⟩, .string ⟨#[]⟩, .bool false]) (by simp [results, Tryd.results49, go_sem]) rfl (FP.fail hdf.out hB)
 ·have hk2 : (k == 0) = false := by simpa using hk1
  have hk3 : ((k : Int) == 0) = false := by simp; omega
  have hW0 : W ≠ [] := by rintro rfl; simp at hkk; omega
  have hdW : dgs W = true := dgs_mk hW0 hWd
  obtain ⟨c0, W', hWe⟩ := List.exists_cons_of_ne_nil hW0
  have hw0 : ∀ h, (⟨W.toArray⟩ : ByteArray)[0]'h = c0 := by subst hWe; exact fun _ => rfl
  have hlead : lead0 W = (decide (1 < k) && ((c0.toNat : Int) == 48)) := by
   unfold lead0
   rw [hkk, hWe]
   congr 1
   rw [Bool.eq_iff_iff]
   simp only [List.head?_cons, beq_iff_eq, Option.some.injEq]
   constructor
   ·rintro rfl; rfl
   ·intro h; apply UInt8.toNat_inj.1; show c0.toNat = 48; omega
  clear hWe hW0
  cases hl0 : lead0 W
  ·rw [hl0] at hlead
   rcases hrest with rfl | ⟨c, R, rfl, hc⟩
   ·have hok : okD U = true := by rw [hUe, List.append_nil, (okD_all hWd).1, hdW, hl0]; rfl
    have hcw : cutW U = W ∧ cutR U = [] := by rw [hUe, List.append_nil]; exact (okD_all hWd).2
    have hdf : Hid (dform l = (!(true && allZ W))) := Lib.hid (by rw [hmf, hok, show hasNZ U = !allZ W by rw [hUe, List.append_nil]; exact hasNZ_all hWd]; cases allZ W <;> rfl)
    have hpart : Hid (dform l = true → true = ngL l ∧ (⟨W.toArray⟩ : ByteArray) = ⟨(cutW (unL l)).toArray⟩ ∧ (⟨#[]⟩ : ByteArray) = ⟨(cutR (unL l)).toArray⟩) := Lib.hid (fun _ => by rw [hng, hU, hcw.1, hcw.2]; exact ⟨rfl, rfl, rfl⟩)
    have hib : ∀ i h, (⟨W.toArray⟩ : ByteArray)[i]'h = byt W i := fun i h => by
     have h2 : i < W.length := by rw [Lib.size_mk] at h; exact h
     unfold byt; rw [List.getD_eq_getElem?_getD, List.getElem?_eq_getElem h2]; rfl
    have HIB := Lib.hid hib
    have HKK := Lib.hid hkk
    clear hib hmf hUe hWd hng hU hok hcw hdW hl0
    by_cases h1k : 1 < k
    ·have hc48 : ((c0.toNat : Int) == 48) = false := by rw [decide_eq_true h1k, Bool.true_and] at hlead; exact hlead.symm
     have h1k' : (1 : Int) < (k : Int) := by omega
     clear hlead
     go_enter Tryd.func49, Tryd.ntmps49
     go_wp2_with (go_at_call 68; refine (HD.out _).mono ?_; rintro e w' ⟨rfl, rfl⟩)
     go_quiet (fail)
     replace hB := below_drewN hB nq
     generalize w.drewN nq = W1 at *
     go_wp2_with fail
     go_loopw [11, 12] (fun zv iv wr => ∃ i : Nat, i ≤ k ∧ iv = .int .i64 i ∧ zv = .bool (allZ (W.take i)) ∧ W1 = wr) (fun _ iv _ => k - (intOf iv).toNat)
     case atStart => exact ⟨0, by omega, rfl, rfl, by first | rfl | trivial⟩
     case round =>
      obtain ⟨i, hi9, rfl, rfl, rfl⟩ := hrel
      by_cases hlt : i < k
      ·have hlt' : (i : Int) < (k : Int) := by omega
       obtain ⟨b, hb⟩ : ∃ b, byt W i = b := ⟨_, rfl⟩
       have hcb : ∀ h, (⟨W.toArray⟩ : ByteArray)[i]'h = b := fun h => (HIB.out i h).trans hb
       have HN : Hid (allZ (W.take (i + 1)) = (allZ (W.take i) && ((b.toNat : Int) == 48))) := Lib.hid (by
        rw [allZ_take (by rw [HKK.out]; exact hlt), hb]
        congr 1
        rw [Bool.eq_iff_iff]
        simp only [beq_iff_eq]
        constructor
        ·rintro rfl; rfl
        ·intro h; apply UInt8.toNat_inj.1; show b.toNat = 48; omega)
       cases hz0 : allZ (W.take i)
       all_goals
        have HZ0 := Lib.hid hz0
        clear hz0 hb
        go_wp2_with fail
        go_roundw
        case rel => exact ⟨i + 1, by omega, by go_num, by rw [HN.out, HZ0.out]; rfl, by first | rfl | trivial⟩
        case measure => simp [intOf]; omega
      ·obtain rfl : k = i := by omega
       have hge : decide ((k : Int) < (k : Int)) = false := by simp
       have htk : W.take (k) = W := List.take_of_length_le (by rw [HKK.out]; exact Nat.le_refl _)
       rw [htk]
       obtain ⟨zz, hzz⟩ : ∃ zz, allZ (W) = zz := ⟨_, rfl⟩
       have hdf2 := hdf.out
       rw [hzz] at hdf2 ⊢
       have HDF2 := Lib.hid hdf2
       clear hdf hdf2 htk hzz
       go_wp2_with fail
       exact bodyPost_ret (v := .tuple #[.bool true, .string ⟨W.toArray⟩, .string ⟨#[]⟩, .bool (!(true && zz))]) (by simp [results, Tryd.results49, go_sem]) rfl ⟨true, ⟨W.toArray⟩, ⟨#[]⟩, by rw [HDF2.out], hpart.out, hB⟩
    ·have h1k' : decide (1 < k) = false := decide_eq_false h1k
     clear hlead
     go_enter Tryd.func49, Tryd.ntmps49
     go_wp2_with (go_at_call 68; refine (HD.out _).mono ?_; rintro e w' ⟨rfl, rfl⟩)
     go_quiet (fail)
     replace hB := below_drewN hB nq
     generalize w.drewN nq = W1 at *
     go_wp2_with fail
     go_loopw [11, 12] (fun zv iv wr => ∃ i : Nat, i ≤ k ∧ iv = .int .i64 i ∧ zv = .bool (allZ (W.take i)) ∧ W1 = wr) (fun _ iv _ => k - (intOf iv).toNat)
     case atStart => exact ⟨0, by omega, rfl, rfl, by first | rfl | trivial⟩
     case round =>
      obtain ⟨i, hi9, rfl, rfl, rfl⟩ := hrel
      by_cases hlt : i < k
      ·have hlt' : (i : Int) < (k : Int) := by omega
       obtain ⟨b, hb⟩ : ∃ b, byt W i = b := ⟨_, rfl⟩
       have hcb : ∀ h, (⟨W.toArray⟩ : ByteArray)[i]'h = b := fun h => (HIB.out i h).trans hb
       have HN : Hid (allZ (W.take (i + 1)) = (allZ (W.take i) && ((b.toNat : Int) == 48))) := Lib.hid (by
        rw [allZ_take (by rw [HKK.out]; exact hlt), hb]
        congr 1
        rw [Bool.eq_iff_iff]
        simp only [beq_iff_eq]
        constructor
        ·rintro rfl; rfl
        ·intro h; apply UInt8.toNat_inj.1; show b.toNat = 48; omega)
       cases hz0 : allZ (W.take i)
       all_goals
        have HZ0 := Lib.hid hz0
        clear hz0 hb
        go_wp2_with fail
        go_roundw
        case rel => exact ⟨i + 1, by omega, by go_num, by rw [HN.out, HZ0.out]; rfl, by first | rfl | trivial⟩
        case measure => simp [intOf]; omega
      ·obtain rfl : k = i := by omega
       have hge : decide ((k : Int) < (k : Int)) = false := by simp
       have htk : W.take (k) = W := List.take_of_length_le (by rw [HKK.out]; exact Nat.le_refl _)
       rw [htk]
       obtain ⟨zz, hzz⟩ : ∃ zz, allZ (W) = zz := ⟨_, rfl⟩
       have hdf2 := hdf.out
       rw [hzz] at hdf2 ⊢
       have HDF2 := Lib.hid hdf2
       clear hdf hdf2 htk hzz
       go_wp2_with fail
       exact bodyPost_ret (v := .tuple #[.bool true, .string ⟨W.toArray⟩, .string ⟨#[]⟩, .bool (!(true && zz))]) (by simp [results, Tryd.results49, go_sem]) rfl ⟨true, ⟨W.toArray⟩, ⟨#[]⟩, by rw [HDF2.out], hpart.out, hB⟩
   ·by_cases h46 : c = 46
    ·subst h46
     have hr0 : ∀ h, (⟨(46 :: R).toArray⟩ : ByteArray)[0]'h = 46 := fun _ => rfl
     have hx3 : (⟨(46 :: R).toArray⟩ : ByteArray).extract 1 (R.length + 1) = ⟨R.toArray⟩ := by rw [Lib.extract_mk]; simp
     have hRl : R.length ≤ 500 := by rw [hUe] at hul; simp at hul; omega
     have hd2 := fun w => digits_any R w (by omega)
     have HD2 := Lib.hid hd2
     clear hd2
     generalize hrr : (46 :: R) = rest at *
     have hrl : rest.length = R.length + 1 := by rw [← hrr]; simp
     by_cases hR0 : R = []
     ·have hdf : Hid (dform l = false) := Lib.hid (by rw [hmf, hUe, ← hrr, (okD_dot hWd).1, hR0, show dgs [] = false from rfl, Bool.false_and, Bool.and_false, Bool.false_and])
      subst hR0
      clear hmf hUe hWd hng hU hdW hl0 hc hrr
      by_cases h1k : 1 < k
      ·have hc48 : ((c0.toNat : Int) == 48) = false := by rw [decide_eq_true h1k, Bool.true_and] at hlead; exact hlead.symm
       have h1k' : (1 : Int) < (k : Int) := by omega
       clear hlead
       go_enter Tryd.func49, Tryd.ntmps49
       go_wp2_with (go_at_call 68; refine (HD.out _).mono ?_; rintro e w' ⟨rfl, rfl⟩)
       go_quiet (fail)
       replace hB := below_drewN hB nq
       generalize w.drewN nq = W1 at *
       go_wp2_with fail
       exact bodyPost_ret (v := .tuple #[.bool false, .string ⟨#[]⟩, .string ⟨#[]⟩, .bool false]) (by simp [results, Tryd.results49, go_sem]) rfl (FP.fail hdf.out hB)
      ·have h1k' : decide (1 < k) = false := decide_eq_false h1k
       clear hlead
       go_enter Tryd.func49, Tryd.ntmps49
       go_wp2_with (go_at_call 68; refine (HD.out _).mono ?_; rintro e w' ⟨rfl, rfl⟩)
       go_quiet (fail)
       replace hB := below_drewN hB nq
       generalize w.drewN nq = W1 at *
       go_wp2_with fail
       exact bodyPost_ret (v := .tuple #[.bool false, .string ⟨#[]⟩, .string ⟨#[]⟩, .bool false]) (by simp [results, Tryd.results49, go_sem]) rfl (FP.fail hdf.out hB)
     ·have hRe : R.isEmpty = false := by cases R with | nil => exact absurd rfl hR0 | cons _ _ => rfl
      by_cases hall : dgl R = R.length
      ·have hRd := dgl_dig_iff hall
       have hok : okD U = true := by rw [hUe, ← hrr, (okD_dot hWd).1, hdW, hl0, dgs_mk hR0 hRd]; rfl
       have hcw : cutW U = W ∧ cutR U = R := by rw [hUe, ← hrr]; exact (okD_dot hWd).2
       have hdf : Hid (dform l = (!(true && allZ (W ++ R)))) := Lib.hid (by rw [hmf, hok, show hasNZ U = !allZ (W ++ R) by rw [hUe, ← hrr]; exact hasNZ_dot hWd hRd]; cases allZ (W ++ R) <;> rfl)
       have hpart : Hid (dform l = true → true = ngL l ∧ (⟨W.toArray⟩ : ByteArray) = ⟨(cutW (unL l)).toArray⟩ ∧ (⟨R.toArray⟩ : ByteArray) = ⟨(cutR (unL l)).toArray⟩) := Lib.hid (fun _ => by rw [hng, hU, hcw.1, hcw.2]; exact ⟨rfl, rfl, rfl⟩)
       have hib : ∀ i h, ((⟨W.toArray⟩ : ByteArray) ++ ⟨R.toArray⟩)[i]'h = byt (W ++ R) i := fun i h => by
        have h2 : i < (W ++ R).length := by rw [ByteArray.size_append, Lib.size_mk, Lib.size_mk] at h; rw [List.length_append]; exact h
        unfold byt; rw [List.getD_eq_getElem?_getD, List.getElem?_eq_getElem h2]
        simp [ByteArray.getElem_eq_getElem_data, ByteArray.data_append]
       have HIB := Lib.hid hib
       rw [hall] at HD2
       obtain ⟨j, hj⟩ : ∃ j, R.length = j := ⟨_, rfl⟩
       rw [hj] at HD2 hrl hx3 hRl
       have HKK : Hid ((W ++ R).length = k + j) := Lib.hid (by rw [List.length_append, hkk, hj])
       have hov : ¬ 9223372036854775807 < k + j := by omega
       have hne : ((j : Int) != (j : Int)) = false := by simp
       clear hib hmf hUe hWd hng hU hok hcw hdW hl0 hall hRd hc hrr
       by_cases h1k : 1 < k
       ·have hc48 : ((c0.toNat : Int) == 48) = false := by rw [decide_eq_true h1k, Bool.true_and] at hlead; exact hlead.symm
        have h1k' : (1 : Int) < (k : Int) := by omega
        clear hlead
        go_enter Tryd.func49, Tryd.ntmps49
        go_wp2_with (go_at_call 68; refine (HD.out _).mono ?_; rintro e w' ⟨rfl, rfl⟩)
        go_quiet (fail)
        replace hB := below_drewN hB nq
        generalize w.drewN nq = W1 at *
        go_wp2_with (first | (go_at_call 68; first | ((with_reducible refine (HD.out _).mono ?_); rintro e w' ⟨rfl, rfl⟩) | ((with_reducible refine (HD2.out _).mono ?_); rintro e w' ⟨rfl, rfl⟩)))
        go_loopw [11, 12] (fun zv iv wr => ∃ i : Nat, i ≤ (k + j) ∧ iv = .int .i64 i ∧ zv = .bool (allZ ((W ++ R).take i)) ∧ W1 = wr) (fun _ iv _ => (k + j) - (intOf iv).toNat)
        case atStart => exact ⟨0, by omega, rfl, rfl, by first | rfl | trivial⟩
        case round =>
         obtain ⟨i, hi9, rfl, rfl, rfl⟩ := hrel
         by_cases hlt : i < (k + j)
         ·have hlt' : (i : Int) < (k : Int) + (j : Int) := by omega
          obtain ⟨b, hb⟩ : ∃ b, byt (W ++ R) i = b := ⟨_, rfl⟩
          have hcb : ∀ h, ((⟨W.toArray⟩ : ByteArray) ++ ⟨R.toArray⟩)[i]'h = b := fun h => (HIB.out i h).trans hb
          have HN : Hid (allZ ((W ++ R).take (i + 1)) = (allZ ((W ++ R).take i) && ((b.toNat : Int) == 48))) := Lib.hid (by
           rw [allZ_take (by rw [HKK.out]; exact hlt), hb]
           congr 1
           rw [Bool.eq_iff_iff]
           simp only [beq_iff_eq]
           constructor
           ·rintro rfl; rfl
           ·intro h; apply UInt8.toNat_inj.1; show b.toNat = 48; omega)
          cases hz0 : allZ ((W ++ R).take i)
          all_goals
           have HZ0 := Lib.hid hz0
           clear hz0 hb
           go_wp2_with fail
           go_roundw
           case rel => exact ⟨i + 1, by omega, by go_num, by rw [HN.out, HZ0.out]; rfl, by first | rfl | trivial⟩
           case measure => simp [intOf]; omega
         ·have hik : i = k + j := by omega
          subst hik
          have hge : decide ((k : Int) + (j : Int) < (k : Int) + (j : Int)) = false := by simp
          have htk : (W ++ R).take ((k + j)) = (W ++ R) := List.take_of_length_le (by rw [HKK.out]; exact Nat.le_refl _)
          rw [htk]
          obtain ⟨zz, hzz⟩ : ∃ zz, allZ ((W ++ R)) = zz := ⟨_, rfl⟩
          have hdf2 := hdf.out
          rw [hzz] at hdf2 ⊢
          have HDF2 := Lib.hid hdf2
          clear hdf hdf2 htk hzz
          go_wp2_with fail
          exact bodyPost_ret (v := .tuple #[.bool true, .string ⟨W.toArray⟩, .string ⟨R.toArray⟩, .bool (!(true && zz))]) (by simp [results, Tryd.results49, go_sem]) rfl ⟨true, ⟨W.toArray⟩, ⟨R.toArray⟩, by rw [HDF2.out], hpart.out, hB⟩
       ·have h1k' : decide (1 < k) = false := decide_eq_false h1k
        clear hlead
        go_enter Tryd.func49, Tryd.ntmps49
        go_wp2_with (go_at_call 68; refine (HD.out _).mono ?_; rintro e w' ⟨rfl, rfl⟩)
        go_quiet (fail)
        replace hB := below_drewN hB nq
        generalize w.drewN nq = W1 at *
        go_wp2_with (first | (go_at_call 68; first | ((with_reducible refine (HD.out _).mono ?_); rintro e w' ⟨rfl, rfl⟩) | ((with_reducible refine (HD2.out _).mono ?_); rintro e w' ⟨rfl, rfl⟩)))
        go_loopw [11, 12] (fun zv iv wr => ∃ i : Nat, i ≤ (k + j) ∧ iv = .int .i64 i ∧ zv = .bool (allZ ((W ++ R).take i)) ∧ W1 = wr) (fun _ iv _ => (k + j) - (intOf iv).toNat)
        case atStart => exact ⟨0, by omega, rfl, rfl, by first | rfl | trivial⟩
        case round =>
         obtain ⟨i, hi9, rfl, rfl, rfl⟩ := hrel
         by_cases hlt : i < (k + j)
         ·have hlt' : (i : Int) < (k : Int) + (j : Int) := by omega
          obtain ⟨b, hb⟩ : ∃ b, byt (W ++ R) i = b := ⟨_, rfl⟩
          have hcb : ∀ h, ((⟨W.toArray⟩ : ByteArray) ++ ⟨R.toArray⟩)[i]'h = b := fun h => (HIB.out i h).trans hb
          have HN : Hid (allZ ((W ++ R).take (i + 1)) = (allZ ((W ++ R).take i) && ((b.toNat : Int) == 48))) := Lib.hid (by
           rw [allZ_take (by rw [HKK.out]; exact hlt), hb]
           congr 1
           rw [Bool.eq_iff_iff]
           simp only [beq_iff_eq]
           constructor
           ·rintro rfl; rfl
           ·intro h; apply UInt8.toNat_inj.1; show b.toNat = 48; omega)
          cases hz0 : allZ ((W ++ R).take i)
          all_goals
           have HZ0 := Lib.hid hz0
           clear hz0 hb
           go_wp2_with fail
           go_roundw
           case rel => exact ⟨i + 1, by omega, by go_num, by rw [HN.out, HZ0.out]; rfl, by first | rfl | trivial⟩
           case measure => simp [intOf]; omega
         ·have hik : i = k + j := by omega
          subst hik
          have hge : decide ((k : Int) + (j : Int) < (k : Int) + (j : Int)) = false := by simp
          have htk : (W ++ R).take ((k + j)) = (W ++ R) := List.take_of_length_le (by rw [HKK.out]; exact Nat.le_refl _)
          rw [htk]
          obtain ⟨zz, hzz⟩ : ∃ zz, allZ ((W ++ R)) = zz := ⟨_, rfl⟩
          have hdf2 := hdf.out
          rw [hzz] at hdf2 ⊢
          have HDF2 := Lib.hid hdf2
          clear hdf hdf2 htk hzz
          go_wp2_with fail
          exact bodyPost_ret (v := .tuple #[.bool true, .string ⟨W.toArray⟩, .string ⟨R.toArray⟩, .bool (!(true && zz))]) (by simp [results, Tryd.results49, go_sem]) rfl ⟨true, ⟨W.toArray⟩, ⟨R.toArray⟩, by rw [HDF2.out], hpart.out, hB⟩
      ·have hno : dgs R = false := by
        cases h : dgs R
        ·rfl
        ·exact absurd (dgl_dig (dgs_is h).2) hall
       have hdf : Hid (dform l = false) := Lib.hid (by rw [hmf, hUe, ← hrr, (okD_dot hWd).1, hno, Bool.false_and, Bool.and_false, Bool.false_and])
       obtain ⟨d, hd⟩ : ∃ d, dgl R = d := ⟨_, rfl⟩
       rw [hd] at HD2 hall
       have hne : ((d : Int) != (R.length : Int)) = true := by simp; omega
       clear hmf hUe hWd hng hU hdW hl0 hno hd hc hrr
       by_cases h1k : 1 < k
       ·have hc48 : ((c0.toNat : Int) == 48) = false := by rw [decide_eq_true h1k, Bool.true_and] at hlead; exact hlead.symm
        have h1k' : (1 : Int) < (k : Int) := by omega
        clear hlead
        go_enter Tryd.func49, Tryd.ntmps49
        go_wp2_with (go_at_call 68; refine (HD.out _).mono ?_; rintro e w' ⟨rfl, rfl⟩)
        go_quiet (fail)
        replace hB := below_drewN hB nq
        generalize w.drewN nq = W1 at *
        go_wp2_with (first | (go_at_call 68; first | ((with_reducible refine (HD.out _).mono ?_); rintro e w' ⟨rfl, rfl⟩) | ((with_reducible refine (HD2.out _).mono ?_); rintro e w' ⟨rfl, rfl⟩)))
        exact bodyPost_ret (v := .tuple #[.bool false, .string ⟨#[]⟩, .string ⟨#[]⟩, .bool false]) (by simp [results, Tryd.results49, go_sem]) rfl (FP.fail hdf.out hB)
       ·have h1k' : decide (1 < k) = false := decide_eq_false h1k
        clear hlead
        go_enter Tryd.func49, Tryd.ntmps49
        go_wp2_with (go_at_call 68; refine (HD.out _).mono ?_; rintro e w' ⟨rfl, rfl⟩)
        go_quiet (fail)
        replace hB := below_drewN hB nq
        generalize w.drewN nq = W1 at *
        go_wp2_with (first | (go_at_call 68; first | ((with_reducible refine (HD.out _).mono ?_); rintro e w' ⟨rfl, rfl⟩) | ((with_reducible refine (HD2.out _).mono ?_); rintro e w' ⟨rfl, rfl⟩)))
        exact bodyPost_ret (v := .tuple #[.bool false, .string ⟨#[]⟩, .string ⟨#[]⟩, .bool false]) (by simp [results, Tryd.results49, go_sem]) rfl (FP.fail hdf.out hB)
    ·have hdf : Hid (dform l = false) := Lib.hid (by rw [hmf, hUe, okD_bad hWd hc h46, Bool.false_and])
     have hr0 : ∀ h, (⟨(c :: R).toArray⟩ : ByteArray)[0]'h = c := fun _ => rfl
     have hcn : ((c.toNat : Int) != 46) = true := by
      simp only [bne_iff_ne, ne_eq]
      intro e; apply h46; apply UInt8.toNat_inj.1; show c.toNat = 46; omega
     generalize hrr : (c :: R) = rest at *
     have hrl : rest.length = R.length + 1 := by rw [← hrr]; simp
     have hrl1 : (1 : Int) ≤ (rest.length : Int) := by omega
     clear hmf hUe hWd hng hU hdW hl0 hc h46 hrr
     by_cases h1k : 1 < k
     ·have hc48 : ((c0.toNat : Int) == 48) = false := by rw [decide_eq_true h1k, Bool.true_and] at hlead; exact hlead.symm
      have h1k' : (1 : Int) < (k : Int) := by omega
      clear hlead
      go_enter Tryd.func49, Tryd.ntmps49
      go_wp2_with (go_at_call 68; refine (HD.out _).mono ?_; rintro e w' ⟨rfl, rfl⟩)
      go_quiet (fail)
      replace hB := below_drewN hB nq
      generalize w.drewN nq = W1 at *
      go_wp2_with fail
      exact bodyPost_ret (v := .tuple #[.bool false, .string ⟨#[]⟩, .string ⟨#[]⟩, .bool false]) (by simp [results, Tryd.results49, go_sem]) rfl (FP.fail hdf.out hB)
     ·have h1k' : decide (1 < k) = false := decide_eq_false h1k
      clear hlead
      go_enter Tryd.func49, Tryd.ntmps49
      go_wp2_with (go_at_call 68; refine (HD.out _).mono ?_; rintro e w' ⟨rfl, rfl⟩)
      go_quiet (fail)
      replace hB := below_drewN hB nq
      generalize w.drewN nq = W1 at *
      go_wp2_with fail
      exact bodyPost_ret (v := .tuple #[.bool false, .string ⟨#[]⟩, .string ⟨#[]⟩, .bool false]) (by simp [results, Tryd.results49, go_sem]) rfl (FP.fail hdf.out hB)
  ·have hdf : Hid (dform l = false) := Lib.hid (by
    rw [hmf]
    rcases hrest with rfl | ⟨c, R, rfl, hc⟩
    ·rw [hUe, List.append_nil, (okD_all hWd).1, hl0, hdW]; rfl
    ·by_cases h46 : c = 46
     ·subst h46; rw [hUe, (okD_dot hWd).1, hl0, hdW, Bool.not_true, Bool.and_false, Bool.and_false, Bool.false_and]
     ·rw [hUe, okD_bad hWd hc h46]; rfl)
   rw [hl0] at hlead
   have h1k : 1 < k := by
    rcases Nat.lt_or_ge 1 k with h | h
    ·exact h
    ·rw [decide_eq_false (show ¬ 1 < k by omega), Bool.false_and] at hlead; cases hlead
   have hc48 : ((c0.toNat : Int) == 48) = true := by rw [decide_eq_true h1k, Bool.true_and] at hlead; exact hlead.symm
   have h1k' : (1 : Int) < (k : Int) := by omega
   clear hmf hrest hUe hWd hng hU hdW hl0 hlead
   go_enter Tryd.func49, Tryd.ntmps49
   go_wp2_with (go_at_call 68; refine (HD.out _).mono ?_; rintro e w' ⟨rfl, rfl⟩)
   go_quiet (fail)
   replace hB := below_drewN hB nq
   generalize w.drewN nq = W1 at *
   go_wp2_with fail
   exact bodyPost_ret (v := .tuple #[.bool false, .string ⟨#[]⟩, .string ⟨#[]⟩, .bool false]) (by simp [results, Tryd.results49, go_sem]) rfl (FP.fail hdf.out hB)
set_option maxRecDepth 20000 in
set_option maxHeartbeats 1600000 in
theorem rform_pos (l : List UInt8) (w : World) (hl : l.length ≤ 500) (hng : ngL l = false) (hU : unL l = l) (z : UInt8) (r : List UInt8) (hlz : l = z :: r) (hz45 : z ≠ 45) : Calls Tryd.prog 49 #[.string ⟨l.toArray⟩] w (FP l w) := by
 have hB := Below.refl w.heap.size w
 have hmf : dform l = (okD l && (!false || hasNZ l)) := by unfold dform; rw [hng, hU]
 have hul : l.length ≤ 500 := by exact hl
 have hdg := fun w => digits_any l w (by omega)
 obtain ⟨W, rest, hUe, hWd, hk, hrest⟩ := dig_cases l
 rw [hk] at hdg
 have HD := Lib.hid hdg
 have hn : l.length = W.length + rest.length := by rw [hUe]; simp
 have hx1 : (⟨l.toArray⟩ : ByteArray).extract 0 W.length = ⟨W.toArray⟩ := by rw [Lib.extract_mk, hUe]; simp
 have hx2 : (⟨l.toArray⟩ : ByteArray).extract W.length l.length = ⟨rest.toArray⟩ := by rw [Lib.extract_mk, hUe]; simp
 have hi : ∀ h, (⟨l.toArray⟩ : ByteArray)[0]'h = z := by subst hlz; exact fun _ => rfl
 have h0m : 0 < l.length := by rw [hlz]; simp
 have h0n : (0 : Int) < (l.length : Int) := by omega
 have hzn : ((z.toNat : Int) == 45) = false := by
  simp only [beq_eq_false_iff_ne, ne_eq]
  intro e; apply hz45; apply UInt8.toNat_inj.1; show z.toNat = 45; omega
 clear hlz hz45
 obtain ⟨k, hkk⟩ : ∃ k, W.length = k := ⟨_, rfl⟩
 obtain ⟨m, hmm⟩ : ∃ m, l.length = m := ⟨_, rfl⟩
 rw [hkk, hmm] at hn
 rw [hkk] at hx1 hx2 HD
 rw [hmm] at hx2
 have hkm : k ≤ m := by omega
 have hkm2 : (k : Int) ≤ (m : Int) := by omega
 have hm5 : m ≤ 500 := by omega
 have hk0 : (0 : Int) ≤ (k : Int) := by omega
 clear hn hdg hk
 by_cases hk1 : k = 0
 ·have hdf : Hid (dform l = false) := Lib.hid (by
   have hw : W = [] := List.eq_nil_of_length_eq_zero (by omega)
   rw [hmf]
   subst hw
   rcases hrest with rfl | ⟨c, R, rfl, hc⟩
   ·rw [hUe, List.append_nil, (okD_all (W := []) (by simp)).1]; rfl
   ·by_cases h46 : c = 46
    ·subst h46; rw [hUe, (okD_dot (W := []) (by simp)).1]; rfl
    ·rw [hUe, okD_bad (by simp) hc h46]; rfl)
  subst hk1
  clear hmf hrest hUe hWd hng hU
  go_enter Tryd.func49, Tryd.ntmps49
  go_wp2_with (go_at_call 68; refine (HD.out _).mono ?_; rintro e w' ⟨rfl, rfl⟩)
  go_quiet (fail)
  replace hB := below_drewN hB nq
  generalize w.drewN nq = W1 at *
  go_wp2_with fail
  exact bodyPost_ret (v := .tuple #[.bool false, .string ⟨#[]⟩, .string ⟨#[]⟩, .bool false]) (by simp [results, Tryd.results49, go_sem]) rfl (FP.fail hdf.out hB)
 ·have hk2 : (k == 0) = false := by simpa using hk1
  have hk3 : ((k : Int) == 0) = false := by simp; omega
  have hW0 : W ≠ [] := by rintro rfl; simp at hkk; omega
  have hdW : dgs W = true := dgs_mk hW0 hWd
  obtain ⟨c0, W', hWe⟩ := List.exists_cons_of_ne_nil hW0
  have hw0 : ∀ h, (⟨W.toArray⟩ : ByteArray)[0]'h = c0 := by subst hWe; exact fun _ => rfl
  have hlead : lead0 W = (decide (1 < k) && ((c0.toNat : Int) == 48)) := by
   unfold lead0
   rw [hkk, hWe]
   congr 1
   rw [Bool.eq_iff_iff]
   simp only [List.head?_cons, beq_iff_eq, Option.some.injEq]
   constructor
   ·rintro rfl; rfl
   ·intro h; apply UInt8.toNat_inj.1; show c0.toNat = 48; omega
  clear hWe hW0
  cases hl0 : lead0 W
  ·rw [hl0] at hlead
   rcases hrest with rfl | ⟨c, R, rfl, hc⟩
   ·have hok : okD l = true := by rw [hUe, List.append_nil, (okD_all hWd).1, hdW, hl0]; rfl
    have hcw : cutW l = W ∧ cutR l = [] := by rw [hUe, List.append_nil]; exact (okD_all hWd).2
    have hdf : Hid (dform l = (!(false && allZ W))) := Lib.hid (by rw [hmf, hok, show hasNZ l = !allZ W by rw [hUe, List.append_nil]; exact hasNZ_all hWd]; cases allZ W <;> rfl)
    have hpart : Hid (dform l = true → false = ngL l ∧ (⟨W.toArray⟩ : ByteArray) = ⟨(cutW (unL l)).toArray⟩ ∧ (⟨#[]⟩ : ByteArray) = ⟨(cutR (unL l)).toArray⟩) := Lib.hid (fun _ => by rw [hng, hU, hcw.1, hcw.2]; exact ⟨rfl, rfl, rfl⟩)
    have hib : ∀ i h, (⟨W.toArray⟩ : ByteArray)[i]'h = byt W i := fun i h => by
     have h2 : i < W.length := by rw [Lib.size_mk] at h; exact h
     unfold byt; rw [List.getD_eq_getElem?_getD, List.getElem?_eq_getElem h2]; rfl
    have HIB := Lib.hid hib
    have HKK := Lib.hid hkk
    clear hib hmf hUe hWd hng hU hok hcw hdW hl0
    by_cases h1k : 1 < k
    ·have hc48 : ((c0.toNat : Int) == 48) = false := by rw [decide_eq_true h1k, Bool.true_and] at hlead; exact hlead.symm
     have h1k' : (1 : Int) < (k : Int) := by omega
     clear hlead
     go_enter Tryd.func49, Tryd.ntmps49
     go_wp2_with (go_at_call 68; refine (HD.out _).mono ?_; rintro e w' ⟨rfl, rfl⟩)
     go_quiet (fail)
     replace hB := below_drewN hB nq
     generalize w.drewN nq = W1 at *
     go_wp2_with fail
     go_loopw [11, 12] (fun zv iv wr => ∃ i : Nat, i ≤ k ∧ iv = .int .i64 i ∧ zv = .bool (allZ (W.take i)) ∧ W1 = wr) (fun _ iv _ => k - (intOf iv).toNat)
     case atStart => exact ⟨0, by omega, rfl, rfl, by first | rfl | trivial⟩
     case round =>
      obtain ⟨i, hi9, rfl, rfl, rfl⟩ := hrel
      by_cases hlt : i < k
      ·have hlt' : (i : Int) < (k : Int) := by omega
       obtain ⟨b, hb⟩ : ∃ b, byt W i = b := ⟨_, rfl⟩
       have hcb : ∀ h, (⟨W.toArray⟩ : ByteArray)[i]'h = b := fun h => (HIB.out i h).trans hb
       have HN : Hid (allZ (W.take (i + 1)) = (allZ (W.take i) && ((b.toNat : Int) == 48))) := Lib.hid (by
        rw [allZ_take (by rw [HKK.out]; exact hlt), hb]
        congr 1
        rw [Bool.eq_iff_iff]
        simp only [beq_iff_eq]
        constructor
        ·rintro rfl; rfl
        ·intro h; apply UInt8.toNat_inj.1; show b.toNat = 48; omega)
       cases hz0 : allZ (W.take i)
       all_goals
        have HZ0 := Lib.hid hz0
        clear hz0 hb
        go_wp2_with fail
        go_roundw
        case rel => exact ⟨i + 1, by omega, by go_num, by rw [HN.out, HZ0.out]; rfl, by first | rfl | trivial⟩
        case measure => simp [intOf]; omega
      ·obtain rfl : k = i := by omega
       have hge : decide ((k : Int) < (k : Int)) = false := by simp
       have htk : W.take (k) = W := List.take_of_length_le (by rw [HKK.out]; exact Nat.le_refl _)
       rw [htk]
       obtain ⟨zz, hzz⟩ : ∃ zz, allZ (W) = zz := ⟨_, rfl⟩
       have hdf2 := hdf.out
       rw [hzz] at hdf2 ⊢
       have HDF2 := Lib.hid hdf2
       clear hdf hdf2 htk hzz
       go_wp2_with fail
       exact bodyPost_ret (v := .tuple #[.bool false, .string ⟨W.toArray⟩, .string ⟨#[]⟩, .bool (!(false && zz))]) (by simp [results, Tryd.results49, go_sem]) rfl ⟨false, ⟨W.toArray⟩, ⟨#[]⟩, by rw [HDF2.out], hpart.out, hB⟩
    ·have h1k' : decide (1 < k) = false := decide_eq_false h1k
     clear hlead
     go_enter Tryd.func49, Tryd.ntmps49
     go_wp2_with (go_at_call 68; refine (HD.out _).mono ?_; rintro e w' ⟨rfl, rfl⟩)
     go_quiet (fail)
     replace hB := below_drewN hB nq
     generalize w.drewN nq = W1 at *
     go_wp2_with fail
     go_loopw [11, 12] (fun zv iv wr => ∃ i : Nat, i ≤ k ∧ iv = .int .i64 i ∧ zv = .bool (allZ (W.take i)) ∧ W1 = wr) (fun _ iv _ => k - (intOf iv).toNat)
     case atStart => exact ⟨0, by omega, rfl, rfl, by first | rfl | trivial⟩
     case round =>
      obtain ⟨i, hi9, rfl, rfl, rfl⟩ := hrel
      by_cases hlt : i < k
      ·have hlt' : (i : Int) < (k : Int) := by omega
       obtain ⟨b, hb⟩ : ∃ b, byt W i = b := ⟨_, rfl⟩
       have hcb : ∀ h, (⟨W.toArray⟩ : ByteArray)[i]'h = b := fun h => (HIB.out i h).trans hb
       have HN : Hid (allZ (W.take (i + 1)) = (allZ (W.take i) && ((b.toNat : Int) == 48))) := Lib.hid (by
        rw [allZ_take (by rw [HKK.out]; exact hlt), hb]
        congr 1
        rw [Bool.eq_iff_iff]
        simp only [beq_iff_eq]
        constructor
        ·rintro rfl; rfl
        ·intro h; apply UInt8.toNat_inj.1; show b.toNat = 48; omega)
       cases hz0 : allZ (W.take i)
       all_goals
        have HZ0 := Lib.hid hz0
        clear hz0 hb
        go_wp2_with fail
        go_roundw
        case rel => exact ⟨i + 1, by omega, by go_num, by rw [HN.out, HZ0.out]; rfl, by first | rfl | trivial⟩
        case measure => simp [intOf]; omega
      ·obtain rfl : k = i := by omega
       have hge : decide ((k : Int) < (k : Int)) = false := by simp
       have htk : W.take (k) = W := List.take_of_length_le (by rw [HKK.out]; exact Nat.le_refl _)
       rw [htk]
       obtain ⟨zz, hzz⟩ : ∃ zz, allZ (W) = zz := ⟨_, rfl⟩
       have hdf2 := hdf.out
       rw [hzz] at hdf2 ⊢
       have HDF2 := Lib.hid hdf2
       clear hdf hdf2 htk hzz
       go_wp2_with fail
       exact bodyPost_ret (v := .tuple #[.bool false, .string ⟨W.toArray⟩, .string ⟨#[]⟩, .bool (!(false && zz))]) (by simp [results, Tryd.results49, go_sem]) rfl ⟨false, ⟨W.toArray⟩, ⟨#[]⟩, by rw [HDF2.out], hpart.out, hB⟩
   ·by_cases h46 : c = 46
    ·subst h46
     have hr0 : ∀ h, (⟨(46 :: R).toArray⟩ : ByteArray)[0]'h = 46 := fun _ => rfl
     have hx3 : (⟨(46 :: R).toArray⟩ : ByteArray).extract 1 (R.length + 1) = ⟨R.toArray⟩ := by rw [Lib.extract_mk]; simp
     have hRl : R.length ≤ 500 := by rw [hUe] at hul; simp at hul; omega
     have hd2 := fun w => digits_any R w (by omega)
     have HD2 := Lib.hid hd2
     clear hd2
     generalize hrr : (46 :: R) = rest at *
     have hrl : rest.length = R.length + 1 := by rw [← hrr]; simp
     by_cases hR0 : R = []
     ·have hdf : Hid (dform l = false) := Lib.hid (by rw [hmf, hUe, ← hrr, (okD_dot hWd).1, hR0, show dgs [] = false from rfl, Bool.false_and, Bool.and_false, Bool.false_and])
      subst hR0
      clear hmf hUe hWd hng hU hdW hl0 hc hrr
      by_cases h1k : 1 < k
      ·have hc48 : ((c0.toNat : Int) == 48) = false := by rw [decide_eq_true h1k, Bool.true_and] at hlead; exact hlead.symm
       have h1k' : (1 : Int) < (k : Int) := by omega
       clear hlead
       go_enter Tryd.func49, Tryd.ntmps49
       go_wp2_with (go_at_call 68; refine (HD.out _).mono ?_; rintro e w' ⟨rfl, rfl⟩)
       go_quiet (fail)
       replace hB := below_drewN hB nq
       generalize w.drewN nq = W1 at *
       go_wp2_with fail
       exact bodyPost_ret (v := .tuple #[.bool false, .string ⟨#[]⟩, .string ⟨#[]⟩, .bool false]) (by simp [results, Tryd.results49, go_sem]) rfl (FP.fail hdf.out hB)
      ·have h1k' : decide (1 < k) = false := decide_eq_false h1k
       clear hlead
       go_enter Tryd.func49, Tryd.ntmps49
       go_wp2_with (go_at_call 68; refine (HD.out _).mono ?_; rintro e w' ⟨rfl, rfl⟩)
       go_quiet (fail)
       replace hB := below_drewN hB nq
       generalize w.drewN nq = W1 at *
       go_wp2_with fail
       exact bodyPost_ret (v := .tuple #[.bool false, .string ⟨#[]⟩, .string ⟨#[]⟩, .bool false]) (by simp [results, Tryd.results49, go_sem]) rfl (FP.fail hdf.out hB)
     ·have hRe : R.isEmpty = false := by cases R with | nil => exact absurd rfl hR0 | cons _ _ => rfl
      by_cases hall : dgl R = R.length
      ·have hRd := dgl_dig_iff hall
       have hok : okD l = true := by rw [hUe, ← hrr, (okD_dot hWd).1, hdW, hl0, dgs_mk hR0 hRd]; rfl
       have hcw : cutW l = W ∧ cutR l = R := by rw [hUe, ← hrr]; exact (okD_dot hWd).2
       have hdf : Hid (dform l = (!(false && allZ (W ++ R)))) := Lib.hid (by rw [hmf, hok, show hasNZ l = !allZ (W ++ R) by rw [hUe, ← hrr]; exact hasNZ_dot hWd hRd]; cases allZ (W ++ R) <;> rfl)
       have hpart : Hid (dform l = true → false = ngL l ∧ (⟨W.toArray⟩ : ByteArray) = ⟨(cutW (unL l)).toArray⟩ ∧ (⟨R.toArray⟩ : ByteArray) = ⟨(cutR (unL l)).toArray⟩) := Lib.hid (fun _ => by rw [hng, hU, hcw.1, hcw.2]; exact ⟨rfl, rfl, rfl⟩)
       have hib : ∀ i h, ((⟨W.toArray⟩ : ByteArray) ++ ⟨R.toArray⟩)[i]'h = byt (W ++ R) i := fun i h => by
        have h2 : i < (W ++ R).length := by rw [ByteArray.size_append, Lib.size_mk, Lib.size_mk] at h; rw [List.length_append]; exact h
        unfold byt; rw [List.getD_eq_getElem?_getD, List.getElem?_eq_getElem h2]
        simp [ByteArray.getElem_eq_getElem_data, ByteArray.data_append]
       have HIB := Lib.hid hib
       rw [hall] at HD2
       obtain ⟨j, hj⟩ : ∃ j, R.length = j := ⟨_, rfl⟩
       rw [hj] at HD2 hrl hx3 hRl
       have HKK : Hid ((W ++ R).length = k + j) := Lib.hid (by rw [List.length_append, hkk, hj])
       have hov : ¬ 9223372036854775807 < k + j := by omega
       have hne : ((j : Int) != (j : Int)) = false := by simp
       clear hib hmf hUe hWd hng hU hok hcw hdW hl0 hall hRd hc hrr
       by_cases h1k : 1 < k
       ·have hc48 : ((c0.toNat : Int) == 48) = false := by rw [decide_eq_true h1k, Bool.true_and] at hlead; exact hlead.symm
        have h1k' : (1 : Int) < (k : Int) := by omega
        clear hlead
        go_enter Tryd.func49, Tryd.ntmps49
        go_wp2_with (go_at_call 68; refine (HD.out _).mono ?_; rintro e w' ⟨rfl, rfl⟩)
        go_quiet (fail)
        replace hB := below_drewN hB nq
        generalize w.drewN nq = W1 at *
        go_wp2_with (first | (go_at_call 68; first | ((with_reducible refine (HD.out _).mono ?_); rintro e w' ⟨rfl, rfl⟩) | ((with_reducible refine (HD2.out _).mono ?_); rintro e w' ⟨rfl, rfl⟩)))
        go_loopw [11, 12] (fun zv iv wr => ∃ i : Nat, i ≤ (k + j) ∧ iv = .int .i64 i ∧ zv = .bool (allZ ((W ++ R).take i)) ∧ W1 = wr) (fun _ iv _ => (k + j) - (intOf iv).toNat)
        case atStart => exact ⟨0, by omega, rfl, rfl, by first | rfl | trivial⟩
        case round =>
         obtain ⟨i, hi9, rfl, rfl, rfl⟩ := hrel
         by_cases hlt : i < (k + j)
         ·have hlt' : (i : Int) < (k : Int) + (j : Int) := by omega
          obtain ⟨b, hb⟩ : ∃ b, byt (W ++ R) i = b := ⟨_, rfl⟩
          have hcb : ∀ h, ((⟨W.toArray⟩ : ByteArray) ++ ⟨R.toArray⟩)[i]'h = b := fun h => (HIB.out i h).trans hb
          have HN : Hid (allZ ((W ++ R).take (i + 1)) = (allZ ((W ++ R).take i) && ((b.toNat : Int) == 48))) := Lib.hid (by
           rw [allZ_take (by rw [HKK.out]; exact hlt), hb]
           congr 1
           rw [Bool.eq_iff_iff]
           simp only [beq_iff_eq]
           constructor
           ·rintro rfl; rfl
           ·intro h; apply UInt8.toNat_inj.1; show b.toNat = 48; omega)
          cases hz0 : allZ ((W ++ R).take i)
          all_goals
           have HZ0 := Lib.hid hz0
           clear hz0 hb
           go_wp2_with fail
           go_roundw
           case rel => exact ⟨i + 1, by omega, by go_num, by rw [HN.out, HZ0.out]; rfl, by first | rfl | trivial⟩
           case measure => simp [intOf]; omega
         ·have hik : i = k + j := by omega
          subst hik
          have hge : decide ((k : Int) + (j : Int) < (k : Int) + (j : Int)) = false := by simp
          have htk : (W ++ R).take ((k + j)) = (W ++ R) := List.take_of_length_le (by rw [HKK.out]; exact Nat.le_refl _)
          rw [htk]
          obtain ⟨zz, hzz⟩ : ∃ zz, allZ ((W ++ R)) = zz := ⟨_, rfl⟩
          have hdf2 := hdf.out
          rw [hzz] at hdf2 ⊢
          have HDF2 := Lib.hid hdf2
          clear hdf hdf2 htk hzz
          go_wp2_with fail
          exact bodyPost_ret (v := .tuple #[.bool false, .string ⟨W.toArray⟩, .string ⟨R.toArray⟩, .bool (!(false && zz))]) (by simp [results, Tryd.results49, go_sem]) rfl ⟨false, ⟨W.toArray⟩, ⟨R.toArray⟩, by rw [HDF2.out], hpart.out, hB⟩
       ·have h1k' : decide (1 < k) = false := decide_eq_false h1k
        clear hlead
        go_enter Tryd.func49, Tryd.ntmps49
        go_wp2_with (go_at_call 68; refine (HD.out _).mono ?_; rintro e w' ⟨rfl, rfl⟩)
        go_quiet (fail)
        replace hB := below_drewN hB nq
        generalize w.drewN nq = W1 at *
        go_wp2_with (first | (go_at_call 68; first | ((with_reducible refine (HD.out _).mono ?_); rintro e w' ⟨rfl, rfl⟩) | ((with_reducible refine (HD2.out _).mono ?_); rintro e w' ⟨rfl, rfl⟩)))
        go_loopw [11, 12] (fun zv iv wr => ∃ i : Nat, i ≤ (k + j) ∧ iv = .int .i64 i ∧ zv = .bool (allZ ((W ++ R).take i)) ∧ W1 = wr) (fun _ iv _ => (k + j) - (intOf iv).toNat)
        case atStart => exact ⟨0, by omega, rfl, rfl, by first | rfl | trivial⟩
        case round =>
         obtain ⟨i, hi9, rfl, rfl, rfl⟩ := hrel
         by_cases hlt : i < (k + j)
         ·have hlt' : (i : Int) < (k : Int) + (j : Int) := by omega
          obtain ⟨b, hb⟩ : ∃ b, byt (W ++ R) i = b := ⟨_, rfl⟩
          have hcb : ∀ h, ((⟨W.toArray⟩ : ByteArray) ++ ⟨R.toArray⟩)[i]'h = b := fun h => (HIB.out i h).trans hb
          have HN : Hid (allZ ((W ++ R).take (i + 1)) = (allZ ((W ++ R).take i) && ((b.toNat : Int) == 48))) := Lib.hid (by
           rw [allZ_take (by rw [HKK.out]; exact hlt), hb]
           congr 1
           rw [Bool.eq_iff_iff]
           simp only [beq_iff_eq]
           constructor
           ·rintro rfl; rfl
           ·intro h; apply UInt8.toNat_inj.1; show b.toNat = 48; omega)
          cases hz0 : allZ ((W ++ R).take i)
          all_goals
           have HZ0 := Lib.hid hz0
           clear hz0 hb
           go_wp2_with fail
           go_roundw
           case rel => exact ⟨i + 1, by omega, by go_num, by rw [HN.out, HZ0.out]; rfl, by first | rfl | trivial⟩
           case measure => simp [intOf]; omega
         ·have hik : i = k + j := by omega
          subst hik
          have hge : decide ((k : Int) + (j : Int) < (k : Int) + (j : Int)) = false := by simp
          have htk : (W ++ R).take ((k + j)) = (W ++ R) := List.take_of_length_le (by rw [HKK.out]; exact Nat.le_refl _)
          rw [htk]
          obtain ⟨zz, hzz⟩ : ∃ zz, allZ ((W ++ R)) = zz := ⟨_, rfl⟩
          have hdf2 := hdf.out
          rw [hzz] at hdf2 ⊢
          have HDF2 := Lib.hid hdf2
          clear hdf hdf2 htk hzz
          go_wp2_with fail
          exact bodyPost_ret (v := .tuple #[.bool false, .string ⟨W.toArray⟩, .string ⟨R.toArray⟩, .bool (!(false && zz))]) (by simp [results, Tryd.results49, go_sem]) rfl ⟨false, ⟨W.toArray⟩, ⟨R.toArray⟩, by rw [HDF2.out], hpart.out, hB⟩
      ·have hno : dgs R = false := by
        cases h : dgs R
        ·rfl
        ·exact absurd (dgl_dig (dgs_is h).2) hall
       have hdf : Hid (dform l = false) := Lib.hid (by rw [hmf, hUe, ← hrr, (okD_dot hWd).1, hno, Bool.false_and, Bool.and_false, Bool.false_and])
       obtain ⟨d, hd⟩ : ∃ d, dgl R = d := ⟨_, rfl⟩
       rw [hd] at HD2 hall
       have hne : ((d : Int) != (R.length : Int)) = true := by simp; omega
       clear hmf hUe hWd hng hU hdW hl0 hno hd hc hrr
       by_cases h1k : 1 < k
       ·have hc48 : ((c0.toNat : Int) == 48) = false := by rw [decide_eq_true h1k, Bool.true_and] at hlead; exact hlead.symm
        have h1k' : (1 : Int) < (k : Int) := by omega
        clear hlead
        go_enter Tryd.func49, Tryd.ntmps49
        go_wp2_with (go_at_call 68; refine (HD.out _).mono ?_; rintro e w' ⟨rfl, rfl⟩)
        go_quiet (fail)
        replace hB := below_drewN hB nq
        generalize w.drewN nq = W1 at *
        go_wp2_with (first | (go_at_call 68; first | ((with_reducible refine (HD.out _).mono ?_); rintro e w' ⟨rfl, rfl⟩) | ((with_reducible refine (HD2.out _).mono ?_); rintro e w' ⟨rfl, rfl⟩)))
        exact bodyPost_ret (v := .tuple #[.bool false, .string ⟨#[]⟩, .string ⟨#[]⟩, .bool false]) (by simp [results, Tryd.results49, go_sem]) rfl (FP.fail hdf.out hB)
       ·have h1k' : decide (1 < k) = false := decide_eq_false h1k
        clear hlead
        go_enter Tryd.func49, Tryd.ntmps49
        go_wp2_with (go_at_call 68; refine (HD.out _).mono ?_; rintro e w' ⟨rfl, rfl⟩)
        go_quiet (fail)
        replace hB := below_drewN hB nq
        generalize w.drewN nq = W1 at *
        go_wp2_with (first | (go_at_call 68; first | ((with_reducible refine (HD.out _).mono ?_); rintro e w' ⟨rfl, rfl⟩) | ((with_reducible refine (HD2.out _).mono ?_); rintro e w' ⟨rfl, rfl⟩)))
        exact bodyPost_ret (v := .tuple #[.bool false, .string ⟨#[]⟩, .string ⟨#[]⟩, .bool false]) (by simp [results, Tryd.results49, go_sem]) rfl (FP.fail hdf.out hB)
    ·have hdf : Hid (dform l = false) := Lib.hid (by rw [hmf, hUe, okD_bad hWd hc h46, Bool.false_and])
     have hr0 : ∀ h, (⟨(c :: R).toArray⟩ : ByteArray)[0]'h = c := fun _ => rfl
     have hcn : ((c.toNat : Int) != 46) = true := by
      simp only [bne_iff_ne, ne_eq]
      intro e; apply h46; apply UInt8.toNat_inj.1; show c.toNat = 46; omega
     generalize hrr : (c :: R) = rest at *
     have hrl : rest.length = R.length + 1 := by rw [← hrr]; simp
     have hrl1 : (1 : Int) ≤ (rest.length : Int) := by omega
     clear hmf hUe hWd hng hU hdW hl0 hc h46 hrr
     by_cases h1k : 1 < k
     ·have hc48 : ((c0.toNat : Int) == 48) = false := by rw [decide_eq_true h1k, Bool.true_and] at hlead; exact hlead.symm
      have h1k' : (1 : Int) < (k : Int) := by omega
      clear hlead
      go_enter Tryd.func49, Tryd.ntmps49
      go_wp2_with (go_at_call 68; refine (HD.out _).mono ?_; rintro e w' ⟨rfl, rfl⟩)
      go_quiet (fail)
      replace hB := below_drewN hB nq
      generalize w.drewN nq = W1 at *
      go_wp2_with fail
      exact bodyPost_ret (v := .tuple #[.bool false, .string ⟨#[]⟩, .string ⟨#[]⟩, .bool false]) (by simp [results, Tryd.results49, go_sem]) rfl (FP.fail hdf.out hB)
     ·have h1k' : decide (1 < k) = false := decide_eq_false h1k
      clear hlead
      go_enter Tryd.func49, Tryd.ntmps49
      go_wp2_with (go_at_call 68; refine (HD.out _).mono ?_; rintro e w' ⟨rfl, rfl⟩)
      go_quiet (fail)
      replace hB := below_drewN hB nq
      generalize w.drewN nq = W1 at *
      go_wp2_with fail
      exact bodyPost_ret (v := .tuple #[.bool false, .string ⟨#[]⟩, .string ⟨#[]⟩, .bool false]) (by simp [results, Tryd.results49, go_sem]) rfl (FP.fail hdf.out hB)
  ·have hdf : Hid (dform l = false) := Lib.hid (by
    rw [hmf]
    rcases hrest with rfl | ⟨c, R, rfl, hc⟩
    ·rw [hUe, List.append_nil, (okD_all hWd).1, hl0, hdW]; rfl
    ·by_cases h46 : c = 46
     ·subst h46; rw [hUe, (okD_dot hWd).1, hl0, hdW, Bool.not_true, Bool.and_false, Bool.and_false, Bool.false_and]
     ·rw [hUe, okD_bad hWd hc h46]; rfl)
   rw [hl0] at hlead
   have h1k : 1 < k := by
    rcases Nat.lt_or_ge 1 k with h | h
    ·exact h
    ·rw [decide_eq_false (show ¬ 1 < k by omega), Bool.false_and] at hlead; cases hlead
   have hc48 : ((c0.toNat : Int) == 48) = true := by rw [decide_eq_true h1k, Bool.true_and] at hlead; exact hlead.symm
   have h1k' : (1 : Int) < (k : Int) := by omega
   clear hmf hrest hUe hWd hng hU hdW hl0 hlead
   go_enter Tryd.func49, Tryd.ntmps49
   go_wp2_with (go_at_call 68; refine (HD.out _).mono ?_; rintro e w' ⟨rfl, rfl⟩)
   go_quiet (fail)
   replace hB := below_drewN hB nq
   generalize w.drewN nq = W1 at *
   go_wp2_with fail
   exact bodyPost_ret (v := .tuple #[.bool false, .string ⟨#[]⟩, .string ⟨#[]⟩, .bool false]) (by simp [results, Tryd.results49, go_sem]) rfl (FP.fail hdf.out hB)
theorem dcform_any (l : List UInt8) (w : World) (hl : l.length ≤ 500) : Calls Tryd.prog 49 #[.string ⟨l.toArray⟩] w (FP l w) := by
 rcases sign_cases l with ⟨h1, h2⟩ | ⟨h1, h2⟩
 ·exact rform_neg l _ w hl h1 rfl h2
 ·rcases sign_head h1 with rfl | ⟨z, r, h3, h4⟩
  ·have hD := fun w => digits_any [] w (by simp)
   rw [show dgl [] = 0 from rfl] at hD
   have HD := Lib.hid hD
   have hB := Below.refl w.heap.size w
   have hdf : Hid (dform [] = false) := Lib.hid (by rfl)
   clear hD h1 h2
   go_enter Tryd.func49, Tryd.ntmps49
   go_wp2_with (go_at_call 68; refine (HD.out _).mono ?_; rintro e w' ⟨rfl, rfl⟩)
   go_quiet (fail)
   replace hB := below_drewN hB nq
   go_wp2_with fail
   exact bodyPost_ret (v := .tuple #[.bool false, .string ⟨#[]⟩, .string ⟨#[]⟩, .bool false]) (by simp [results, Tryd.results49, go_sem]) rfl (FP.fail hdf.out hB)
  ·exact rform_pos l w hl h1 h2.symm z r h3 h4
def roundE (a b m : Int) : Int := if modeB m then (if termB a && termB b then (if b = 0 then 10 else 0) else 2) else 1
def roundV (a b m : Int) : Int := if roundE a b m = 0 then rnd m a b else 0
set_option maxHeartbeats 1600000 in
theorem round_any (a b m : Int) (w : World) : Calls Tryd.prog 42 #[.int .i64 a, .int .i64 b, .int .i64 m] w fun e w' => e = .returned (.tuple #[.int .i64 (roundV a b m), .int .i64 (roundE a b m)]) ∧ Below w.heap.size w w' := by
 unfold roundV roundE
 cases hm : modeB m
 ·rw [if_neg (by simp), if_neg (by simp)]
  have hB := Below.refl w.heap.size w
  go_enter Tryd.func42, Tryd.ntmps42
  go_wp2_with (first | (go_at_call 56; refine (isMode_any _ _).mono ?_; rintro e w' ⟨rfl, hb⟩; replace hB := below_more hB hb; clear hb) | (go_at_call 57; refine (isTerm_any _ _).mono ?_; rintro e w' ⟨rfl, rfl⟩) | (go_at_call 58; refine (rounded_any _ _ _ _ (by omega) (by omega) (by omega) (by omega) (by omega) (by omega) (by omega)).mono ?_; rintro e w' ⟨rfl, hb⟩; replace hB := below_more hB hb; clear hb))
  go_ret2
  exact ⟨rfl, hB⟩
 ·rw [if_pos rfl]
  have hm2 := modeB_is hm
  obtain ⟨hm3, hm4⟩ := hm2
  cases ha : termB a
  ·rw [if_neg (by simp), if_neg (by simp)]
   have hB := Below.refl w.heap.size w
   go_enter Tryd.func42, Tryd.ntmps42
   go_wp2_with (first | (go_at_call 56; refine (isMode_any _ _).mono ?_; rintro e w' ⟨rfl, hb⟩; replace hB := below_more hB hb; clear hb) | (go_at_call 57; refine (isTerm_any _ _).mono ?_; rintro e w' ⟨rfl, rfl⟩) | (go_at_call 58; refine (rounded_any _ _ _ _ (by omega) (by omega) (by omega) (by omega) (by omega) (by omega) (by omega)).mono ?_; rintro e w' ⟨rfl, hb⟩; replace hB := below_more hB hb; clear hb))
   go_ret2
   exact ⟨rfl, hB⟩
  ·cases hb : termB b
   ·rw [if_neg (by simp), if_neg (by simp)]
    have hB := Below.refl w.heap.size w
    go_enter Tryd.func42, Tryd.ntmps42
    go_wp2_with (first | (go_at_call 56; refine (isMode_any _ _).mono ?_; rintro e w' ⟨rfl, hb⟩; replace hB := below_more hB hb; clear hb) | (go_at_call 57; refine (isTerm_any _ _).mono ?_; rintro e w' ⟨rfl, rfl⟩) | (go_at_call 58; refine (rounded_any _ _ _ _ (by omega) (by omega) (by omega) (by omega) (by omega) (by omega) (by omega)).mono ?_; rintro e w' ⟨rfl, hb⟩; replace hB := below_more hB hb; clear hb))
    go_ret2
    exact ⟨rfl, hB⟩
   ·rw [Bool.and_self, if_pos rfl]
    obtain ⟨ha3, ha4⟩ := termB_is ha
    obtain ⟨hb3, hb4⟩ := termB_is hb
    by_cases h0 : b = 0
    ·subst h0
     rw [if_pos rfl, if_neg (by decide)]
     have hB := Below.refl w.heap.size w
     go_enter Tryd.func42, Tryd.ntmps42
     go_wp2_with (first | (go_at_call 56; refine (isMode_any _ _).mono ?_; rintro e w' ⟨rfl, hb⟩; replace hB := below_more hB hb; clear hb) | (go_at_call 57; refine (isTerm_any _ _).mono ?_; rintro e w' ⟨rfl, rfl⟩) | (go_at_call 58; refine (rounded_any _ _ _ _ (by omega) (by omega) (by omega) (by omega) (by omega) (by omega) (by omega)).mono ?_; rintro e w' ⟨rfl, hb⟩; replace hB := below_more hB hb; clear hb))
     go_ret2
     exact ⟨rfl, hB⟩
    ·rw [if_neg h0, if_pos rfl]
     have h1 : (b == 0) = false := by simpa using h0
     have hB := Below.refl w.heap.size w
     go_enter Tryd.func42, Tryd.ntmps42
     go_wp2_with (first | (go_at_call 56; refine (isMode_any _ _).mono ?_; rintro e w' ⟨rfl, hb⟩; replace hB := below_more hB hb; clear hb) | (go_at_call 57; refine (isTerm_any _ _).mono ?_; rintro e w' ⟨rfl, rfl⟩) | (go_at_call 58; refine (rounded_any _ _ _ _ (by omega) (by omega) (by omega) (by omega) (by omega) (by omega) (by omega)).mono ?_; rintro e w' ⟨rfl, hb⟩; replace hB := below_more hB hb; clear hb))
     go_ret2
     exact ⟨rfl, hB⟩
theorem dig1234 : Lib.itoa (-1234) = [45, 49, 50, 51, 52] := by
 have h : Lib.decDigits 1234 = [49, 50, 51, 52] := by
  rw [Lib.decDigits, dif_neg (by decide), Lib.decDigits, dif_neg (by decide), Lib.decDigits, dif_neg (by decide), Lib.decDigits, dif_pos (by decide)]
  rfl
 show (if (-1234 : Int) < 0 then 45 :: Lib.decDigits 1234 else _) = _
 rw [if_pos (by decide), h]
theorem text1234 (w : World) (ht : DTab w.heap.size w) : Calls Tryd.prog 43 #[.int .i64 (-1234), .int .i64 2] w fun e w' => e = .returned (.string ⟨#[45, 49, 50, 46, 51, 52]⟩) ∧ Below w.heap.size w w' :=
 dtext_100 (-1234) [45, 49, 50, 51, 52] [49, 50, 51, 52] 2 w ht (by decide) dig1234 (by decide) (by decide) (by decide) (by decide) (by decide)
theorem round52 (w : World) : Calls Tryd.prog 42 #[.int .i64 (-5), .int .i64 2, .int .i64 0] w fun e w' => e = .returned (.tuple #[.int .i64 (-3), .int .i64 0]) ∧ Below w.heap.size w w' := by
 have h := round_any (-5) 2 0 w
 rw [show roundV (-5) 2 0 = -3 by decide, show roundE (-5) 2 0 = 0 by decide] at h
 exact h
set_option maxHeartbeats 800000 in
theorem dawake_any (w : World) (ht : DTab w.heap.size w) : Calls Tryd.prog 27 #[] w fun e w' => e = .returned (.bool true) ∧ Below w.heap.size w w' := by
 have HT := Lib.hid ht
 clear ht
 have hB := Below.refl w.heap.size w
 go_enter Tryd.func27, Tryd.ntmps27
 go_wp2_with (first | (go_at_call 42; refine (round52 _).mono ?_; rintro e w' ⟨rfl, hb⟩; replace hB := below_more hB hb; clear hb) | (go_at_call 43; refine (text1234 _ (DTab.up HT.out hB)).mono ?_; rintro e w' ⟨rfl, hb⟩; replace hB := below_more hB hb; clear hb))
 go_ret
 exact ⟨rfl, hB⟩
theorem numOf_app (a b : List UInt8) : numOf (a ++ b) = b.foldl (fun n c => 10 * n + (c.toNat - 48)) (numOf a) := by unfold numOf; rw [List.foldl_append]
theorem numOf_pre (a b : List UInt8) : numOf a ≤ numOf (a ++ b) := by rw [numOf_app]; exact fold_ge b _
theorem fold_pow (l : List UInt8) (n : Nat) : n * 10 ^ l.length ≤ l.foldl (fun n c => 10 * n + (c.toNat - 48)) n := by
 induction l generalizing n with
 | nil => simp
 | cons c t ih =>
  have := ih (10 * n + (c.toNat - 48))
  rw [List.length_cons, Nat.pow_succ]
  have e : n * (10 ^ t.length * 10) = 10 * n * 10 ^ t.length := by rw [Nat.mul_comm (10 ^ t.length), ← Nat.mul_assoc, Nat.mul_comm n]
  rw [e]
  exact Nat.le_trans (Nat.mul_le_mul_right _ (by omega)) this
theorem num_big {W : List UInt8} (hd : ∀ c ∈ W, isDig c = true) (h16 : 16 < W.length) (h0 : W.head? ≠ some 48) : 1000000000000000 < numOf W := by
 match W, hd, h16, h0 with
 | c :: t, hd, h16, h0 =>
  have hc := isDig_iff.1 (hd c (by simp))
  have h48 : c.toNat ≠ 48 := fun e => h0 (by
   have : c = 48 := by apply UInt8.toNat_inj.1; rw [e]; rfl
   simp [this])
  have h1 : numOf (c :: t) = t.foldl (fun n c => 10 * n + (c.toNat - 48)) (10 * 0 + (c.toNat - 48)) := rfl
  have h2 := fold_pow t (10 * 0 + (c.toNat - 48))
  have h3 : 10 ^ 16 ≤ 10 ^ t.length := Nat.pow_le_pow_right (by omega) (by simp at h16; omega)
  have h4 : 1 * 10 ^ t.length ≤ (10 * 0 + (c.toNat - 48)) * 10 ^ t.length := Nat.mul_le_mul_right _ (by omega)
  rw [h1]
  omega
theorem numOf_take {t : List UInt8} {i : Nat} (h : i < t.length) : numOf (t.take (i + 1)) = 10 * numOf (t.take i) + ((byt t i).toNat - 48) := by
 rw [take_byt h, numOf_snoc]
theorem numOf_take_le (t : List UInt8) (i : Nat) : numOf (t.take i) ≤ numOf t := by
 have := numOf_pre (t.take i) (t.drop i)
 rwa [List.take_append_drop] at this
theorem dform_parts {l : List UInt8} (h : dform l = true) : dgs (cutW (unL l)) = true ∧ (∀ c ∈ cutR (unL l), isDig c = true) ∧ ((cutW (unL l)).length ≤ 1 ∨ (cutW (unL l)).head? ≠ some 48) := by
 have hd := dform_dgs h
 refine ⟨hd.1, hd.2, ?_⟩
 unfold dform okD at h
 simp only [Bool.and_eq_true, Bool.not_eq_true', Bool.and_eq_false_iff, decide_eq_false_iff_not, beq_eq_false_iff_ne] at h
 rcases h.1.2.2 with h4 | h4
 ·left; omega
 ·right; exact h4
theorem valid_near {neg : Bool} {n k : Nat} (h : n ≤ 1000000000000000) (hk : k ≤ 9) : validB (sgZ neg n) k = true := by
 unfold validB sgZ scaleB
 cases neg <;> simp <;> omega
set_option maxRecDepth 20000 in
set_option maxHeartbeats 1600000 in
theorem rdparse_in (l : List UInt8) (k : Nat) (w : World) (hl : l.length ≤ 500) (hk : k ≤ 9) : Calls Tryd.prog 29 #[.string ⟨l.toArray⟩, .int .i64 (k : Int)] w fun e w' => e = .returned (.tuple #[.int .i64 (dcpV l k), .int .i64 (dcpE l k)]) ∧ Below w.heap.size w w' := by
 have hB := Below.refl w.heap.size w
 have hF := fun w => dcform_any l w hl
 have hk1 : decide ((k : Int) < 0) = false := decide_eq_false (by omega)
 have hk2 : decide (9 < (k : Int)) = false := decide_eq_false (by omega)
 cases hf : dform l
 ·have eV : dcpV l k = 0 := by unfold dcpV; rw [hf]; rfl
  have eE : dcpE l k = 3 := by unfold dcpE; rw [hf]; rfl
  have hF2 : ∀ w, Calls Tryd.prog 49 #[.string ⟨l.toArray⟩] w fun e w' => (∃ a b c, e = .returned (.tuple #[.bool a, .string b, .string c, .bool false])) ∧ Below w.heap.size w w' := fun w => (hF w).mono fun e w' ⟨a, b, c, h1, _, h3⟩ => ⟨⟨a, b, c, by rw [h1, hf]⟩, h3⟩
  rw [eV, eE]
  have HF := Lib.hid hF2
  clear hF hF2 hf eV eE
  go_enter Tryd.func29, Tryd.ntmps29
  go_wp2_with (go_at_call 49; refine (HF.out _).mono ?_; rintro e w1 ⟨⟨a, b, c, rfl⟩, hb⟩; replace hB := below_more hB hb; clear hb)
  go_ret2
  exact ⟨rfl, hB⟩
 ·obtain ⟨p1, p2, p3⟩ := dform_parts hf
  have hcl := cut_le (unL l)
  have hul := unL_le l
  obtain ⟨W, hW⟩ : ∃ W, cutW (unL l) = W := ⟨_, rfl⟩
  obtain ⟨R, hR⟩ : ∃ R, cutR (unL l) = R := ⟨_, rfl⟩
  obtain ⟨ng, hng⟩ : ∃ ng, ngL l = ng := ⟨_, rfl⟩
  have hF2 : ∀ w, Calls Tryd.prog 49 #[.string ⟨l.toArray⟩] w fun e w' => e = .returned (.tuple #[.bool ng, .string ⟨W.toArray⟩, .string ⟨R.toArray⟩, .bool true]) ∧ Below w.heap.size w w' := fun w => (hF w).mono fun e w' ⟨a, b, c, h1, h2, h3⟩ => by
   obtain ⟨g1, g2, g3⟩ := h2 hf
   rw [hng] at g1
   rw [hW] at g2
   rw [hR] at g3
   exact ⟨by rw [h1, hf, g1, g2, g3], h3⟩
  have eN : dcN l k = numOf (W ++ R ++ List.replicate (k - R.length) 48) := by unfold dcN; rw [hW, hR]
  have eV : dcpV l k = (if k < R.length then 0 else if validB (sgZ ng (dcN l k)) k = true then sgZ ng (dcN l k) else 0) := by unfold dcpV; rw [hf, hR, hng]; rfl
  have eE : dcpE l k = (if k < R.length then 2 else if validB (sgZ ng (dcN l k)) k = true then 0 else 2) := by unfold dcpE; rw [hf, hR, hng]; rfl
  rw [hW] at p1 p3 hcl
  rw [hR] at p2 hcl
  have HF := Lib.hid hF2
  obtain ⟨r, hr'⟩ : ∃ r, R.length = r := ⟨_, rfl⟩
  obtain ⟨m, hm⟩ : ∃ m, W.length = m := ⟨_, rfl⟩
  rw [hr'] at eV eE eN hcl
  rw [hm] at hcl
  clear hF hF2 hf hW hR hng
  by_cases hlt : k < r
  ·rw [if_pos hlt] at eV eE
   rw [eV, eE]
   clear eV eE eN p1 p2 p3
   go_enter Tryd.func29, Tryd.ntmps29
   go_wp2_with (go_at_call 49; refine (HF.out _).mono ?_; rintro e w1 ⟨rfl, hb⟩; replace hB := below_more hB hb; clear hb)
   go_ret2
   exact ⟨rfl, hB⟩
  ·rw [if_neg hlt] at eV eE
   have hlt2 : decide (k < r) = false := decide_eq_false hlt
   by_cases h16 : 16 < m
   ·have hno : validB (sgZ ng (dcN l k)) k = false := valid_far (by
     rw [eN, List.append_assoc]
     have hb := num_big (dgs_is p1).2 (by rw [hm]; exact h16) (by
      rcases p3 with p3 | p3
      ·omega
      ·exact p3)
     have := numOf_pre W (R ++ List.replicate (k - r) 48)
     omega)
    rw [hno, if_neg (by decide)] at eV eE
    rw [eV, eE]
    clear eV eE eN p1 p2 p3 hno
    go_enter Tryd.func29, Tryd.ntmps29
    go_wp2_with (go_at_call 49; refine (HF.out _).mono ?_; rintro e w1 ⟨rfl, hb⟩; replace hB := below_more hB hb; clear hb)
    go_ret2
    exact ⟨rfl, hB⟩
   ·have h16' : decide (16 < m) = false := decide_eq_false h16
    have HEV := Lib.hid eV
    have HEE := Lib.hid eE
    have HEN := Lib.hid eN
    have HP1 := Lib.hid p1
    have HP2 := Lib.hid p2
    have HR := Lib.hid hr'
    have HM := Lib.hid hm
    clear eV eE eN p1 p2 p3
    go_enter Tryd.func29, Tryd.ntmps29
    go_wp2_with (go_at_call 49; refine (HF.out _).mono ?_; rintro e w1 ⟨rfl, hb⟩; replace hB := below_more hB hb; clear hb)
    go_loop [8] (fun v => ∃ (i : Nat) (b : ByteArray), r + i ≤ k ∧ v = .string b ∧ Hid (b.data.toList = R ++ List.replicate i 48) ∧ b.size = r + i) (fun v => k - Lib.strSize v)
    case atStart => exact ⟨0, ⟨R.toArray⟩, by omega, rfl, Lib.hid (by simp), by rw [Lib.size_mk]; exact HR.out⟩
    case round =>
     obtain ⟨i, b, hi, rfl, hb, hbs⟩ := hrel
     by_cases hlt3 : r + i < k
     ·have hlt4 : (r : Int) + (i : Int) < (k : Int) := by omega
      have hov : ¬ 9223372036854775807 < r + i + 1 := by omega
      go_wp2_with fail
      go_round
      case rel => exact ⟨i + 1, b ++ ⟨#[48]⟩, by omega, rfl, Lib.hid (by rw [ByteArray.data_append, Array.toList_append, hb.out, List.replicate_succ', List.append_assoc]), by rw [ByteArray.size_append, hbs]; rfl⟩
      case measure =>
       show k - (b ++ ⟨#[48]⟩ : ByteArray).size < k - b.size
       rw [ByteArray.size_append, hbs]
       show k - (r + i + 1) < _
       omega
     ·obtain ⟨c, hc⟩ : ∃ c, k - r = c := ⟨_, rfl⟩
      obtain rfl : i = c := by omega
      have hki : r + i = k := by omega
      have hge : decide (r + i < k) = false := decide_eq_false (by omega)
      have hge2 : decide ((r : Int) + (i : Int) < (k : Int)) = false := decide_eq_false (by omega)
      rw [hki] at hbs
      have hkk : decide (k < k) = false := by simp
      obtain ⟨T, hT⟩ : ∃ T, W ++ R ++ List.replicate i 48 = T := ⟨_, rfl⟩
      have hEN := HEN.out
      rw [hc, hT] at hEN
      have hTl : T.length = m + k := by rw [← hT]; simp [HM.out, HR.out]; omega
      have hTd : ∀ c ∈ T, isDig c = true := by
       rw [← hT]
       have hz : ∀ x ∈ List.replicate i (48 : UInt8), isDig x = true := fun x hx => by rw [(List.mem_replicate.1 hx).2]; decide
       exact (dgs_is (dgs_more (dgs_more HP1.out HP2.out) hz)).2
      have hib : ∀ x h, ((⟨W.toArray⟩ : ByteArray) ++ b)[x]'h = byt T x := fun x h => by
       have e : (((⟨W.toArray⟩ : ByteArray) ++ b).data.toList) = T := by rw [ByteArray.data_append, Array.toList_append, hb.out, ← hT, List.append_assoc]
       have h2 : x < T.length := by rw [ByteArray.size_append, Lib.size_mk, hbs, HM.out] at h; omega
       unfold byt
       rw [List.getD_eq_getElem?_getD, List.getElem?_eq_getElem h2]
       show _ = T[x]
       have hg : ∀ (s : ByteArray) (h : x < s.size) (h3 : x < s.data.toList.length), s[x]'h = s.data.toList[x]'h3 := fun s h h3 => by simp; rfl
       rw [hg _ h (by rw [e]; exact h2)]
       simp only [e]
      have HIB := Lib.hid hib
      have HEN2 := Lib.hid hEN
      have HTL := Lib.hid hTl
      have HTD := Lib.hid hTd
      have hov : ¬ 9223372036854775807 < m + k := by omega
      clear hb hc hT hEN hTl hTd hib hlt3 hi hki hge hge2
      go_wp2_with fail
      go_loop [10, 11] (fun nv iv => ∃ i : Nat, i ≤ m + k ∧ iv = .int .i64 i ∧ nv = .int .i64 (numOf (T.take i) : Nat) ∧ numOf (T.take i) ≤ 1000000000000000) (fun _ iv => m + k - (intOf iv).toNat)
      case atStart => exact ⟨0, by omega, rfl, rfl, by simp [numOf]⟩
      case round =>
       obtain ⟨x, hx, rfl, rfl, hle⟩ := hrel
       by_cases hlt5 : x < m + k
       ·have hlt6 : (x : Int) < (m : Int) + (k : Int) := by omega
        obtain ⟨y, hy⟩ : ∃ y, byt T x = y := ⟨_, rfl⟩
        have hcb : ∀ h, ((⟨W.toArray⟩ : ByteArray) ++ b)[x]'h = y := fun h => (HIB.out x h).trans hy
        have hdy := HTD.out y (by
         rw [← hy]
         have h : x < T.length := by rw [HTL.out]; exact hlt5
         unfold byt; rw [List.getD_eq_getElem?_getD, List.getElem?_eq_getElem h]; exact List.getElem_mem h)
        obtain ⟨g1, g2⟩ := isDig_iff.1 hdy
        have hnx := numOf_take (t := T) (i := x) (by rw [HTL.out]; exact hlt5)
        rw [hy] at hnx
        have hpx := numOf_take_le T (x + 1)
        obtain ⟨n0, hn0⟩ : ∃ n0, numOf (T.take x) = n0 := ⟨_, rfl⟩
        obtain ⟨n1, hn1⟩ : ∃ n1, numOf (T.take (x + 1)) = n1 := ⟨_, rfl⟩
        rw [hn0] at hnx hle ⊢
        rw [hn1] at hnx hpx
        have HN1 := Lib.hid hn1
        obtain ⟨d, hd⟩ : ∃ d, y.toNat - 48 = d := ⟨_, rfl⟩
        have hd9 : d ≤ 9 := by omega
        have hbd : (y.toNat : Int) - 48 = (d : Int) := by omega
        have hw8 : IntKind.u8.wrap ((y.toNat : Int) - 48) = (d : Int) := by rw [IntKind.wrap_u8]; omega
        rw [hd] at hnx
        have hsum : 10 * (n0 : Int) + (d : Int) = (n1 : Int) := by omega
        by_cases hbig : 1000000000000000 < n1
        ·have hno : Hid (validB (sgZ ng (dcN l k)) k = false) := Lib.hid (valid_far (by rw [HEN2.out]; omega))
         have hbig' : (1000000000000000 : Int) < (n1 : Int) := by omega
         clear hdy hy hnx hpx hn0 hn1 hd g1 g2
         go_wp2_with fail
         go_ret2
         exact ⟨by rw [HEV.out, HEE.out, hno.out]; rfl, hB⟩
        ·have hbig' : decide ((1000000000000000 : Int) < (n1 : Int)) = false := decide_eq_false (by omega)
         have hn1l : n1 ≤ 1000000000000000 := by omega
         clear hdy hy hnx hpx hn0 hn1 hd g1 g2
         go_wp2_with fail
         go_round
         case rel => exact ⟨x + 1, by omega, by go_num, by rw [HN1.out], by rw [HN1.out]; exact hn1l⟩
         case measure => simp [intOf]; omega
       ·obtain ⟨mk, hmk⟩ : ∃ mk, m + k = mk := ⟨_, rfl⟩
        have hxx : x = m + k := by omega
        have htk : T.take x = T := List.take_of_length_le (by rw [HTL.out]; omega)
        rw [htk] at hle ⊢
        have hyes : Hid (validB (sgZ ng (dcN l k)) k = true) := Lib.hid (valid_near (by rw [HEN2.out]; exact hle) hk)
        obtain ⟨n0, hn0⟩ : ∃ n0, numOf T = n0 := ⟨_, rfl⟩
        have HN0 := Lib.hid hn0
        rw [hn0] at hle ⊢
        have hge5 : decide (x < m + k) = false := decide_eq_false (by omega)
        have hge6 : decide ((x : Int) < (m : Int) + (k : Int)) = false := decide_eq_false (by omega)
        have HSG : Hid (∀ b, ng = b → sgZ ng (dcN l k) = if b then -(n0 : Int) else (n0 : Int)) := Lib.hid (fun b h => by rw [HEN2.out, HN0.out, h]; cases b <;> rfl)
        clear hmk hxx htk hn0 hlt5
        cases hngc : ng
        all_goals
         subst hngc
         go_wp2_with fail
         go_ret2
         exact ⟨by rw [HEV.out, HEE.out, hyes.out, HSG.out _ rfl]; rfl, hB⟩
theorem rdparse_any (l : List UInt8) (sc : Int) (w : World) (hl : l.length ≤ 500) : Calls Tryd.prog 29 #[.string ⟨l.toArray⟩, .int .i64 sc] w fun e w' => e = .returned (.tuple #[.int .i64 (if scaleB sc = true then dcpV l sc.toNat else 0), .int .i64 (if scaleB sc = true then dcpE l sc.toNat else 1)]) ∧ Below w.heap.size w w' := by
 cases hs : scaleB sc
 ·have hB := Below.refl w.heap.size w
  unfold scaleB at hs
  by_cases h0 : sc < 0
  ·clear hs
   go_enter Tryd.func29, Tryd.ntmps29
   go_wp2_with fail
   go_ret2
   exact ⟨rfl, hB⟩
  ·have h9 : 9 < sc := by
    rw [decide_eq_true (show 0 ≤ sc by omega), Bool.true_and] at hs
    have := of_decide_eq_false hs
    omega
   have h0' : decide (sc < 0) = false := decide_eq_false h0
   clear hs h0
   go_enter Tryd.func29, Tryd.ntmps29
   go_wp2_with fail
   go_ret2
   exact ⟨rfl, hB⟩
 ·obtain ⟨h1, h2⟩ := scaleB_is hs
  have := rdparse_in l sc.toNat w hl (by omega)
  rw [show (sc.toNat : Int) = sc by omega] at this
  exact this
set_option maxRecDepth 20000 in
set_option maxHeartbeats 1600000 in
theorem law_dparse (s : ByteArray) (sc : Int) (w : World) (hm : MaxC w) (ht : DTab w.heap.size w) (hv : ErrC w) : Calls Tryd.prog 11 #[.string s, .int .i64 sc] w fun e w' => e = .returned (.bool true) ∧ Below w.heap.size w w' := by
 obtain ⟨l, hs⟩ : ∃ l : List UInt8, s = ⟨l.toArray⟩ := ⟨s.data.toList, by cases s; simp⟩
 subst hs
 have hB := Below.refl w.heap.size w
 have HT := Lib.hid ht
 have HM := Lib.hid hm
 have HV := Lib.hid hv
 clear ht hm hv
 by_cases hl : 60 < l.length
 ·have hl' : (60 : Int) < (l.length : Int) := by omega
  clear hl
  go_enter Tryd.func11, Tryd.ntmps11
  go_wp2_with (go_at_call 27; refine (dawake_any _ (DTab.up HT.out hB)).mono ?_; rintro e w' ⟨rfl, hb⟩; replace hB := below_more hB hb; clear hb)
  go_ret
  exact ⟨rfl, hB⟩
 ·have hl' : decide ((60 : Int) < (l.length : Int)) = false := decide_eq_false (by omega)
  have h1 := fun w a b => dparse_any l sc w a b (by omega)
  have h2 := fun w => rdparse_any l sc w (by omega)
  generalize (if scaleB sc = true then dcpV l sc.toNat else 0) = V at *
  generalize (if scaleB sc = true then dcpE l sc.toNat else 1) = E at *
  have H1 := Lib.hid h1
  have H2 := Lib.hid h2
  clear h1 h2 hl
  go_enter Tryd.func11, Tryd.ntmps11
  go_wp2_with (first | (go_at_call 27; refine (dawake_any _ (DTab.up HT.out hB)).mono ?_; rintro e w' ⟨rfl, hb⟩; replace hB := below_more hB hb; clear hb) | (go_at_call 29; refine (H2.out _).mono ?_; rintro e w' ⟨rfl, hb⟩; replace hB := below_more hB hb; clear hb) | (go_at_call 28; refine (H1.out _ (HM.out.up hB) (HV.out.up hB)).mono ?_; rintro e w' ⟨rfl, hb⟩; replace hB := below_more hB hb; clear hb))
  go_ret
  exact ⟨rfl, hB⟩
open Go.ChangeShapes Go.WideShapes Go.ChangeAt Go.WideMaps Go.WideElems Go.RowKit
theorem own : ownKnob Tryd.prog.godebug = none := by kernel_rfl
abbrev laidL : List (String × DataW Unit) := [("math/bits.deBruijn32tab", Rows.laid_math_bits_deBruijn32tab), ("math/bits.deBruijn64tab", Rows.laid_math_bits_deBruijn64tab), ("internal/strconv.uint64pow10", Rows.laid_internal_strconv_uint64pow10), ("unicode/utf8.acceptRanges", Rows.laid_unicode_utf8_acceptRanges), ("strconv.ErrRange", Rows.laid_strconv_ErrRange), ("strconv.ErrSyntax", Rows.laid_strconv_ErrSyntax), ("unicode/utf8.first", Rows.laid_unicode_utf8_first)]
theorem door_met (os : Os) (args : Array Value) : laidMetH Tryd.prog laidL ((World.laidAll Tryd.prog os laidL).forCall (fun _ _ => 0) ⟨#[], args, []⟩).memory := by
 rw [MakeChecks.laidMetH_plain _ _ _ (by kernel_rfl)]
 exact laidMet_laidAll _ (by kernel_rfl) (by kernel_rfl)
theorem pow_is : Rows.laid_internal_strconv_uint64pow10 (H := Unit) = Lib.tabData .u64 Lib.pow10Tab := by kernel_rfl
theorem tab_of_laid {W : World} (h : laidMetH Tryd.prog laidL W) : DTab W.heap.size W := by
 rw [MakeChecks.laidMetH_plain _ _ _ (by kernel_rfl)] at h
 obtain ⟨ps, ⟨g0, t0, cs0, f0, p0, q0, hg0, ht0, hv0, hd0, ⟨g1, t1, cs1, f1, p1, q1, hg1, ht1, hv1, hd1, ⟨g2, t2, cs2, f2, p2, q2, hg2, ht2, hv2, hd2, _, _⟩, _⟩, _⟩, _, _⟩ := h
 have hg : Tryd.prog.globalNamed "internal/strconv.uint64pow10" = some g2 := hg2
 have hgg : Tryd.prog.globalNamed "internal/strconv.uint64pow10" = some 3 := by kernel_rfl
 have hty : (Tryd.prog.globals[3]?).map (·.type) = some 117 := by kernel_rfl
 obtain rfl := Option.some.inj (hgg.symm.trans hg2)
 obtain rfl := Option.some.inj (hty.symm.trans ht2)
 refine Lib.tabBelow_of_tabIs ?_
 unfold Lib.TabIs
 rw [hv2]
 rw [pow_is] at hd2
 rw [← Lib.cells_of_tab Tryd.underlying117 Tryd.underlying88 (by kernel_rfl) (by kernel_rfl) hd2]
theorem err_star : "*" ++ "errors.errorString" = "*errors.errorString" := by decide
theorem row_err (u : TypeId) (h : Tryd.prog.typeName? 3 u = some "*errors.errorString") : u = 124 :=
 typeName_ptr_named (nm := "errors.errorString") (by rw [err_star]; kernel_rfl) (by kernel_rfl) (by decide) u (by rw [err_star]; exact h)
theorem errc_of_laid {W : World} (h : laidMetH Tryd.prog laidL W) : ErrC W := by
 rw [MakeChecks.laidMetH_plain _ _ _ (by kernel_rfl)] at h
 obtain ⟨a, s, hv, -⟩ := laid_sentinel h.tail.tail.tail.tail (g := 1) (ti := 46) (te := 126) (ts := 9) (by kernel_rfl) (by kernel_rfl) Tryd.underlying46 row_err Tryd.underlying124 Tryd.underlying126 rfl rfl Tryd.underlying9 (by kernel_rfl) (by kernel_rfl)
 refine ⟨.iface 124 (.pointer (some a)), ?_, .inr ⟨_, _, rfl⟩⟩
 have := World.var?_cell (P := Tryd.prog) (g := 1) (by kernel_rfl) hv 0
 simpa using this
theorem maxc_of_shaped {w : World} (h : w.ShapedOpen Tryd.prog) : MaxC w := cell_of_shapedOpen_int (zero := #[.int .i64 0]) (t := 3) h (of_decide_eq_true (by kernel_rfl)) (by kernel_rfl) rfl (by kernel_rfl) (by kernel_rfl) Tryd.underlying3
theorem lifted_shaped {H : Type} {enc : TypeId × Value → H} {a : Assume} {C : Checked} {os : Os} {f : FuncId} {fn : Func} {s : ChangeSpec} {conds : List PathCond} {apart fresh handsOn again : Bool} {X : World → Array Value → Prop}
  (hX : ∀ (w w' : World) (args : Array Value), w.heap = w'.heap → X w args → X w' args) (own : ownKnob C.prog.godebug = none) (started : os.Started) (noInit : C.prog.inits.idxOf? f = none) (hfn : C.prog.funcs[f]? = some fn)
  (witness : ∃ (w : World) (tape : Tape) (i : Input), w.os = os ∧ (w.forCall tape i).Shaped C.prog ∧ i.vars = [] ∧ Input.okWide C.prog (w.forCall tape i) .any w.heap.size f i ∧
   ((s.pre enc C.prog fn conds apart (w.forCall tape i).memory i.args ∧ X (w.forCall tape i).memory i.args) ∧ sizedMet enc C.prog fn (OpenSpec.ofChange s) apart (w.forCall tape i).memory i.args) ∧ a.holds C.prog (lone (Frame.enter C.prog f i.args .normal) [] (w.forCall tape i)))
  (contract : ∀ (W : World) (base : Nat) (args : Array Value) (ds gs : List (DataW H)) (before : List MemPlace), W.ShapedOpen C.prog →
   (∀ (j : Nat) t v, fn.params[j]? = some t → args[j]? = some v → Value.okWide C.prog W .any base t v) → DataW.Whole enc C.prog fn.params.toList s.vars apart W args.toList ds gs before → X W args →
   Calls C.prog f args W fun e W' => ∃ v, e = .returned v ∧ s.post enc C.prog fn apart fresh handsOn again W args v W') :
  ReturnsInHanded a C os f .any (fun w args => (s.pre enc C.prog fn conds apart w args ∧ X w args) ∧ sizedMet enc C.prog fn (OpenSpec.ofChange s) apart w args) (s.post enc C.prog fn apart fresh handsOn again) := by
 refine returnsInHanded_of_calls own started noInit witness fun w tape i _ hsh _ hok hpre _ => ?_
 obtain ⟨_, _, _, fn', hfn', _, _, _, _, hval⟩ := hok
 obtain rfl : fn' = fn := Option.some.inj (hfn'.symm.trans hfn)
 obtain ⟨⟨⟨ds, gs, before, hw, _⟩, hx⟩, _⟩ := hpre
 refine (contract (w.forCall tape i) w.heap.size i.args ds gs before hsh hval (DataW.Whole.of_heap (w' := w.forCall tape i) (by rfl) hw) (hX _ _ _ (by rfl) hx)).mono fun e W' ⟨v, he, hp⟩ => ?_
 subst he
 exact ChangeSpec.post_blind hp
theorem post_below {H : Type} {enc : TypeId × Value → H} {P : Program} {f : Func} {s : ChangeSpec} {ap fr ho ag : Bool} {W W' : World} {args : Array Value} {v : Value} {ds gs : List (DataW H)} {before pa pv : List MemPlace}
  (hW : DataW.Whole enc P f.params.toList s.vars ap W args.toList ds gs before)
  (hres : ∀ (b : Nat) (sp : Nat → Bool) (hd : Bool), DataW.TrodAll enc P W' b sp hd f.resultTypes.toList (v.resultList f.resultTypes.size) (s.fn H (ds ++ gs)).results [])
  (hargs : ∀ sp : Nat → Bool, (∀ p ∈ before, sp p.block = true) → DataW.TrodAll enc P W' 0 sp true f.params.toList args.toList (s.fn H (ds ++ gs)).args pa)
  (hvars : ∀ sp : Nat → Bool, (∀ p ∈ before, sp p.block = true) → DataW.TrodVars enc P W' sp s.vars (s.fn H (ds ++ gs)).vars pv)
  (hps : before = pa ++ pv) (hb : Below W.heap.size W W')
  (hok : ∀ (j : Nat) (t : TypeId) (r : Value), f.resultTypes[j]? = some t → (v.resultList f.resultTypes.size)[j]? = some r → Value.okWide P W' .any 0 t r) : s.post enc P f ap fr ho ag W args v W' := by
 have hlt : ∀ p ∈ before, p.block < W.heap.size := fun p hp => hW.lt p hp
 have hin : ∀ p ∈ before, (fun b => decide (b < W.heap.size)) p.block = true := fun p hp => by simpa using hlt p hp
 refine ⟨ds, gs, before, [], pa, pv, hW, hres _ _ _, hargs _ hin, hvars _ hin, World.keptBut_mono (fun p hp => ⟨hp, .inr (List.mem_append.1 (hps ▸ hp))⟩) (hb.frame (· ∈ before)), fun _ => ?_⟩
 obtain ⟨_, _, _, _, _, hz, hn⟩ := hW
 refine ⟨hok, _, _, ([] ++ pa) ++ pv, ⟨[] ++ pa, pv, trodAll_append (hargs _ (fun _ _ => rfl)) (hres _ _ _), hvars _ (fun _ _ => rfl), rfl, fun b off hp => ?_, fun ha => ?_⟩, ?_⟩
 ·have hbe : MemPlace.cell b off ∈ before := by rw [hps]; simpa using hp
  rw [hb.frozen (hlt _ hbe)]
  exact hz b off hbe
 ·have h9 := hn ha
  rw [hps] at h9
  simpa using h9
 ·intro p hp _
  rw [hps, ← List.nil_append pa]
  exact hp
theorem laid_out : laidOutB Tryd.prog = true := by kernel_rfl
theorem trodAll_stays {H : Type} {enc : TypeId × Value → H} {P : Program} (hl : laidOutB P = true) {W W' : World} (hb : Below W.heap.size W W') {sp : Nat → Bool} :
  ∀ {ts : List TypeId} {vs : List Value} {ds : List (DataW H)} {ps : List MemPlace}, (ts.all fun t => P.readableRec t && decide (t < P.types.size)) = true → DataW.TrodAll enc P W 0 (fun _ => true) true ts vs ds ps →
   (∀ x ∈ ps, x.block < W.heap.size) → (∀ x ∈ ps, sp x.block = true) → DataW.TrodAll enc P W' 0 sp true ts vs ds ps
 | [], vs, ds, ps, _, h, _, _ => by
  cases vs <;> cases ds <;> simp [DataW.TrodAll] at h ⊢
  exact h
 | t :: ts, vs, ds, ps, ht, h, hlt, hs => by
  obtain ⟨v, vs', d, ds', p, q, rfl, rfl, rfl, h1, h2⟩ := trodAll_cons h
  simp only [List.all_cons, Bool.and_eq_true, decide_eq_true_eq] at ht
  refine trodAll_cons_mk (WideElems.Trod_stays hl ht.1.1 ht.1.2 h1 (fun x hx => hb.same (hlt x (by simp [hx]))) fun x hx => hs x (by simp [hx])) ?_
  exact trodAll_stays hl hb ht.2 h2 (fun x hx => hlt x (by simp [hx])) fun x hx => hs x (by simp [hx])
end Go.Proofs.YthndbonfcdphgaaDoor
