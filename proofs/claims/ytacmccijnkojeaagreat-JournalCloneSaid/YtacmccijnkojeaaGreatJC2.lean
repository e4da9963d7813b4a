/- Contracts of the functions that the statements reach, part 2: what was proved of each, callees first. -/
import Derived.Maps.OwnSet
import Derived.WalkMore
import Derived.DeepKeys5
import Derived.WalkKit
import Derived.WalkSpells
import Derived.Lib.Hide
import Derived.Deep.QuietTactic
import Derived.BigQuiet
import Derived.LoopTactic
import Derived.Test.YtacmccijnkojeaaGreatJC1
namespace Go.Proofs.YtacmccijnkojeaaGreat
open Go.RowKit
theorem cmI_lt {x y : Int} (h : x < y) : cmI x y = -1 := by unfold cmI; rw [if_pos h]
theorem cmI_ge {x y : Int} (h : y ≤ x) : 0 ≤ cmI x y := by
 unfold cmI; rw [if_neg (by omega)]; split <;> omega
theorem cmI_eq {x : Int} : cmI x x = 0 := by unfold cmI; rw [if_neg (by omega), if_neg (by omega)]
theorem cmI_gt {x y : Int} (h : y < x) : cmI x y = 1 := by unfold cmI; rw [if_neg (by omega), if_pos h]
def FoundAt (L : List Acc) (c : Int) (i : Nat) : Prop := ∀ a, fnd L c = some a → i < L.length ∧ L.getD i acc0 = a
set_option maxRecDepth 20000 in
set_option maxHeartbeats 1600000 in
theorem cbin_any (A : Option Addr) (cp : Nat) (L : List Acc) (c : Int) (w : World) (hz : AccAt w A L) (hl : L.length ≤ 1000) (hs : Srt L) :
  Calls Tryz.prog 130 #[.slice A L.length cp, .int .i64 c, .func (.func 131) #[] #[]] w fun e w' => ∃ i : Nat, e = .returned (.tuple #[.int .i64 i, .bool (fnd L c).isSome]) ∧ FoundAt L c i ∧ Below w.heap.size w w' := by
 have hB := Below.refl w.heap.size w
 obtain ⟨n, hn⟩ : ∃ n, L.length = n := ⟨_, rfl⟩
 rw [hn] at hl ⊢
 have HN := Lib.hid hn
 have HZ := Lib.hid hz
 have HS := Lib.hid hs
 clear hn hz hs
 go_enter Tryz.func130, Tryz.ntmps130
 go_wp2_with fail
 go_loopg [9, 10] n (fun kx s9 s10 wr => ∃ lo hi : Nat, s9 = .int .i64 lo ∧ s10 = .int .i64 hi ∧ lo ≤ hi ∧ hi ≤ n ∧ hi - lo ≤ kx ∧ Hid (∀ t, t < lo → (L.getD t acc0).code < c) ∧ Hid (∀ t, hi ≤ t → t < n → c ≤ (L.getD t acc0).code) ∧ Below w.heap.size w wr)
 case atStart => exact ⟨0, n, rfl, rfl, Nat.zero_le _, Nat.le_refl _, by omega, Lib.hid (fun t ht => absurd ht (Nat.not_lt_zero _)), Lib.hid (fun t h1 h2 => by omega), hB⟩
 case round =>
  clear hB
  obtain ⟨lo, hi, rfl, rfl, hlh, hin, hg, HA, HC, hB⟩ := hrel
  by_cases hlt : lo < hi
  ·have hltz : (lo : Int) < (hi : Int) := by omega
   obtain ⟨m, hm⟩ : ∃ m : Nat, ((lo : Int) + (hi : Int)) / 2 = (m : Int) := ⟨(lo + hi) / 2, by omega⟩
   have hm1 : lo ≤ m := by omega
   have hm2 : m < hi := by omega
   have hmn : m < n := by omega
   have hmz : (m : Int) < (n : Int) := by omega
   obtain ⟨b, off, rfl, hbw, hcs⟩ := HZ.out (by rw [HN.out]; omega)
   obtain ⟨c0, c1, c2, c3⟩ := (hcs m (by rw [HN.out]; omega)).up hB hbw
   obtain ⟨x, hx⟩ : ∃ x, L.getD m acc0 = x := ⟨_, rfl⟩
   rw [hx] at c0 c1 c2 c3
   have HX := Lib.hid hx
   have hcm := fun w => cidx1_any x c w
   clear hx hcs
   rcases Int.lt_or_le x.code c with h1 | h1
   ·rw [cmI_lt h1] at hcm
    have HA2 : Hid (∀ t, t < m + 1 → (L.getD t acc0).code < c) := Lib.hid (fun t ht => by
     rcases Nat.lt_or_ge t m with h2 | h2
     ·have h3 := HS.out.mono t m h2 (by rw [HN.out]; omega)
      rw [HX.out] at h3; omega
     ·obtain rfl : t = m := by omega
      rw [HX.out]; exact h1)
    have HCM := Lib.hid hcm
    clear hcm h1
    go_wp2_with fail
    refine (HCM.out _).mono ?_
    rintro e w' ⟨rfl, hb⟩
    replace hB := below_more hB hb
    clear hb
    go_wp2_with fail
    go_roundg (hi - (m + 1))
    case measure => omega
    case rel => exact ⟨m + 1, hi, by go_num, rfl, by omega, hin, Nat.le_refl _, HA2, HC, hB⟩
   ·have h0 := cmI_ge h1
    generalize cmI x.code c = r at hcm h0
    have h2 : decide (r < 0) = false := decide_eq_false (by omega)
    have HC2 : Hid (∀ t, m ≤ t → t < n → c ≤ (L.getD t acc0).code) := Lib.hid (fun t ht hn => by
     rcases Nat.lt_or_ge m t with h2 | h2
     ·have h3 := HS.out.mono m t h2 (by rw [HN.out]; omega)
      rw [HX.out] at h3; omega
     ·obtain rfl : t = m := by omega
      rw [HX.out]; exact h1)
    have HCM := Lib.hid hcm
    clear hcm h1
    go_wp2_with fail
    refine (HCM.out _).mono ?_
    rintro e w' ⟨rfl, hb⟩
    replace hB := below_more hB hb
    clear hb
    go_wp2_with fail
    go_roundg (m - lo)
    case measure => omega
    case rel => exact ⟨lo, m, rfl, rfl, by omega, by omega, Nat.le_refl _, HA, HC2, hB⟩
  ·obtain rfl : lo = hi := by omega
   have hltz : ¬ (lo : Int) < (lo : Int) := by omega
   have hcut := HS.out.cut (c := c) (m := lo) (by rw [HN.out]; exact hin) HA.out (by rw [HN.out]; exact HC.out)
   rw [HN.out] at hcut
   clear HA HC
   rcases hcut with ⟨h1, h2, h3⟩ | ⟨h1 | ⟨h1, h2⟩, h3⟩
   ·obtain ⟨b, off, rfl, hbw, hcs⟩ := HZ.out (by rw [HN.out]; omega)
    obtain ⟨c0, c1, c2, c3⟩ := (hcs lo (by rw [HN.out]; exact h1)).up hB hbw
    obtain ⟨x, hx⟩ : ∃ x, L.getD lo acc0 = x := ⟨_, rfl⟩
    rw [hx] at c0 c1 c2 c3 h2 h3
    have HX := Lib.hid hx
    have H3 := Lib.hid h3
    have hcm := fun w => cidx1_any x c w
    rw [h2, cmI_eq] at hcm
    have HCM := Lib.hid hcm
    have h1z : (lo : Int) < (n : Int) := by omega
    have h1d : decide (lo < n) = true := decide_eq_true h1
    clear hx hcs h2 h3 hcm
    go_wp2_with fail
    refine (HCM.out _).mono ?_
    rintro e w' ⟨rfl, hb⟩
    replace hB := below_more hB hb
    clear hb
    go_wp2_with fail
    go_ret2
    exact ⟨lo, by rw [H3.out]; rfl, fun a ha => ⟨by rw [HN.out]; exact h1, by rw [H3.out] at ha; rw [HX.out]; injection ha⟩, hB⟩
   ·subst h1
    have H3 := Lib.hid h3
    have h1d : decide (lo < lo) = false := decide_eq_false (by omega)
    clear h3
    go_wp2_with fail
    go_ret2
    exact ⟨lo, by rw [H3.out]; rfl, fun a ha => (by rw [H3.out] at ha; cases ha), hB⟩
   ·obtain ⟨b, off, rfl, hbw, hcs⟩ := HZ.out (by rw [HN.out]; omega)
    obtain ⟨c0, c1, c2, c3⟩ := (hcs lo (by rw [HN.out]; exact h1)).up hB hbw
    obtain ⟨x, hx⟩ : ∃ x, L.getD lo acc0 = x := ⟨_, rfl⟩
    rw [hx] at c0 c1 c2 c3 h2
    have H3 := Lib.hid h3
    have hcm := fun w => cidx1_any x c w
    rw [cmI_gt h2] at hcm
    have HCM := Lib.hid hcm
    have h1z : (lo : Int) < (n : Int) := by omega
    have h1d : decide (lo < n) = true := decide_eq_true h1
    clear hx hcs h2 h3 hcm
    go_wp2_with fail
    refine (HCM.out _).mono ?_
    rintro e w' ⟨rfl, hb⟩
    replace hB := below_more hB hb
    clear hb
    go_wp2_with fail
    go_ret2
    exact ⟨lo, by rw [H3.out]; rfl, fun a ha => (by rw [H3.out] at ha; cases ha), hB⟩
theorem cidx_any (A : Option Addr) (cp : Nat) (L : List Acc) (c : Int) (w : World) (hz : AccAt w A L) (hl : L.length ≤ 1000) (hs : Srt L) :
  Calls Tryz.prog 118 #[.slice A L.length cp, .int .i64 c] w fun e w' => ∃ i : Nat, e = .returned (.tuple #[.int .i64 i, .bool (fnd L c).isSome]) ∧ FoundAt L c i ∧ Below w.heap.size w w' := by
 have h1 := cbin_any A cp L c w hz hl hs
 generalize (fnd L c).isSome = q at *
 have H1 := Lib.hid h1
 clear h1 hz hs
 go_enter Tryz.func118, Tryz.ntmps118
 go_wp2_with (go_at_call 130; refine H1.out.mono ?_; rintro e w' ⟨i, rfl, hf, hb⟩; replace hf := Lib.hid hf)
 go_ret2
 exact ⟨i, rfl, hf.out, hb⟩
theorem parB_zero {L : List Acc} {a : Acc} (h : a.par = 0) : parB L a = true := parB_is.2 (.inl h)
theorem parB_none {L : List Acc} {a : Acc} (h : a.par ≠ 0) (hf : fnd L a.par = none) : parB L a = false := by unfold parB; rw [decide_eq_false h, hf]; rfl
theorem parB_some {L : List Acc} {a p : Acc} (h : a.par ≠ 0) (hf : fnd L a.par = some p) : parB L a = decide (p.kind = a.kind) := by unfold parB; rw [decide_eq_false h, hf]; rfl
set_option maxRecDepth 20000 in
set_option maxHeartbeats 3200000 in
theorem hpar_any (A : Option Addr) (c : Nat) (L : List Acc) (w : World) (hz : AccAt w A L) (hl : L.length ≤ 1000) (hs : Srt L) :
    Calls Tryz.prog 103 #[.slice A L.length c] w fun e w' => e = .returned (.bool (parentsB L)) ∧ Below w.heap.size w w' := by
  have hB := Below.refl w.heap.size w
  have hI := fun y w h => cidx_any A c L y w h hl hs
  obtain ⟨n, hn⟩ : ∃ n, L.length = n := ⟨_, rfl⟩
  rw [hn] at hl hI ⊢
  have HN := Lib.hid hn
  have HZ := Lib.hid hz
  have HI := Lib.hid hI
  clear hn hz hI hs
  go_enter Tryz.func103, Tryz.ntmps103
  go_wp2_with fail
  go_loopg [9] n (fun kx s9 wr => ∃ k : Nat, s9 = .int .i64 k ∧ k ≤ n ∧ n - k ≤ kx ∧ Hid ((L.take k).all (parB L) = true) ∧ Below w.heap.size w wr)
  case atStart => exact ⟨0, rfl, by omega, by omega, Lib.hid rfl, hB⟩
  case round =>
    clear hB
    obtain ⟨k, rfl, hk, hkx, HC, hB⟩ := hrel
    by_cases hlt : k < n
    · have hltz : (k : Int) < (n : Int) := by omega
      have HZW := Lib.hid (HZ.out.up hB)
      obtain ⟨b, off, rfl, hbw, hcs⟩ := HZW.out (by rw [HN.out]; omega)
      obtain ⟨c0, c1, c2, c3⟩ := hcs k (by rw [HN.out]; exact hlt)
      obtain ⟨x, hx⟩ : ∃ x, L.getD k acc0 = x := ⟨_, rfl⟩
      rw [hx] at c0 c1 c2 c3
      have HX := Lib.hid hx
      have h9 := take_all_getD (d := acc0) (p := parB L) L k (by rw [HN.out]; exact hlt)
      rw [hx] at h9
      have H9 := Lib.hid h9
      have hno := fun h => all_false_getD (d := acc0) (p := parB L) (L := L) (k := k) (by rw [HN.out]; exact hlt) (by rw [hx]; exact h)
      have HNo := Lib.hid hno
      have HCS := Lib.hid hcs
      clear hx hcs h9 hno
      by_cases h0 : x.par = 0
      · have e0 : (x.par == 0) = true := by simp [h0]
        have HC2 : Hid ((L.take (k + 1)).all (parB L) = true) := Lib.hid (by rw [H9.out, HC.out, parB_zero h0]; rfl)
        clear h0
        go_wp2_with fail
        go_roundg (n - (k + 1))
        case measure => omega
        case rel => exact ⟨k + 1, by go_num, by omega, by omega, HC2, below_new hB _⟩
      · have e0 : (x.par == 0) = false := by simp [h0]
        have hB1 : Below w.heap.size w (wr.alloc (.cells #[.int .i64 x.code, .int .i64 x.kind, .int .i64 x.basis, .int .i64 x.par] 91)) := below_new hB _
        have HB1 := Lib.hid hB1
        have HAB := Lib.hid (ab_new wr 91 x)
        have hi := HI.out x.par (wr.alloc (.cells #[.int .i64 x.code, .int .i64 x.kind, .int .i64 x.basis, .int .i64 x.par] 91)) (HZ.out.up hB1)
        cases hf : fnd L x.par with
        | none =>
          have E : Hid (parentsB L = false) := Lib.hid (HNo.out (parB_none h0 hf))
          rw [hf] at hi
          have HI1 := Lib.hid hi
          clear hi hf h0 hB1
          go_wp2_with (go_at_call 118; refine HI1.out.mono ?_; rintro e w1 ⟨i, rfl, -, hb⟩; replace hB := below_more HB1.out hb; clear hb)
          go_quiet (fail)
          replace hB := below_drewN hB nq
          generalize World.drewN _ nq = W1 at *
          go_wp2_with fail
          go_ret
          exact ⟨by rw [E.out]; rfl, hB⟩
        | some p =>
          have E0 := parB_some h0 hf
          rw [hf] at hi
          have HFS := Lib.hid hf
          have HI1 := Lib.hid hi
          clear hi hf h0 hB1
          have e9 : (p.kind != x.kind) = !decide (p.kind = x.kind) := by rw [Bool.eq_iff_iff]; simp
          cases hq : decide (p.kind = x.kind)
          all_goals
            rw [hq] at E0 e9
            have EP := Lib.hid E0
            clear hq E0
            go_wp2_with (go_at_call 118; refine HI1.out.mono ?_; rintro e w1 ⟨i, rfl, hfa, hb⟩; obtain ⟨hil, hie⟩ := hfa _ HFS.out; have d4 := (HCS.out i hil).up (below_more (below_alloc_new _) hb) hbw; rw [hie] at d4; obtain ⟨d0, d1, d2, d3⟩ := d4; obtain ⟨⟨a0, a1, a2, a3⟩, alt, -⟩ := HAB.out.up hb; have hiz : (i : Int) < (n : Int) := (by rw [HN.out] at hil; omega); replace hB := below_more HB1.out hb; clear hb hfa hil hie)
            go_quiet (fail)
            replace hB := below_drewN hB nq
            generalize World.drewN _ nq = W1 at *
            go_wp2_with fail
            first
              | (have E : Hid (parentsB L = false) := Lib.hid (HNo.out EP.out)
                 go_ret
                 exact ⟨by rw [E.out]; rfl, hB⟩)
              | (have HC2 : Hid ((L.take (k + 1)).all (parB L) = true) := Lib.hid (by rw [H9.out, HC.out, EP.out]; rfl)
                 go_roundg (n - (k + 1))
                 case measure => omega
                 case rel => exact ⟨k + 1, by go_num, by omega, by omega, HC2, hB⟩)
    · obtain rfl : k = n := by omega
      have hltz : ¬ (k : Int) < (k : Int) := by omega
      have E : Hid (parentsB L = true) := Lib.hid (by have := HC.out; rwa [List.take_of_length_le (by rw [HN.out]; omega)] at this)
      go_wp2_with fail
      go_ret
      exact ⟨by rw [E.out]; rfl, hB⟩
open Go.RowKit Go.Maps
structure TO (L : List Acc) (s : Nat) (f : Int → Option Nat) (ks : List Int) : Prop where
 seen : ∀ c v, f c = some v → v < s ∧ Ends L c
 done : ∀ i, i < s → Ends L (L.getD i acc0).code
 keys : ∀ c, (f c).isSome = decide (c ∈ ks)
 nodup : ks.Nodup
 sub : ∀ c ∈ ks, c ∈ L.map Acc.code
structure TI (L : List Acc) (s : Nat) (a : Acc) (f : Int → Option Nat) (ks : List Int) : Prop where
 seen : ∀ c v, f c = some v → v ≤ s ∧ (v < s → Ends L c) ∧ (v = s → ∃ k, stepN L (k + 1) c = some a.code)
 done : ∀ i, i < s → Ends L (L.getD i acc0).code
 way : ∃ k, stepN L k (L.getD s acc0).code = some a.code
 mem : a ∈ L
 keys : ∀ c, (f c).isSome = decide (c ∈ ks)
 nodup : ks.Nodup
 sub : ∀ c ∈ ks, c ∈ L.map Acc.code
theorem TO.start {L : List Acc} : TO L 0 (fun _ => none) [] := ⟨fun c v h => (by cases h), fun i hi => (by omega), fun c => (by simp), List.nodup_nil, fun c h => (by cases h)⟩
theorem TO.enter {L : List Acc} {s : Nat} {f : Int → Option Nat} {ks : List Int} (h : TO L s f ks) (hs : s < L.length) : TI L s (L.getD s acc0) f ks :=
 ⟨fun c v hv => by obtain ⟨h1, h2⟩ := h.seen c v hv; exact ⟨by omega, fun _ => h2, fun e => by omega⟩, h.done, ⟨0, rfl⟩, getD_mem_acc hs, h.keys, h.nodup, h.sub⟩
theorem TI.ended {L : List Acc} {s : Nat} {a : Acc} {f : Int → Option Nat} {ks : List Int} (h : TI L s a f ks) (he : Ends L a.code) : TO L (s + 1) f ks := by
 refine ⟨fun c v hv => ?_, fun i hi => ?_, h.keys, h.nodup, h.sub⟩
 ·obtain ⟨h1, h2, h3⟩ := h.seen c v hv
  refine ⟨by omega, ?_⟩
  rcases Nat.lt_or_ge v s with h4 | h4
  ·exact h2 h4
  ·obtain ⟨k, hk⟩ := h3 (by omega)
   exact step_ends hk he
 ·rcases Nat.lt_or_ge i s with h4 | h4
  ·exact h.done i h4
  ·obtain rfl : i = s := by omega
   obtain ⟨k, hk⟩ := h.way
   exact step_ends hk he
theorem TI.top {L : List Acc} {s : Nat} {a : Acc} {f : Int → Option Nat} {ks : List Int} (h : TI L s a f ks) (hS : Srt L) (h0 : a.par = 0) : TO L (s + 1) f ks :=
 h.ended (ends_up (hS.fnd_mem h.mem) (by rw [h0]; exact ends_out hS.fnd_zero))
theorem TI.loop {L : List Acc} {s : Nat} {a : Acc} {f : Int → Option Nat} {ks : List Int} (h : TI L s a f ks) (hv : f a.code = some s) : topsB L = false := by
 obtain ⟨_, _, h3⟩ := h.seen _ _ hv
 obtain ⟨k, hk⟩ := h3 rfl
 unfold topsB
 rw [List.all_eq_false]
 refine ⟨a, h.mem, ?_⟩
 rw [topB_is]
 exact loop_no_end hk
theorem TI.old {L : List Acc} {s v : Nat} {a : Acc} {f : Int → Option Nat} {ks : List Int} (h : TI L s a f ks) (hv : f a.code = some v) (hne : v ≠ s) : TO L (s + 1) f ks := by
 obtain ⟨h1, h2, _⟩ := h.seen _ _ hv
 exact h.ended (h2 (by omega))
theorem TI.step {L : List Acc} {s : Nat} {a p : Acc} {f : Int → Option Nat} {ks : List Int} (h : TI L s a f ks) (hS : Srt L) (hv : f a.code = none) (hp : fnd L a.par = some p) :
  TI L s p (fun c => if c = a.code then some s else f c) (a.code :: ks) ∧ (a.code :: ks).length ≤ L.length := by
 obtain ⟨hpm, hpc⟩ := fnd_some hp
 have hfa := hS.fnd_mem h.mem
 have hn : a.code ∉ ks := fun hm => by have := h.keys a.code; rw [hv, decide_eq_true hm] at this; cases this
 have hnd : (a.code :: ks).Nodup := List.nodup_cons.2 ⟨hn, h.nodup⟩
 have hsub : ∀ c ∈ a.code :: ks, c ∈ L.map Acc.code := fun c hc => by
  rcases List.mem_cons.1 hc with rfl | hc
  ·exact List.mem_map.2 ⟨a, h.mem, rfl⟩
  ·exact h.sub c hc
 refine ⟨⟨fun c v hcv => ?_, h.done, ?_, hpm, fun c => ?_, hnd, hsub⟩, by simpa using nodup_subset_len hnd hsub⟩
 ·split at hcv
  ·rename_i hc
   injection hcv with hcv
   subst hcv
   refine ⟨Nat.le_refl _, fun h1 => by omega, fun _ => ⟨0, ?_⟩⟩
   rw [hc]; simp only [stepN, hfa]; rw [hpc]
  ·obtain ⟨h1, h2, h3⟩ := h.seen c v hcv
   refine ⟨h1, h2, fun e => ?_⟩
   obtain ⟨k, hk⟩ := h3 e
   exact ⟨k + 1, by rw [stepN_snoc hk hfa, hpc]⟩
 ·obtain ⟨k, hk⟩ := h.way
  exact ⟨k + 1, by rw [stepN_snoc hk hfa, hpc]⟩
 ·have := h.keys c
  split
  ·rename_i hc; simp [hc]
  ·rename_i hc; rw [this]; simp [hc]
theorem TO.all {L : List Acc} {f : Int → Option Nat} {ks : List Int} (h : TO L L.length f ks) : topsB L = true := by
 unfold topsB
 rw [all_getD (d := acc0)]
 intro i hi
 rw [topB_is]
 exact h.done i hi
theorem ti_keyed : Keyed Tryz.prog 3 := int_keyed Tryz.underlying3
theorem ti_zero (w : World) : (zeroValue 3).run Tryz.prog w = .ok (.int .i64 0) w := by kernel_rfl
def SeenM (w : World) (b n : Nat) (f : Int → Option Nat) : Prop := ∃ D : DataW Unit, w.ownsMap Tryz.prog 3 (plainElem Tryz.prog 3) b n D ∧ IsMap D ∧ ∀ c, Maps.has D (.int .i64 c) = (f c).isSome ∧ ∀ s : Nat, f c = some s → D.atKey (.int .i64 c) (.lit (.int .i64 0)) = .lit (.int .i64 (s : Int))
theorem SeenM.blk {w w' : World} {b n : Nat} {f : Int → Option Nat} (h : SeenM w b n f) (hk : w'.heap[b]? = w.heap[b]?) : SeenM w' b n f := by
 obtain ⟨D, ⟨es, clock, hb, rest⟩, h2⟩ := h
 exact ⟨D, ⟨es, clock, hk.trans hb, rest⟩, h2⟩
theorem SeenM.lt {w : World} {b n : Nat} {f : Int → Option Nat} (h : SeenM w b n f) : b < w.heap.size := by
 obtain ⟨D, h1, _⟩ := h
 exact h1.lt
theorem SeenM.up {w w' : World} {b n : Nat} {f : Int → Option Nat} (h : SeenM w b n f) (hb : Below w.heap.size w w') : SeenM w' b n f := h.blk (hb.block b h.lt)
theorem SeenM.made (w : World) : SeenM (w.alloc (.map #[] 0)) w.heap.size 0 (fun _ => none) :=
 ⟨.map [], World.ownsMap_made _ _ _ _, isMap_empty, fun c => ⟨rfl, fun s h => by cases h⟩⟩
theorem wpList_seen_look {w : World} {ops : Array Oper} {rest : List Oper} {o : Oper} {a : Act} {Q : Exit → Act → World → Prop} (hg : o.guard = none) (m x : Operand) (hop : o.op = Op.lookup 55 m x true)
  (b n : Nat) (f : Int → Option Nat) (hm : a.eval m = .map (some b)) (hs : SeenM w b n f) (c : Int) (hx : a.eval x = .int .i64 c) (hw : (Lit.int .i64 c).wf = true)
  (hK : ∀ v : Int, Hid (∀ s : Nat, f c = some s → v = (s : Int)) → wpList Tryz.prog ops Q rest (a.put o.dst (.tuple #[.int .i64 v, .bool (f c).isSome])) w) : wpList Tryz.prog ops Q (o :: rest) a w := by
 obtain ⟨D, h1, _, h3⟩ := hs
 refine wpList_lookup_own_ok_int w hg m x 55 hop 3 3 .i64 ti_keyed Tryz.underlying55 Tryz.underlying3 (ti_zero _) b n D hm h1 _ _ hx (keyOf_int_mk Tryz.underlying3 hw) ?_
 intro v hat _
 rw [(h3 c).1]
 refine hK v (Lib.hid fun s hs => ?_)
 have := (h3 c).2 s hs
 rw [hat] at this
 injection this with this
 injection this
theorem wpList_seen_put {w : World} {ops : Array Oper} {rest : List Oper} {o : Oper} {a : Act} {Q : Exit → Act → World → Prop} (hg : o.guard = none) (m x y : Operand) (hop : o.op = Op.mapUpdate 55 m x y)
  (b n : Nat) (f : Int → Option Nat) (hm : a.eval m = .map (some b)) (hs : SeenM w b n f) (c : Int) (s : Nat) (hx : a.eval x = .int .i64 c) (hy : a.eval y = .int .i64 (s : Int)) (hw : (Lit.int .i64 c).wf = true) (hw2 : (Lit.int .i64 (s : Int)).wf = true) (hn : n ≤ 1000000)
  (hK : ∀ w', Hid (SeenM w' b (n + 1) (fun x => if x = c then some s else f x)) → Hid (w.grownBy w' (some b)) → wpList Tryz.prog ops Q rest (a.put o.dst undef) w') : wpList Tryz.prog ops Q (o :: rest) a w := by
 obtain ⟨D, h1, h2, h3⟩ := hs
 refine wpList_mapUpdate_own w hg m x y 55 hop 3 3 ti_keyed Tryz.underlying55 (plainElem Tryz.prog 3) b n D hm h1 (by unfold maxLen; omega) _ _ _ hx hy (keyOf_int_mk Tryz.underlying3 hw) _ [] (plainElem_int Tryz.underlying3 hw2) ?_
 intro w' h4 h5
 refine hK w' (Lib.hid ⟨_, h4, h2.put _ _, fun x => ?_⟩) (Lib.hid h5)
 dsimp only
 have hkl : ∀ z : Int, WideAt.IsKeyLit (Lit.int .i64 z) := fun z => by simp [WideAt.IsKeyLit]
 by_cases hxc : x = c
 ·subst hxc
  rw [if_pos rfl]
  refine ⟨by rw [has_put_same h2 (hkl _)]; rfl, fun s' hs' => ?_⟩
  injection hs' with hs'
  subst hs'
  exact atKey_put_same h2 (hkl _) _ _
 ·rw [if_neg hxc]
  have hne : Lit.int .i64 x ≠ Lit.int .i64 c := fun e => hxc (by injection e)
  refine ⟨by rw [has_put_other hne]; exact (h3 x).1, fun s' hs' => ?_⟩
  rw [atKey_put_other hne]
  exact (h3 x).2 s' hs'
theorem wf64 {z : Int} (h1 : -9223372036854775808 ≤ z) (h2 : z ≤ 9223372036854775807) : (Lit.int .i64 z).wf = true := WalkArith.wf_i64 ⟨h1, h2⟩
theorem ab_set4 {w : World} {g : Nat} {a : Acc} (h : AB w g a) (p : Acc) : AB ((((w.setCell ⟨g, 0, none⟩ (.int .i64 p.code)).setCell ⟨g, 1, none⟩ (.int .i64 p.kind)).setCell ⟨g, 2, none⟩ (.int .i64 p.basis)).setCell ⟨g, 3, none⟩ (.int .i64 p.par)) g p := by
 have hc : ∀ (w : World) (i j : Nat) (v u : Value), w.cell? ⟨g, i, none⟩ = some u → (w.setCell ⟨g, j, none⟩ v).cell? ⟨g, i, none⟩ = if i = j then some v else some u := by
  intro w i j v u hu
  split
  ·rename_i e; subst e; exact World.cell?_setCell_same w _ v hu
  ·rename_i e; rw [World.cell?_setCell_other w _ _ v (fun h => e (by injection h with _ h2; exact h2.symm))]; exact hu
 have z0 := h.cells.c0
 have z1 := h.cells.c1
 have z2 := h.cells.c2
 have z3 := h.cells.c3
 simp only [Nat.zero_add] at z1 z2 z3
 have hf : ∀ (w : World) (p : Addr) (v : Value) (i : Nat), (w.setCell p v).frozen? ⟨g, i, none⟩ = w.frozen? ⟨g, i, none⟩ := fun w p v i => World.frozen?_setCell w p _ v
 refine ⟨⟨?_, ?_, ?_, ?_⟩, by simpa [World.setCell] using h.lt, fun i => by rw [hf, hf, hf, hf]; exact h.fz i⟩
 ·rw [hc _ 0 3 _ _ (hc _ 0 2 _ _ (hc _ 0 1 _ _ (hc _ 0 0 _ _ z0)))]; rfl
 ·rw [Nat.zero_add, hc _ 1 3 _ _ (hc _ 1 2 _ _ (hc _ 1 1 _ _ (hc _ 1 0 _ _ z1)))]; rfl
 ·rw [Nat.zero_add, hc _ 2 3 _ _ (hc _ 2 2 _ _ (hc _ 2 1 _ _ (hc _ 2 0 _ _ z2)))]; rfl
 ·rw [Nat.zero_add, hc _ 3 3 _ _ (hc _ 3 2 _ _ (hc _ 3 1 _ _ (hc _ 3 0 _ _ z3)))]; rfl
theorem bset4 {B : Nat} {w0 w1 : World} {g : Nat} (h : Below B w0 w1) (hg : B ≤ g) (a b c d : Value) : Below B w0 ((((w1.setCell ⟨g, 0, none⟩ a).setCell ⟨g, 1, none⟩ b).setCell ⟨g, 2, none⟩ c).setCell ⟨g, 3, none⟩ d) :=
 Below.setCell (p := ⟨g, 3, none⟩) (Below.setCell (p := ⟨g, 2, none⟩) (Below.setCell (p := ⟨g, 1, none⟩) (Below.setCell (p := ⟨g, 0, none⟩) h hg a) hg b) hg c) hg d
set_option maxRecDepth 20000 in
set_option maxHeartbeats 1600000 in
theorem cfind_any (A : Option Addr) (cp : Nat) (L : List Acc) (c : Int) (w : World) (hz : AccAt w A L) (hl : L.length ≤ 1000) :
  Calls Tryz.prog 105 #[.slice A L.length cp, .int .i64 c] w fun e w' => e = .returned (.tuple #[accV (fndA L c), .bool (fnd L c).isSome]) ∧ Below w.heap.size w w' := by
 have hB := below_alloc_new (w := w) (.cells #[.int .i64 acc0.code, .int .i64 acc0.kind, .int .i64 acc0.basis, .int .i64 acc0.par] 91)
 have hA4 := ab_new w 91 acc0
 obtain ⟨n, hn⟩ : ∃ n, L.length = n := ⟨_, rfl⟩
 obtain ⟨s0, hs0⟩ : ∃ s0, w.heap.size = s0 := ⟨_, rfl⟩
 rw [hn] at hl ⊢
 rw [hs0] at hB hA4 ⊢
 have HN := Lib.hid hn
 have HZ := Lib.hid hz
 have HS0 := Lib.hid hs0
 have HA := Lib.hid hA4
 clear hn hz hA4
 go_enter Tryz.func105, Tryz.ntmps105
 go_wp2_with fail
 go_loopg [10] n (fun kx s10 wr => ∃ k : Nat, s10 = .int .i64 k ∧ k ≤ n ∧ n - k ≤ kx ∧ Hid (fnd (L.take k) c = none) ∧ Hid (AB wr s0 acc0) ∧ Below s0 w wr)
 case atStart => exact ⟨0, rfl, by omega, by omega, Lib.hid (by rw [List.take_zero]; rfl), HA, hB⟩
 case round =>
  clear hB HA
  obtain ⟨k, rfl, hk, hkx, HF, HA, hB⟩ := hrel
  by_cases hlt : k < n
  ·have hltz : (k : Int) < (n : Int) := by omega
   obtain ⟨b, off, rfl, hbw, hcs⟩ := HZ.out (by rw [HN.out]; omega)
   obtain ⟨c0, c1, c2, c3⟩ := (hcs k (by rw [HN.out]; exact hlt)).up hB (by have := HS0.out; omega)
   obtain ⟨x, hx⟩ : ∃ x, L.getD k acc0 = x := ⟨_, rfl⟩
   rw [hx] at c0 c1 c2 c3
   have HX := Lib.hid hx
   have hf := fnd_take_succ (L := L) (c := c) (k := k) (by rw [HN.out]; exact hlt) HF.out
   rw [hx] at hf
   have HA1 := Lib.hid (HA.out.up (below_alloc_new (.cells #[.int .i64 x.code, .int .i64 x.kind, .int .i64 x.basis, .int .i64 x.par] 91)))
   clear hx hcs
   by_cases he : x.code = c
   ·rw [if_pos he] at hf
    have hf2 := fnd_take hf
    have e1 : Hid (fndA L c = x) := Lib.hid (by unfold fndA; rw [hf2]; rfl)
    have e2 : Hid ((fnd L c).isSome = true) := Lib.hid (by rw [hf2]; rfl)
    have e3 : (x.code == c) = true := by simp [he]
    obtain ⟨⟨z0, z1, z2, z3⟩, zlt, zf⟩ := HA.out
    have zf0 := zf 0
    have zf1 := zf 1
    have zf2 := zf 2
    have zf3 := zf 3
    simp only [Nat.zero_add] at z1 z2 z3
    clear zf
    clear hf hf2 he
    go_wp2_with fail
    rw [e1.out, e2.out]
    exact bodyPost_ret (v := .tuple #[accV x, .bool true]) (by simp [results, Tryz.results105, go_sem, z0, z1, z2, z3, zlt]) rfl ⟨rfl, (bset4 hB (Nat.le_refl _) _ _ _ _).alloc (by have := hB.size; have := HS0.out; simp; omega) _⟩
   ·rw [if_neg he] at hf
    have HF2 := Lib.hid hf
    have e3 : (x.code == c) = false := by simp [he]
    clear hf he
    go_wp2_with fail
    go_roundg (n - (k + 1))
    case measure => omega
    case rel => exact ⟨k + 1, by go_num, by omega, by omega, HF2, HA1, hB.trans ((below_alloc_new _).mono (by have := hB.size; have := HS0.out; omega))⟩
  ·obtain rfl : k = n := by omega
   have hltz : ¬ (k : Int) < (k : Int) := by omega
   have hf := HF.out
   rw [List.take_of_length_le (by rw [HN.out]; omega)] at hf
   have e1 : Hid (fndA L c = acc0) := Lib.hid (by unfold fndA; rw [hf]; rfl)
   have e2 : Hid ((fnd L c).isSome = false) := Lib.hid (by rw [hf]; rfl)
   obtain ⟨⟨z0, z1, z2, z3⟩, zlt, zf⟩ := HA.out
   have zf0 := zf 0
   have zf1 := zf 1
   have zf2 := zf 2
   have zf3 := zf 3
   simp only [Nat.zero_add] at z1 z2 z3
   clear zf
   clear hf
   go_wp2_with fail
   rw [e1.out, e2.out]
   exact bodyPost_ret (v := .tuple #[accV acc0, .bool false]) (by simp [results, Tryz.results105, go_sem, z0, z1, z2, z3]) rfl ⟨rfl, bset4 hB (Nat.le_refl _) _ _ _ _⟩
theorem codesB_wf {L : List Acc} (h : codesB L = true) {a : Acc} (ha : a ∈ L) : 1 ≤ a.code ∧ a.code ≤ 99999 := by
 have hs := codesB_srt h
 obtain ⟨i, hi, rfl⟩ := mem_getD_acc (d := acc0) ha
 refine ⟨hs.pos i hi, ?_⟩
 unfold codesB at h
 rw [Bool.and_eq_true, decide_eq_true_eq] at h
 obtain ⟨n, hn⟩ : ∃ n, L.length = n + 1 := ⟨L.length - 1, by omega⟩
 have h2 := h.2
 rw [hn, lastC_succ] at h2
 rcases Nat.lt_or_ge i n with h3 | h3
 ·have := hs.mono i n h3 (by omega); omega
 ·obtain rfl : i = n := by omega
  exact h2
theorem parentsB_fnd {L : List Acc} (h : parentsB L = true) {a : Acc} (ha : a ∈ L) (h0 : a.par ≠ 0) : ∃ p, fnd L a.par = some p := by
 unfold parentsB at h
 rw [List.all_eq_true] at h
 rcases parB_is.1 (h a ha) with h1 | ⟨p, h1, _⟩
 ·exact absurd h1 h0
 ·exact ⟨p, h1⟩
structure TW (w W : World) (s0 g mb n : Nat) (a : Acc) (f : Int → Option Nat) (m : Nat) : Prop where
 box : AB W g a
 map : SeenM W mb m f
 below : Below s0 w W
 gs : s0 ≤ g
 ms : s0 ≤ mb
 ne : g ≠ mb
 m1 : m ≤ 1000
set_option maxRecDepth 20000 in
set_option maxHeartbeats 3200000 in
theorem htops_any (A : Option Addr) (cp : Nat) (L : List Acc) (w : World) (hz : AccAt w A L) (hl : L.length ≤ 1000) (hc : codesB L = true) (hp : parentsB L = true) :
  Calls Tryz.prog 104 #[.slice A L.length cp] w fun e w' => e = .returned (.bool (topsB L)) ∧ Below w.heap.size w w' := by
 have hS := codesB_srt hc
 have hI := fun y w h => cidx_any A cp L y w h hl hS
 have hB := below_alloc_new (w := w) (.map #[] 0)
 have hM := SeenM.made w
 obtain ⟨n, hn⟩ : ∃ n, L.length = n := ⟨_, rfl⟩
 obtain ⟨s0, hs0⟩ : ∃ s0, w.heap.size = s0 := ⟨_, rfl⟩
 rw [hn] at hl hI ⊢
 rw [hs0] at hB hM ⊢
 have HN := Lib.hid hn
 have HZ := Lib.hid hz
 have HI := Lib.hid hI
 have HS := Lib.hid hS
 have HC := Lib.hid hc
 have HP := Lib.hid hp
 have HS0 := Lib.hid hs0
 have HM := Lib.hid hM
 have hmm := @run_makeMap Tryz.prog
 clear hn hz hI hS hc hp hM
 go_enter Tryz.func104, Tryz.ntmps104
 go_wp2_with fail
 go_step3
 go_wp2_with fail
 go_step3
 go_wp2_with fail
 clear hs0
 go_loopg [13] n (fun kx s13 wr => ∃ (s m : Nat) (f : Int → Option Nat) (ks : List Int), s13 = .int .i64 s ∧ s ≤ n ∧ n - s ≤ kx ∧ Hid (TO L s f ks) ∧ Hid (SeenM wr s0 m f) ∧ Hid (m = ks.length) ∧ Below s0 w wr)
 case atStart => exact ⟨0, 0, _, [], rfl, by omega, by omega, Lib.hid TO.start, HM, Lib.hid rfl, hB⟩
 case round =>
  clear hB HM
  obtain ⟨s, m, f, ks, rfl, hs, hkx, HT, HM, HMK, hB⟩ := hrel
  by_cases hlt : s < n
  ·have hltz : (s : Int) < (n : Int) := by omega
   have hsz : s0 ≤ wr.heap.size := by have := hB.size; have := HS0.out; omega
   obtain ⟨b, off, rfl, hbw, hcs⟩ := HZ.out (by rw [HN.out]; omega)
   have hbs : b < s0 := by have := HS0.out; omega
   obtain ⟨c0, c1, c2, c3⟩ := (hcs s (by rw [HN.out]; exact hlt)).up hB hbs
   obtain ⟨x, hx⟩ : ∃ x, L.getD s acc0 = x := ⟨_, rfl⟩
   have hti := HT.out.enter (by rw [HN.out]; exact hlt)
   rw [hx] at c0 c1 c2 c3 hti
   have HTI := Lib.hid hti
   have HCS := Lib.hid hcs
   have hm1 : m ≤ 1000 := by
    have := nodup_subset_len HT.out.nodup HT.out.sub
    rw [List.length_map, HN.out] at this
    rw [HMK.out]; omega
   have HW : Hid (TW w (wr.alloc (.cells #[.int .i64 x.code, .int .i64 x.kind, .int .i64 x.basis, .int .i64 x.par] 91)) s0 wr.heap.size s0 n x f m) :=
    Lib.hid ⟨ab_new wr 91 x, HM.out.up (below_alloc_new _), hB.alloc hsz _, hsz, Nat.le_refl _, by have := HM.out.lt; omega, hm1⟩
   obtain ⟨g, hg⟩ : ∃ g, wr.heap.size = g := ⟨_, rfl⟩
   rw [hg] at HW
   have HG := Lib.hid hg
   clear hx hcs hti HM hB hg
   go_wp2_with fail
   rw [HG.out]
   go_loopg [6] (n - ks.length) (fun kx s6 W => ∃ (a : Acc) (m2 : Nat) (f2 : Int → Option Nat) (ks2 : List Int), n - ks2.length ≤ kx ∧ Hid (TI L s a f2 ks2) ∧ Hid (TW w W s0 g s0 n a f2 m2) ∧ Hid (m2 = ks2.length))
   case atStart => exact ⟨x, m, f, ks, by omega, HTI, HW, HMK⟩
   case round =>
    clear HW HTI HT HMK c0 c1 c2 c3
    obtain ⟨a, m2, f2, ks2, hkx2, HTI, HW, HMK⟩ := hrel
    obtain ⟨⟨z0, z1, z2, z3⟩, zlt, zf⟩ := HW.out.box
    simp only [Nat.zero_add] at z1 z2 z3
    have zf0 := zf 0
    have zf1 := zf 1
    have zf2 := zf 2
    have zf3 := zf 3
    clear zf
    have HWF : Hid ((Lit.int .i64 a.code).wf = true) := Lib.hid (by have := codesB_wf HC.out HTI.out.mem; exact wf64 (by omega) (by omega))
    by_cases h0 : a.par = 0
    ·have e0 : (a.par != 0) = false := by simp [h0]
     have HTO := Lib.hid (HTI.out.top HS.out h0)
     clear h0
     go_wp2_with fail
     go_roundg (n - (s + 1))
     case measure => omega
     case rel => exact ⟨s + 1, m2, f2, ks2, by go_num, by omega, by omega, HTO, Lib.hid HW.out.map, HMK, HW.out.below⟩
    ·have e0 : (a.par != 0) = true := by simp [h0]
     cases hf : f2 a.code with
     | some v =>
      have HFV := Lib.hid hf
      have hsm : Hid ((f2 a.code).isSome = true) := Lib.hid (by rw [hf]; rfl)
      by_cases hvs : v = s
      ·have E : Hid (topsB L = false) := Lib.hid (HTI.out.loop (by rw [hf, hvs]))
       have HVS := Lib.hid hvs
       clear h0 hf hvs
       go_wp2_with (at_lookup; refine wpList_seen_look rfl _ _ rfl s0 m2 f2 rfl HW.out.map a.code rfl HWF.out ?_; intro v1 hv1; have hve : v1 = (s : Int) := (by rw [hv1.out v HFV.out, HVS.out]); subst hve; rw [hsm.out]; have hss : ((s : Int) == (s : Int)) = true := (by simp); clear hv1)
       try rw [Exit.noGoto_ret]
       go_ret
       exact ⟨by rw [E.out]; rfl, HW.out.below⟩
      ·have HTO := Lib.hid (HTI.out.old hf hvs)
       have hvz : ((v : Int) == (s : Int)) = false := by simp; omega
       clear h0 hf hvs
       go_wp2_with (at_lookup; refine wpList_seen_look rfl _ _ rfl s0 m2 f2 rfl HW.out.map a.code rfl HWF.out ?_; intro v1 hv1; have hve : v1 = (v : Int) := (by rw [hv1.out v HFV.out]); subst hve; rw [hsm.out]; clear hv1)
       go_roundg (n - (s + 1))
       case measure => omega
       case rel => exact ⟨s + 1, m2, f2, ks2, by go_num, by omega, by omega, HTO, Lib.hid HW.out.map, HMK, HW.out.below⟩
     | none =>
      obtain ⟨p, hp⟩ := parentsB_fnd HP.out HTI.out.mem h0
      obtain ⟨hti2, hlen2⟩ := HTI.out.step HS.out hf hp
      have hsm : Hid ((f2 a.code).isSome = false) := Lib.hid (by rw [hf]; rfl)
      have HTI2 := Lib.hid hti2
      have HFP := Lib.hid hp
      have hl2 : ks2.length + 1 ≤ n := by rw [HN.out] at hlen2; simpa using hlen2
      have HMK2 : Hid (m2 + 1 = (a.code :: ks2).length) := Lib.hid (by rw [HMK.out]; simp)
      have HWS : Hid ((Lit.int .i64 (s : Int)).wf = true) := Lib.hid (wf64 (by omega) (by omega))
      have hgk2 : n - (a.code :: ks2).length < n - ks2.length := by simp; omega
      have hix := fun W h => HI.out a.par W h
      rw [hp] at hix
      have HIX := Lib.hid hix
      clear h0 hf hp hti2 hlen2 hix
      go_wp2_with (first
       | (at_lookup; refine wpList_seen_look rfl _ _ rfl s0 m2 f2 rfl HW.out.map a.code rfl HWF.out ?_; intro v1 hv1; rw [hsm.out]; clear hv1)
       | (at_mapUpdate; refine wpList_seen_put rfl _ _ _ rfl s0 m2 f2 rfl HW.out.map a.code s rfl rfl HWF.out HWS.out (by have := HW.out.m1; omega) ?_; intro w2 hm2 hg2; have hb2 := grown_below HW.out.below hg2.out (Nat.le_refl _) (Nat.le_of_lt HW.out.map.lt); have HAB := Lib.hid (HW.out.box.blk (hg2.out.block g zlt (by (intro e9; injection e9 with e9; exact HW.out.ne e9)))); clear z0 z1 z2 z3 zlt zf0 zf1 zf2 zf3; obtain ⟨⟨z0, z1, z2, z3⟩, zlt, -⟩ := HAB.out; simp only [Nat.zero_add] at z1 z2 z3)
       | (go_at_call 118; refine (HIX.out _ (HZ.out.up (by (rw [HS0.out]; exact hb2)))).mono ?_; rintro e w3 ⟨i, rfl, hfa, hb⟩; obtain ⟨hil, hie⟩ := hfa _ HFP.out; replace HAB := Lib.hid (HAB.out.up hb); replace hm2 := Lib.hid (hm2.out.up hb); replace hb2 := hb2.trans (hb.mono (by (have := hb2.size; have := HS0.out; omega))); have d4 := (HCS.out i hil).up hb2 hbs; rw [hie] at d4; obtain ⟨d0, d1, d2, d3⟩ := d4; have hiz : (i : Int) < (n : Int) := (by rw [HN.out] at hil; omega); clear z0 z1 z2 z3 zlt hb hfa hil hie hg2; obtain ⟨⟨z0, z1, z2, z3⟩, zlt, zf⟩ := HAB.out; simp only [Nat.zero_add] at z1 z2 z3; have zf0 := zf 0; have zf1 := zf 1; have zf2 := zf 2; have zf3 := zf 3; clear zf))
      have HW2 : Hid (TW w _ s0 g s0 n p _ (m2 + 1)) := Lib.hid ⟨ab_set4 HAB.out p, hm2.out.blk (by rw [Below.heap_setCell _ _ _ _ (Ne.symm HW.out.ne), Below.heap_setCell _ _ _ _ (Ne.symm HW.out.ne), Below.heap_setCell _ _ _ _ (Ne.symm HW.out.ne), Below.heap_setCell _ _ _ _ (Ne.symm HW.out.ne)]), bset4 hb2 HW.out.gs _ _ _ _, HW.out.gs, HW.out.ms, HW.out.ne, by have := HMK.out; omega⟩
      go_roundg (n - (a.code :: ks2).length)
      case measure => simp only [List.length_cons]; omega
      case rel => exact ⟨p, m2 + 1, _, a.code :: ks2, Nat.le_refl _, HTI2, HW2, HMK2⟩
  ·obtain rfl : s = n := by omega
   have hltz : ¬ (s : Int) < (s : Int) := by omega
   have E : Hid (topsB L = true) := Lib.hid (by have := HT.out; rw [← HN.out] at this; exact this.all)
   go_wp2_with fail
   go_ret
   exact ⟨by rw [E.out]; rfl, hB⟩
set_option maxRecDepth 20000 in
set_option maxHeartbeats 1600000 in
theorem cvalid8_any (A : Option Addr) (cp : Nat) (L : List Acc) (g : Bool) (w : World) (hz : AccAt w A L) (hl : L.length ≤ 1000) :
  Calls Tryz.prog 80 #[.slice A L.length cp, .bool g] w fun e w' => e = .returned (.bool (vB L g)) ∧ Below w.heap.size w w' := by
 have hB := Below.refl w.heap.size w
 have h1 := fun w h => hcodes_any A cp L w h hl
 have h2 := fun w h => hkinds_any A cp L g w h hl
 have h3 := fun hc w h => hpar_any A cp L w h hl (codesB_srt hc)
 have h4 := fun hc hp w h => htops_any A cp L w h hl hc hp
 have hv : vB L g = (decide (L.length ≤ 200) && codesB L && kindsB L g && parentsB L && topsB L) := rfl
 obtain ⟨n, hn⟩ : ∃ n, L.length = n := ⟨_, rfl⟩
 rw [hn] at hl hv h1 h2 h3 h4 ⊢
 have HZ := Lib.hid hz
 clear hn hz
 by_cases hbig : 200 < n
 ·have E : Hid (vB L g = false) := Lib.hid (by rw [hv, decide_eq_false (show ¬ n ≤ 200 by omega)]; rfl)
  have e1 : decide (n ≤ 200) = false := decide_eq_false (by omega)
  have e2 : decide ((n : Int) ≤ 200) = false := decide_eq_false (by omega)
  clear h1 h2 h3 h4 hv
  go_enter Tryz.func80, Tryz.ntmps80
  go_wp2_with fail
  go_ret
  exact ⟨by rw [E.out]; rfl, hB⟩
 have e2 : decide ((n : Int) ≤ 200) = true := decide_eq_true (by omega)
 rw [decide_eq_true (show n ≤ 200 by omega), Bool.true_and] at hv
 cases hc : codesB L
 ·rw [hc] at h1 hv
  have E := Lib.hid (show vB L g = false from hv)
  have H1 := Lib.hid h1
  clear h1 h2 h3 h4 hv hc
  go_enter Tryz.func80, Tryz.ntmps80
  go_wp2_with (go_at_call 101; refine (H1.out _ (HZ.out.up hB)).mono ?_; rintro e w1 ⟨rfl, hb⟩; replace hB := below_more hB hb; clear hb)
  go_ret
  exact ⟨by rw [E.out]; rfl, hB⟩
 replace h3 := h3 hc
 replace h4 := h4 hc
 rw [hc] at h1 hv
 have H1 := Lib.hid h1
 clear h1 hc
 cases hk : kindsB L g
 ·rw [hk] at h2 hv
  have E := Lib.hid (show vB L g = false from hv)
  have H2 := Lib.hid h2
  clear h2 h3 h4 hv hk
  go_enter Tryz.func80, Tryz.ntmps80
  go_wp2_with (first | (go_at_call 101; refine (H1.out _ (HZ.out.up hB)).mono ?_; rintro e w1 ⟨rfl, hb⟩; replace hB := below_more hB hb; clear hb) | (go_at_call 102; refine (H2.out _ (HZ.out.up hB)).mono ?_; rintro e w1 ⟨rfl, hb⟩; replace hB := below_more hB hb; clear hb))
  go_ret
  exact ⟨by rw [E.out]; rfl, hB⟩
 rw [hk] at h2 hv
 have H2 := Lib.hid h2
 clear h2 hk
 cases hp : parentsB L
 ·rw [hp] at h3 hv
  have E := Lib.hid (show vB L g = false from hv)
  have H3 := Lib.hid h3
  clear h3 h4 hv hp
  go_enter Tryz.func80, Tryz.ntmps80
  go_wp2_with (first | (go_at_call 101; refine (H1.out _ (HZ.out.up hB)).mono ?_; rintro e w1 ⟨rfl, hb⟩; replace hB := below_more hB hb; clear hb) | (go_at_call 102; refine (H2.out _ (HZ.out.up hB)).mono ?_; rintro e w1 ⟨rfl, hb⟩; replace hB := below_more hB hb; clear hb) | (go_at_call 103; refine (H3.out _ (HZ.out.up hB)).mono ?_; rintro e w1 ⟨rfl, hb⟩; replace hB := below_more hB hb; clear hb))
  go_ret
  exact ⟨by rw [E.out]; rfl, hB⟩
 replace h4 := h4 hp
 rw [hp] at h3 hv
 have E := Lib.hid (show vB L g = topsB L from hv)
 have H3 := Lib.hid h3
 have H4 := Lib.hid h4
 clear h3 h4 hv hp
 go_enter Tryz.func80, Tryz.ntmps80
 go_wp2_with (first | (go_at_call 101; refine (H1.out _ (HZ.out.up hB)).mono ?_; rintro e w1 ⟨rfl, hb⟩; replace hB := below_more hB hb; clear hb) | (go_at_call 102; refine (H2.out _ (HZ.out.up hB)).mono ?_; rintro e w1 ⟨rfl, hb⟩; replace hB := below_more hB hb; clear hb) | (go_at_call 103; refine (H3.out _ (HZ.out.up hB)).mono ?_; rintro e w1 ⟨rfl, hb⟩; replace hB := below_more hB hb; clear hb) | (go_at_call 104; refine (H4.out _ (HZ.out.up hB)).mono ?_; rintro e w1 ⟨rfl, hb⟩; replace hB := below_more hB hb; clear hb))
 go_ret
 exact ⟨by rw [E.out]; rfl, hB⟩
set_option maxRecDepth 20000 in
set_option maxHeartbeats 1600000 in
theorem rfind_any (A : Option Addr) (cp : Nat) (L : List Acc) (c : Int) (w : World) (hz : AccAt w A L) (hl : L.length ≤ 1000) :
  Calls Tryz.prog 52 #[.slice A L.length cp, .int .i64 c] w fun e w' => e = .returned (.tuple #[accV (fndA L c), .bool (fnd L c).isSome]) ∧ Below w.heap.size w w' := by
 have hB := below_alloc_new (w := w) (.cells #[.int .i64 acc0.code, .int .i64 acc0.kind, .int .i64 acc0.basis, .int .i64 acc0.par] 91)
 have hA4 := ab_new w 91 acc0
 obtain ⟨n, hn⟩ : ∃ n, L.length = n := ⟨_, rfl⟩
 obtain ⟨s0, hs0⟩ : ∃ s0, w.heap.size = s0 := ⟨_, rfl⟩
 rw [hn] at hl ⊢
 rw [hs0] at hB hA4 ⊢
 have HN := Lib.hid hn
 have HZ := Lib.hid hz
 have HS0 := Lib.hid hs0
 have HA := Lib.hid hA4
 clear hn hz hA4
 go_enter Tryz.func52, Tryz.ntmps52
 go_wp2_with fail
 go_loopg [6] n (fun kx s6 wr => ∃ k : Nat, s6 = .int .i64 k ∧ k ≤ n ∧ n - k ≤ kx ∧ Hid (fnd (L.take k) c = none) ∧ Hid (AB wr s0 acc0) ∧ Below s0 w wr)
 case atStart => exact ⟨0, rfl, by omega, by omega, Lib.hid (by rw [List.take_zero]; rfl), HA, hB⟩
 case round =>
  clear hB HA
  obtain ⟨k, rfl, hk, hkx, HF, HA, hB⟩ := hrel
  by_cases hlt : k < n
  ·have hltz : (k : Int) < (n : Int) := by omega
   obtain ⟨b, off, rfl, hbw, hcs⟩ := HZ.out (by rw [HN.out]; omega)
   have hbs : b < s0 := by have := HS0.out; omega
   have hbn : b ≠ s0 := by omega
   obtain ⟨c0, c1, c2, c3⟩ := (hcs k (by rw [HN.out]; exact hlt)).up hB hbs
   obtain ⟨x, hx⟩ : ∃ x, L.getD k acc0 = x := ⟨_, rfl⟩
   rw [hx] at c0 c1 c2 c3
   have HX := Lib.hid hx
   have hf := fnd_take_succ (L := L) (c := c) (k := k) (by rw [HN.out]; exact hlt) HF.out
   rw [hx] at hf
   clear hx hcs
   by_cases he : x.code = c
   ·rw [if_pos he] at hf
    have hf2 := fnd_take hf
    have e1 : Hid (fndA L c = x) := Lib.hid (by unfold fndA; rw [hf2]; rfl)
    have e2 : Hid ((fnd L c).isSome = true) := Lib.hid (by rw [hf2]; rfl)
    have e3 : (x.code == c) = true := by simp [he]
    obtain ⟨⟨z0, z1, z2, z3⟩, zlt, zf⟩ := HA.out
    have zf0 := zf 0
    have zf1 := zf 1
    have zf2 := zf 2
    have zf3 := zf 3
    simp only [Nat.zero_add] at z1 z2 z3
    clear zf hf hf2 he
    go_wp2_with fail
    rw [e1.out, e2.out]
    exact bodyPost_ret (v := .tuple #[accV x, .bool true]) (by simp [results, Tryz.results52, go_sem, z0, z1, z2, z3]) rfl ⟨rfl, bset4 hB (Nat.le_refl _) _ _ _ _⟩
   ·rw [if_neg he] at hf
    have HF2 := Lib.hid hf
    have e3 : (x.code == c) = false := by simp [he]
    clear hf he
    go_wp2_with fail
    go_roundg (n - (k + 1))
    case measure => omega
    case rel => exact ⟨k + 1, by go_num, by omega, by omega, HF2, HA, hB⟩
  ·obtain rfl : k = n := by omega
   have hltz : ¬ (k : Int) < (k : Int) := by omega
   have hf := HF.out
   rw [List.take_of_length_le (by rw [HN.out]; omega)] at hf
   have e1 : Hid (fndA L c = acc0) := Lib.hid (by unfold fndA; rw [hf]; rfl)
   have e2 : Hid ((fnd L c).isSome = false) := Lib.hid (by rw [hf]; rfl)
   obtain ⟨⟨z0, z1, z2, z3⟩, zlt, zf⟩ := HA.out
   have zf0 := zf 0
   have zf1 := zf 1
   have zf2 := zf 2
   have zf3 := zf 3
   simp only [Nat.zero_add] at z1 z2 z3
   clear zf hf
   go_wp2_with fail
   rw [e1.out, e2.out]
   exact bodyPost_ret (v := .tuple #[accV acc0, .bool false]) (by simp [results, Tryz.results52, go_sem, z0, z1, z2, z3]) rfl ⟨rfl, bset4 hB (Nat.le_refl _) _ _ _ _⟩
theorem climb_le {L : List Acc} {c : Int} : (climb L c).length ≤ L.length + 1 := climbN_le
set_option maxRecDepth 20000 in
set_option maxHeartbeats 1600000 in
theorem rclimb_any (A : Option Addr) (cp : Nat) (L : List Acc) (c : Int) (w : World) (hz : AccAt w A L) (hl : L.length ≤ 1000) :
  Calls Tryz.prog 88 #[.slice A L.length cp, .int .i64 c] w fun e w' => ∃ v, e = .returned v ∧ SlI w' v (climb L c) ∧ Below w.heap.size w w' := by
 have hB := Below.refl w.heap.size w
 have hfl : (climb L c).length ≤ L.length + 1 := climb_le
 have hf0 : climbN L (L.length + 1 - 0) c = (climb L c).drop 0 := rfl
 obtain ⟨full, hfull⟩ : ∃ full, climb L c = full := ⟨_, rfl⟩
 rw [hfull] at hfl hf0 ⊢
 have hFd := fun w y h => rfind_any A cp L y w h hl
 obtain ⟨n, hn⟩ : ∃ n, L.length = n := ⟨_, rfl⟩
 obtain ⟨s0, hs0⟩ : ∃ s0, w.heap.size = s0 := ⟨_, rfl⟩
 rw [hn] at hl hfl hf0 hFd ⊢
 rw [hs0] at hB ⊢
 have HN := Lib.hid hn
 have HZ := Lib.hid hz
 have HS0 := Lib.hid hs0
 have HFd := Lib.hid hFd
 have HF0 := Lib.hid hf0
 obtain ⟨i0, hi, hz0, hz1, hz2⟩ := info_parts infoI_int
 clear hn hz hs0 hfull hFd hf0
 go_enter Tryz.func88, Tryz.ntmps88
 go_wp2_with fail
 have hO : Hid (OwnI .i64 3 w s0 (.slice none 0 0) (full.take 0)) := Lib.hid OwnI.nil
 go_loopg [1, 5, 6] (n + 1) (fun kx s1 s5 s6 wr => ∃ (k : Nat) (y : Int), s1 = .int .i64 y ∧ s6 = .int .i64 k ∧ k ≤ full.length ∧ n + 1 - k ≤ kx ∧ Hid (climbN L (n + 1 - k) y = full.drop k) ∧ Hid (OwnI .i64 3 wr s0 s5 (full.take k)) ∧ Below s0 w wr)
 case atStart => exact ⟨0, c, rfl, rfl, by omega, by omega, HF0, hO, hB⟩
 case round =>
  clear hB hO HF0
  obtain ⟨k, y, rfl, rfl, hk, hkx, HD, hO, hB⟩ := hrel
  have hsz : s0 ≤ wr.heap.size := by have := hB.size; have := HS0.out; omega
  by_cases hlt : k ≤ n
  ·have hltz : (k : Int) ≤ (n : Int) := by omega
   have hz2' := HZ.out.up (w' := wr) (by rw [HS0.out]; exact hB)
   have hfd := HFd.out wr y hz2'
   cases hc : fnd L y with
   | none =>
    have e1 : fndA L y = acc0 := by unfold fndA; rw [hc]; rfl
    rw [e1, hc] at hfd
    have hdr : full.drop k = [] := by rw [← HD.out, climbN_none hc]
    have htk : full.take k = full := List.take_of_length_le (by have := congrArg List.length hdr; rw [List.length_drop] at this; simp at this; omega)
    have ho := hO.out
    rw [htk] at ho
    have HO := Lib.hid ho
    have HFD := Lib.hid hfd
    clear hfd hdr htk ho hc e1 hO
    go_wp2_with (go_at_call 52; refine HFD.out.mono ?_; rintro e w1 ⟨rfl, hb⟩; replace HO := Lib.hid ((HO.out.up hb).alloc (.cells #[.int .i64 0, .int .i64 0, .int .i64 0, .int .i64 0] 91)).sli; replace hB := (hB.trans (hb.mono hsz)).alloc (Nat.le_trans hsz hb.size) (.cells #[.int .i64 0, .int .i64 0, .int .i64 0, .int .i64 0] 91); clear hb)
    go_ret
    exact ⟨_, rfl, HO.out, hB⟩
   | some a =>
    have e1 : fndA L y = a := by unfold fndA; rw [hc]; rfl
    rw [e1, hc] at hfd
    have hst : climbN L (n + 1 - k) y = y :: climbN L (n - k) a.par := by
     rw [show n + 1 - k = (n - k) + 1 by omega, climbN_some hc]
    have hd1 : full.drop k = y :: climbN L (n - k) a.par := by rw [← HD.out, hst]
    have hkl : k < full.length := by have := congrArg List.length hd1; rw [List.length_drop] at this; simp at this; omega
    have hd2 := drop_getD (d := (0 : Int)) hkl
    rw [hd1] at hd2
    injection hd2 with hy hd3
    have htk : full.take (k + 1) = full.take k ++ [y] := by rw [take_succ_getD (d := (0 : Int)) hkl, ← hy]
    have HD2 : Hid (climbN L (n + 1 - (k + 1)) a.par = full.drop (k + 1)) := Lib.hid (by rw [← hd3]; congr 1; omega)
    have hln : Hid ((full.take k).length ≤ 100000000) := Lib.hid (by rw [List.length_take]; omega)
    have HTK := Lib.hid htk
    have HFD := Lib.hid hfd
    clear hfd hst hd1 hd3 hy htk hc e1
    go_wp2_with (first
     | (go_at_call 52; refine HFD.out.mono ?_; rintro e w1 ⟨rfl, hb⟩; have hsz1 := Nat.le_trans hsz hb.size; replace hO := Lib.hid (hO.out.up hb); have hne := Lib.hid (hO.out.ne_new (Nat.le_refl _)); have hA1 := Lib.hid (ab_new w1 91 a); replace hB := (hB.trans (hb.mono hsz)).alloc hsz1 (.cells #[.int .i64 a.code, .int .i64 a.kind, .int .i64 a.basis, .int .i64 a.par] 91); clear hb)
     | (at_builtin; refine wpList_append_ik (w1.alloc (.cells #[.int .i64 a.code, .int .i64 a.kind, .int .i64 a.basis, .int .i64 a.par] 91)) rfl (.tmp 23) (.tmp 25) 96 rfl .i64 s0 3 i0 8 Tryz.underlying96 hi hz0 hz1 hz2 (by omega) u5 _ (by rfl) (hO.out.alloc _) y _ 1 (by first | rfl | simp) rfl hln.out (by simp; omega) ?_; intro v2 w2 ho2 hb2 hk2; have hA2 := hA1.out.blk (hk2.out _ (by simp) hne.out); obtain ⟨⟨d0, d1, d2, d3⟩, dlt, -⟩ := hA2; replace ho2 := ho2.out; rw [← HTK.out] at ho2; replace ho2 := Lib.hid ho2; replace hB := hB.trans hb2; clear hb2))
    go_roundg (n + 1 - (k + 1))
    case measure => omega
    case rel => exact ⟨k + 1, a.par, rfl, by go_num, by omega, by omega, HD2, ho2, hB⟩
  ·obtain rfl : k = n + 1 := by omega
   have hltz : decide (((n + 1 : Nat) : Int) ≤ (n : Int)) = false := decide_eq_false (by omega)
   have ho := hO.out.sli
   rw [List.take_of_length_le (by omega)] at ho
   have HO := Lib.hid ho
   clear ho
   go_wp2_with fail
   go_ret
   exact ⟨_, rfl, HO.out, hB⟩
theorem prop_code1 {L : List Acc} {g : Bool} {a : Acc} (h : a.code < 1) : properB L g a = false := by unfold properB; rw [decide_eq_false (show ¬ 1 ≤ a.code by omega)]; rfl
theorem prop_code2 {L : List Acc} {g : Bool} {a : Acc} (h : 99999 < a.code) : properB L g a = false := by unfold properB; rw [decide_eq_false (show ¬ a.code ≤ 99999 by omega), Bool.and_false]; rfl
theorem prop_kin {L : List Acc} {g : Bool} {a : Acc} (h : kinB g a = false) : properB L g a = false := by unfold properB; rw [h, Bool.and_false]; rfl
theorem prop_rest {L : List Acc} {g : Bool} {a : Acc} (h1 : 1 ≤ a.code) (h2 : a.code ≤ 99999) (h : kinB g a = true) : properB L g a = prB L a := by unfold properB; rw [h, decide_eq_true h1, decide_eq_true h2]; rfl
set_option maxRecDepth 20000 in
set_option maxHeartbeats 3200000 in
theorem rproper_any (A : Option Addr) (cp : Nat) (L : List Acc) (a : Acc) (g : Bool) (w : World) (hz : AccAt w A L) (hl : L.length ≤ 1000) :
  Calls Tryz.prog 87 #[.slice A L.length cp, accV a, .bool g] w fun e w' => e = .returned (.bool (properB L g a)) ∧ Below w.heap.size w w' := by
 have hB := below_alloc_new (w := w) (.cells #[.int .i64 a.code, .int .i64 a.kind, .int .i64 a.basis, .int .i64 a.par] 91)
 have hA := ab_new w 91 a
 have HAB := Lib.hid hA
 have hz2 := hz.up hB
 have hFd := rfind_any A cp L a.par (w.alloc (.cells #[.int .i64 a.code, .int .i64 a.kind, .int .i64 a.basis, .int .i64 a.par] 91)) hz2 hl
 obtain ⟨⟨c0, c1, c2, c3⟩, lt, -⟩ := hA
 generalize L.length = n at *
 clear hl hz hz2
 rcases Int.lt_or_le a.code 1 with h1 | h1
 ·have E := Lib.hid (prop_code1 (L := L) (g := g) h1)
  have e1 : decide (a.code < 1) = true := decide_eq_true h1
  clear hFd h1
  go_enter Tryz.func87, Tryz.ntmps87
  go_wp2_with fail
  go_ret
  exact ⟨by rw [E.out]; rfl, hB⟩
 have e1 : decide (a.code < 1) = false := decide_eq_false (by omega)
 rcases Int.lt_or_le 99999 a.code with h2 | h2
 ·have E := Lib.hid (prop_code2 (L := L) (g := g) h2)
  have e2 : decide (99999 < a.code) = true := decide_eq_true h2
  clear hFd h1 h2
  go_enter Tryz.func87, Tryz.ntmps87
  go_wp2_with fail
  go_ret
  exact ⟨by rw [E.out]; rfl, hB⟩
 have e2 : decide (99999 < a.code) = false := decide_eq_false (by omega)
 cases hk : kinB g a
 ·have E := Lib.hid (prop_kin (L := L) hk)
  have h0 := kinB_no hk
  clear hk hFd h1 h2
  rcases h0 with h3 | ⟨h3, h4⟩ | ⟨h3, h4, h5⟩ | ⟨h3, h4, h5, h6⟩
  ·have e3 : decide (a.kind < 1) = true := decide_eq_true h3
   go_enter Tryz.func87, Tryz.ntmps87
   go_wp2_with fail
   go_ret
   exact ⟨by rw [E.out]; rfl, hB⟩
  ·have e3 : decide (a.kind < 1) = false := decide_eq_false (by omega)
   have e4 : decide (5 < a.kind) = true := decide_eq_true h4
   go_enter Tryz.func87, Tryz.ntmps87
   go_wp2_with fail
   go_ret
   exact ⟨by rw [E.out]; rfl, hB⟩
  ·have e3 : decide (a.kind < 1) = false := decide_eq_false (by omega)
   have e4 : decide (5 < a.kind) = false := decide_eq_false (by omega)
   cases g
   ·have h5' : a.basis < 0 := h5
    have e5 : (a.basis != 0) = true := by simp; omega
    clear h5 h5' h3 h4
    go_enter Tryz.func87, Tryz.ntmps87
    go_wp2_with fail
    go_ret
    exact ⟨by rw [E.out]; rfl, hB⟩
   ·have h5' : a.basis < 1 := h5
    have e5 : decide (a.basis < 1) = true := decide_eq_true h5'
    clear h5 h5' h3 h4
    go_enter Tryz.func87, Tryz.ntmps87
    go_wp2_with fail
    go_ret
    exact ⟨by rw [E.out]; rfl, hB⟩
  ·have e3 : decide (a.kind < 1) = false := decide_eq_false (by omega)
   have e4 : decide (5 < a.kind) = false := decide_eq_false (by omega)
   cases g
   ·have h6' : 0 < a.basis := h6
    have e5 : (a.basis != 0) = true := by simp; omega
    clear h5 h6 h6' h3 h4
    go_enter Tryz.func87, Tryz.ntmps87
    go_wp2_with fail
    go_ret
    exact ⟨by rw [E.out]; rfl, hB⟩
   ·have h5' : 1 ≤ a.basis := h5
    have h6' : 3 < a.basis := h6
    have e5 : decide (a.basis < 1) = false := decide_eq_false (by omega)
    have e6 : decide (3 < a.basis) = true := decide_eq_true h6'
    clear h5 h6 h5' h6' h3 h4
    go_enter Tryz.func87, Tryz.ntmps87
    go_wp2_with fail
    go_ret
    exact ⟨by rw [E.out]; rfl, hB⟩
 ·have E0 := prop_rest (L := L) h1 h2 hk
  obtain ⟨h3, h4, h5, h6⟩ := kinB_is hk
  have e3 : decide (a.kind < 1) = false := decide_eq_false (by omega)
  have e4 : decide (5 < a.kind) = false := decide_eq_false (by omega)
  clear hk h1 h2 h3 h4
  by_cases h7 : a.par = 0
  ·have E := Lib.hid (E0.trans (prB_is.2 (.inl h7)))
   have e7 : (a.par == 0) = true := by simp [h7]
   clear E0 h7 hFd
   cases g
   ·have h5' : 0 ≤ a.basis := h5
    have h6' : a.basis ≤ 0 := h6
    have e5 : (a.basis != 0) = false := by simp; omega
    clear h5 h6 h5' h6'
    go_enter Tryz.func87, Tryz.ntmps87
    go_wp2_with fail
    go_ret
    exact ⟨by rw [E.out]; rfl, hB⟩
   ·have h5' : 1 ≤ a.basis := h5
    have h6' : a.basis ≤ 3 := h6
    have e5 : decide (a.basis < 1) = false := decide_eq_false (by omega)
    have e6 : decide (3 < a.basis) = false := decide_eq_false (by omega)
    clear h5 h6 h5' h6'
    go_enter Tryz.func87, Tryz.ntmps87
    go_wp2_with fail
    go_ret
    exact ⟨by rw [E.out]; rfl, hB⟩
  ·have e7 : (a.par == 0) = false := by simp [h7]
   have E1 : prB L a = match fnd L a.par with
    | none => false
    | some p => decide (p.code ≠ a.code) && decide (p.kind = a.kind) := by unfold prB; rw [decide_eq_false h7]; rfl
   rw [E1] at E0
   clear E1 h7
   have hbas : (g = false ∧ (a.basis != 0) = false) ∨ (g = true ∧ decide (a.basis < 1) = false ∧ decide (3 < a.basis) = false) := by
    cases g
    ·have h5' : 0 ≤ a.basis := h5
     have h6' : a.basis ≤ 0 := h6
     exact .inl ⟨rfl, by simp; omega⟩
    ·have h5' : 1 ≤ a.basis := h5
     have h6' : a.basis ≤ 3 := h6
     exact .inr ⟨rfl, decide_eq_false (by omega), decide_eq_false (by omega)⟩
   clear h5 h6
   cases hf : fnd L a.par with
   | none =>
    have e8 : fndA L a.par = acc0 := by unfold fndA; rw [hf]; rfl
    rw [e8, hf] at hFd
    rw [hf] at E0
    have E := Lib.hid E0
    have HFD := Lib.hid hFd
    clear e8 hf hFd E0
    rcases hbas with ⟨rfl, e5⟩ | ⟨rfl, e5, e6⟩
    all_goals
     go_enter Tryz.func87, Tryz.ntmps87
     go_wp2_with (go_at_call 52; refine HFD.out.mono ?_; rintro e w1 ⟨rfl, hb⟩; replace HAB := Lib.hid (HAB.out.up hb); clear c0 c1 c2 c3 lt; obtain ⟨⟨c0, c1, c2, c3⟩, lt, -⟩ := HAB.out; replace hB := below_more hB hb; clear hb)
     go_ret
     exact ⟨by rw [E.out]; rfl, below_new hB _⟩
   | some p =>
    have e8 : fndA L a.par = p := by unfold fndA; rw [hf]; rfl
    rw [e8, hf] at hFd
    rw [hf] at E0
    simp only at E0
    have HFD := Lib.hid hFd
    clear e8 hf hFd
    by_cases h8 : p.code = a.code
    ·have e8 : (p.code != a.code) = false := by simp [h8]
     rw [decide_eq_false (fun h => h h8), Bool.false_and] at E0
     have E := Lib.hid E0
     clear E0 h8
     rcases hbas with ⟨rfl, e5⟩ | ⟨rfl, e5, e6⟩
     all_goals
      go_enter Tryz.func87, Tryz.ntmps87
      go_wp2_with (go_at_call 52; refine HFD.out.mono ?_; rintro e w1 ⟨rfl, hb⟩; replace HAB := Lib.hid (HAB.out.up hb); clear c0 c1 c2 c3 lt; obtain ⟨⟨c0, c1, c2, c3⟩, lt, -⟩ := HAB.out; replace hB := below_more hB hb; clear hb)
      go_ret
      exact ⟨by rw [E.out]; rfl, below_new hB _⟩
    ·have e8 : (p.code != a.code) = true := by simp [h8]
     rw [decide_eq_true h8, Bool.true_and] at E0
     clear h8
     have e9 : (p.kind == a.kind) = decide (p.kind = a.kind) := by rw [Bool.eq_iff_iff]; simp
     generalize decide (p.kind = a.kind) = q at *
     have E := Lib.hid E0
     clear E0
     rcases hbas with ⟨rfl, e5⟩ | ⟨rfl, e5, e6⟩
     all_goals
      go_enter Tryz.func87, Tryz.ntmps87
      go_wp2_with (go_at_call 52; refine HFD.out.mono ?_; rintro e w1 ⟨rfl, hb⟩; replace HAB := Lib.hid (HAB.out.up hb); clear c0 c1 c2 c3 lt; obtain ⟨⟨c0, c1, c2, c3⟩, lt, -⟩ := HAB.out; replace hB := below_more hB hb; clear hb)
      go_ret
      exact ⟨by rw [E.out]; rfl, below_new hB _⟩
theorem SlI.keep {w w' : World} {v : Value} {L : List Int} (h : SlI w v L) (hk : AS.Keep w w') : SlI w' v L := by
 obtain ⟨A, c, e, h⟩ := h
 refine ⟨A, c, e, fun h0 => ?_⟩
 obtain ⟨b, off, e, hlt, hc⟩ := h h0
 exact ⟨b, off, e, Nat.lt_of_lt_of_le hlt hk.size, fun i hi => (hk.cell hlt (hc i hi)).trans (hc i hi)⟩
def HSl (L : List Int) : AS.Fact := ⟨fun v w => SlI w v L, fun _ _ _ hb h => h.keep hb⟩
def HNo (W : World) : Nat → List Value → World → Prop := fun _ _ w => Below W.heap.size W w
theorem HNo.st (W : World) : ∀ k l w w', Below w.heap.size w w' → HNo W k l w → HNo W k l w' := fun _ _ _ _ hb h => below_more h hb
theorem rowB_prop {L : List Acc} {g : Bool} {k : Nat} (h : properB L g (L.getD k acc0) = false) : rowB L g k = false := by unfold rowB; rw [h]; rfl
theorem rowB_zero {L : List Acc} {g : Bool} (h : properB L g (L.getD 0 acc0) = true) : rowB L g 0 = topB L (L.getD 0 acc0) := by unfold rowB; rw [h]; simp
theorem rowB_down {L : List Acc} {g : Bool} {j : Nat} (h : (L.getD (j + 1) acc0).code ≤ (L.getD j acc0).code) : rowB L g (j + 1) = false := by
 unfold rowB
 rw [show decide (j + 1 = 0) = false from decide_eq_false (by omega), show decide ((L.getD (j + 1 - 1) acc0).code < (L.getD (j + 1) acc0).code) = false from decide_eq_false (by rw [Nat.add_sub_cancel]; omega)]
 simp
theorem rowB_up {L : List Acc} {g : Bool} {j : Nat} (h : properB L g (L.getD (j + 1) acc0) = true) (h2 : (L.getD j acc0).code < (L.getD (j + 1) acc0).code) : rowB L g (j + 1) = topB L (L.getD (j + 1) acc0) := by
 unfold rowB
 rw [h, show decide ((L.getD (j + 1 - 1) acc0).code < (L.getD (j + 1) acc0).code) = true from decide_eq_true (by rw [Nat.add_sub_cancel]; omega)]
 simp
def rvFa (b off n k : Nat) (cp : Nat) (g : Bool) (x : Acc) : List (Nat × AS.Fact) := [(15, AS.Fact.is (.slice (some ⟨b, off, none⟩) (n : Nat) cp)), (16, AS.Fact.is (.slice (some ⟨b, off, none⟩) (n : Nat) cp)), (17, AS.Fact.is (.int .i64 (k : Int))), (18, AS.Fact.is (.pointer (some ⟨b, off + k * 4, none⟩))), (19, AS.Fact.is (accV x)), (20, AS.Fact.is (.bool g)), (21, AS.Fact.is (.bool false)), (22, AS.Fact.is (.bool true)), (23, AS.Fact.is (.bool true)), (24, AS.Fact.is (undef)), (25, AS.Fact.is (undef)), (26, AS.Fact.is (undef)), (27, AS.Fact.is (undef)), (28, AS.Fact.is (undef)), (29, AS.Fact.is (undef)), (30, AS.Fact.is (undef)), (31, AS.Fact.is (undef)), (32, AS.Fact.is (undef)), (33, AS.Fact.is (undef)), (34, AS.Fact.is (undef)), (35, AS.Fact.is (undef)), (36, AS.Fact.is (undef)), (37, AS.Fact.is (undef)), (38, AS.Fact.is (undef)), (39, AS.Fact.is (undef)), (40, AS.Fact.is (.bool true)), (41, AS.Fact.is (.bool true)), (42, AS.Fact.is (undef)), (43, AS.Fact.is (undef)), (44, AS.Fact.is (undef)), (45, AS.Fact.is (undef)), (46, AS.Fact.is (undef)), (47, AS.Fact.is (undef)), (48, AS.Fact.is (undef)), (49, AS.Fact.is (undef)), (50, AS.Fact.is (undef)), (51, AS.Fact.is (undef)), (52, AS.Fact.is (undef)), (53, AS.Fact.is (.bool true))]
def rvFb (b off n k : Nat) (cp : Nat) (g : Bool) (x : Acc) (C : List Int) (cl : Nat) (q : Bool) : List (Nat × AS.Fact) := [(15, AS.Fact.is (.slice (some ⟨b, off, none⟩) (n : Nat) cp)), (16, AS.Fact.is (.slice (some ⟨b, off, none⟩) (n : Nat) cp)), (17, AS.Fact.is (.int .i64 (k : Int))), (18, AS.Fact.is (.pointer (some ⟨b, off + k * 4, none⟩))), (19, AS.Fact.is (accV x)), (20, AS.Fact.is (.bool g)), (21, AS.Fact.is (.bool true)), (22, AS.Fact.is (.bool false)), (23, AS.Fact.is (.bool false)), (24, AS.Fact.is (.int .i64 (k : Int))), (25, AS.Fact.is (.bool false)), (26, AS.Fact.is (.bool false)), (27, AS.Fact.is (undef)), (28, AS.Fact.is (undef)), (29, AS.Fact.is (undef)), (30, AS.Fact.is (undef)), (31, AS.Fact.is (undef)), (32, AS.Fact.is (undef)), (33, AS.Fact.is (undef)), (34, AS.Fact.is (undef)), (35, AS.Fact.is (undef)), (36, AS.Fact.is (undef)), (37, AS.Fact.is (undef)), (38, AS.Fact.is (undef)), (39, AS.Fact.is (.bool false)), (40, AS.Fact.is (.bool false)), (41, AS.Fact.is (.bool false)), (42, AS.Fact.is (.slice (some ⟨b, off, none⟩) (n : Nat) cp)), (43, AS.Fact.is (.slice (some ⟨b, off, none⟩) (n : Nat) cp)), (44, AS.Fact.is (.int .i64 (k : Int))), (45, AS.Fact.is (.pointer (some ⟨b, off + k * 4, none⟩))), (46, AS.Fact.is (.pointer (some ⟨b, off + k * 4, none⟩))), (47, AS.Fact.is (.int .i64 x.code)), (48, HSl C), (49, AS.Fact.is (.int .i64 (cl : Int))), (50, AS.Fact.is (.slice (some ⟨b, off, none⟩) (n : Nat) cp)), (51, AS.Fact.is (.int .i64 (n : Int))), (52, AS.Fact.is (.bool q)), (53, AS.Fact.is (.bool q))]
def rvFc (b off n k j : Nat) (cp : Nat) (g : Bool) (x y : Acc) : List (Nat × AS.Fact) := [(15, AS.Fact.is (.slice (some ⟨b, off, none⟩) (n : Nat) cp)), (16, AS.Fact.is (.slice (some ⟨b, off, none⟩) (n : Nat) cp)), (17, AS.Fact.is (.int .i64 (k : Int))), (18, AS.Fact.is (.pointer (some ⟨b, off + k * 4, none⟩))), (19, AS.Fact.is (accV x)), (20, AS.Fact.is (.bool g)), (21, AS.Fact.is (.bool true)), (22, AS.Fact.is (.bool false)), (23, AS.Fact.is (.bool false)), (24, AS.Fact.is (.int .i64 (k : Int))), (25, AS.Fact.is (.bool true)), (26, AS.Fact.is (.bool true)), (27, AS.Fact.is (.slice (some ⟨b, off, none⟩) (n : Nat) cp)), (28, AS.Fact.is (.int .i64 (k : Int))), (29, AS.Fact.is (.pointer (some ⟨b, off + k * 4, none⟩))), (30, AS.Fact.is (.pointer (some ⟨b, off + k * 4, none⟩))), (31, AS.Fact.is (.int .i64 x.code)), (32, AS.Fact.is (.slice (some ⟨b, off, none⟩) (n : Nat) cp)), (33, AS.Fact.is (.int .i64 (k : Int))), (34, AS.Fact.is (.int .i64 (j : Int))), (35, AS.Fact.is (.pointer (some ⟨b, off + j * 4, none⟩))), (36, AS.Fact.is (.pointer (some ⟨b, off + j * 4, none⟩))), (37, AS.Fact.is (.int .i64 y.code)), (38, AS.Fact.is (.bool true)), (39, AS.Fact.is (.bool true)), (40, AS.Fact.is (.bool true)), (41, AS.Fact.is (.bool true)), (42, AS.Fact.is (undef)), (43, AS.Fact.is (undef)), (44, AS.Fact.is (undef)), (45, AS.Fact.is (undef)), (46, AS.Fact.is (undef)), (47, AS.Fact.is (undef)), (48, AS.Fact.is (undef)), (49, AS.Fact.is (undef)), (50, AS.Fact.is (undef)), (51, AS.Fact.is (undef)), (52, AS.Fact.is (undef)), (53, AS.Fact.is (.bool true))]
def rvFd (b off n k j : Nat) (cp : Nat) (g : Bool) (x y : Acc) (C : List Int) (cl : Nat) (q : Bool) : List (Nat × AS.Fact) := [(15, AS.Fact.is (.slice (some ⟨b, off, none⟩) (n : Nat) cp)), (16, AS.Fact.is (.slice (some ⟨b, off, none⟩) (n : Nat) cp)), (17, AS.Fact.is (.int .i64 (k : Int))), (18, AS.Fact.is (.pointer (some ⟨b, off + k * 4, none⟩))), (19, AS.Fact.is (accV x)), (20, AS.Fact.is (.bool g)), (21, AS.Fact.is (.bool true)), (22, AS.Fact.is (.bool false)), (23, AS.Fact.is (.bool false)), (24, AS.Fact.is (.int .i64 (k : Int))), (25, AS.Fact.is (.bool true)), (26, AS.Fact.is (.bool true)), (27, AS.Fact.is (.slice (some ⟨b, off, none⟩) (n : Nat) cp)), (28, AS.Fact.is (.int .i64 (k : Int))), (29, AS.Fact.is (.pointer (some ⟨b, off + k * 4, none⟩))), (30, AS.Fact.is (.pointer (some ⟨b, off + k * 4, none⟩))), (31, AS.Fact.is (.int .i64 x.code)), (32, AS.Fact.is (.slice (some ⟨b, off, none⟩) (n : Nat) cp)), (33, AS.Fact.is (.int .i64 (k : Int))), (34, AS.Fact.is (.int .i64 (j : Int))), (35, AS.Fact.is (.pointer (some ⟨b, off + j * 4, none⟩))), (36, AS.Fact.is (.pointer (some ⟨b, off + j * 4, none⟩))), (37, AS.Fact.is (.int .i64 y.code)), (38, AS.Fact.is (.bool false)), (39, AS.Fact.is (.bool false)), (40, AS.Fact.is (.bool false)), (41, AS.Fact.is (.bool false)), (42, AS.Fact.is (.slice (some ⟨b, off, none⟩) (n : Nat) cp)), (43, AS.Fact.is (.slice (some ⟨b, off, none⟩) (n : Nat) cp)), (44, AS.Fact.is (.int .i64 (k : Int))), (45, AS.Fact.is (.pointer (some ⟨b, off + k * 4, none⟩))), (46, AS.Fact.is (.pointer (some ⟨b, off + k * 4, none⟩))), (47, AS.Fact.is (.int .i64 x.code)), (48, HSl C), (49, AS.Fact.is (.int .i64 (cl : Int))), (50, AS.Fact.is (.slice (some ⟨b, off, none⟩) (n : Nat) cp)), (51, AS.Fact.is (.int .i64 (n : Int))), (52, AS.Fact.is (.bool q)), (53, AS.Fact.is (.bool q))]
set_option maxRecDepth 20000 in
set_option maxHeartbeats 3200000 in
theorem rvalid8_any (A : Option Addr) (cp : Nat) (L : List Acc) (g : Bool) (w : World) (hz : AccAt w A L) (hl : L.length ≤ 1000) :
  Calls Tryz.prog 64 #[.slice A L.length cp, .bool g] w fun e w' => e = .returned (.bool (rvB L g)) ∧ Below w.heap.size w w' := by
 have hB := Below.refl w.heap.size w
 have hPr := fun x w h => rproper_any A cp L x g w h hl
 have hCb := fun c w h => rclimb_any A cp L c w h hl
 obtain ⟨n, hn⟩ : ∃ n, L.length = n := ⟨_, rfl⟩
 have hn0 := hn
 rw [hn] at hl hPr hCb ⊢
 have HN := Lib.hid hn
 have HZ := Lib.hid hz
 have HPr := Lib.hid hPr
 have HCb := Lib.hid hCb
 clear hn hz hPr hCb
 by_cases hbig : 200 < n
 ·have E : Hid (rvB L g = false) := Lib.hid (by unfold rvB; rw [decide_eq_false (by omega)]; rfl)
  have e1 : decide ((200 : Int) < (n : Int)) = true := decide_eq_true (by omega)
  clear hn0
  go_enter Tryz.func64, Tryz.ntmps64
  go_wp2_with fail
  go_ret
  exact ⟨by rw [E.out]; rfl, hB⟩
 have HV : Hid (rvB L g = rowsTo L g n) := Lib.hid (by unfold rvB; rw [decide_eq_true (by omega), hn0]; rfl)
 have e1 : decide ((200 : Int) < (n : Int)) = false := decide_eq_false (by omega)
 clear hn0
 go_enter Tryz.func64, Tryz.ntmps64
 go_wp2_with fail
 go_loopg [5] n (fun kx s5 wr => ∃ k : Nat, s5 = .int .i64 k ∧ k ≤ n ∧ n - k ≤ kx ∧ Hid (rowsTo L g k = true) ∧ Below w.heap.size w wr)
 case atStart => exact ⟨0, rfl, by omega, by omega, Lib.hid rfl, hB⟩
 case round =>
  clear hB
  obtain ⟨k, rfl, hk, hkx, HR, hB⟩ := hrel
  by_cases hlt : k < n
  ·have hltz : (k : Int) < (n : Int) := by omega
   have HZW := Lib.hid (HZ.out.up hB)
   obtain ⟨b, off, rfl, hbw, hcs⟩ := HZW.out (by rw [HN.out]; omega)
   have hbW : b < wr.heap.size := hbw
   obtain ⟨x, hx⟩ : ∃ x, L.getD k acc0 = x := ⟨_, rfl⟩
   have hx4 := hcs k (by rw [HN.out]; exact hlt)
   rw [hx] at hx4
   have HX := Lib.hid hx
   have HX4 := Lib.hid hx4
   have HCS := Lib.hid hcs
   have hpr := HPr.out x
   have hcb := HCb.out x.code
   clear hcs hx hx4 hbw
   go_wp2_with fail
   cases hp : properB L g x
   ·have E : Hid (rvB L g = false) := Lib.hid (rvB_no (k := k) (by rw [HN.out]; exact hlt) (rowB_prop (by rw [HX.out]; exact hp)))
    rw [hp] at hpr
    replace HPr := Lib.hid hpr
    clear hpr hcb HCb hp
    refine AS.region_facts (rvFa b off n k cp g x) (HNo wr) [[], [], [], [16, 17], [18], [], [15, 19, 20], [21], [22], [23], [23], [23], [26], [26], [26], [26], [26], [26], [26], [26], [26], [26], [26], [26], [23], [23, 39], [40], [41], [41], [41], [41], [41], [41], [41], [41], [41], [41], [41], [41, 52]] [] [[]] [0, 0, 0, 0, 0, 0, 0, 0, 0, 0, 0, 0, 0, 0, 0, 0, 0, 0, 0, 0, 0, 0, 0, 0, 0, 0, 0, 0, 0, 0, 0, 0, 0, 0, 0, 0, 0, 0, 0] [] (fun u => by simp only [rvFa, AS.temps, List.map_cons, List.map_nil, fillL, List.setIfInBounds_toArray, List.set_cons_zero, List.set_cons_succ]; rfl) (by kernel_rfl) (by kernel_rfl) (HNo.st wr) (dc_drew (Below.refl _ _)) ?_ ?_
    ·refine AS.sc rfl rfl rfl ?_ ?_
     ·intro k_ u w_ hk_ hJ hF K hK
      clear hF
      go_simp
      exact hK.out _ _ bR (rfl) trivial
     refine AS.sc rfl rfl rfl ?_ ?_
     ·intro k_ u w_ hk_ hJ hF K hK
      clear hF
      go_simp
      exact hK.out _ _ bR (rfl) trivial
     refine AS.sc rfl rfl rfl ?_ ?_
     ·intro k_ u w_ hk_ hJ hF K hK
      clear hF
      go_simp
      exact hK.out _ _ bR (rfl) trivial
     refine AS.sc rfl rfl rfl ?_ ?_
     ·intro k_ u w_ hk_ hJ hF K hK
      have h16 : u 16 = .slice (some ⟨b, off, none⟩) (n : Nat) cp := AS.facts_get hF 16 (by simp)
      have h17 : u 17 = .int .i64 (k : Int) := AS.facts_get hF 17 (by simp)
      clear hF
      simp only [h16, h17] at hK ⊢
      clear h16 h17
      go_simp
      exact hK.out _ _ bR (rfl) trivial
     refine AS.sc rfl rfl rfl ?_ ?_
     ·intro k_ u w_ hk_ hJ hF K hK
      have h18 : u 18 = .pointer (some ⟨b, off + k * 4, none⟩) := AS.facts_get hF 18 (by simp)
      clear hF
      simp only [h18] at hK ⊢
      clear h18
      obtain ⟨c0, c1, c2, c3⟩ := HX4.out.up (hJ : Below wr.heap.size wr w_) hbW
      go_simp
      exact hK.out _ _ bR (rfl) trivial
     refine AS.sc rfl rfl rfl ?_ ?_
     ·intro k_ u w_ hk_ hJ hF K hK
      clear hF
      go_simp
      exact hK.out _ _ bR (rfl) trivial
     refine AS.sc rfl rfl rfl ?_ ?_
     ·intro k_ u w_ hk_ hJ hF K hK
      have h15 : u 15 = .slice (some ⟨b, off, none⟩) (n : Nat) cp := AS.facts_get hF 15 (by simp)
      have h19 : u 19 = accV x := AS.facts_get hF 19 (by simp)
      have h20 : u 20 = .bool g := AS.facts_get hF 20 (by simp)
      clear hF
      simp only [h15, h19, h20] at hK ⊢
      clear h15 h19 h20
      have hz9 := HZW.out.up (hJ : Below wr.heap.size wr w_)
      go_simp
      refine (HPr.out _ hz9).mono ?_
      rintro e w3 ⟨rfl, hb⟩
      exact hK.out _ _ hb (rfl) trivial
     refine AS.sc rfl rfl rfl ?_ ?_
     ·intro k_ u w_ hk_ hJ hF K hK
      have h21 : u 21 = .bool false := AS.facts_get hF 21 (by simp)
      clear hF
      simp only [h21] at hK ⊢
      clear h21
      go_simp
      exact hK.out _ _ bR (rfl) trivial
     refine AS.sc rfl rfl rfl ?_ ?_
     ·intro k_ u w_ hk_ hJ hF K hK
      have h22 : u 22 = .bool true := AS.facts_get hF 22 (by simp)
      clear hF
      simp only [h22] at hK ⊢
      clear h22
      go_simp
      exact hK.out _ _ bR (rfl) trivial
     refine AS.sc rfl rfl rfl ?_ ?_
     ·intro k_ u w_ hk_ hJ hF K hK
      have h23 : u 23 = .bool true := AS.facts_get hF 23 (by simp)
      clear hF
      simp only [h23] at hK ⊢
      clear h23
      go_simp
      exact hK.out _ _ bR (rfl) trivial
     refine AS.sc rfl rfl rfl ?_ ?_
     ·intro k_ u w_ hk_ hJ hF K hK
      have h23 : u 23 = .bool true := AS.facts_get hF 23 (by simp)
      clear hF
      simp only [h23] at hK ⊢
      clear h23
      go_simp
      exact hK.out _ _ bR (rfl) trivial
     refine AS.sc rfl rfl rfl ?_ ?_
     ·intro k_ u w_ hk_ hJ hF K hK
      have h23 : u 23 = .bool true := AS.facts_get hF 23 (by simp)
      clear hF
      simp only [h23] at hK ⊢
      clear h23
      go_simp
      exact hK.out _ _ bR (rfl) trivial
     refine AS.sc rfl rfl rfl ?_ ?_
     ·intro k_ u w_ hk_ hJ hF K hK
      have h26 : u 26 = undef := AS.facts_get hF 26 (by simp)
      clear hF
      simp only [h26] at hK ⊢
      clear h26
      go_simp
      exact hK.out _ _ bR (rfl) trivial
     refine AS.sc rfl rfl rfl ?_ ?_
     ·intro k_ u w_ hk_ hJ hF K hK
      have h26 : u 26 = undef := AS.facts_get hF 26 (by simp)
      clear hF
      simp only [h26] at hK ⊢
      clear h26
      go_simp
      exact hK.out _ _ bR (rfl) trivial
     refine AS.sc rfl rfl rfl ?_ ?_
     ·intro k_ u w_ hk_ hJ hF K hK
      have h26 : u 26 = undef := AS.facts_get hF 26 (by simp)
      clear hF
      simp only [h26] at hK ⊢
      clear h26
      go_simp
      exact hK.out _ _ bR (rfl) trivial
     refine AS.sc rfl rfl rfl ?_ ?_
     ·intro k_ u w_ hk_ hJ hF K hK
      have h26 : u 26 = undef := AS.facts_get hF 26 (by simp)
      clear hF
      simp only [h26] at hK ⊢
      clear h26
      go_simp
      exact hK.out _ _ bR (rfl) trivial
     refine AS.sc rfl rfl rfl ?_ ?_
     ·intro k_ u w_ hk_ hJ hF K hK
      have h26 : u 26 = undef := AS.facts_get hF 26 (by simp)
      clear hF
      simp only [h26] at hK ⊢
      clear h26
      go_simp
      exact hK.out _ _ bR (rfl) trivial
     refine AS.sc rfl rfl rfl ?_ ?_
     ·intro k_ u w_ hk_ hJ hF K hK
      have h26 : u 26 = undef := AS.facts_get hF 26 (by simp)
      clear hF
      simp only [h26] at hK ⊢
      clear h26
      go_simp
      exact hK.out _ _ bR (rfl) trivial
     refine AS.sc rfl rfl rfl ?_ ?_
     ·intro k_ u w_ hk_ hJ hF K hK
      have h26 : u 26 = undef := AS.facts_get hF 26 (by simp)
      clear hF
      simp only [h26] at hK ⊢
      clear h26
      go_simp
      exact hK.out _ _ bR (rfl) trivial
     refine AS.sc rfl rfl rfl ?_ ?_
     ·intro k_ u w_ hk_ hJ hF K hK
      have h26 : u 26 = undef := AS.facts_get hF 26 (by simp)
      clear hF
      simp only [h26] at hK ⊢
      clear h26
      go_simp
      exact hK.out _ _ bR (rfl) trivial
     refine AS.sc rfl rfl rfl ?_ ?_
     ·intro k_ u w_ hk_ hJ hF K hK
      have h26 : u 26 = undef := AS.facts_get hF 26 (by simp)
      clear hF
      simp only [h26] at hK ⊢
      clear h26
      go_simp
      exact hK.out _ _ bR (rfl) trivial
     refine AS.sc rfl rfl rfl ?_ ?_
     ·intro k_ u w_ hk_ hJ hF K hK
      have h26 : u 26 = undef := AS.facts_get hF 26 (by simp)
      clear hF
      simp only [h26] at hK ⊢
      clear h26
      go_simp
      exact hK.out _ _ bR (rfl) trivial
     refine AS.sc rfl rfl rfl ?_ ?_
     ·intro k_ u w_ hk_ hJ hF K hK
      have h26 : u 26 = undef := AS.facts_get hF 26 (by simp)
      clear hF
      simp only [h26] at hK ⊢
      clear h26
      go_simp
      exact hK.out _ _ bR (rfl) trivial
     refine AS.sc rfl rfl rfl ?_ ?_
     ·intro k_ u w_ hk_ hJ hF K hK
      have h26 : u 26 = undef := AS.facts_get hF 26 (by simp)
      clear hF
      simp only [h26] at hK ⊢
      clear h26
      go_simp
      exact hK.out _ _ bR (rfl) trivial
     refine AS.sc rfl rfl rfl ?_ ?_
     ·intro k_ u w_ hk_ hJ hF K hK
      have h23 : u 23 = .bool true := AS.facts_get hF 23 (by simp)
      clear hF
      simp only [h23] at hK ⊢
      clear h23
      go_simp
      exact hK.out _ _ bR (rfl) trivial
     refine AS.sc rfl rfl rfl ?_ ?_
     ·intro k_ u w_ hk_ hJ hF K hK
      have h23 : u 23 = .bool true := AS.facts_get hF 23 (by simp)
      have h39 : u 39 = undef := AS.facts_get hF 39 (by simp)
      clear hF
      simp only [h23, h39] at hK ⊢
      clear h23 h39
      go_simp
      exact hK.out _ _ bR (rfl) trivial
     refine AS.sc rfl rfl rfl ?_ ?_
     ·intro k_ u w_ hk_ hJ hF K hK
      have h40 : u 40 = .bool true := AS.facts_get hF 40 (by simp)
      clear hF
      simp only [h40] at hK ⊢
      clear h40
      go_simp
      exact hK.out _ _ bR (rfl) trivial
     refine AS.sc rfl rfl rfl ?_ ?_
     ·intro k_ u w_ hk_ hJ hF K hK
      have h41 : u 41 = .bool true := AS.facts_get hF 41 (by simp)
      clear hF
      simp only [h41] at hK ⊢
      clear h41
      go_simp
      exact hK.out _ _ bR (rfl) trivial
     refine AS.sc rfl rfl rfl ?_ ?_
     ·intro k_ u w_ hk_ hJ hF K hK
      have h41 : u 41 = .bool true := AS.facts_get hF 41 (by simp)
      clear hF
      simp only [h41] at hK ⊢
      clear h41
      go_simp
      exact hK.out _ _ bR (rfl) trivial
     refine AS.sc rfl rfl rfl ?_ ?_
     ·intro k_ u w_ hk_ hJ hF K hK
      have h41 : u 41 = .bool true := AS.facts_get hF 41 (by simp)
      clear hF
      simp only [h41] at hK ⊢
      clear h41
      go_simp
      exact hK.out _ _ bR (rfl) trivial
     refine AS.sc rfl rfl rfl ?_ ?_
     ·intro k_ u w_ hk_ hJ hF K hK
      have h41 : u 41 = .bool true := AS.facts_get hF 41 (by simp)
      clear hF
      simp only [h41] at hK ⊢
      clear h41
      go_simp
      exact hK.out _ _ bR (rfl) trivial
     refine AS.sc rfl rfl rfl ?_ ?_
     ·intro k_ u w_ hk_ hJ hF K hK
      have h41 : u 41 = .bool true := AS.facts_get hF 41 (by simp)
      clear hF
      simp only [h41] at hK ⊢
      clear h41
      go_simp
      exact hK.out _ _ bR (rfl) trivial
     refine AS.sc rfl rfl rfl ?_ ?_
     ·intro k_ u w_ hk_ hJ hF K hK
      have h41 : u 41 = .bool true := AS.facts_get hF 41 (by simp)
      clear hF
      simp only [h41] at hK ⊢
      clear h41
      go_simp
      exact hK.out _ _ bR (rfl) trivial
     refine AS.sc rfl rfl rfl ?_ ?_
     ·intro k_ u w_ hk_ hJ hF K hK
      have h41 : u 41 = .bool true := AS.facts_get hF 41 (by simp)
      clear hF
      simp only [h41] at hK ⊢
      clear h41
      go_simp
      exact hK.out _ _ bR (rfl) trivial
     refine AS.sc rfl rfl rfl ?_ ?_
     ·intro k_ u w_ hk_ hJ hF K hK
      have h41 : u 41 = .bool true := AS.facts_get hF 41 (by simp)
      clear hF
      simp only [h41] at hK ⊢
      clear h41
      go_simp
      exact hK.out _ _ bR (rfl) trivial
     refine AS.sc rfl rfl rfl ?_ ?_
     ·intro k_ u w_ hk_ hJ hF K hK
      have h41 : u 41 = .bool true := AS.facts_get hF 41 (by simp)
      clear hF
      simp only [h41] at hK ⊢
      clear h41
      go_simp
      exact hK.out _ _ bR (rfl) trivial
     refine AS.sc rfl rfl rfl ?_ ?_
     ·intro k_ u w_ hk_ hJ hF K hK
      have h41 : u 41 = .bool true := AS.facts_get hF 41 (by simp)
      clear hF
      simp only [h41] at hK ⊢
      clear h41
      go_simp
      exact hK.out _ _ bR (rfl) trivial
     refine AS.sc rfl rfl rfl ?_ ?_
     ·intro k_ u w_ hk_ hJ hF K hK
      have h41 : u 41 = .bool true := AS.facts_get hF 41 (by simp)
      clear hF
      simp only [h41] at hK ⊢
      clear h41
      go_simp
      exact hK.out _ _ bR (rfl) trivial
     refine AS.sc rfl rfl rfl ?_ ?_
     ·intro k_ u w_ hk_ hJ hF K hK
      have h41 : u 41 = .bool true := AS.facts_get hF 41 (by simp)
      have h52 : u 52 = undef := AS.facts_get hF 52 (by simp)
      clear hF
      simp only [h41, h52] at hK ⊢
      clear h41 h52
      go_simp
      exact hK.out _ _ bR (rfl) trivial
     exact AS.StepsOk.nil
    ·intro u W9 hJ9 hF
     have h53 : u 53 = .bool true := AS.facts_get hF 53 (by simp [rvFa, AS.temps])
     have hB9 : Below wr.heap.size wr W9 := hJ9
     clear hF hJ9
     simp only [h53]
     clear h53
     go_wp2_with fail
     go_ret
     exact ⟨by rw [E.out]; rfl, hB.trans (hB9.mono hB.size)⟩
   ·rw [hp] at hpr
    replace HPr := Lib.hid hpr
    have htb : topB L x = decide ((climb L x.code).length ≤ L.length) := rfl
    obtain ⟨C, hC⟩ : ∃ C, climb L x.code = C := ⟨_, rfl⟩
    obtain ⟨cl, hcl⟩ : ∃ cl, C.length = cl := ⟨_, rfl⟩
    rw [hC] at hcb
    rw [hC, hcl, HN.out] at htb
    replace HCb := Lib.hid hcb
    have HCL := Lib.hid hcl
    have HTB := Lib.hid htb
    have hcl2 : cl ≤ 2000 := by have := climb_le (L := L) (c := x.code); rw [hC, hcl, HN.out] at this; omega
    have HP := Lib.hid hp
    clear hpr hcb hp hC hcl htb
    obtain ⟨q, hq⟩ : ∃ q, decide (n < cl) = q := ⟨_, rfl⟩
    have HTQ : Hid (topB L x = !q) := Lib.hid (by
     rw [HTB.out, ← hq]
     rcases Nat.lt_or_ge n cl with h1 | h1
     ·rw [decide_eq_false (show ¬ cl ≤ n by omega), decide_eq_true (show n < cl by omega)]; rfl
     ·rw [decide_eq_true (show cl ≤ n by omega), decide_eq_false (show ¬ n < cl by omega)]; rfl)
    rcases Nat.eq_zero_or_pos k with hk0 | hk0
    ·have HQ : Hid (rowB L g k = !q) := Lib.hid (by subst hk0; rw [rowB_zero (by rw [HX.out]; exact HP.out), HX.out]; exact HTQ.out)
     have e2 : decide (0 < k) = false := decide_eq_false (by omega)
     clear hk0
     refine AS.region_facts (rvFb b off n k cp g x C cl q) (HNo wr) [[], [], [], [16, 17], [18], [], [15, 19, 20], [21], [22], [23], [24, 23], [25, 23], [26], [26], [26], [26], [26], [26], [26], [26], [26], [26], [26], [26], [26, 38, 23], [23, 39], [40], [41], [41], [41], [43, 44, 41], [45, 41], [46, 41], [42, 47, 41], [48, 41], [41], [50, 41], [49, 51, 41], [41, 52]] [] [[]] [0, 0, 0, 0, 0, 0, 0, 0, 0, 0, 0, 0, 0, 0, 0, 0, 0, 0, 0, 0, 0, 0, 0, 0, 0, 0, 0, 0, 0, 0, 0, 0, 0, 0, 0, 0, 0, 0, 0] [] (fun u => by simp only [rvFb, AS.temps, List.map_cons, List.map_nil, fillL, List.setIfInBounds_toArray, List.set_cons_zero, List.set_cons_succ]; rfl) (by kernel_rfl) (by kernel_rfl) (HNo.st wr) (dc_drew (Below.refl _ _)) ?_ ?_
     ·refine AS.sc rfl rfl rfl ?_ ?_
      ·intro k_ u w_ hk_ hJ hF K hK
       clear hF
       go_simp
       exact hK.out _ _ bR (rfl) trivial
      refine AS.sc rfl rfl rfl ?_ ?_
      ·intro k_ u w_ hk_ hJ hF K hK
       clear hF
       go_simp
       exact hK.out _ _ bR (rfl) trivial
      refine AS.sc rfl rfl rfl ?_ ?_
      ·intro k_ u w_ hk_ hJ hF K hK
       clear hF
       go_simp
       exact hK.out _ _ bR (rfl) trivial
      refine AS.sc rfl rfl rfl ?_ ?_
      ·intro k_ u w_ hk_ hJ hF K hK
       have h16 : u 16 = .slice (some ⟨b, off, none⟩) (n : Nat) cp := AS.facts_get hF 16 (by simp)
       have h17 : u 17 = .int .i64 (k : Int) := AS.facts_get hF 17 (by simp)
       clear hF
       simp only [h16, h17] at hK ⊢
       clear h16 h17
       go_simp
       exact hK.out _ _ bR (rfl) trivial
      refine AS.sc rfl rfl rfl ?_ ?_
      ·intro k_ u w_ hk_ hJ hF K hK
       have h18 : u 18 = .pointer (some ⟨b, off + k * 4, none⟩) := AS.facts_get hF 18 (by simp)
       clear hF
       simp only [h18] at hK ⊢
       clear h18
       obtain ⟨c0, c1, c2, c3⟩ := HX4.out.up (hJ : Below wr.heap.size wr w_) hbW
       go_simp
       exact hK.out _ _ bR (rfl) trivial
      refine AS.sc rfl rfl rfl ?_ ?_
      ·intro k_ u w_ hk_ hJ hF K hK
       clear hF
       go_simp
       exact hK.out _ _ bR (rfl) trivial
      refine AS.sc rfl rfl rfl ?_ ?_
      ·intro k_ u w_ hk_ hJ hF K hK
       have h15 : u 15 = .slice (some ⟨b, off, none⟩) (n : Nat) cp := AS.facts_get hF 15 (by simp)
       have h19 : u 19 = accV x := AS.facts_get hF 19 (by simp)
       have h20 : u 20 = .bool g := AS.facts_get hF 20 (by simp)
       clear hF
       simp only [h15, h19, h20] at hK ⊢
       clear h15 h19 h20
       have hz9 := HZW.out.up (hJ : Below wr.heap.size wr w_)
       go_simp
       refine (HPr.out _ hz9).mono ?_
       rintro e w3 ⟨rfl, hb⟩
       exact hK.out _ _ hb (rfl) trivial
      refine AS.sc rfl rfl rfl ?_ ?_
      ·intro k_ u w_ hk_ hJ hF K hK
       have h21 : u 21 = .bool true := AS.facts_get hF 21 (by simp)
       clear hF
       simp only [h21] at hK ⊢
       clear h21
       go_simp
       exact hK.out _ _ bR (rfl) trivial
      refine AS.sc rfl rfl rfl ?_ ?_
      ·intro k_ u w_ hk_ hJ hF K hK
       have h22 : u 22 = .bool false := AS.facts_get hF 22 (by simp)
       clear hF
       simp only [h22] at hK ⊢
       clear h22
       go_simp
       exact hK.out _ _ bR (rfl) trivial
      refine AS.sc rfl rfl rfl ?_ ?_
      ·intro k_ u w_ hk_ hJ hF K hK
       have h23 : u 23 = .bool false := AS.facts_get hF 23 (by simp)
       clear hF
       simp only [h23] at hK ⊢
       clear h23
       go_simp
       exact hK.out _ _ bR (rfl) trivial
      refine AS.sc rfl rfl rfl ?_ ?_
      ·intro k_ u w_ hk_ hJ hF K hK
       have h24 : u 24 = .int .i64 (k : Int) := AS.facts_get hF 24 (by simp)
       have h23 : u 23 = .bool false := AS.facts_get hF 23 (by simp)
       clear hF
       simp only [h24, h23] at hK ⊢
       clear h24 h23
       go_simp
       exact hK.out _ _ bR (rfl) trivial
      refine AS.sc rfl rfl rfl ?_ ?_
      ·intro k_ u w_ hk_ hJ hF K hK
       have h25 : u 25 = .bool false := AS.facts_get hF 25 (by simp)
       have h23 : u 23 = .bool false := AS.facts_get hF 23 (by simp)
       clear hF
       simp only [h25, h23] at hK ⊢
       clear h25 h23
       go_simp
       exact hK.out _ _ bR (rfl) trivial
      refine AS.sc rfl rfl rfl ?_ ?_
      ·intro k_ u w_ hk_ hJ hF K hK
       have h26 : u 26 = .bool false := AS.facts_get hF 26 (by simp)
       clear hF
       simp only [h26] at hK ⊢
       clear h26
       go_simp
       exact hK.out _ _ bR (rfl) trivial
      refine AS.sc rfl rfl rfl ?_ ?_
      ·intro k_ u w_ hk_ hJ hF K hK
       have h26 : u 26 = .bool false := AS.facts_get hF 26 (by simp)
       clear hF
       simp only [h26] at hK ⊢
       clear h26
       go_simp
       exact hK.out _ _ bR (rfl) trivial
      refine AS.sc rfl rfl rfl ?_ ?_
      ·intro k_ u w_ hk_ hJ hF K hK
       have h26 : u 26 = .bool false := AS.facts_get hF 26 (by simp)
       clear hF
       simp only [h26] at hK ⊢
       clear h26
       go_simp
       exact hK.out _ _ bR (rfl) trivial
      refine AS.sc rfl rfl rfl ?_ ?_
      ·intro k_ u w_ hk_ hJ hF K hK
       have h26 : u 26 = .bool false := AS.facts_get hF 26 (by simp)
       clear hF
       simp only [h26] at hK ⊢
       clear h26
       go_simp
       exact hK.out _ _ bR (rfl) trivial
      refine AS.sc rfl rfl rfl ?_ ?_
      ·intro k_ u w_ hk_ hJ hF K hK
       have h26 : u 26 = .bool false := AS.facts_get hF 26 (by simp)
       clear hF
       simp only [h26] at hK ⊢
       clear h26
       go_simp
       exact hK.out _ _ bR (rfl) trivial
      refine AS.sc rfl rfl rfl ?_ ?_
      ·intro k_ u w_ hk_ hJ hF K hK
       have h26 : u 26 = .bool false := AS.facts_get hF 26 (by simp)
       clear hF
       simp only [h26] at hK ⊢
       clear h26
       go_simp
       exact hK.out _ _ bR (rfl) trivial
      refine AS.sc rfl rfl rfl ?_ ?_
      ·intro k_ u w_ hk_ hJ hF K hK
       have h26 : u 26 = .bool false := AS.facts_get hF 26 (by simp)
       clear hF
       simp only [h26] at hK ⊢
       clear h26
       go_simp
       exact hK.out _ _ bR (rfl) trivial
      refine AS.sc rfl rfl rfl ?_ ?_
      ·intro k_ u w_ hk_ hJ hF K hK
       have h26 : u 26 = .bool false := AS.facts_get hF 26 (by simp)
       clear hF
       simp only [h26] at hK ⊢
       clear h26
       go_simp
       exact hK.out _ _ bR (rfl) trivial
      refine AS.sc rfl rfl rfl ?_ ?_
      ·intro k_ u w_ hk_ hJ hF K hK
       have h26 : u 26 = .bool false := AS.facts_get hF 26 (by simp)
       clear hF
       simp only [h26] at hK ⊢
       clear h26
       go_simp
       exact hK.out _ _ bR (rfl) trivial
      refine AS.sc rfl rfl rfl ?_ ?_
      ·intro k_ u w_ hk_ hJ hF K hK
       have h26 : u 26 = .bool false := AS.facts_get hF 26 (by simp)
       clear hF
       simp only [h26] at hK ⊢
       clear h26
       go_simp
       exact hK.out _ _ bR (rfl) trivial
      refine AS.sc rfl rfl rfl ?_ ?_
      ·intro k_ u w_ hk_ hJ hF K hK
       have h26 : u 26 = .bool false := AS.facts_get hF 26 (by simp)
       clear hF
       simp only [h26] at hK ⊢
       clear h26
       go_simp
       exact hK.out _ _ bR (rfl) trivial
      refine AS.sc rfl rfl rfl ?_ ?_
      ·intro k_ u w_ hk_ hJ hF K hK
       have h26 : u 26 = .bool false := AS.facts_get hF 26 (by simp)
       clear hF
       simp only [h26] at hK ⊢
       clear h26
       go_simp
       exact hK.out _ _ bR (rfl) trivial
      refine AS.sc rfl rfl rfl ?_ ?_
      ·intro k_ u w_ hk_ hJ hF K hK
       have h26 : u 26 = .bool false := AS.facts_get hF 26 (by simp)
       have h38 : u 38 = undef := AS.facts_get hF 38 (by simp)
       have h23 : u 23 = .bool false := AS.facts_get hF 23 (by simp)
       clear hF
       simp only [h26, h38, h23] at hK ⊢
       clear h26 h38 h23
       go_simp
       exact hK.out _ _ bR (rfl) trivial
      refine AS.sc rfl rfl rfl ?_ ?_
      ·intro k_ u w_ hk_ hJ hF K hK
       have h23 : u 23 = .bool false := AS.facts_get hF 23 (by simp)
       have h39 : u 39 = .bool false := AS.facts_get hF 39 (by simp)
       clear hF
       simp only [h23, h39] at hK ⊢
       clear h23 h39
       go_simp
       exact hK.out _ _ bR (rfl) trivial
      refine AS.sc rfl rfl rfl ?_ ?_
      ·intro k_ u w_ hk_ hJ hF K hK
       have h40 : u 40 = .bool false := AS.facts_get hF 40 (by simp)
       clear hF
       simp only [h40] at hK ⊢
       clear h40
       go_simp
       exact hK.out _ _ bR (rfl) trivial
      refine AS.sc rfl rfl rfl ?_ ?_
      ·intro k_ u w_ hk_ hJ hF K hK
       have h41 : u 41 = .bool false := AS.facts_get hF 41 (by simp)
       clear hF
       simp only [h41] at hK ⊢
       clear h41
       go_simp
       exact hK.out _ _ bR (rfl) trivial
      refine AS.sc rfl rfl rfl ?_ ?_
      ·intro k_ u w_ hk_ hJ hF K hK
       have h41 : u 41 = .bool false := AS.facts_get hF 41 (by simp)
       clear hF
       simp only [h41] at hK ⊢
       clear h41
       go_simp
       exact hK.out _ _ bR (rfl) trivial
      refine AS.sc rfl rfl rfl ?_ ?_
      ·intro k_ u w_ hk_ hJ hF K hK
       have h41 : u 41 = .bool false := AS.facts_get hF 41 (by simp)
       clear hF
       simp only [h41] at hK ⊢
       clear h41
       go_simp
       exact hK.out _ _ bR (rfl) trivial
      refine AS.sc rfl rfl rfl ?_ ?_
      ·intro k_ u w_ hk_ hJ hF K hK
       have h43 : u 43 = .slice (some ⟨b, off, none⟩) (n : Nat) cp := AS.facts_get hF 43 (by simp)
       have h44 : u 44 = .int .i64 (k : Int) := AS.facts_get hF 44 (by simp)
       have h41 : u 41 = .bool false := AS.facts_get hF 41 (by simp)
       clear hF
       simp only [h43, h44, h41] at hK ⊢
       clear h43 h44 h41
       go_simp
       exact hK.out _ _ bR (rfl) trivial
      refine AS.sc rfl rfl rfl ?_ ?_
      ·intro k_ u w_ hk_ hJ hF K hK
       have h45 : u 45 = .pointer (some ⟨b, off + k * 4, none⟩) := AS.facts_get hF 45 (by simp)
       have h41 : u 41 = .bool false := AS.facts_get hF 41 (by simp)
       clear hF
       simp only [h45, h41] at hK ⊢
       clear h45 h41
       go_simp
       exact hK.out _ _ bR (rfl) trivial
      refine AS.sc rfl rfl rfl ?_ ?_
      ·intro k_ u w_ hk_ hJ hF K hK
       have h46 : u 46 = .pointer (some ⟨b, off + k * 4, none⟩) := AS.facts_get hF 46 (by simp)
       have h41 : u 41 = .bool false := AS.facts_get hF 41 (by simp)
       clear hF
       simp only [h46, h41] at hK ⊢
       clear h46 h41
       obtain ⟨c0, c1, c2, c3⟩ := HX4.out.up (hJ : Below wr.heap.size wr w_) hbW
       go_simp
       exact hK.out _ _ bR (rfl) trivial
      refine AS.sc rfl rfl rfl ?_ ?_
      ·intro k_ u w_ hk_ hJ hF K hK
       have h42 : u 42 = .slice (some ⟨b, off, none⟩) (n : Nat) cp := AS.facts_get hF 42 (by simp)
       have h47 : u 47 = .int .i64 x.code := AS.facts_get hF 47 (by simp)
       have h41 : u 41 = .bool false := AS.facts_get hF 41 (by simp)
       clear hF
       simp only [h42, h47, h41] at hK ⊢
       clear h42 h47 h41
       have hz9 := HZW.out.up (hJ : Below wr.heap.size wr w_)
       go_simp
       refine (HCb.out _ hz9).mono ?_
       rintro e w3 ⟨v, rfl, h9, hb⟩
       exact hK.out _ _ hb h9 trivial
      refine AS.sc rfl rfl rfl ?_ ?_
      ·intro k_ u w_ hk_ hJ hF K hK
       have h48 : SlI w_ (u 48) C := AS.facts_get hF 48 (by simp)
       have h41 : u 41 = .bool false := AS.facts_get hF 41 (by simp)
       clear hF
       obtain ⟨A8, d8, h48, -⟩ := h48
       rw [HCL.out] at h48
       simp only [h48, h41] at hK ⊢
       clear h48 h41
       go_simp
       exact hK.out _ _ bR (rfl) trivial
      refine AS.sc rfl rfl rfl ?_ ?_
      ·intro k_ u w_ hk_ hJ hF K hK
       have h41 : u 41 = .bool false := AS.facts_get hF 41 (by simp)
       clear hF
       simp only [h41] at hK ⊢
       clear h41
       go_simp
       exact hK.out _ _ bR (rfl) trivial
      refine AS.sc rfl rfl rfl ?_ ?_
      ·intro k_ u w_ hk_ hJ hF K hK
       have h50 : u 50 = .slice (some ⟨b, off, none⟩) (n : Nat) cp := AS.facts_get hF 50 (by simp)
       have h41 : u 41 = .bool false := AS.facts_get hF 41 (by simp)
       clear hF
       simp only [h50, h41] at hK ⊢
       clear h50 h41
       go_simp
       exact hK.out _ _ bR (rfl) trivial
      refine AS.sc rfl rfl rfl ?_ ?_
      ·intro k_ u w_ hk_ hJ hF K hK
       have h49 : u 49 = .int .i64 (cl : Int) := AS.facts_get hF 49 (by simp)
       have h51 : u 51 = .int .i64 (n : Int) := AS.facts_get hF 51 (by simp)
       have h41 : u 41 = .bool false := AS.facts_get hF 41 (by simp)
       clear hF
       simp only [h49, h51, h41] at hK ⊢
       clear h49 h51 h41
       go_simp
       exact hK.out _ _ bR (rfl) trivial
      refine AS.sc rfl rfl rfl ?_ ?_
      ·intro k_ u w_ hk_ hJ hF K hK
       have h41 : u 41 = .bool false := AS.facts_get hF 41 (by simp)
       have h52 : u 52 = .bool q := AS.facts_get hF 52 (by simp)
       clear hF
       simp only [h41, h52] at hK ⊢
       clear h41 h52
       go_simp
       exact hK.out _ _ bR (rfl) trivial
      exact AS.StepsOk.nil
     ·intro u W9 hJ9 hF
      have h53 : u 53 = .bool q := AS.facts_get hF 53 (by simp [rvFb, AS.temps])
      have hB9 : Below wr.heap.size wr W9 := hJ9
      clear hF hJ9
      simp only [h53]
      clear h53
      cases q
      ·have HR2 : Hid (rowsTo L g (k + 1) = true) := Lib.hid (by rw [rowsTo, HR.out, HQ.out]; rfl)
       go_wp2_with fail
       go_roundg (n - (k + 1))
       case measure => omega
       case rel => exact ⟨k + 1, by go_num, by omega, by omega, HR2, hB.trans (hB9.mono hB.size)⟩
      ·have E : Hid (rvB L g = false) := Lib.hid (rvB_no (k := k) (by rw [HN.out]; exact hlt) HQ.out)
       go_wp2_with fail
       go_ret
       exact ⟨by rw [E.out]; rfl, hB.trans (hB9.mono hB.size)⟩
    ·obtain ⟨j, hj⟩ : ∃ j, k = j + 1 := ⟨k - 1, by omega⟩
     have hjn : j < n := by omega
     have hjz : (j : Int) < (n : Int) := by omega
     have hj1 : (k : Int) - 1 = (j : Int) := by omega
     have hj2 : IntKind.i64.wrap (j : Int) = (j : Int) := IntWalk.i64_in _ (by omega)
     have e2 : decide (0 < k) = true := decide_eq_true (by omega)
     obtain ⟨y, hy⟩ : ∃ y, L.getD j acc0 = y := ⟨_, rfl⟩
     have hy4 := HCS.out j (by rw [HN.out]; omega)
     rw [hy] at hy4
     have HY4 := Lib.hid hy4
     have HY := Lib.hid hy
     have HJ := Lib.hid hj
     clear hy4 hy hj hk0
     rcases Int.lt_or_le y.code x.code with h8 | h8
     ·have HQ : Hid (rowB L g k = !q) := Lib.hid (by
       have h1 := HX.out
       rw [HJ.out] at h1 ⊢
       rw [rowB_up (by rw [h1]; exact HP.out) (by rw [h1, HY.out]; exact h8), h1]; exact HTQ.out)
      have e3 : decide (x.code ≤ y.code) = false := decide_eq_false (by omega)
      clear h8
      refine AS.region_facts (rvFd b off n k j cp g x y C cl q) (HNo wr) [[], [], [], [16, 17], [18], [], [15, 19, 20], [21], [22], [23], [24, 23], [25, 23], [26], [26], [27, 28, 26], [29, 26], [30, 26], [26], [26], [33, 26], [32, 34, 26], [35, 26], [36, 26], [31, 37, 26], [26, 38, 23], [23, 39], [40], [41], [41], [41], [43, 44, 41], [45, 41], [46, 41], [42, 47, 41], [48, 41], [41], [50, 41], [49, 51, 41], [41, 52]] [] [[]] [0, 0, 0, 0, 0, 0, 0, 0, 0, 0, 0, 0, 0, 0, 0, 0, 0, 0, 0, 0, 0, 0, 0, 0, 0, 0, 0, 0, 0, 0, 0, 0, 0, 0, 0, 0, 0, 0, 0] [] (fun u => by simp only [rvFd, AS.temps, List.map_cons, List.map_nil, fillL, List.setIfInBounds_toArray, List.set_cons_zero, List.set_cons_succ]; rfl) (by kernel_rfl) (by kernel_rfl) (HNo.st wr) (dc_drew (Below.refl _ _)) ?_ ?_
      ·refine AS.sc rfl rfl rfl ?_ ?_
       ·intro k_ u w_ hk_ hJ hF K hK
        clear hF
        go_simp
        exact hK.out _ _ bR (rfl) trivial
       refine AS.sc rfl rfl rfl ?_ ?_
       ·intro k_ u w_ hk_ hJ hF K hK
        clear hF
        go_simp
        exact hK.out _ _ bR (rfl) trivial
       refine AS.sc rfl rfl rfl ?_ ?_
       ·intro k_ u w_ hk_ hJ hF K hK
        clear hF
        go_simp
        exact hK.out _ _ bR (rfl) trivial
       refine AS.sc rfl rfl rfl ?_ ?_
       ·intro k_ u w_ hk_ hJ hF K hK
        have h16 : u 16 = .slice (some ⟨b, off, none⟩) (n : Nat) cp := AS.facts_get hF 16 (by simp)
        have h17 : u 17 = .int .i64 (k : Int) := AS.facts_get hF 17 (by simp)
        clear hF
        simp only [h16, h17] at hK ⊢
        clear h16 h17
        go_simp
        exact hK.out _ _ bR (rfl) trivial
       refine AS.sc rfl rfl rfl ?_ ?_
       ·intro k_ u w_ hk_ hJ hF K hK
        have h18 : u 18 = .pointer (some ⟨b, off + k * 4, none⟩) := AS.facts_get hF 18 (by simp)
        clear hF
        simp only [h18] at hK ⊢
        clear h18
        obtain ⟨c0, c1, c2, c3⟩ := HX4.out.up (hJ : Below wr.heap.size wr w_) hbW
        go_simp
        exact hK.out _ _ bR (rfl) trivial
       refine AS.sc rfl rfl rfl ?_ ?_
       ·intro k_ u w_ hk_ hJ hF K hK
        clear hF
        go_simp
        exact hK.out _ _ bR (rfl) trivial
       refine AS.sc rfl rfl rfl ?_ ?_
       ·intro k_ u w_ hk_ hJ hF K hK
        have h15 : u 15 = .slice (some ⟨b, off, none⟩) (n : Nat) cp := AS.facts_get hF 15 (by simp)
        have h19 : u 19 = accV x := AS.facts_get hF 19 (by simp)
        have h20 : u 20 = .bool g := AS.facts_get hF 20 (by simp)
        clear hF
        simp only [h15, h19, h20] at hK ⊢
        clear h15 h19 h20
        have hz9 := HZW.out.up (hJ : Below wr.heap.size wr w_)
        go_simp
        refine (HPr.out _ hz9).mono ?_
        rintro e w3 ⟨rfl, hb⟩
        exact hK.out _ _ hb (rfl) trivial
       refine AS.sc rfl rfl rfl ?_ ?_
       ·intro k_ u w_ hk_ hJ hF K hK
        have h21 : u 21 = .bool true := AS.facts_get hF 21 (by simp)
        clear hF
        simp only [h21] at hK ⊢
        clear h21
        go_simp
        exact hK.out _ _ bR (rfl) trivial
       refine AS.sc rfl rfl rfl ?_ ?_
       ·intro k_ u w_ hk_ hJ hF K hK
        have h22 : u 22 = .bool false := AS.facts_get hF 22 (by simp)
        clear hF
        simp only [h22] at hK ⊢
        clear h22
        go_simp
        exact hK.out _ _ bR (rfl) trivial
       refine AS.sc rfl rfl rfl ?_ ?_
       ·intro k_ u w_ hk_ hJ hF K hK
        have h23 : u 23 = .bool false := AS.facts_get hF 23 (by simp)
        clear hF
        simp only [h23] at hK ⊢
        clear h23
        go_simp
        exact hK.out _ _ bR (rfl) trivial
       refine AS.sc rfl rfl rfl ?_ ?_
       ·intro k_ u w_ hk_ hJ hF K hK
        have h24 : u 24 = .int .i64 (k : Int) := AS.facts_get hF 24 (by simp)
        have h23 : u 23 = .bool false := AS.facts_get hF 23 (by simp)
        clear hF
        simp only [h24, h23] at hK ⊢
        clear h24 h23
        go_simp
        exact hK.out _ _ bR (rfl) trivial
       refine AS.sc rfl rfl rfl ?_ ?_
       ·intro k_ u w_ hk_ hJ hF K hK
        have h25 : u 25 = .bool true := AS.facts_get hF 25 (by simp)
        have h23 : u 23 = .bool false := AS.facts_get hF 23 (by simp)
        clear hF
        simp only [h25, h23] at hK ⊢
        clear h25 h23
        go_simp
        exact hK.out _ _ bR (rfl) trivial
       refine AS.sc rfl rfl rfl ?_ ?_
       ·intro k_ u w_ hk_ hJ hF K hK
        have h26 : u 26 = .bool true := AS.facts_get hF 26 (by simp)
        clear hF
        simp only [h26] at hK ⊢
        clear h26
        go_simp
        exact hK.out _ _ bR (rfl) trivial
       refine AS.sc rfl rfl rfl ?_ ?_
       ·intro k_ u w_ hk_ hJ hF K hK
        have h26 : u 26 = .bool true := AS.facts_get hF 26 (by simp)
        clear hF
        simp only [h26] at hK ⊢
        clear h26
        go_simp
        exact hK.out _ _ bR (rfl) trivial
       refine AS.sc rfl rfl rfl ?_ ?_
       ·intro k_ u w_ hk_ hJ hF K hK
        have h27 : u 27 = .slice (some ⟨b, off, none⟩) (n : Nat) cp := AS.facts_get hF 27 (by simp)
        have h28 : u 28 = .int .i64 (k : Int) := AS.facts_get hF 28 (by simp)
        have h26 : u 26 = .bool true := AS.facts_get hF 26 (by simp)
        clear hF
        simp only [h27, h28, h26] at hK ⊢
        clear h27 h28 h26
        go_simp
        exact hK.out _ _ bR (rfl) trivial
       refine AS.sc rfl rfl rfl ?_ ?_
       ·intro k_ u w_ hk_ hJ hF K hK
        have h29 : u 29 = .pointer (some ⟨b, off + k * 4, none⟩) := AS.facts_get hF 29 (by simp)
        have h26 : u 26 = .bool true := AS.facts_get hF 26 (by simp)
        clear hF
        simp only [h29, h26] at hK ⊢
        clear h29 h26
        go_simp
        exact hK.out _ _ bR (rfl) trivial
       refine AS.sc rfl rfl rfl ?_ ?_
       ·intro k_ u w_ hk_ hJ hF K hK
        have h30 : u 30 = .pointer (some ⟨b, off + k * 4, none⟩) := AS.facts_get hF 30 (by simp)
        have h26 : u 26 = .bool true := AS.facts_get hF 26 (by simp)
        clear hF
        simp only [h30, h26] at hK ⊢
        clear h30 h26
        obtain ⟨c0, c1, c2, c3⟩ := HX4.out.up (hJ : Below wr.heap.size wr w_) hbW
        go_simp
        exact hK.out _ _ bR (rfl) trivial
       refine AS.sc rfl rfl rfl ?_ ?_
       ·intro k_ u w_ hk_ hJ hF K hK
        have h26 : u 26 = .bool true := AS.facts_get hF 26 (by simp)
        clear hF
        simp only [h26] at hK ⊢
        clear h26
        go_simp
        exact hK.out _ _ bR (rfl) trivial
       refine AS.sc rfl rfl rfl ?_ ?_
       ·intro k_ u w_ hk_ hJ hF K hK
        have h26 : u 26 = .bool true := AS.facts_get hF 26 (by simp)
        clear hF
        simp only [h26] at hK ⊢
        clear h26
        go_simp
        exact hK.out _ _ bR (rfl) trivial
       refine AS.sc rfl rfl rfl ?_ ?_
       ·intro k_ u w_ hk_ hJ hF K hK
        have h33 : u 33 = .int .i64 (k : Int) := AS.facts_get hF 33 (by simp)
        have h26 : u 26 = .bool true := AS.facts_get hF 26 (by simp)
        clear hF
        simp only [h33, h26] at hK ⊢
        clear h33 h26
        go_simp
        exact hK.out _ _ bR (rfl) trivial
       refine AS.sc rfl rfl rfl ?_ ?_
       ·intro k_ u w_ hk_ hJ hF K hK
        have h32 : u 32 = .slice (some ⟨b, off, none⟩) (n : Nat) cp := AS.facts_get hF 32 (by simp)
        have h34 : u 34 = .int .i64 (j : Int) := AS.facts_get hF 34 (by simp)
        have h26 : u 26 = .bool true := AS.facts_get hF 26 (by simp)
        clear hF
        simp only [h32, h34, h26] at hK ⊢
        clear h32 h34 h26
        go_simp
        exact hK.out _ _ bR (rfl) trivial
       refine AS.sc rfl rfl rfl ?_ ?_
       ·intro k_ u w_ hk_ hJ hF K hK
        have h35 : u 35 = .pointer (some ⟨b, off + j * 4, none⟩) := AS.facts_get hF 35 (by simp)
        have h26 : u 26 = .bool true := AS.facts_get hF 26 (by simp)
        clear hF
        simp only [h35, h26] at hK ⊢
        clear h35 h26
        go_simp
        exact hK.out _ _ bR (rfl) trivial
       refine AS.sc rfl rfl rfl ?_ ?_
       ·intro k_ u w_ hk_ hJ hF K hK
        have h36 : u 36 = .pointer (some ⟨b, off + j * 4, none⟩) := AS.facts_get hF 36 (by simp)
        have h26 : u 26 = .bool true := AS.facts_get hF 26 (by simp)
        clear hF
        simp only [h36, h26] at hK ⊢
        clear h36 h26
        obtain ⟨c0, c1, c2, c3⟩ := HY4.out.up (hJ : Below wr.heap.size wr w_) hbW
        go_simp
        exact hK.out _ _ bR (rfl) trivial
       refine AS.sc rfl rfl rfl ?_ ?_
       ·intro k_ u w_ hk_ hJ hF K hK
        have h31 : u 31 = .int .i64 x.code := AS.facts_get hF 31 (by simp)
        have h37 : u 37 = .int .i64 y.code := AS.facts_get hF 37 (by simp)
        have h26 : u 26 = .bool true := AS.facts_get hF 26 (by simp)
        clear hF
        simp only [h31, h37, h26] at hK ⊢
        clear h31 h37 h26
        go_simp
        exact hK.out _ _ bR (rfl) trivial
       refine AS.sc rfl rfl rfl ?_ ?_
       ·intro k_ u w_ hk_ hJ hF K hK
        have h26 : u 26 = .bool true := AS.facts_get hF 26 (by simp)
        have h38 : u 38 = .bool false := AS.facts_get hF 38 (by simp)
        have h23 : u 23 = .bool false := AS.facts_get hF 23 (by simp)
        clear hF
        simp only [h26, h38, h23] at hK ⊢
        clear h26 h38 h23
        go_simp
        exact hK.out _ _ bR (rfl) trivial
       refine AS.sc rfl rfl rfl ?_ ?_
       ·intro k_ u w_ hk_ hJ hF K hK
        have h23 : u 23 = .bool false := AS.facts_get hF 23 (by simp)
        have h39 : u 39 = .bool false := AS.facts_get hF 39 (by simp)
        clear hF
        simp only [h23, h39] at hK ⊢
        clear h23 h39
        go_simp
        exact hK.out _ _ bR (rfl) trivial
       refine AS.sc rfl rfl rfl ?_ ?_
       ·intro k_ u w_ hk_ hJ hF K hK
        have h40 : u 40 = .bool false := AS.facts_get hF 40 (by simp)
        clear hF
        simp only [h40] at hK ⊢
        clear h40
        go_simp
        exact hK.out _ _ bR (rfl) trivial
       refine AS.sc rfl rfl rfl ?_ ?_
       ·intro k_ u w_ hk_ hJ hF K hK
        have h41 : u 41 = .bool false := AS.facts_get hF 41 (by simp)
        clear hF
        simp only [h41] at hK ⊢
        clear h41
        go_simp
        exact hK.out _ _ bR (rfl) trivial
       refine AS.sc rfl rfl rfl ?_ ?_
       ·intro k_ u w_ hk_ hJ hF K hK
        have h41 : u 41 = .bool false := AS.facts_get hF 41 (by simp)
        clear hF
        simp only [h41] at hK ⊢
        clear h41
        go_simp
        exact hK.out _ _ bR (rfl) trivial
       refine AS.sc rfl rfl rfl ?_ ?_
       ·intro k_ u w_ hk_ hJ hF K hK
        have h41 : u 41 = .bool false := AS.facts_get hF 41 (by simp)
        clear hF
        simp only [h41] at hK ⊢
        clear h41
        go_simp
        exact hK.out _ _ bR (rfl) trivial
       refine AS.sc rfl rfl rfl ?_ ?_
       ·intro k_ u w_ hk_ hJ hF K hK
        have h43 : u 43 = .slice (some ⟨b, off, none⟩) (n : Nat) cp := AS.facts_get hF 43 (by simp)
        have h44 : u 44 = .int .i64 (k : Int) := AS.facts_get hF 44 (by simp)
        have h41 : u 41 = .bool false := AS.facts_get hF 41 (by simp)
        clear hF
        simp only [h43, h44, h41] at hK ⊢
        clear h43 h44 h41
        go_simp
        exact hK.out _ _ bR (rfl) trivial
       refine AS.sc rfl rfl rfl ?_ ?_
       ·intro k_ u w_ hk_ hJ hF K hK
        have h45 : u 45 = .pointer (some ⟨b, off + k * 4, none⟩) := AS.facts_get hF 45 (by simp)
        have h41 : u 41 = .bool false := AS.facts_get hF 41 (by simp)
        clear hF
        simp only [h45, h41] at hK ⊢
        clear h45 h41
        go_simp
        exact hK.out _ _ bR (rfl) trivial
       refine AS.sc rfl rfl rfl ?_ ?_
       ·intro k_ u w_ hk_ hJ hF K hK
        have h46 : u 46 = .pointer (some ⟨b, off + k * 4, none⟩) := AS.facts_get hF 46 (by simp)
        have h41 : u 41 = .bool false := AS.facts_get hF 41 (by simp)
        clear hF
        simp only [h46, h41] at hK ⊢
        clear h46 h41
        obtain ⟨c0, c1, c2, c3⟩ := HX4.out.up (hJ : Below wr.heap.size wr w_) hbW
        go_simp
        exact hK.out _ _ bR (rfl) trivial
       refine AS.sc rfl rfl rfl ?_ ?_
       ·intro k_ u w_ hk_ hJ hF K hK
        have h42 : u 42 = .slice (some ⟨b, off, none⟩) (n : Nat) cp := AS.facts_get hF 42 (by simp)
        have h47 : u 47 = .int .i64 x.code := AS.facts_get hF 47 (by simp)
        have h41 : u 41 = .bool false := AS.facts_get hF 41 (by simp)
        clear hF
        simp only [h42, h47, h41] at hK ⊢
        clear h42 h47 h41
        have hz9 := HZW.out.up (hJ : Below wr.heap.size wr w_)
        go_simp
        refine (HCb.out _ hz9).mono ?_
        rintro e w3 ⟨v, rfl, h9, hb⟩
        exact hK.out _ _ hb h9 trivial
       refine AS.sc rfl rfl rfl ?_ ?_
       ·intro k_ u w_ hk_ hJ hF K hK
        have h48 : SlI w_ (u 48) C := AS.facts_get hF 48 (by simp)
        have h41 : u 41 = .bool false := AS.facts_get hF 41 (by simp)
        clear hF
        obtain ⟨A8, d8, h48, -⟩ := h48
        rw [HCL.out] at h48
        simp only [h48, h41] at hK ⊢
        clear h48 h41
        go_simp
        exact hK.out _ _ bR (rfl) trivial
       refine AS.sc rfl rfl rfl ?_ ?_
       ·intro k_ u w_ hk_ hJ hF K hK
        have h41 : u 41 = .bool false := AS.facts_get hF 41 (by simp)
        clear hF
        simp only [h41] at hK ⊢
        clear h41
        go_simp
        exact hK.out _ _ bR (rfl) trivial
       refine AS.sc rfl rfl rfl ?_ ?_
       ·intro k_ u w_ hk_ hJ hF K hK
        have h50 : u 50 = .slice (some ⟨b, off, none⟩) (n : Nat) cp := AS.facts_get hF 50 (by simp)
        have h41 : u 41 = .bool false := AS.facts_get hF 41 (by simp)
        clear hF
        simp only [h50, h41] at hK ⊢
        clear h50 h41
        go_simp
        exact hK.out _ _ bR (rfl) trivial
       refine AS.sc rfl rfl rfl ?_ ?_
       ·intro k_ u w_ hk_ hJ hF K hK
        have h49 : u 49 = .int .i64 (cl : Int) := AS.facts_get hF 49 (by simp)
        have h51 : u 51 = .int .i64 (n : Int) := AS.facts_get hF 51 (by simp)
        have h41 : u 41 = .bool false := AS.facts_get hF 41 (by simp)
        clear hF
        simp only [h49, h51, h41] at hK ⊢
        clear h49 h51 h41
        go_simp
        exact hK.out _ _ bR (rfl) trivial
       refine AS.sc rfl rfl rfl ?_ ?_
       ·intro k_ u w_ hk_ hJ hF K hK
        have h41 : u 41 = .bool false := AS.facts_get hF 41 (by simp)
        have h52 : u 52 = .bool q := AS.facts_get hF 52 (by simp)
        clear hF
        simp only [h41, h52] at hK ⊢
        clear h41 h52
        go_simp
        exact hK.out _ _ bR (rfl) trivial
       exact AS.StepsOk.nil
      ·intro u W9 hJ9 hF
       have h53 : u 53 = .bool q := AS.facts_get hF 53 (by simp [rvFd, AS.temps])
       have hB9 : Below wr.heap.size wr W9 := hJ9
       clear hF hJ9
       simp only [h53]
       clear h53
       cases q
       ·have HR2 : Hid (rowsTo L g (k + 1) = true) := Lib.hid (by rw [rowsTo, HR.out, HQ.out]; rfl)
        go_wp2_with fail
        go_roundg (n - (k + 1))
        case measure => omega
        case rel => exact ⟨k + 1, by go_num, by omega, by omega, HR2, hB.trans (hB9.mono hB.size)⟩
       ·have E : Hid (rvB L g = false) := Lib.hid (rvB_no (k := k) (by rw [HN.out]; exact hlt) HQ.out)
        go_wp2_with fail
        go_ret
        exact ⟨by rw [E.out]; rfl, hB.trans (hB9.mono hB.size)⟩
     ·have E : Hid (rvB L g = false) := Lib.hid (rvB_no (k := k) (by rw [HN.out]; exact hlt) (by
       have h1 := HX.out
       rw [HJ.out] at h1 ⊢
       exact rowB_down (by rw [h1, HY.out]; exact h8)))
      have e3 : decide (x.code ≤ y.code) = true := decide_eq_true h8
      clear h8 hq
      refine AS.region_facts (rvFc b off n k j cp g x y) (HNo wr) [[], [], [], [16, 17], [18], [], [15, 19, 20], [21], [22], [23], [24, 23], [25, 23], [26], [26], [27, 28, 26], [29, 26], [30, 26], [26], [26], [33, 26], [32, 34, 26], [35, 26], [36, 26], [31, 37, 26], [26, 38, 23], [23, 39], [40], [41], [41], [41], [41], [41], [41], [41], [41], [41], [41], [41], [41, 52]] [] [[]] [0, 0, 0, 0, 0, 0, 0, 0, 0, 0, 0, 0, 0, 0, 0, 0, 0, 0, 0, 0, 0, 0, 0, 0, 0, 0, 0, 0, 0, 0, 0, 0, 0, 0, 0, 0, 0, 0, 0] [] (fun u => by simp only [rvFc, AS.temps, List.map_cons, List.map_nil, fillL, List.setIfInBounds_toArray, List.set_cons_zero, List.set_cons_succ]; rfl) (by kernel_rfl) (by kernel_rfl) (HNo.st wr) (dc_drew (Below.refl _ _)) ?_ ?_
      ·refine AS.sc rfl rfl rfl ?_ ?_
       ·intro k_ u w_ hk_ hJ hF K hK
        clear hF
        go_simp
        exact hK.out _ _ bR (rfl) trivial
       refine AS.sc rfl rfl rfl ?_ ?_
       ·intro k_ u w_ hk_ hJ hF K hK
        clear hF
        go_simp
        exact hK.out _ _ bR (rfl) trivial
       refine AS.sc rfl rfl rfl ?_ ?_
       ·intro k_ u w_ hk_ hJ hF K hK
        clear hF
        go_simp
        exact hK.out _ _ bR (rfl) trivial
       refine AS.sc rfl rfl rfl ?_ ?_
       ·intro k_ u w_ hk_ hJ hF K hK
        have h16 : u 16 = .slice (some ⟨b, off, none⟩) (n : Nat) cp := AS.facts_get hF 16 (by simp)
        have h17 : u 17 = .int .i64 (k : Int) := AS.facts_get hF 17 (by simp)
        clear hF
        simp only [h16, h17] at hK ⊢
        clear h16 h17
        go_simp
        exact hK.out _ _ bR (rfl) trivial
       refine AS.sc rfl rfl rfl ?_ ?_
       ·intro k_ u w_ hk_ hJ hF K hK
        have h18 : u 18 = .pointer (some ⟨b, off + k * 4, none⟩) := AS.facts_get hF 18 (by simp)
        clear hF
        simp only [h18] at hK ⊢
        clear h18
        obtain ⟨c0, c1, c2, c3⟩ := HX4.out.up (hJ : Below wr.heap.size wr w_) hbW
        go_simp
        exact hK.out _ _ bR (rfl) trivial
       refine AS.sc rfl rfl rfl ?_ ?_
       ·intro k_ u w_ hk_ hJ hF K hK
        clear hF
        go_simp
        exact hK.out _ _ bR (rfl) trivial
       refine AS.sc rfl rfl rfl ?_ ?_
       ·intro k_ u w_ hk_ hJ hF K hK
        have h15 : u 15 = .slice (some ⟨b, off, none⟩) (n : Nat) cp := AS.facts_get hF 15 (by simp)
        have h19 : u 19 = accV x := AS.facts_get hF 19 (by simp)
        have h20 : u 20 = .bool g := AS.facts_get hF 20 (by simp)
        clear hF
        simp only [h15, h19, h20] at hK ⊢
        clear h15 h19 h20
        have hz9 := HZW.out.up (hJ : Below wr.heap.size wr w_)
        go_simp
        refine (HPr.out _ hz9).mono ?_
        rintro e w3 ⟨rfl, hb⟩
        exact hK.out _ _ hb (rfl) trivial
       refine AS.sc rfl rfl rfl ?_ ?_
       ·intro k_ u w_ hk_ hJ hF K hK
        have h21 : u 21 = .bool true := AS.facts_get hF 21 (by simp)
        clear hF
        simp only [h21] at hK ⊢
        clear h21
        go_simp
        exact hK.out _ _ bR (rfl) trivial
       refine AS.sc rfl rfl rfl ?_ ?_
       ·intro k_ u w_ hk_ hJ hF K hK
        have h22 : u 22 = .bool false := AS.facts_get hF 22 (by simp)
        clear hF
        simp only [h22] at hK ⊢
        clear h22
        go_simp
        exact hK.out _ _ bR (rfl) trivial
       refine AS.sc rfl rfl rfl ?_ ?_
       ·intro k_ u w_ hk_ hJ hF K hK
        have h23 : u 23 = .bool false := AS.facts_get hF 23 (by simp)
        clear hF
        simp only [h23] at hK ⊢
        clear h23
        go_simp
        exact hK.out _ _ bR (rfl) trivial
       refine AS.sc rfl rfl rfl ?_ ?_
       ·intro k_ u w_ hk_ hJ hF K hK
        have h24 : u 24 = .int .i64 (k : Int) := AS.facts_get hF 24 (by simp)
        have h23 : u 23 = .bool false := AS.facts_get hF 23 (by simp)
        clear hF
        simp only [h24, h23] at hK ⊢
        clear h24 h23
        go_simp
        exact hK.out _ _ bR (rfl) trivial
       refine AS.sc rfl rfl rfl ?_ ?_
       ·intro k_ u w_ hk_ hJ hF K hK
        have h25 : u 25 = .bool true := AS.facts_get hF 25 (by simp)
        have h23 : u 23 = .bool false := AS.facts_get hF 23 (by simp)
        clear hF
        simp only [h25, h23] at hK ⊢
        clear h25 h23
        go_simp
        exact hK.out _ _ bR (rfl) trivial
       refine AS.sc rfl rfl rfl ?_ ?_
       ·intro k_ u w_ hk_ hJ hF K hK
        have h26 : u 26 = .bool true := AS.facts_get hF 26 (by simp)
        clear hF
        simp only [h26] at hK ⊢
        clear h26
        go_simp
        exact hK.out _ _ bR (rfl) trivial
       refine AS.sc rfl rfl rfl ?_ ?_
       ·intro k_ u w_ hk_ hJ hF K hK
        have h26 : u 26 = .bool true := AS.facts_get hF 26 (by simp)
        clear hF
        simp only [h26] at hK ⊢
        clear h26
        go_simp
        exact hK.out _ _ bR (rfl) trivial
       refine AS.sc rfl rfl rfl ?_ ?_
       ·intro k_ u w_ hk_ hJ hF K hK
        have h27 : u 27 = .slice (some ⟨b, off, none⟩) (n : Nat) cp := AS.facts_get hF 27 (by simp)
        have h28 : u 28 = .int .i64 (k : Int) := AS.facts_get hF 28 (by simp)
        have h26 : u 26 = .bool true := AS.facts_get hF 26 (by simp)
        clear hF
        simp only [h27, h28, h26] at hK ⊢
        clear h27 h28 h26
        go_simp
        exact hK.out _ _ bR (rfl) trivial
       refine AS.sc rfl rfl rfl ?_ ?_
       ·intro k_ u w_ hk_ hJ hF K hK
        have h29 : u 29 = .pointer (some ⟨b, off + k * 4, none⟩) := AS.facts_get hF 29 (by simp)
        have h26 : u 26 = .bool true := AS.facts_get hF 26 (by simp)
        clear hF
        simp only [h29, h26] at hK ⊢
        clear h29 h26
        go_simp
        exact hK.out _ _ bR (rfl) trivial
       refine AS.sc rfl rfl rfl ?_ ?_
       ·intro k_ u w_ hk_ hJ hF K hK
        have h30 : u 30 = .pointer (some ⟨b, off + k * 4, none⟩) := AS.facts_get hF 30 (by simp)
        have h26 : u 26 = .bool true := AS.facts_get hF 26 (by simp)
        clear hF
        simp only [h30, h26] at hK ⊢
        clear h30 h26
        obtain ⟨c0, c1, c2, c3⟩ := HX4.out.up (hJ : Below wr.heap.size wr w_) hbW
        go_simp
        exact hK.out _ _ bR (rfl) trivial
       refine AS.sc rfl rfl rfl ?_ ?_
       ·intro k_ u w_ hk_ hJ hF K hK
        have h26 : u 26 = .bool true := AS.facts_get hF 26 (by simp)
        clear hF
        simp only [h26] at hK ⊢
        clear h26
        go_simp
        exact hK.out _ _ bR (rfl) trivial
       refine AS.sc rfl rfl rfl ?_ ?_
       ·intro k_ u w_ hk_ hJ hF K hK
        have h26 : u 26 = .bool true := AS.facts_get hF 26 (by simp)
        clear hF
        simp only [h26] at hK ⊢
        clear h26
        go_simp
        exact hK.out _ _ bR (rfl) trivial
       refine AS.sc rfl rfl rfl ?_ ?_
       ·intro k_ u w_ hk_ hJ hF K hK
        have h33 : u 33 = .int .i64 (k : Int) := AS.facts_get hF 33 (by simp)
        have h26 : u 26 = .bool true := AS.facts_get hF 26 (by simp)
        clear hF
        simp only [h33, h26] at hK ⊢
        clear h33 h26
        go_simp
        exact hK.out _ _ bR (rfl) trivial
       refine AS.sc rfl rfl rfl ?_ ?_
       ·intro k_ u w_ hk_ hJ hF K hK
        have h32 : u 32 = .slice (some ⟨b, off, none⟩) (n : Nat) cp := AS.facts_get hF 32 (by simp)
        have h34 : u 34 = .int .i64 (j : Int) := AS.facts_get hF 34 (by simp)
        have h26 : u 26 = .bool true := AS.facts_get hF 26 (by simp)
        clear hF
        simp only [h32, h34, h26] at hK ⊢
        clear h32 h34 h26
        go_simp
        exact hK.out _ _ bR (rfl) trivial
       refine AS.sc rfl rfl rfl ?_ ?_
       ·intro k_ u w_ hk_ hJ hF K hK
        have h35 : u 35 = .pointer (some ⟨b, off + j * 4, none⟩) := AS.facts_get hF 35 (by simp)
        have h26 : u 26 = .bool true := AS.facts_get hF 26 (by simp)
        clear hF
        simp only [h35, h26] at hK ⊢
        clear h35 h26
        go_simp
        exact hK.out _ _ bR (rfl) trivial
       refine AS.sc rfl rfl rfl ?_ ?_
       ·intro k_ u w_ hk_ hJ hF K hK
        have h36 : u 36 = .pointer (some ⟨b, off + j * 4, none⟩) := AS.facts_get hF 36 (by simp)
        have h26 : u 26 = .bool true := AS.facts_get hF 26 (by simp)
        clear hF
        simp only [h36, h26] at hK ⊢
        clear h36 h26
        obtain ⟨c0, c1, c2, c3⟩ := HY4.out.up (hJ : Below wr.heap.size wr w_) hbW
        go_simp
        exact hK.out _ _ bR (rfl) trivial
       refine AS.sc rfl rfl rfl ?_ ?_
       ·intro k_ u w_ hk_ hJ hF K hK
        have h31 : u 31 = .int .i64 x.code := AS.facts_get hF 31 (by simp)
        have h37 : u 37 = .int .i64 y.code := AS.facts_get hF 37 (by simp)
        have h26 : u 26 = .bool true := AS.facts_get hF 26 (by simp)
        clear hF
        simp only [h31, h37, h26] at hK ⊢
        clear h31 h37 h26
        go_simp
        exact hK.out _ _ bR (rfl) trivial
       refine AS.sc rfl rfl rfl ?_ ?_
       ·intro k_ u w_ hk_ hJ hF K hK
        have h26 : u 26 = .bool true := AS.facts_get hF 26 (by simp)
        have h38 : u 38 = .bool true := AS.facts_get hF 38 (by simp)
        have h23 : u 23 = .bool false := AS.facts_get hF 23 (by simp)
        clear hF
        simp only [h26, h38, h23] at hK ⊢
        clear h26 h38 h23
        go_simp
        exact hK.out _ _ bR (rfl) trivial
       refine AS.sc rfl rfl rfl ?_ ?_
       ·intro k_ u w_ hk_ hJ hF K hK
        have h23 : u 23 = .bool false := AS.facts_get hF 23 (by simp)
        have h39 : u 39 = .bool true := AS.facts_get hF 39 (by simp)
        clear hF
        simp only [h23, h39] at hK ⊢
        clear h23 h39
        go_simp
        exact hK.out _ _ bR (rfl) trivial
       refine AS.sc rfl rfl rfl ?_ ?_
       ·intro k_ u w_ hk_ hJ hF K hK
        have h40 : u 40 = .bool true := AS.facts_get hF 40 (by simp)
        clear hF
        simp only [h40] at hK ⊢
        clear h40
        go_simp
        exact hK.out _ _ bR (rfl) trivial
       refine AS.sc rfl rfl rfl ?_ ?_
       ·intro k_ u w_ hk_ hJ hF K hK
        have h41 : u 41 = .bool true := AS.facts_get hF 41 (by simp)
        clear hF
        simp only [h41] at hK ⊢
        clear h41
        go_simp
        exact hK.out _ _ bR (rfl) trivial
       refine AS.sc rfl rfl rfl ?_ ?_
       ·intro k_ u w_ hk_ hJ hF K hK
        have h41 : u 41 = .bool true := AS.facts_get hF 41 (by simp)
        clear hF
        simp only [h41] at hK ⊢
        clear h41
        go_simp
        exact hK.out _ _ bR (rfl) trivial
       refine AS.sc rfl rfl rfl ?_ ?_
       ·intro k_ u w_ hk_ hJ hF K hK
        have h41 : u 41 = .bool true := AS.facts_get hF 41 (by simp)
        clear hF
        simp only [h41] at hK ⊢
        clear h41
        go_simp
        exact hK.out _ _ bR (rfl) trivial
       refine AS.sc rfl rfl rfl ?_ ?_
       ·intro k_ u w_ hk_ hJ hF K hK
        have h41 : u 41 = .bool true := AS.facts_get hF 41 (by simp)
        clear hF
        simp only [h41] at hK ⊢
        clear h41
        go_simp
        exact hK.out _ _ bR (rfl) trivial
       refine AS.sc rfl rfl rfl ?_ ?_
       ·intro k_ u w_ hk_ hJ hF K hK
        have h41 : u 41 = .bool true := AS.facts_get hF 41 (by simp)
        clear hF
        simp only [h41] at hK ⊢
        clear h41
        go_simp
        exact hK.out _ _ bR (rfl) trivial
       refine AS.sc rfl rfl rfl ?_ ?_
       ·intro k_ u w_ hk_ hJ hF K hK
        have h41 : u 41 = .bool true := AS.facts_get hF 41 (by simp)
        clear hF
        simp only [h41] at hK ⊢
        clear h41
        go_simp
        exact hK.out _ _ bR (rfl) trivial
       refine AS.sc rfl rfl rfl ?_ ?_
       ·intro k_ u w_ hk_ hJ hF K hK
        have h41 : u 41 = .bool true := AS.facts_get hF 41 (by simp)
        clear hF
        simp only [h41] at hK ⊢
        clear h41
        go_simp
        exact hK.out _ _ bR (rfl) trivial
       refine AS.sc rfl rfl rfl ?_ ?_
       ·intro k_ u w_ hk_ hJ hF K hK
        have h41 : u 41 = .bool true := AS.facts_get hF 41 (by simp)
        clear hF
        simp only [h41] at hK ⊢
        clear h41
        go_simp
        exact hK.out _ _ bR (rfl) trivial
       refine AS.sc rfl rfl rfl ?_ ?_
       ·intro k_ u w_ hk_ hJ hF K hK
        have h41 : u 41 = .bool true := AS.facts_get hF 41 (by simp)
        clear hF
        simp only [h41] at hK ⊢
        clear h41
        go_simp
        exact hK.out _ _ bR (rfl) trivial
       refine AS.sc rfl rfl rfl ?_ ?_
       ·intro k_ u w_ hk_ hJ hF K hK
        have h41 : u 41 = .bool true := AS.facts_get hF 41 (by simp)
        clear hF
        simp only [h41] at hK ⊢
        clear h41
        go_simp
        exact hK.out _ _ bR (rfl) trivial
       refine AS.sc rfl rfl rfl ?_ ?_
       ·intro k_ u w_ hk_ hJ hF K hK
        have h41 : u 41 = .bool true := AS.facts_get hF 41 (by simp)
        clear hF
        simp only [h41] at hK ⊢
        clear h41
        go_simp
        exact hK.out _ _ bR (rfl) trivial
       refine AS.sc rfl rfl rfl ?_ ?_
       ·intro k_ u w_ hk_ hJ hF K hK
        have h41 : u 41 = .bool true := AS.facts_get hF 41 (by simp)
        have h52 : u 52 = undef := AS.facts_get hF 52 (by simp)
        clear hF
        simp only [h41, h52] at hK ⊢
        clear h41 h52
        go_simp
        exact hK.out _ _ bR (rfl) trivial
       exact AS.StepsOk.nil
      ·intro u W9 hJ9 hF
       have h53 : u 53 = .bool true := AS.facts_get hF 53 (by simp [rvFc, AS.temps])
       have hB9 : Below wr.heap.size wr W9 := hJ9
       clear hF hJ9
       simp only [h53]
       clear h53
       go_wp2_with fail
       go_ret
       exact ⟨by rw [E.out]; rfl, hB.trans (hB9.mono hB.size)⟩
  ·obtain rfl : k = n := by omega
   have hltz : ¬ (k : Int) < (k : Int) := by omega
   have E : Hid (rvB L g = true) := Lib.hid (by rw [HV.out]; exact HR.out)
   go_wp2_with fail
   go_ret
   exact ⟨by rw [E.out]; rfl, hB⟩
def allTo (p : Nat → Bool) : Nat → Bool
 | 0 => true
 | k + 1 => allTo p k && p k
theorem allTo_le {p : Nat → Bool} : ∀ {k m : Nat}, k ≤ m → allTo p m = true → allTo p k = true
  | k, m, h, hm => by
    induction m with
    | zero => obtain rfl : k = 0 := by omega
              exact hm
    | succ m ih =>
      rcases Nat.lt_or_ge k (m + 1) with h1 | h1
      · rw [allTo, Bool.and_eq_true] at hm
        exact ih (by omega) hm.1
      · obtain rfl : k = m + 1 := by omega
        exact hm
theorem allTo_is {p : Nat → Bool} : ∀ {k : Nat}, allTo p k = true ↔ ∀ i, i < k → p i = true
 | 0 => ⟨fun _ i hi => by omega, fun _ => rfl⟩
 | k + 1 => by
  rw [allTo, Bool.and_eq_true, allTo_is]
  constructor
  ·rintro ⟨h1, h2⟩ i hi
   rcases Nat.lt_or_ge i k with h3 | h3
   ·exact h1 i h3
   ·obtain rfl : i = k := by omega
    exact h2
  ·intro h; exact ⟨fun i hi => h i (by omega), h k (by omega)⟩
theorem allTo_no {p : Nat → Bool} {k n : Nat} (hk : k < n) (h : p k = false) : allTo p n = false := by
 cases h1 : allTo p n with
 | false => rfl
 | true => rw [allTo_is.1 h1 k hk] at h; cases h
def lnkB (L c : List Acc) (l : Lnk) : Bool := (fnd L l.frm).isSome && ((fnd c l.tgt).isSome && (decide ((fndA L l.frm).kind = (fndA c l.tgt).kind) && vdB l.since))
def smB (K : List Lnk) (i k : Nat) : Bool := decide ((K.getD k lnk0).frm = (K.getD i lnk0).frm) && decide ((K.getD k lnk0).since = (K.getD i lnk0).since)
def dfB (K : List Lnk) (i : Nat) : Bool := allTo (fun k => !smB K i k) i
def mvB (L : List Acc) (K : List Lnk) (c : List Acc) : Bool := vB c true && (vB L false && (decide (K.length ≤ 400) && (allTo (fun i => lnkB L c (K.getD i lnk0)) K.length && allTo (dfB K) K.length)))
abbrev heldE : Value → Option (DataW Value × List MemPlace) := fun v => some (.held v, [])
def MapV (w : World) (b n : Nat) (f : Int → Option Value) : Prop := ∃ D : DataW Value, w.ownsMap Tryz.prog 3 heldE b n D ∧ ∀ c, Maps.has D (.int .i64 c) = (f c).isSome ∧ ∀ z, D.atKey (.int .i64 c) z = (match f c with | some v => .held v | none => z)
section
variable {w w' : World} {b n m : Nat} {f : Int → Option Value}
theorem MapV.blk (h : MapV w b n f) (hk : w'.heap[b]? = w.heap[b]?) : MapV w' b n f := by
 obtain ⟨D, ⟨es, clock, hb, rest⟩, h2⟩ := h
 exact ⟨D, ⟨es, clock, hk.trans hb, rest⟩, h2⟩
theorem MapV.lt (h : MapV w b n f) : b < w.heap.size := by
 obtain ⟨D, h1, _⟩ := h
 exact h1.lt
theorem MapV.up (h : MapV w b n f) (hb : Below w.heap.size w w') : MapV w' b n f := h.blk (hb.block b h.lt)
theorem MapV.mono (h : MapV w b n f) (hm : n ≤ m) : MapV w b m f := by
 obtain ⟨D, h1, h2⟩ := h
 exact ⟨D, h1.mono hm, h2⟩
theorem MapV.made (w : World) : MapV (w.alloc (.map #[] 0)) w.heap.size 0 (fun _ => none) :=
 ⟨.map [], World.ownsMap_made _ _ _ _, fun _ => ⟨rfl, fun _ => rfl⟩⟩
theorem MapV.ext {g : Int → Option Value} (h : MapV w b n f) (hg : ∀ c, g c = f c) : MapV w b n g := by
 obtain ⟨D, h1, h2⟩ := h
 exact ⟨D, h1, fun c => by rw [hg c]; exact h2 c⟩
end
theorem ts_keyed : Keyed Tryz.prog 158 := Keyed.of_law (deep_law_gate laid_out (by decide +kernel) (by decide +kernel) (by kernel_rfl) (by kernel_rfl))
theorem start_key {a b : Int} (ha : (Lit.int .i64 a).wf = true) (hb : (Lit.int .i64 b).wf = true) : ∃ l, keyOf Tryz.prog 158 (.agg #[.int .i64 a, .int .i64 b]) = some l := by
 have key : ∀ d, Tryz.prog.keyLits (d + 2) 158 [.int .i64 a, .int .i64 b] = some [.int .i64 a, .int .i64 b] := by
  intro d
  have hc : Tryz.prog.cellsOf 158 = 2 := by kernel_rfl
  have hc3 : Tryz.prog.cellsOf 3 = 1 := by kernel_rfl
  simp [Program.keyLits, Tryz.underlying158, Tryz.underlying3, hc, hc3, ha, hb]
 have hf : Value.formed Tryz.prog 158 (.agg #[.int .i64 a, .int .i64 b]) = true := by
  have hc : Tryz.prog.cellsOf 158 = 2 := by kernel_rfl
  simp [Value.formed, Tryz.underlying158, hc]
 have hk : Tryz.prog.keyType 158 = true := by kernel_rfl
 have h1 : 1 ≤ Tryz.prog.types.size := by decide +kernel
 obtain ⟨n, hn⟩ : ∃ n, Tryz.prog.types.size + 1 = n + 2 := ⟨Tryz.prog.types.size - 1, by omega⟩
 refine ⟨.string (keyBytes [.int .i64 a, .int .i64 b]), ?_⟩
 unfold keyOf
 rw [Tryz.underlying158]
 simp only [hk, hf, Bool.and_self, if_true]
 rw [hn]
 show Option.map _ (Tryz.prog.keyLits (n + 2) 158 [.int .i64 a, .int .i64 b]) = _
 rw [key n]; rfl
def SetP (w : World) (b m : Nat) (S : Int → Int → Bool) : Prop := ∃ D : DataW Value, w.ownsMap Tryz.prog 158 heldE b m D ∧ Maps.size D = m ∧ ∀ x y l, keyOf Tryz.prog 158 (.agg #[.int .i64 x, .int .i64 y]) = some l → Maps.has D l = S x y
theorem SetP.lt {w : World} {b m : Nat} {S : Int → Int → Bool} (h : SetP w b m S) : b < w.heap.size := by
 obtain ⟨D, h1, _⟩ := h
 exact h1.lt
theorem SetP.blk {w w' : World} {b m : Nat} {S : Int → Int → Bool} (h : SetP w b m S) (hk : w'.heap[b]? = w.heap[b]?) : SetP w' b m S := by
 obtain ⟨D, ⟨es, clock, hb, rest⟩, h2⟩ := h
 exact ⟨D, ⟨es, clock, hk.trans hb, rest⟩, h2⟩
theorem SetP.up {w w' : World} {b m : Nat} {S : Int → Int → Bool} (h : SetP w b m S) (hb : Below w.heap.size w w') : SetP w' b m S := h.blk (hb.block b h.lt)
theorem SetP.made (w : World) : SetP (w.alloc (.map #[] 0)) w.heap.size 0 (fun _ _ => false) :=
 ⟨.map [], World.ownsMap_made _ _ _ _, rfl, fun _ _ _ _ => rfl⟩
theorem wpList_setp_put {w : World} {ops : Array Oper} {rest : List Oper} {o : Oper} {a : Act} {Q : Exit → Act → World → Prop} (hg : o.guard = none) (m x y : Operand) (t e : TypeId) (hop : o.op = Op.mapUpdate t m x y)
  (ht : Tryz.prog.underlying t = some (.map 158 e))
  (b n : Nat) (S : Int → Int → Bool) (hm : a.eval m = .map (some b)) (hs : SetP w b n S) (c d : Int) (hx : a.eval x = .agg #[.int .i64 c, .int .i64 d]) (v : Value) (hy : a.eval y = v) (hw : (Lit.int .i64 c).wf = true) (hw2 : (Lit.int .i64 d).wf = true) (hn : n ≤ 1000000)
  (hK : ∀ w', Hid (SetP w' b (if S c d = true then n else n + 1) (fun x y => decide (x = c ∧ y = d) || S x y)) → Hid (w.grownBy w' (some b)) → wpList Tryz.prog ops Q rest (a.put o.dst undef) w') : wpList Tryz.prog ops Q (o :: rest) a w := by
 obtain ⟨D, h1, hsz, h3⟩ := hs
 have h2 := h1.isMap
 have ht2 := h1.tidy ts_keyed
 obtain ⟨l, hl⟩ := start_key hw hw2
 refine wpList_mapUpdate_own w hg m x y t hop 158 e ts_keyed ht heldE b n D hm h1 (by unfold maxLen; omega) _ _ _ hx hy hl (.held v) [] rfl ?_
 intro w' h4 h5
 have hsz2 : Maps.size (D.put l (.held v)) = if S c d = true then n else n + 1 := by
  rw [size_put ht2, h3 c d l hl, hsz]
 refine hK w' (Lib.hid ⟨_, ?_, hsz2, fun x y l2 hl2 => ?_⟩) (Lib.hid h5)
 ·obtain ⟨es, clock, hb, F, hes, hD⟩ := h4
  refine ⟨es, clock, hb, F, ?_, hD⟩
  have : es.size = Maps.size (D.put l (.held v)) := by rw [hD, size_eq, length_sorted]; simp
  omega
 ·by_cases hxc : x = c ∧ y = d
  ·obtain ⟨rfl, rfl⟩ := hxc
   rw [hl] at hl2
   obtain rfl := Option.some.inj hl2
   rw [has_put_same h2 (ts_keyed.key hl)]
   simp
  ·have hne : l2 ≠ l := by
    rintro rfl
    have := ts_keyed.inj hl2 hl
    simp at this
    exact hxc this
   rw [has_put_other hne, h3 x y l2 hl2]
   show S x y = (decide (x = c ∧ y = d) || S x y)
   rw [decide_eq_false hxc]; rfl
open Go.RowKit
theorem lpB_eq (y : Int) : lpB y = ((y % 4 == 0) && ((y % 100 != 0) || (y % 400 == 0))) := by
 rw [Bool.eq_iff_iff, lpB_iff]; simp
theorem isLeap_any (y : Int) (w : World) (h0 : 0 ≤ y) : Calls Tryz.prog 99 #[.int .i64 y] w fun e w' => e = .returned (.bool (lpB y)) ∧ w = w' := by
 rw [lpB_eq]
 cases h1 : (y % 4 == 0)
 ·go_enter Tryz.func99, Tryz.ntmps99
  go_wp2
  go_ret
  exact ⟨rfl, rfl⟩
 ·cases h2 : (y % 100 == 0)
  ·have h2' : (y % 100 != 0) = true := by rw [bne, h2]; rfl
   rw [h2']
   go_enter Tryz.func99, Tryz.ntmps99
   go_wp2
   go_ret
   exact ⟨rfl, rfl⟩
  ·have h2' : (y % 100 != 0) = false := by rw [bne, h2]; rfl
   rw [h2']
   go_enter Tryz.func99, Tryz.ntmps99
   go_wp2
   go_ret
   exact ⟨by simp, rfl⟩
theorem rleap_any (y : Int) (w : World) (h0 : 0 ≤ y) : Calls Tryz.prog 117 #[.int .i64 y] w fun e w' => e = .returned (.bool (lpB y)) ∧ w = w' := by
 rw [lpB_eq]
 cases h1 : (y % 4 == 0)
 ·go_enter Tryz.func117, Tryz.ntmps117
  go_wp2
  go_ret
  exact ⟨rfl, rfl⟩
 ·cases h2 : (y % 100 == 0)
  ·have h2' : (y % 100 != 0) = true := by rw [bne, h2]; rfl
   rw [h2']
   go_enter Tryz.func117, Tryz.ntmps117
   go_wp2
   go_ret
   exact ⟨rfl, rfl⟩
  ·have h2' : (y % 100 != 0) = false := by rw [bne, h2]; rfl
   rw [h2']
   go_enter Tryz.func117, Tryz.ntmps117
   go_wp2
   go_ret
   exact ⟨by simp, rfl⟩
theorem vd_any (n : Int) (w : World) : Calls Tryz.prog 133 #[.int .i64 n] w fun e w' => e = .returned (.bool (vdB n)) ∧ w = w' := by
 unfold vdB
 by_cases h1 : (-25567 : Int) ≤ n
 ·rw [decide_eq_true h1]
  go_enter Tryz.func133, Tryz.ntmps133
  go_wp2
  go_ret
  exact ⟨rfl, rfl⟩
 ·rw [decide_eq_false h1]
  have h3 : decide ((-25567 : Int) ≤ n) = false := decide_eq_false h1
  clear h1
  go_enter Tryz.func133, Tryz.ntmps133
  go_wp2
  go_ret
  exact ⟨rfl, rfl⟩
theorem rvd_any (n : Int) (w : World) : Calls Tryz.prog 90 #[.int .i64 n] w fun e w' => e = .returned (.bool (vdB n)) ∧ w = w' := by
 unfold vdB
 by_cases h1 : (-25567 : Int) ≤ n
 ·rw [decide_eq_true h1]
  go_enter Tryz.func90, Tryz.ntmps90
  go_wp2
  go_ret
  exact ⟨rfl, rfl⟩
 ·rw [decide_eq_false h1]
  have h3 : decide ((-25567 : Int) ≤ n) = false := decide_eq_false h1
  clear h1
  go_enter Tryz.func90, Tryz.ntmps90
  go_wp2
  go_ret
  exact ⟨rfl, rfl⟩
theorem leapDays_any (y : Int) (w : World) (h0 : 1 ≤ y) (h1 : y ≤ 1000000) : Calls Tryz.prog 139 #[.int .i64 y] w fun e w' => e = .returned (.int .i64 (lpN y)) ∧ w = w' := by
 go_enter Tryz.func139, Tryz.ntmps139
 go_wp2
 go_ret
 exact ⟨rfl, rfl⟩
theorem newYear_any (y : Int) (w : World) (h0 : 1900 ≤ y) (h1 : y ≤ 2201) : Calls Tryz.prog 138 #[.int .i64 y] w fun e w' => e = .returned (.int .i64 (nyr y)) ∧ w = w' := by
 have hb := lpN_bd h0 h1
 have hc := lpN_bd (y := 1900) (by omega) (by omega)
 have he : nyr y = -25567 + 365 * (y - 1900) + lpN y - lpN 1900 := rfl
 rw [he]
 clear he
 go_enter Tryz.func138, Tryz.ntmps138
 go_wp2_with (go_at_call 139; refine (leapDays_any _ _ (by omega) (by omega)).mono ?_; rintro e w' ⟨rfl, rfl⟩)
 go_ret
 exact ⟨rfl, rfl⟩
end Go.Proofs.YtacmccijnkojeaaGreat
