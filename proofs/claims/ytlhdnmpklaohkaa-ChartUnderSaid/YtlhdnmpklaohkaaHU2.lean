/- Contracts and the law of ChartUnder, part 2: what was proved of each, callees first. -/
import Derived.Test.YtlhdnmpklaohkaaHU1
namespace Go.Proofs.Ytlhdnmpklaohkaa
open Go.RowKit
def sel (p : Acc → Bool) (L : List Acc) : List Int := (L.filter p).map Acc.code
theorem sel_succ {p : Acc → Bool} {L : List Acc} {k : Nat} (hk : k < L.length) : sel p (L.take (k + 1)) = if p (L.getD k acc0) = true then sel p (L.take k) ++ [(L.getD k acc0).code] else sel p (L.take k) := by
 rw [take_succ_getD (d := acc0) hk]
 unfold sel
 rw [List.filter_append, List.map_append]
 generalize L.getD k acc0 = x
 split
 ·rename_i h; rw [List.filter_cons_of_pos h]; rfl
 ·rename_i h; rw [List.filter_cons_of_neg h]; simp
theorem sel_len {p : Acc → Bool} {L : List Acc} : (sel p L).length ≤ L.length := by unfold sel; rw [List.length_map]; exact List.length_filter_le _ _
def undB (L : List Acc) (c : Int) (a : Acc) : Bool := decide (c ∈ climb L a.code)
def undL (L : List Acc) (c : Int) : List Int := if eiB L then sel (undB L c) L else []
set_option maxRecDepth 20000 in
set_option maxHeartbeats 3200000 in
theorem cunder_any (A : Option Addr) (cp : Nat) (L : List Acc) (c : Int) (w : World) (hz : AccAt w A L) (hl : L.length ≤ 1000) :
  Calls Try.prog 19 #[.slice A L.length cp, .int .i64 c] w fun e w' => ∃ v, e = .returned v ∧ SlI w' v (undL L c) ∧ Below w.heap.size w w' := by
 have hB := Below.refl w.heap.size w
 have h1 := fun w h => cischart_any A cp L w h hl
 cases he : eiB L
 ·have E := Lib.hid (show undL L c = [] by unfold undL; rw [he]; rfl)
  rw [he] at h1
  generalize L.length = n at *
  have H1 := Lib.hid h1
  have HZ := Lib.hid hz
  clear h1 he hz
  go_enter Try.func19, Try.ntmps19
  go_wp2_with (go_at_call 36; refine (H1.out _ (HZ.out.up hB)).mono ?_; rintro e w1 ⟨rfl, hb⟩; replace hB := below_more hB hb; clear hb)
  go_ret
  exact ⟨_, rfl, by rw [E.out]; exact SlI.nil, hB⟩
 have E := Lib.hid (show undL L c = sel (undB L c) L by unfold undL; rw [he]; rfl)
 have hG := eiB_good he
 rw [he] at h1
 have hbe := fun x hx w h => cbelongs_any A cp L x c w h hl hG hx
 have hfs := fun k h => sel_succ (p := undB L c) (L := L) (k := k) h
 obtain ⟨P, hP⟩ : ∃ P, undB L c = P := ⟨_, rfl⟩
 have hbe2 : ∀ x, x ∈ L → ∀ w, AccAt w A L → Calls Try.prog 37 #[.slice A L.length cp, accV x, .int .i64 c] w fun e w' => e = .returned (.bool (P x)) ∧ Below w.heap.size w w' := by
  intro x hx w h
  rw [← hP]
  exact hbe x hx w h
 rw [hP] at E hfs
 obtain ⟨n, hn⟩ : ∃ n, L.length = n := ⟨_, rfl⟩
 obtain ⟨s0, hs0⟩ : ∃ s0, w.heap.size = s0 := ⟨_, rfl⟩
 rw [hn] at hl h1 hbe2 hfs ⊢
 have HN := Lib.hid hn
 have HZ := Lib.hid hz
 have HS0 := Lib.hid hs0
 have H1 := Lib.hid h1
 have HBE := Lib.hid hbe2
 have HFS := Lib.hid hfs
 obtain ⟨i0, hi, hz0, hz1, hz2⟩ := info_parts infoI_int
 clear hn hz hs0 h1 hbe hbe2 hfs he hG hP
 go_enter Try.func19, Try.ntmps19
 go_wp2_with (go_at_call 36; refine (H1.out _ (HZ.out.up hB)).mono ?_; rintro e w1 ⟨rfl, hb⟩; replace hB := below_more hB hb; clear hb)
 rw [HS0.out] at hB
 have hO : Hid (OwnI .i64 3 w1 s0 (.slice none 0 0) (sel P (L.take 0))) := Lib.hid OwnI.nil
 go_loopg [5, 13] n (fun kx s5 s13 wr => ∃ k : Nat, s13 = .int .i64 k ∧ k ≤ n ∧ n - k ≤ kx ∧ Hid (OwnI .i64 3 wr s0 s5 (sel P (L.take k))) ∧ Below s0 w wr)
 case atStart => exact ⟨0, rfl, by omega, by omega, hO, hB⟩
 case round =>
  clear hB hO
  obtain ⟨k, rfl, hk, hkx, hO, hB⟩ := hrel
  have hsz : s0 ≤ wr.heap.size := by have := hB.size; have := HS0.out; omega
  by_cases hlt : k < n
  ·have hltz : (k : Int) < (n : Int) := by omega
   obtain ⟨b, off, rfl, hbw, hcs⟩ := HZ.out (by rw [HN.out]; omega)
   have hbs : b < s0 := by have := HS0.out; omega
   obtain ⟨c0, c1, c2, c3⟩ := (hcs k (by rw [HN.out]; exact hlt)).up hB hbs
   obtain ⟨x, hx⟩ : ∃ x, L.getD k acc0 = x := ⟨_, rfl⟩
   have hxm : x ∈ L := by rw [← hx]; exact getD_mem_acc (by rw [HN.out]; exact hlt)
   have hf := HFS.out k hlt
   rw [hx] at c0 c1 c2 c3 hf
   have hln : Hid ((sel P (L.take k)).length ≤ 100000000) := Lib.hid (by have := sel_len (p := P) (L := L.take k); rw [List.length_take] at this; omega)
   have HB1 : Hid (Below s0 w (wr.alloc (.cells #[.int .i64 x.code, .int .i64 x.kind, .int .i64 x.basis, .int .i64 x.par] 26))) := Lib.hid (hB.alloc hsz _)
   have HO1 := Lib.hid (hO.out.alloc (.cells #[.int .i64 x.code, .int .i64 x.kind, .int .i64 x.basis, .int .i64 x.par] 26))
   have HAB := Lib.hid (ab_new wr 26 x)
   have hbx := HBE.out x hxm (wr.alloc (.cells #[.int .i64 x.code, .int .i64 x.kind, .int .i64 x.basis, .int .i64 x.par] 26)) (HZ.out.up (by rw [HS0.out]; exact HB1.out))
   clear hx hcs hB hO
   cases hq : P x
   ·rw [hq, if_neg (by simp)] at hf
    rw [hq] at hbx
    have HBX := Lib.hid hbx
    have HF := Lib.hid hf
    clear hbx hf hq
    go_wp2_with (go_at_call 37; refine HBX.out.mono ?_; rintro e w2 ⟨rfl, hb⟩; have hB := HB1.out.trans (hb.mono (by (simp; omega))); have ho := (HO1.out.up hb); rw [← HF.out] at ho; replace ho := Lib.hid ho; clear hb)
    go_roundg (n - (k + 1))
    case measure => omega
    case rel => exact ⟨k + 1, by go_num, by omega, by omega, ho, hB⟩
   ·rw [hq, if_pos rfl] at hf
    rw [hq] at hbx
    have HBX := Lib.hid hbx
    have HF := Lib.hid hf
    clear hbx hf hq
    go_wp2_with (first
     | (go_at_call 37; refine HBX.out.mono ?_; rintro e w2 ⟨rfl, hb⟩; have hB := HB1.out.trans (hb.mono (by (simp; omega))); have ho := Lib.hid (HO1.out.up hb); replace HAB := Lib.hid (HAB.out.up hb); obtain ⟨⟨z0, z1, z2, z3⟩, zlt, -⟩ := HAB.out; have hsz2 : s0 ≤ w2.heap.size := (by (have := hB.size; have := HS0.out; omega)); clear hb)
     | (at_builtin; refine wpList_append_ig _ rfl (.tmp 21) (.tmp 24) 30 rfl .i64 s0 3 i0 8 Try.underlying30 hi hz0 hz1 hz2 (by omega) u5 _ (by rfl) ho.out x.code _ 1 (by first | rfl | simp) rfl hln.out hsz2 ?_; intro v2 w3 ho2 hb2; replace ho2 := ho2.out; rw [← HF.out] at ho2; replace ho2 := Lib.hid ho2; replace hB := hB.trans hb2; clear hb2))
    go_roundg (n - (k + 1))
    case measure => omega
    case rel => exact ⟨k + 1, by go_num, by omega, by omega, ho2, hB⟩
  ·obtain rfl : k = n := by omega
   have hltz : ¬ (k : Int) < (k : Int) := by omega
   have ho := hO.out.sli
   rw [List.take_of_length_le (by rw [HN.out]; omega)] at ho
   have HO := Lib.hid ho
   clear ho
   go_wp2_with fail
   go_ret
   exact ⟨_, rfl, by rw [E.out]; exact HO.out, by rw [HS0.out]; exact hB⟩
theorem reither_any (A : Option Addr) (cp : Nat) (L : List Acc) (w : World) (hz : AccAt w A L) (hl : L.length ≤ 1000) :
  Calls Try.prog 26 #[.slice A L.length cp] w fun e w' => e = .returned (.bool (eiB L)) ∧ Below w.heap.size w w' := by
 have hB := Below.refl w.heap.size w
 have h1 := fun g w h => rvalid8_any A cp L g w h hl
 have he : eiB L = (rvB L true || rvB L false) := by unfold eiB; rw [vB_eq, vB_eq, Bool.or_comm]
 rw [he]
 have HZ := Lib.hid hz
 generalize L.length = n at *
 clear hz he
 cases hf : rvB L true
 ·have h2 := h1 true
  rw [hf] at h2
  have H1 := Lib.hid h1
  have H2 := Lib.hid h2
  clear h1 h2 hf
  go_enter Try.func26, Try.ntmps26
  go_wp2_with (first | (go_at_call 12; ((with_reducible refine (H2.out _ (HZ.out.up hB)).mono ?_)); rintro e w1 ⟨rfl, hb⟩; replace hB := below_more hB hb; clear hb) | (go_at_call 12; ((with_reducible refine (H1.out _ _ (HZ.out.up hB)).mono ?_)); rintro e w1 ⟨rfl, hb⟩; replace hB := below_more hB hb; clear hb))
  go_ret
  exact ⟨rfl, hB⟩
 ·have h2 := h1 true
  rw [hf] at h2
  have H2 := Lib.hid h2
  clear h1 h2 hf
  go_enter Try.func26, Try.ntmps26
  go_wp2_with (go_at_call 12; refine (H2.out _ (HZ.out.up hB)).mono ?_; rintro e w1 ⟨rfl, hb⟩; replace hB := below_more hB hb; clear hb)
  go_ret
  exact ⟨rfl, hB⟩
theorem rpath8_any (A : Option Addr) (cp : Nat) (L : List Acc) (c : Int) (w : World) (hz : AccAt w A L) (hl : L.length ≤ 1000) :
  Calls Try.prog 22 #[.slice A L.length cp, .int .i64 c] w fun e w' => ∃ v, e = .returned v ∧ SlI w' v (pathL L c) ∧ Below w.heap.size w w' := by
 have hB := Below.refl w.heap.size w
 have h1 := fun w h => reither_any A cp L w h hl
 have h2 := fun w h => rclimb_any A cp L c w h hl
 have hp : pathL L c = if eiB L then climb L c else [] := rfl
 rw [hp]
 clear hp
 have HZ := Lib.hid hz
 have H2 := Lib.hid h2
 generalize L.length = n at *
 clear hz h2
 cases hf : eiB L
 all_goals
  rw [hf] at h1
  have H1 := Lib.hid h1
  clear h1 hf
  go_enter Try.func22, Try.ntmps22
  go_wp2_with (first | (go_at_call 26; refine (H1.out _ (HZ.out.up hB)).mono ?_; rintro e w1 ⟨rfl, hb⟩; replace hB := below_more hB hb; clear hb) | (go_at_call 35; refine (H2.out _ (HZ.out.up hB)).mono ?_; rintro e w1 ⟨v, rfl, hs, hb⟩; replace hs := Lib.hid hs; replace hB := below_more hB hb; clear hb))
  go_ret
  first | exact ⟨_, rfl, SlI.nil, hB⟩ | exact ⟨_, rfl, hs.out, hB⟩
set_option maxRecDepth 20000 in
set_option maxHeartbeats 3200000 in
theorem runder_any (A : Option Addr) (cp : Nat) (L : List Acc) (c : Int) (w : World) (hz : AccAt w A L) (hl : L.length ≤ 1000) :
  Calls Try.prog 20 #[.slice A L.length cp, .int .i64 c] w fun e w' => ∃ v, e = .returned v ∧ SlI w' v (undL L c) ∧ Below w.heap.size w w' := by
 have hB := Below.refl w.heap.size w
 have h1 := fun w h => reither_any A cp L w h hl
 cases he : eiB L
 ·have E := Lib.hid (show undL L c = [] by unfold undL; rw [he]; rfl)
  rw [he] at h1
  generalize L.length = n at *
  have H1 := Lib.hid h1
  have HZ := Lib.hid hz
  clear h1 he hz
  go_enter Try.func20, Try.ntmps20
  go_wp2_with (go_at_call 26; refine (H1.out _ (HZ.out.up hB)).mono ?_; rintro e w1 ⟨rfl, hb⟩; replace hB := below_more hB hb; clear hb)
  go_ret
  exact ⟨_, rfl, by rw [E.out]; exact SlI.nil, hB⟩
 have E := Lib.hid (show undL L c = sel (undB L c) L by unfold undL; rw [he]; rfl)
 rw [he] at h1
 have hcb := fun y w h => rclimb_any A cp L y w h hl
 have hP : ∀ x, undB L c x = decide (c ∈ climb L x.code) := fun _ => rfl
 have hfs := fun k h => sel_succ (p := undB L c) (L := L) (k := k) h
 have hle := fun y => climb_le (L := L) (c := y)
 generalize undB L c = P at *
 obtain ⟨n, hn⟩ : ∃ n, L.length = n := ⟨_, rfl⟩
 obtain ⟨s0, hs0⟩ : ∃ s0, w.heap.size = s0 := ⟨_, rfl⟩
 rw [hn] at hl h1 hcb hfs hle ⊢
 have HN := Lib.hid hn
 have HZ := Lib.hid hz
 have HS0 := Lib.hid hs0
 have H1 := Lib.hid h1
 have HCB := Lib.hid hcb
 have HFS := Lib.hid hfs
 have HP := Lib.hid hP
 have HLE := Lib.hid hle
 obtain ⟨i0, hi, hz0, hz1, hz2⟩ := info_parts infoI_int
 clear hn hz hs0 h1 hcb hfs he hP hle
 go_enter Try.func20, Try.ntmps20
 go_wp2_with (go_at_call 26; refine (H1.out _ (HZ.out.up hB)).mono ?_; rintro e w1 ⟨rfl, hb⟩; replace hB := below_more hB hb; clear hb)
 rw [HS0.out] at hB
 have hO : Hid (OwnI .i64 3 w1 s0 (.slice none 0 0) (sel P (L.take 0))) := Lib.hid OwnI.nil
 go_loopg [5, 6] n (fun kx s5 s6 wr => ∃ k : Nat, s6 = .int .i64 k ∧ k ≤ n ∧ n - k ≤ kx ∧ Hid (OwnI .i64 3 wr s0 s5 (sel P (L.take k))) ∧ Below s0 w wr)
 case atStart => exact ⟨0, rfl, by omega, by omega, hO, hB⟩
 case round =>
  clear hB hO
  obtain ⟨k, rfl, hk, hkx, hO, hB⟩ := hrel
  have hsz : s0 ≤ wr.heap.size := by have := hB.size; have := HS0.out; omega
  by_cases hlt : k < n
  ·have hltz : (k : Int) < (n : Int) := by omega
   obtain ⟨b, off, rfl, hbw, hcs⟩ := HZ.out (by rw [HN.out]; omega)
   have hbs : b < s0 := by have := HS0.out; omega
   have a4 := hcs k (by rw [HN.out]; exact hlt)
   obtain ⟨x, hx⟩ : ∃ x, L.getD k acc0 = x := ⟨_, rfl⟩
   have hf := HFS.out k hlt
   rw [hx] at a4 hf
   have HA4 := Lib.hid a4
   obtain ⟨c0, c1, c2, c3⟩ := a4.up hB hbs
   have hln : Hid ((sel P (L.take k)).length ≤ 100000000) := Lib.hid (by have := sel_len (p := P) (L := L.take k); rw [List.length_take] at this; omega)
   have hcx := HCB.out x.code wr (HZ.out.up (by rw [HS0.out]; exact hB))
   have hlx := HLE.out x.code
   have hpx := HP.out x
   generalize climb L x.code = C at *
   obtain ⟨cl, hcl⟩ : ∃ cl, C.length = cl := ⟨_, rfl⟩
   have hha := fun A d W h => rhas_any A d C c W h (by omega)
   rw [hcl] at hha hlx
   rw [← hpx] at hha
   have HCL := Lib.hid hcl
   have HHA := Lib.hid hha
   have HCX := Lib.hid hcx
   clear hx hcs hcx hcl hha hpx a4
   cases hq : P x
   all_goals
    rw [hq] at hf
    have hha := HHA.out
    rw [hq] at hha
    first | rw [if_pos rfl] at hf | rw [if_neg (by simp)] at hf
    have HH2 := Lib.hid hha
    have HF := Lib.hid hf
    clear hha hf hq HHA
    go_wp2_with (first
     | (go_at_call 35; refine HCX.out.mono ?_; rintro e w2 ⟨v2, rfl, ⟨A2, d2, hv2, hI2⟩, hb⟩; rw [HCL.out] at hv2; subst hv2; have HI2 := Lib.hid hI2; have hB2 := hB.trans (hb.mono hsz); have ho := Lib.hid (hO.out.up hb); have hsz2 := Nat.le_trans hsz hb.size; clear hb hI2 c0 c1 c2 c3; obtain ⟨c0, c1, c2, c3⟩ := HA4.out.up hB2 hbs)
     | (go_at_call 27; refine (HH2.out _ _ _ HI2.out).mono ?_; rintro e w3 ⟨rfl, rfl⟩)
     | (at_builtin; refine wpList_append_ig _ rfl (.tmp 25) (.tmp 31) 30 rfl .i64 s0 3 i0 8 Try.underlying30 hi hz0 hz1 hz2 (by omega) u5 _ (by rfl) ho.out x.code _ 1 (by first | rfl | simp) rfl hln.out hsz2 ?_; intro v2 w3 ho2 hb2; replace ho2 := ho2.out; rw [← HF.out] at ho2; replace ho2 := Lib.hid ho2; replace hB2 := hB2.trans hb2; clear hb2))
    go_roundg (n - (k + 1))
    case measure => omega
    case rel => first | exact ⟨k + 1, by go_num, by omega, by omega, ho2, hB2⟩ | exact ⟨k + 1, by go_num, by omega, by omega, Lib.hid (by rw [HF.out]; exact ho.out), hB2⟩
  ·obtain rfl : k = n := by omega
   have hltz : ¬ (k : Int) < (k : Int) := by omega
   have ho := hO.out.sli
   rw [List.take_of_length_le (by rw [HN.out]; omega)] at ho
   have HO := Lib.hid ho
   clear ho
   go_wp2_with fail
   go_ret
   exact ⟨_, rfl, by rw [E.out]; exact HO.out, by rw [HS0.out]; exact hB⟩
theorem chfew_any (A B : Option Addr) (n m c d : Nat) (w : World) : Calls Try.prog 18 #[.slice A n c, .slice B m d] w fun e w' => e = .returned (.bool (decide (n ≤ 60) && decide (m ≤ 60))) ∧ w = w' := by
 rcases Nat.lt_or_ge 60 n with h | h
 ·have h1 : decide (n ≤ 60) = false := decide_eq_false (by omega)
  have h2 : decide ((n : Int) ≤ 60) = false := decide_eq_false (by omega)
  rw [h1]
  go_enter Try.func18, Try.ntmps18
  go_wp2_with fail
  go_ret
  exact ⟨rfl, rfl⟩
 ·have h1 : decide (n ≤ 60) = true := decide_eq_true (by omega)
  have h2 : decide ((n : Int) ≤ 60) = true := decide_eq_true (by omega)
  rcases Nat.lt_or_ge 60 m with h' | h'
  ·have h3 : decide (m ≤ 60) = false := decide_eq_false (by omega)
   have h4 : decide ((m : Int) ≤ 60) = false := decide_eq_false (by omega)
   rw [h1, h3]
   clear h h'
   go_enter Try.func18, Try.ntmps18
   go_wp2_with fail
   go_ret
   exact ⟨rfl, rfl⟩
  ·have h3 : decide (m ≤ 60) = true := decide_eq_true (by omega)
   have h4 : decide ((m : Int) ≤ 60) = true := decide_eq_true (by omega)
   rw [h1, h3]
   clear h h'
   go_enter Try.func18, Try.ntmps18
   go_wp2_with fail
   go_ret
   exact ⟨rfl, rfl⟩
set_option maxRecDepth 20000 in
set_option maxHeartbeats 3200000 in
theorem law_chunder (A : Option Addr) (len c : Nat) (L : List Acc) (code : Int) (w : World) (hlen : L.length = len) (hz : AccAt w A L) :
  Calls Try.prog 5 #[.slice A len c, .int .i64 code] w fun e w' => e = .returned (.bool true) ∧ Below w.heap.size w w' := by
 have hB := Below.refl w.heap.size w
 have HZ := Lib.hid hz
 clear hz
 have hfw := fun w => chfew_any A none len 0 c 0 w
 by_cases hbig : 60 < len
 ·rw [decide_eq_false (show ¬ len ≤ 60 by omega)] at hfw
  have HFW := Lib.hid hfw
  clear hlen hfw
  go_enter Try.func5, Try.ntmps5
  go_wp2_with (first
   | (go_at_call 10; refine (chawake_any _).mono ?_; rintro e w1 ⟨rfl, hb⟩; replace hB := below_more hB hb; clear hb)
   | (go_at_call 18; refine (HFW.out _).mono ?_; rintro e w1 ⟨rfl, rfl⟩))
  go_ret
  exact ⟨rfl, hB⟩
 ·rw [decide_eq_true (show len ≤ 60 by omega)] at hfw
  have HFW := Lib.hid hfw
  have hl : L.length ≤ 1000 := by omega
  have h1 := fun w h => cunder_any A c L code w h hl
  have h2 := fun w h => runder_any A c L code w h hl
  have h3 := fun w h => cpath_any A c L code w h hl
  have h4 := fun w h => rpath8_any A c L code w h hl
  have hu : (undL L code).length ≤ 1000 := by
   unfold undL; split
   ·have := sel_len (p := undB L code) (L := L); omega
   ·simp
  have hpl : (pathL L code).length ≤ 1001 := by
   unfold pathL; split
   ·have := climb_le (L := L) (c := code); omega
   ·simp
  rw [hlen] at h1 h2 h3 h4
  generalize undL L code = U at *
  generalize pathL L code = R at *
  obtain ⟨nu, hnu⟩ : ∃ nu, U.length = nu := ⟨_, rfl⟩
  obtain ⟨nr, hnr⟩ : ∃ nr, R.length = nr := ⟨_, rfl⟩
  have s1 := fun A B c d w h1 h2 => rsamec_any A B c d U U w h1 h2 (by omega) (by omega)
  have s2 := fun A B c d w h1 h2 => rsamec_any A B c d R R w h1 h2 (by omega) (by omega)
  rw [show decide (U = U) = true from by simp, hnu] at s1
  rw [show decide (R = R) = true from by simp, hnr] at s2
  have HNU := Lib.hid hnu
  have HNR := Lib.hid hnr
  have H1 := Lib.hid h1
  have H2 := Lib.hid h2
  have H3 := Lib.hid h3
  have H4 := Lib.hid h4
  have S1 := Lib.hid s1
  have S2 := Lib.hid s2
  clear hfw hlen hbig hl h1 h2 h3 h4 hu hpl hnu hnr s1 s2
  go_enter Try.func5, Try.ntmps5
  go_wp2_with (first
   | (go_at_call 10; refine (chawake_any _).mono ?_; rintro e w1 ⟨rfl, hb⟩; replace hB := below_more hB hb; clear hb)
   | (go_at_call 18; refine (HFW.out _).mono ?_; rintro e w1 ⟨rfl, rfl⟩)
   | (go_at_call 19; refine (H1.out _ (HZ.out.up hB)).mono ?_; rintro e w2 ⟨v1, rfl, hs1, hb⟩; replace hB := below_more hB hb; obtain ⟨A1, d1, hv1, hI1⟩ := hs1; rw [HNU.out] at hv1; subst hv1; have HI1 := Lib.hid hI1; clear hb hI1)
   | (go_at_call 20; refine (H2.out _ (HZ.out.up hB)).mono ?_; rintro e w3 ⟨v2, rfl, hs2, hb⟩; replace hB := below_more hB hb; replace HI1 := Lib.hid (HI1.out.up hb); obtain ⟨A2, d2, hv2, hI2⟩ := hs2; rw [HNU.out] at hv2; subst hv2; have HI2 := Lib.hid hI2; clear hb hI2)
   | (go_at_call 15; ((with_reducible refine (S1.out _ _ _ _ _ HI1.out HI2.out).mono ?_)); rintro e w4 ⟨rfl, hb⟩; replace hB := below_more hB hb; clear hb)
   | (go_at_call 21; refine (H3.out _ (HZ.out.up hB)).mono ?_; rintro e w5 ⟨v3, rfl, hs3, hb⟩; replace hB := below_more hB hb; obtain ⟨A3, d3, hv3, hI3⟩ := hs3; rw [HNR.out] at hv3; subst hv3; have HI3 := Lib.hid hI3; clear hb hI3)
   | (go_at_call 22; refine (H4.out _ (HZ.out.up hB)).mono ?_; rintro e w6 ⟨v4, rfl, hs4, hb⟩; replace hB := below_more hB hb; replace HI3 := Lib.hid (HI3.out.up hb); obtain ⟨A4, d4, hv4, hI4⟩ := hs4; rw [HNR.out] at hv4; subst hv4; have HI4 := Lib.hid hI4; clear hb hI4)
   | (go_at_call 15; ((with_reducible refine (S2.out _ _ _ _ _ HI3.out HI4.out).mono ?_)); rintro e w4 ⟨rfl, hb⟩; replace hB := below_more hB hb; clear hb))
  go_ret
  exact ⟨rfl, hB⟩
end Go.Proofs.Ytlhdnmpklaohkaa
