/- Contracts and the law of ChartFinds, part 1: what was proved of each, callees first. -/
import Derived.Laws.AppendOwnNone
import Derived.OwnWalk
import Derived.Test.YtlhdnmpklaohkaaHK1
namespace Go.Proofs.Ytlhdnmpklaohkaa
open Go.RowKit
section
variable {k : IntKind} {e : TypeId} {w w' : World} {base B : Nat} {v : Value} {A : Option Addr} {L M zs : List Int}
theorem OwnI.alloc (h : OwnI k e w base v L) (o : Obj) : OwnI k e (w.alloc o) base v L := World.ownsRow.alloc h o
end
instance : DecidableEq Bal := fun a b => decidable_of_iff (a.acct = b.acct ∧ a.amt = b.amt) (by cases a; cases b; simp)
def fndA (L : List Acc) (c : Int) : Acc := (fnd L c).getD acc0
theorem fnd_take_succ {L : List Acc} {c : Int} {k : Nat} (hk : k < L.length) (h : fnd (L.take k) c = none) : fnd (L.take (k + 1)) c = if (L.getD k acc0).code = c then some (L.getD k acc0) else none := by
 rw [take_succ_getD (d := acc0) hk]
 unfold fnd at h ⊢
 rw [List.find?_append, h]
 simp only [Option.none_or, List.find?_cons, List.find?_nil]
 split <;> split <;> simp_all
theorem fnd_take {L : List Acc} {c : Int} {k : Nat} {a : Acc} (h : fnd (L.take k) c = some a) : fnd L c = some a := by
 unfold fnd at h ⊢
 rw [← List.take_append_drop k L, List.find?_append, h]
 rfl
def kids (L : List Acc) (c : Int) : List Int := (L.filter fun a => decide (a.par = c)).map Acc.code
theorem kids_take_succ {L : List Acc} {c : Int} {k : Nat} (hk : k < L.length) : kids (L.take (k + 1)) c = if (L.getD k acc0).par = c then kids (L.take k) c ++ [(L.getD k acc0).code] else kids (L.take k) c := by
 rw [take_succ_getD (d := acc0) hk]
 unfold kids
 rw [List.filter_append, List.map_append]
 generalize L.getD k acc0 = x
 split
 ·rename_i h; rw [List.filter_cons_of_pos (by simp [h])]; rfl
 ·rename_i h; rw [List.filter_cons_of_neg (by simp [h])]; simp
theorem kids_len {L : List Acc} {c : Int} : (kids L c).length ≤ L.length := by
 unfold kids; rw [List.length_map]; exact List.length_filter_le _ _
open Go.RowKit
set_option maxRecDepth 20000 in
set_option maxHeartbeats 1600000 in
theorem cfind_any (A : Option Addr) (cp : Nat) (L : List Acc) (c : Int) (w : World) (hz : AccAt w A L) (hl : L.length ≤ 1000) :
  Calls Try.prog 13 #[.slice A L.length cp, .int .i64 c] w fun e w' => e = .returned (.tuple #[accV (fndA L c), .bool (fnd L c).isSome]) ∧ Below w.heap.size w w' := by
 have hB := below_alloc_new (w := w) (.cells #[.int .i64 acc0.code, .int .i64 acc0.kind, .int .i64 acc0.basis, .int .i64 acc0.par] 26)
 have hA4 := ab_new w 26 acc0
 obtain ⟨n, hn⟩ : ∃ n, L.length = n := ⟨_, rfl⟩
 obtain ⟨s0, hs0⟩ : ∃ s0, w.heap.size = s0 := ⟨_, rfl⟩
 rw [hn] at hl ⊢
 rw [hs0] at hB hA4 ⊢
 have HN := Lib.hid hn
 have HZ := Lib.hid hz
 have HS0 := Lib.hid hs0
 have HA := Lib.hid hA4
 clear hn hz hA4
 go_enter Try.func13, Try.ntmps13
 go_wp2_with fail
 go_loopg [10] n (fun kx s10 wr => ∃ k : Nat, s10 = .int .i64 k ∧ k ≤ n ∧ n - k ≤ kx ∧ Hid (fnd (L.take k) c = none) ∧ Hid (AB wr s0 acc0) ∧ Below s0 w wr)
 case atStart => exact ⟨0, rfl, by omega, by omega, Lib.hid (by rw [List.take_zero]; rfl), HA, hB⟩
 case round =>
  clear hB HA
  obtain ⟨k, rfl, hk, hkx, HF, HA, hB⟩ := hrel
  by_cases hlt : k < n
  ·have hltz : (k : Int) < (n : Int) := by omega
   obtain ⟨b, off, rfl, hbw, hcs⟩ := HZ.out (by rw [HN.out]; omega)
   obtain ⟨c0, c1, c2, c3⟩ := (hcs k (by rw [HN.out]; exact hlt)).up hB (by have := HS0.out; omega)
   obtain ⟨x, hx⟩ : ∃ x, L.getD k acc0 = x := ⟨_, rfl⟩
   rw [hx] at c0 c1 c2 c3
   have HX := Lib.hid hx
   have hf := fnd_take_succ (L := L) (c := c) (k := k) (by rw [HN.out]; exact hlt) HF.out
   rw [hx] at hf
   have HA1 := Lib.hid (HA.out.up (below_alloc_new (.cells #[.int .i64 x.code, .int .i64 x.kind, .int .i64 x.basis, .int .i64 x.par] 26)))
   clear hx hcs
   by_cases he : x.code = c
   ·rw [if_pos he] at hf
    have hf2 := fnd_take hf
    have e1 : Hid (fndA L c = x) := Lib.hid (by unfold fndA; rw [hf2]; rfl)
    have e2 : Hid ((fnd L c).isSome = true) := Lib.hid (by rw [hf2]; rfl)
    have e3 : (x.code == c) = true := by simp [he]
    obtain ⟨⟨z0, z1, z2, z3⟩, zlt, zf⟩ := HA.out
    have zf0 := zf 0
    have zf1 := zf 1
    have zf2 := zf 2
    have zf3 := zf 3
    simp only [Nat.zero_add] at z1 z2 z3
    clear zf
    clear hf hf2 he
    go_wp2_with fail
    rw [e1.out, e2.out]
    exact bodyPost_ret (v := .tuple #[accV x, .bool true]) (by simp [results, Try.results13, go_sem, z0, z1, z2, z3, zlt]) rfl ⟨rfl, (bset4 hB (Nat.le_refl _) _ _ _ _).alloc (by have := hB.size; have := HS0.out; simp; omega) _⟩
   ·rw [if_neg he] at hf
    have HF2 := Lib.hid hf
    have e3 : (x.code == c) = false := by simp [he]
    clear hf he
    go_wp2_with fail
    go_roundg (n - (k + 1))
    case measure => omega
    case rel => exact ⟨k + 1, by go_num, by omega, by omega, HF2, HA1, hB.trans ((below_alloc_new _).mono (by have := hB.size; have := HS0.out; omega))⟩
  ·obtain rfl : k = n := by omega
   have hltz : ¬ (k : Int) < (k : Int) := by omega
   have hf := HF.out
   rw [List.take_of_length_le (by rw [HN.out]; omega)] at hf
   have e1 : Hid (fndA L c = acc0) := Lib.hid (by unfold fndA; rw [hf]; rfl)
   have e2 : Hid ((fnd L c).isSome = false) := Lib.hid (by rw [hf]; rfl)
   obtain ⟨⟨z0, z1, z2, z3⟩, zlt, zf⟩ := HA.out
   have zf0 := zf 0
   have zf1 := zf 1
   have zf2 := zf 2
   have zf3 := zf 3
   simp only [Nat.zero_add] at z1 z2 z3
   clear zf
   clear hf
   go_wp2_with fail
   rw [e1.out, e2.out]
   exact bodyPost_ret (v := .tuple #[accV acc0, .bool false]) (by simp [results, Try.results13, go_sem, z0, z1, z2, z3]) rfl ⟨rfl, bset4 hB (Nat.le_refl _) _ _ _ _⟩
set_option maxRecDepth 20000 in
set_option maxHeartbeats 1600000 in
theorem ckids_any (A : Option Addr) (cp : Nat) (L : List Acc) (c : Int) (w : World) (hz : AccAt w A L) (hl : L.length ≤ 1000) :
  Calls Try.prog 16 #[.slice A L.length cp, .int .i64 c] w fun e w' => ∃ v, e = .returned v ∧ SlI w' v (kids L c) ∧ Below w.heap.size w w' := by
 have hB := Below.refl w.heap.size w
 obtain ⟨n, hn⟩ : ∃ n, L.length = n := ⟨_, rfl⟩
 obtain ⟨s0, hs0⟩ : ∃ s0, w.heap.size = s0 := ⟨_, rfl⟩
 rw [hn] at hl ⊢
 rw [hs0] at hB ⊢
 have HN := Lib.hid hn
 have HZ := Lib.hid hz
 have HS0 := Lib.hid hs0
 obtain ⟨i0, hi, hz0, hz1, hz2⟩ := info_parts infoI_int
 clear hn hz hs0
 go_enter Try.func16, Try.ntmps16
 go_wp2_with fail
 have hO : Hid (OwnI .i64 3 w s0 (.slice none 0 0) (kids (L.take 0) c)) := Lib.hid OwnI.nil
 go_loopg [5, 10] n (fun kx s5 s10 wr => ∃ k : Nat, s10 = .int .i64 k ∧ k ≤ n ∧ n - k ≤ kx ∧ Hid (OwnI .i64 3 wr s0 s5 (kids (L.take k) c)) ∧ Below s0 w wr)
 case atStart => exact ⟨0, rfl, by omega, by omega, hO, hB⟩
 case round =>
  clear hB hO
  obtain ⟨k, rfl, hk, hkx, hO, hB⟩ := hrel
  have hsz : s0 ≤ wr.heap.size := by have := hB.size; have := HS0.out; omega
  by_cases hlt : k < n
  ·have hltz : (k : Int) < (n : Int) := by omega
   obtain ⟨b, off, rfl, hbw, hcs⟩ := HZ.out (by rw [HN.out]; omega)
   obtain ⟨c0, c1, c2, c3⟩ := (hcs k (by rw [HN.out]; exact hlt)).up hB (by have := HS0.out; omega)
   obtain ⟨x, hx⟩ : ∃ x, L.getD k acc0 = x := ⟨_, rfl⟩
   rw [hx] at c0 c1 c2 c3
   have hf := kids_take_succ (L := L) (c := c) (k := k) (by rw [HN.out]; exact hlt)
   rw [hx] at hf
   have hln : Hid ((kids (L.take k) c).length ≤ 100000000) := Lib.hid (by have := kids_len (L := L.take k) (c := c); rw [List.length_take] at this; omega)
   have hB1 : Below s0 w (wr.alloc (.cells #[.int .i64 x.code, .int .i64 x.kind, .int .i64 x.basis, .int .i64 x.par] 26)) := hB.alloc hsz _
   have hO1 := Lib.hid (hO.out.alloc (.cells #[.int .i64 x.code, .int .i64 x.kind, .int .i64 x.basis, .int .i64 x.par] 26))
   have hsz1 : s0 ≤ (wr.alloc (.cells #[.int .i64 x.code, .int .i64 x.kind, .int .i64 x.basis, .int .i64 x.par] 26)).heap.size := by simp; omega
   clear hx hcs
   by_cases he : x.par = c
   ·rw [if_pos he] at hf
    have HF := Lib.hid hf
    have HSZ := Lib.hid hsz1
    have e3 : (x.par == c) = true := by simp [he]
    clear hf he hsz1
    go_wp2_with (at_builtin; refine wpList_append_ig _ rfl (.tmp 18) (.tmp 21) 30 rfl .i64 s0 3 i0 8 Try.underlying30 hi hz0 hz1 hz2 (by omega) u5 _ (by rfl) hO1.out x.code _ 1 (by simp) rfl hln.out HSZ.out ?_; intro v2 w2 ho2 hb2; replace ho2 := ho2.out; rw [← HF.out] at ho2; replace ho2 := Lib.hid ho2; replace hB := hB1.trans hb2; clear hb2)
    go_roundg (n - (k + 1))
    case measure => omega
    case rel => exact ⟨k + 1, by go_num, by omega, by omega, ho2, hB⟩
   ·rw [if_neg he] at hf
    have e3 : (x.par == c) = false := by simp [he]
    rw [← hf] at hO1
    clear hf he
    go_wp2_with fail
    go_roundg (n - (k + 1))
    case measure => omega
    case rel => exact ⟨k + 1, by go_num, by omega, by omega, hO1, hB1⟩
  ·obtain rfl : k = n := by omega
   have hltz : ¬ (k : Int) < (k : Int) := by omega
   have ho := hO.out.sli
   rw [List.take_of_length_le (by rw [HN.out]; omega)] at ho
   have HO := Lib.hid ho
   clear ho
   go_wp2_with fail
   go_ret
   exact ⟨_, rfl, HO.out, hB⟩
set_option maxRecDepth 20000 in
set_option maxHeartbeats 1600000 in
theorem rfind_any (A : Option Addr) (cp : Nat) (L : List Acc) (c : Int) (w : World) (hz : AccAt w A L) (hl : L.length ≤ 1000) :
  Calls Try.prog 14 #[.slice A L.length cp, .int .i64 c] w fun e w' => e = .returned (.tuple #[accV (fndA L c), .bool (fnd L c).isSome]) ∧ Below w.heap.size w w' := by
 have hB := below_alloc_new (w := w) (.cells #[.int .i64 acc0.code, .int .i64 acc0.kind, .int .i64 acc0.basis, .int .i64 acc0.par] 26)
 have hA4 := ab_new w 26 acc0
 obtain ⟨n, hn⟩ : ∃ n, L.length = n := ⟨_, rfl⟩
 obtain ⟨s0, hs0⟩ : ∃ s0, w.heap.size = s0 := ⟨_, rfl⟩
 rw [hn] at hl ⊢
 rw [hs0] at hB hA4 ⊢
 have HN := Lib.hid hn
 have HZ := Lib.hid hz
 have HS0 := Lib.hid hs0
 have HA := Lib.hid hA4
 clear hn hz hA4
 go_enter Try.func14, Try.ntmps14
 go_wp2_with fail
 go_loopg [6] n (fun kx s6 wr => ∃ k : Nat, s6 = .int .i64 k ∧ k ≤ n ∧ n - k ≤ kx ∧ Hid (fnd (L.take k) c = none) ∧ Hid (AB wr s0 acc0) ∧ Below s0 w wr)
 case atStart => exact ⟨0, rfl, by omega, by omega, Lib.hid (by rw [List.take_zero]; rfl), HA, hB⟩
 case round =>
  clear hB HA
  obtain ⟨k, rfl, hk, hkx, HF, HA, hB⟩ := hrel
  by_cases hlt : k < n
  ·have hltz : (k : Int) < (n : Int) := by omega
   obtain ⟨b, off, rfl, hbw, hcs⟩ := HZ.out (by rw [HN.out]; omega)
   have hbs : b < s0 := by have := HS0.out; omega
   have hbn : b ≠ s0 := by omega
   obtain ⟨c0, c1, c2, c3⟩ := (hcs k (by rw [HN.out]; exact hlt)).up hB hbs
   obtain ⟨x, hx⟩ : ∃ x, L.getD k acc0 = x := ⟨_, rfl⟩
   rw [hx] at c0 c1 c2 c3
   have HX := Lib.hid hx
   have hf := fnd_take_succ (L := L) (c := c) (k := k) (by rw [HN.out]; exact hlt) HF.out
   rw [hx] at hf
   clear hx hcs
   by_cases he : x.code = c
   ·rw [if_pos he] at hf
    have hf2 := fnd_take hf
    have e1 : Hid (fndA L c = x) := Lib.hid (by unfold fndA; rw [hf2]; rfl)
    have e2 : Hid ((fnd L c).isSome = true) := Lib.hid (by rw [hf2]; rfl)
    have e3 : (x.code == c) = true := by simp [he]
    obtain ⟨⟨z0, z1, z2, z3⟩, zlt, zf⟩ := HA.out
    have zf0 := zf 0
    have zf1 := zf 1
    have zf2 := zf 2
    have zf3 := zf 3
    simp only [Nat.zero_add] at z1 z2 z3
    clear zf hf hf2 he
    go_wp2_with fail
    rw [e1.out, e2.out]
    exact bodyPost_ret (v := .tuple #[accV x, .bool true]) (by simp [results, Try.results14, go_sem, z0, z1, z2, z3]) rfl ⟨rfl, bset4 hB (Nat.le_refl _) _ _ _ _⟩
   ·rw [if_neg he] at hf
    have HF2 := Lib.hid hf
    have e3 : (x.code == c) = false := by simp [he]
    clear hf he
    go_wp2_with fail
    go_roundg (n - (k + 1))
    case measure => omega
    case rel => exact ⟨k + 1, by go_num, by omega, by omega, HF2, HA, hB⟩
  ·obtain rfl : k = n := by omega
   have hltz : ¬ (k : Int) < (k : Int) := by omega
   have hf := HF.out
   rw [List.take_of_length_le (by rw [HN.out]; omega)] at hf
   have e1 : Hid (fndA L c = acc0) := Lib.hid (by unfold fndA; rw [hf]; rfl)
   have e2 : Hid ((fnd L c).isSome = false) := Lib.hid (by rw [hf]; rfl)
   obtain ⟨⟨z0, z1, z2, z3⟩, zlt, zf⟩ := HA.out
   have zf0 := zf 0
   have zf1 := zf 1
   have zf2 := zf 2
   have zf3 := zf 3
   simp only [Nat.zero_add] at z1 z2 z3
   clear zf hf
   go_wp2_with fail
   rw [e1.out, e2.out]
   exact bodyPost_ret (v := .tuple #[accV acc0, .bool false]) (by simp [results, Try.results14, go_sem, z0, z1, z2, z3]) rfl ⟨rfl, bset4 hB (Nat.le_refl _) _ _ _ _⟩
set_option maxRecDepth 20000 in
set_option maxHeartbeats 1600000 in
theorem rkids_any (A : Option Addr) (cp : Nat) (L : List Acc) (c : Int) (w : World) (hz : AccAt w A L) (hl : L.length ≤ 1000) :
  Calls Try.prog 17 #[.slice A L.length cp, .int .i64 c] w fun e w' => ∃ v, e = .returned v ∧ SlI w' v (kids L c) ∧ Below w.heap.size w w' := by
 have hB := Below.refl w.heap.size w
 obtain ⟨n, hn⟩ : ∃ n, L.length = n := ⟨_, rfl⟩
 obtain ⟨s0, hs0⟩ : ∃ s0, w.heap.size = s0 := ⟨_, rfl⟩
 rw [hn] at hl ⊢
 rw [hs0] at hB ⊢
 have HN := Lib.hid hn
 have HZ := Lib.hid hz
 have HS0 := Lib.hid hs0
 obtain ⟨i0, hi, hz0, hz1, hz2⟩ := info_parts infoI_int
 clear hn hz hs0
 go_enter Try.func17, Try.ntmps17
 go_wp2_with fail
 have hO : Hid (OwnI .i64 3 w s0 (.slice none 0 0) (kids (L.take 0) c)) := Lib.hid OwnI.nil
 go_loopg [5, 6] n (fun kx s5 s6 wr => ∃ k : Nat, s6 = .int .i64 k ∧ k ≤ n ∧ n - k ≤ kx ∧ Hid (OwnI .i64 3 wr s0 s5 (kids (L.take k) c)) ∧ Below s0 w wr)
 case atStart => exact ⟨0, rfl, by omega, by omega, hO, hB⟩
 case round =>
  clear hB hO
  obtain ⟨k, rfl, hk, hkx, hO, hB⟩ := hrel
  have hsz : s0 ≤ wr.heap.size := by have := hB.size; have := HS0.out; omega
  by_cases hlt : k < n
  ·have hltz : (k : Int) < (n : Int) := by omega
   obtain ⟨b, off, rfl, hbw, hcs⟩ := HZ.out (by rw [HN.out]; omega)
   obtain ⟨c0, c1, c2, c3⟩ := (hcs k (by rw [HN.out]; exact hlt)).up hB (by have := HS0.out; omega)
   obtain ⟨x, hx⟩ : ∃ x, L.getD k acc0 = x := ⟨_, rfl⟩
   rw [hx] at c0 c1 c2 c3
   have hf := kids_take_succ (L := L) (c := c) (k := k) (by rw [HN.out]; exact hlt)
   rw [hx] at hf
   have hln : Hid ((kids (L.take k) c).length ≤ 100000000) := Lib.hid (by have := kids_len (L := L.take k) (c := c); rw [List.length_take] at this; omega)
   clear hx hcs
   by_cases he : x.par = c
   ·rw [if_pos he] at hf
    have HF := Lib.hid hf
    have e3 : (x.par == c) = true := by simp [he]
    clear hf he
    go_wp2_with (at_builtin; refine wpList_append_ig _ rfl (.tmp 20) (.tmp 26) 30 rfl .i64 s0 3 i0 8 Try.underlying30 hi hz0 hz1 hz2 (by omega) u5 _ (by rfl) hO.out x.code _ 1 (by first | rfl | simp) rfl hln.out hsz ?_; intro v2 w2 ho2 hb2; replace ho2 := ho2.out; rw [← HF.out] at ho2; replace ho2 := Lib.hid ho2; replace hB := hB.trans hb2; clear hb2)
    go_roundg (n - (k + 1))
    case measure => omega
    case rel => exact ⟨k + 1, by go_num, by omega, by omega, ho2, hB⟩
   ·rw [if_neg he] at hf
    have e3 : (x.par == c) = false := by simp [he]
    rw [← hf] at hO
    clear hf he
    go_wp2_with fail
    go_roundg (n - (k + 1))
    case measure => omega
    case rel => exact ⟨k + 1, by go_num, by omega, by omega, hO, hB⟩
  ·obtain rfl : k = n := by omega
   have hltz : ¬ (k : Int) < (k : Int) := by omega
   have ho := hO.out.sli
   rw [List.take_of_length_le (by rw [HN.out]; omega)] at ho
   have HO := Lib.hid ho
   clear ho
   go_wp2_with fail
   go_ret
   exact ⟨_, rfl, HO.out, hB⟩
set_option maxRecDepth 20000 in
set_option maxHeartbeats 3200000 in
theorem law_chfinds (A : Option Addr) (len c : Nat) (L : List Acc) (code : Int) (w : World) (hlen : L.length = len) (hz : AccAt w A L) :
  Calls Try.prog 4 #[.slice A len c, .int .i64 code] w fun e w' => e = .returned (.bool true) ∧ Below w.heap.size w w' := by
 have hB := Below.refl w.heap.size w
 have HZ := Lib.hid hz
 clear hz
 by_cases hbig : 210 < len
 ·have e1 : decide ((210 : Int) < (len : Int)) = true := decide_eq_true (by omega)
  clear hlen
  go_enter Try.func4, Try.ntmps4
  go_wp2_with (go_at_call 10; refine (chawake_any _).mono ?_; rintro e w1 ⟨rfl, hb⟩; replace hB := below_more hB hb; clear hb)
  go_ret
  exact ⟨rfl, hB⟩
 ·have e1 : decide ((210 : Int) < (len : Int)) = false := decide_eq_false (by omega)
  have hl : L.length ≤ 1000 := by omega
  have h1 := fun w h => cfind_any A c L code w h hl
  have h2 := fun w h => rfind_any A c L code w h hl
  have h3 := fun w h => ckids_any A c L code w h hl
  have h4 := fun w h => rkids_any A c L code w h hl
  have hk : (kids L code).length ≤ 1000 := by have := kids_len (L := L) (c := code); omega
  rw [hlen] at h1 h2 h3 h4
  generalize kids L code = U at *
  generalize fndA L code = x at *
  generalize (fnd L code).isSome = q at *
  obtain ⟨nu, hnu⟩ : ∃ nu, U.length = nu := ⟨_, rfl⟩
  have s1 := fun A B c d w h1 h2 => rsamec_any A B c d U U w h1 h2 (by omega) (by omega)
  rw [show decide (U = U) = true from by simp, hnu] at s1
  have HNU := Lib.hid hnu
  have H1 := Lib.hid h1
  have H2 := Lib.hid h2
  have H3 := Lib.hid h3
  have H4 := Lib.hid h4
  have S1 := Lib.hid s1
  have eq : (q == q) = true := by simp
  clear hlen hbig hl h1 h2 h3 h4 hk hnu s1
  go_enter Try.func4, Try.ntmps4
  go_wp2_with (first
   | (go_at_call 10; refine (chawake_any _).mono ?_; rintro e w1 ⟨rfl, hb⟩; replace hB := below_more hB hb; clear hb)
   | (go_at_call 13; refine (H1.out _ (HZ.out.up hB)).mono ?_; rintro e w2 ⟨rfl, hb⟩; replace hB := below_new (below_more hB hb) (.cells #[.int .i64 x.code, .int .i64 x.kind, .int .i64 x.basis, .int .i64 x.par] 26); have HA := Lib.hid (ab_new w2 26 x); clear hb)
   | (go_at_call 14; refine (H2.out _ (HZ.out.up hB)).mono ?_; rintro e w3 ⟨rfl, hb⟩; replace hB := below_new (below_more hB hb) (.cells #[.int .i64 x.code, .int .i64 x.kind, .int .i64 x.basis, .int .i64 x.par] 26); have HA2 := Lib.hid ((HA.out.up hb).up (below_alloc_new (.cells #[.int .i64 x.code, .int .i64 x.kind, .int .i64 x.basis, .int .i64 x.par] 26))); have HA3 := Lib.hid (ab_new w3 26 x); clear hb; obtain ⟨⟨z0, z1, z2, z3⟩, zlt, -⟩ := HA2.out; obtain ⟨⟨y0, y1, y2, y3⟩, ylt, -⟩ := HA3.out)
   | (go_at_call 16; refine (H3.out _ (HZ.out.up hB)).mono ?_; rintro e w5 ⟨v3, rfl, hs3, hb⟩; replace hB := below_more hB hb; obtain ⟨A3, d3, hv3, hI3⟩ := hs3; rw [HNU.out] at hv3; subst hv3; have HI3 := Lib.hid hI3; clear hb hI3)
   | (go_at_call 17; refine (H4.out _ (HZ.out.up hB)).mono ?_; rintro e w6 ⟨v4, rfl, hs4, hb⟩; replace hB := below_more hB hb; replace HI3 := Lib.hid (HI3.out.up hb); obtain ⟨A4, d4, hv4, hI4⟩ := hs4; rw [HNU.out] at hv4; subst hv4; have HI4 := Lib.hid hI4; clear hb hI4)
   | (go_at_call 15; refine (S1.out _ _ _ _ _ HI3.out HI4.out).mono ?_; rintro e w4 ⟨rfl, hb⟩; replace hB := below_more hB hb; clear hb))
  go_ret
  exact ⟨rfl, hB⟩
end Go.Proofs.Ytlhdnmpklaohkaa
