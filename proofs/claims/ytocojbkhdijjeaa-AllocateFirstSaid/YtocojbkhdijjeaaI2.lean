/- Contracts of the functions that the statements reach, part 2: what was proved of each, callees first. -/
import Derived.BigQuiet
import Derived.Lib.AppendIntMem
import Derived.Deep.CutRange
import Derived.Deep.RegionHeld
import Derived.Below
import Derived.Deep.Draws
import Derived.StillTail
import Derived.Handed
import Derived.ProofKit
import Derived.ChangeSlices
import Derived.OpenShut
import Derived.Carry
import Derived.ChangeSame
import Derived.Lib.SmallJoins
import Derived.Test.YtocojbkhdijjeaaI1
namespace Go.Proofs.Ytocojbkhdijjeaa
theorem countP_le {α : Type} {p q : α → Bool} : ∀ {l : List α}, (∀ x ∈ l, p x = true → q x = true) → l.countP p ≤ l.countP q
 | [], _ => Nat.le_refl _
 | a :: l, h => by
  have ih := countP_le (l := l) fun x hx => h x (List.mem_cons_of_mem _ hx)
  have ha := h a (List.mem_cons_self ..)
  rw [List.countP_cons, List.countP_cons]
  cases hp : p a with
  | false => simp; split <;> omega
  | true => rw [ha hp]; simp; exact ih
theorem countP_lt {α : Type} {p q : α → Bool} : ∀ {l : List α}, (∀ x ∈ l, p x = true → q x = true) → (∃ x ∈ l, p x = false ∧ q x = true) → l.countP p < l.countP q
 | [], _, h => by obtain ⟨x, hx, _⟩ := h; cases hx
 | a :: l, h, he => by
  have ih := countP_le (l := l) fun x hx => h x (List.mem_cons_of_mem _ hx)
  have ha := h a (List.mem_cons_self ..)
  rw [List.countP_cons, List.countP_cons]
  obtain ⟨x, hx, h1, h2⟩ := he
  rcases List.mem_cons.1 hx with rfl | hx
  ·rw [h1, h2]; simp; omega
  ·have ih2 := countP_lt (l := l) (fun y hy => h y (List.mem_cons_of_mem _ hy)) ⟨x, hx, h1, h2⟩
   cases hp : p a with
   | false => simp; split <;> omega
   | true => rw [ha hp]; simp; omega
def bt (R : List Int) (j i : Nat) : Bool := decide (R.getD i 0 < R.getD j 0) || (decide (R.getD j 0 = R.getD i 0) && decide (j < i))
theorem bt_true {R : List Int} {j i : Nat} : bt R j i = true ↔ R.getD i 0 < R.getD j 0 ∨ (R.getD j 0 = R.getD i 0 ∧ j < i) := by simp [bt]
theorem bt_false {R : List Int} {j i : Nat} : bt R j i = false ↔ ¬ (R.getD i 0 < R.getD j 0 ∨ (R.getD j 0 = R.getD i 0 ∧ j < i)) := by rw [← bt_true, Bool.not_eq_true]
theorem bt_trans {R : List Int} {a b c : Nat} (h : bt R a b = true) (h2 : bt R b c = true) : bt R a c = true := by rw [bt_true] at *; omega
theorem bt_asymm {R : List Int} {a b : Nat} (h : bt R a b = true) : bt R b a = false := by rw [bt_true] at h; rw [bt_false]; omega
theorem bt_self {R : List Int} {a : Nat} : bt R a a = false := by rw [bt_false]; omega
theorem bt_tri {R : List Int} {a b : Nat} (h : a ≠ b) : bt R a b = true ∨ bt R b a = true := by rw [bt_true, bt_true]; omega
def rk (R : List Int) (i : Nat) : Nat := (List.range R.length).countP fun j => bt R j i
theorem rk_lt {R : List Int} {a b : Nat} (ha : a < R.length) (h : bt R a b = true) : rk R a < rk R b :=
 countP_lt (fun _ _ hx => bt_trans hx h) ⟨a, List.mem_range.2 ha, bt_self, h⟩
theorem rk_inj {R : List Int} {a b : Nat} (ha : a < R.length) (hb : b < R.length) (h : rk R a = rk R b) : a = b := by
 rcases Nat.lt_trichotomy a b with c | c | c
 ·rcases bt_tri (R := R) (show a ≠ b by omega) with h1 | h1
  ·have := rk_lt ha h1; omega
  ·have := rk_lt hb h1; omega
 ·exact c
 ·rcases bt_tri (R := R) (show a ≠ b by omega) with h1 | h1
  ·have := rk_lt ha h1; omega
  ·have := rk_lt hb h1; omega
theorem order_rk {R : List Int} {O : List Nat} (hp : O.Perm (List.range R.length)) (hs : O.Pairwise fun a b => bt R a b = true) (k : Nat) (hk : k < O.length) : rk R O[k] = k := by
 have hd : O = O.take k ++ O[k] :: O.drop (k + 1) := by rw [List.getElem_cons_drop, List.take_append_drop]
 unfold rk
 rw [← hp.countP_eq]
 generalize hx : O[k] = x at *
 have h1 : ∀ a ∈ O.take k, bt R a x = true := by
  rw [hd] at hs
  exact fun a ha => (List.pairwise_append.1 hs).2.2 a ha x (List.mem_cons_self ..)
 have h2 : ∀ b ∈ O.drop (k + 1), bt R b x = false := by
  rw [hd] at hs
  exact fun b hb => bt_asymm ((List.pairwise_cons.1 (List.pairwise_append.1 hs).2.1).1 b hb)
 rw [hd, List.countP_append, List.countP_cons, bt_self]
 rw [List.countP_eq_length.2 (by simpa using h1), List.countP_eq_zero.2 (by simpa using h2), List.length_take]
 simp; omega
def quoL (T W : Int) (ws : List Int) : List Int := ws.map fun x => T * x / W
def remL (T W : Int) (ws : List Int) : List Int := ws.map fun x => T * x % W
def leftOf (T W : Int) (ws : List Int) : Int := T - (quoL T W ws).sum
theorem sum_mul (T : Int) : ∀ ws : List Int, (ws.map fun x => T * x).sum = T * ws.sum
 | [] => by simp
 | a :: t => by simp [sum_mul T t, Int.mul_add]
theorem sum_quo_rem (T W : Int) : ∀ ws : List Int, W * (quoL T W ws).sum + (remL T W ws).sum = T * ws.sum
 | [] => by simp [quoL, remL]
 | a :: t => by
  have ih := sum_quo_rem T W t
  have h1 : W * (T * a / W) + T * a % W = T * a := Int.mul_ediv_add_emod _ _
  simp only [quoL, remL, List.map_cons, List.sum_cons] at ih ⊢
  rw [Int.mul_add, Int.mul_add]
  omega
theorem sum_bound (W : Int) (hW : 0 < W) : ∀ R : List Int, (∀ x ∈ R, 0 ≤ x ∧ x < W) → 0 ≤ R.sum ∧ R.sum ≤ ((R.countP fun x => decide (0 < x) : Nat) : Int) * (W - 1)
 | [], _ => by simp
 | a :: t, h => by
  have ih := sum_bound W hW t fun x hx => h x (List.mem_cons_of_mem _ hx)
  have ha := h a (List.mem_cons_self ..)
  rw [List.sum_cons, List.countP_cons]
  by_cases c : 0 < a
  ·rw [decide_eq_true c, if_pos rfl, Int.natCast_add, Int.add_mul]
   simp; omega
  ·rw [decide_eq_false c]; simp; omega
theorem rem_in {T W : Int} {ws : List Int} (hW : 0 < W) : ∀ x ∈ remL T W ws, 0 ≤ x ∧ x < W := by
 intro x hx
 obtain ⟨y, _, rfl⟩ := List.mem_map.1 hx
 exact ⟨Int.emod_nonneg _ (by omega), Int.emod_lt_of_pos _ hW⟩
theorem left_in {T W : Int} {ws : List Int} (hW : 0 < W) (hs : ws.sum = W) : 0 ≤ leftOf T W ws ∧ leftOf T W ws ≤ (((remL T W ws).countP fun x => decide (0 < x) : Nat) : Int) ∧ leftOf T W ws < ws.length := by
 have h1 := sum_quo_rem T W ws
 have h2 := sum_bound W hW (remL T W ws) (rem_in hW)
 rw [hs] at h1
 have hc : (remL T W ws).countP (fun x => decide (0 < x)) ≤ ws.length := by
  have := List.countP_le_length (p := fun x => decide (0 < x)) (l := remL T W ws)
  simpa [remL] using this
 have hn : 0 < ws.length := by
  rcases Nat.eq_zero_or_pos ws.length with h | h
  ·rw [List.eq_nil_of_length_eq_zero h] at hs; simp at hs; omega
  ·exact h
 unfold leftOf
 generalize (quoL T W ws).sum = Q at *
 generalize (remL T W ws).sum = S at *
 generalize (remL T W ws).countP (fun x => decide (0 < x)) = c at *
 have e : (T - Q) * W = S := by rw [Int.sub_mul, Int.mul_comm Q W]; omega
 have a1 : 0 ≤ T - Q := by
  rcases Int.lt_or_le (T - Q) 0 with h | h
  ·have := Int.mul_lt_mul_of_pos_right h hW; omega
  ·exact h
 have a2 : T - Q ≤ (c : Int) := by
  refine Int.le_of_mul_le_mul_right (a := W) ?_ hW
  rw [e]
  refine Int.le_trans h2.2 (Int.mul_le_mul_of_nonneg_left (by omega) (by omega))
 refine ⟨a1, a2, ?_⟩
 rcases Nat.eq_zero_or_pos c with h | h
 ·omega
 ·have h3 : (T - Q) * W < (c : Int) * W := by
   rw [e]
   refine Int.lt_of_le_of_lt h2.2 (Int.mul_lt_mul_of_pos_left (by omega) (by omega))
  have := Int.lt_of_mul_lt_mul_right h3 (by omega)
  omega
def givenL (Q R : List Int) (k : Nat) : List Int := (List.range Q.length).map fun i => Q.getD i 0 + if rk R i < k then 1 else 0
theorem givenL_len (Q R : List Int) (k : Nat) : (givenL Q R k).length = Q.length := by simp [givenL]
theorem givenL_at {Q R : List Int} {k i : Nat} (h : i < Q.length) : (givenL Q R k).getD i 0 = Q.getD i 0 + if rk R i < k then 1 else 0 := by
 simp [givenL, List.getD_eq_getElem?_getD, h]
theorem givenL_zero (Q R : List Int) : givenL Q R 0 = Q := by
 apply List.ext_getElem
 ·simp [givenL]
 ·intro i h1 h2
  simp [givenL, List.getD_eq_getElem?_getD, h2]
theorem givenL_next {Q R : List Int} {k b : Nat} (hl : R.length = Q.length) (hb : b < Q.length) (hr : rk R b = k) : givenL Q R (k + 1) = (givenL Q R k).set b ((givenL Q R k).getD b 0 + 1) := by
 apply List.ext_getElem
 ·simp [givenL]
 ·intro i h1 h2
  have hi : i < Q.length := by simpa [givenL] using h1
  rw [List.getElem_set]
  by_cases c : b = i
  ·subst c
   rw [if_pos rfl, givenL_at hb]
   simp [givenL, hr]
  ·rw [if_neg c]
   have : rk R i ≠ k := fun h => c (rk_inj (R := R) (by omega) (by omega) (by omega))
   simp only [givenL, List.getElem_map, List.getElem_range]
   by_cases d : rk R i < k
   ·rw [if_pos (by omega), if_pos d]
   ·rw [if_neg (by omega), if_neg d]
def partsP (T W : Int) (ws : List Int) : List Int := givenL (quoL T W ws) (remL T W ws) (leftOf T W ws).toNat
def partsL (T W : Int) (ws : List Int) : List Int := if T < 0 then (partsP (-T) W ws).map fun x => -x else partsP T W ws
theorem partsP_len (T W : Int) (ws : List Int) : (partsP T W ws).length = ws.length := by simp [partsP, givenL_len, quoL]
theorem partsL_len (T W : Int) (ws : List Int) : (partsL T W ws).length = ws.length := by unfold partsL; split <;> simp [partsP_len]
open Go.Shelf Go.RowKit Go.Lib Go.Sort
theorem sortWorld_far {α : Type} [Inhabited α] (enc : α → Value) (W : World) (blk off n : Nat) (dk : Array α) (os : Array Obj) (a : Addr) (h1 : a.block ≠ blk) (h2 : a.block < W.heap.size) : (sortWorld enc W blk off n dk os).cell? a = W.cell? a := by
 unfold sortWorld
 rw [cell?_grow _ _ _ (by rw [size_putRow]; exact h2), cell?_putRow_other enc _ blk off dk a (Or.inl h1)]
 rfl
theorem sw_below {α : Type} [Inhabited α] {enc : α → Value} {w0 W : World} {blk off : Nat} {dk : Array α} (h : SW enc w0 blk off dk W) {B : Nat} (hB : B ≤ blk) (hs : B ≤ w0.heap.size) : Below B w0 W := by
 obtain ⟨n, os, rfl⟩ := h
 unfold sortWorld
 have h1 : Below B w0 (putRow enc (Sort.ahead w0 n) blk off dk) := by
  refine ⟨rfl, rfl, rfl, by rw [size_putRow]; exact Nat.le_refl _, fun k hk => ?_⟩
  show (w0.heap.modify blk _)[k]? = _
  rw [Array.getElem?_modify, if_neg (by omega)]
 exact h1.trans (Lib.below_grow B _ (by rw [size_putRow]; exact hs) 0 os)
theorem desc_cl (bx b off n : Nat) (c : Nat) (R : List Int) (i j : Nat) (hi : i < n) (hj : j < n) (W : World) (hbx : W.cell? ⟨bx, 0, none⟩ = some (.slice (some ⟨b, off, none⟩) n c)) (hc : ∀ k, k < n → W.cell? ⟨b, off + k, none⟩ = some (.int .i64 (R.getD k 0))) :
  Calls Try.prog 45 #[.int .i64 i, .int .i64 j, .pointer (some ⟨bx, 0, none⟩)] W fun e w' => e = .returned (.int .i64 (Lib.compareInt (R.getD j 0) (R.getD i 0))) ∧ ∃ q, w' = W.drewN q := by
 have h1 := hc i hi
 have h2 := hc j hj
 generalize R.getD i 0 = x at *
 generalize R.getD j 0 = y at *
 have hcmp : ∀ W : World, Calls Try.prog 46 #[.int .i64 y, .int .i64 x] W fun e w' => e = .returned (.int .i64 (Lib.compareInt y x)) ∧ ∃ m, w' = W.drewN m := fun W => (Try.cmp_Compare_int y x W).mono fun _ _ ⟨he, hw⟩ => ⟨he, 0, by rw [hw]; rfl⟩
 generalize Lib.compareInt y x = r at *
 have HC := Lib.hid hcmp
 have hlt1 : (i : Int) < (n : Int) := by omega
 have hlt2 : (j : Int) < (n : Int) := by omega
 clear hc hcmp
 go_enter Try.func45, Try.ntmps45
 go_wp2_with fail
 go_quiet ((go_at_call 46; exact quiet_one HC.out))
 go_wp2_with fail
 go_ret
 exact ⟨rfl, nq, rfl⟩
theorem cmpInt_neg (x y : Int) : decide (Lib.compareInt x y < 0) = decide (x < y) := by
 unfold Lib.compareInt
 by_cases h1 : x < y
 ·simp [h1]
 ·by_cases h2 : y < x <;> simp [h1, h2]
def dcf (R : List Int) (p : Nat) (x y : Fin (p + 1)) : Int := Lib.compareInt (R.getD y.val 0) (R.getD x.val 0)
theorem dcf_lt (R : List Int) (p : Nat) (x y : Fin (p + 1)) : ltOf (dcf R p) x y = decide (R.getD y.val 0 < R.getD x.val 0) := cmpInt_neg _ _
theorem dcf_swo (R : List Int) (p : Nat) : SWO (ltOf (dcf R p)) where
 irrefl x := by rw [dcf_lt]; simp
 trans x y z h1 h2 := by rw [dcf_lt] at *; simp at *; omega
 ntrans x y z h1 h2 := by rw [dcf_lt] at *; simp at *; omega
theorem desc_order {R : List Int} {p : Nat} (hl : R.length = p + 1) {d d' : Array (Fin (p + 1))} (hd : d.toList.map (fun x => x.val) = List.range (p + 1)) (hsz : d.size = p + 1) (hp : PermIn 0 (p + 1) d d') (hs : SortedIn (tl (ltOf (dcf R p)) fun x => x.val) 0 (p + 1) d') :
  (d'.toList.map fun x => x.val).Perm (List.range R.length) ∧ (d'.toList.map fun x => x.val).Pairwise fun a b => bt R a b = true := by
 have hs' : d'.size = p + 1 := hp.1.trans hsz
 have hperm : d'.toList.Perm d.toList := by
  have h := hp.2.2
  have e1 : d'.extract 0 (p + 1) = d' := by apply Array.ext <;> simp [hs']
  have e2 : d.extract 0 (p + 1) = d := by apply Array.ext <;> simp [hsz]
  rw [e1, e2] at h
  exact h
 have hpm : (d'.toList.map fun x => x.val).Perm (List.range R.length) := by rw [hl, ← hd]; exact hperm.map _
 refine ⟨hpm, ?_⟩
 have hnd : (d'.toList.map fun x => x.val).Nodup := hpm.nodup_iff.2 List.nodup_range
 rw [List.pairwise_iff_getElem]
 intro i j hi hj hij
 have hi2 : i < d'.size := by simpa using hi
 have hj2 : j < d'.size := by simpa using hj
 have h := hs i j (Nat.zero_le _) hij (by omega)
 have hne : (d'.toList.map fun x => x.val)[i] ≠ (d'.toList.map fun x => x.val)[j] := (List.pairwise_iff_getElem.1 hnd) i j hi hj hij
 have e1 : (d'.toList.map fun x => x.val)[i] = d'[i].val := by simp
 have e2 : (d'.toList.map fun x => x.val)[j] = d'[j].val := by simp
 rw [e1, e2] at hne ⊢
 rcases bt_tri (R := R) hne with h1 | h1
 ·exact h1
 ·rw [tl_false, dcf_lt, dcf_lt, getElem!_pos d' i hi2, getElem!_pos d' j hj2] at h
  rw [bt_true] at h1
  simp only [decide_eq_false_iff_not, decide_eq_true_eq] at h
  omega
theorem iota_toList (p : Nat) : (Array.ofFn fun i : Fin (p + 1) => i).toList.map (fun x => x.val) = List.range (p + 1) := by
 apply List.ext_getElem
 ·simp
 ·intro i h1 h2; simp only [List.getElem_map, Array.getElem_toList, Array.getElem_ofFn, List.getElem_range]
theorem iota_at (p k : Nat) (h : k < p + 1) : ((Array.ofFn fun i : Fin (p + 1) => i)[k]!).val = k := by
 rw [getElem!_pos _ k (by simpa using h)]; simp
set_option maxRecDepth 20000 in
set_option maxHeartbeats 1600000 in
theorem desc_any (A : Option Addr) (c : Nat) (R : List Int) (w : World) (hR : IntsAt .i64 w A R) (hn : 0 < R.length) (hn2 : R.length ≤ 1000) :
  Calls Try.prog 41 #[.slice A R.length c] w fun e w' => ∃ (g : Nat) (O : List Nat), e = .returned (.slice (some ⟨g, 0, none⟩) R.length R.length) ∧ w.heap.size ≤ g ∧ Below w.heap.size w w' ∧ O.Perm (List.range R.length) ∧ (O.Pairwise fun a b => bt R a b = true) ∧ IntsAt .i64 w' (some ⟨g, 0, none⟩) (O.map fun (k : Nat) => (k : Int)) := by
 obtain ⟨b, off, rfl, hbw, hcs⟩ := hR hn
 clear hR
 obtain ⟨p, hp⟩ : ∃ p, R.length = p + 1 := ⟨R.length - 1, by omega⟩
 obtain ⟨n, hnn⟩ : ∃ n, R.length = n := ⟨_, rfl⟩
 rw [hnn] at hn hn2 hcs ⊢
 have hpn : n = p + 1 := by omega
 have HCS := Lib.hid hcs
 have HP := Lib.hid hp
 have HPN := Lib.hid hpn
 have HNN := Lib.hid hnn
 clear hcs hp hpn hnn
 obtain ⟨i0, hi, hz0, hz1, hz2⟩ := info_parts infoI_int
 have hmf : ∀ (fn : Fn) (first cap : Array Value) (w : World), (Instr.makeFunc fn first cap).run Try.prog w = .ok (.func fn first cap) w := fun _ _ _ _ => rfl
 go_enter Try.func41, Try.ntmps41
 go_wp2_with (at_make; refine wpList_make_zeros _ rfl (.tmp 6) (.tmp 6) 22 rfl 3 .i64 i0 8 Try.underlying22 hi hz0 hz1 hz2 .i64 .i64 _ _ n rfl rfl rfl rfl (by omega) (by omega) ?_; intro w1 hb1 hB1 hs1)
 obtain ⟨g, hg⟩ : ∃ g, w.heap.size + 1 = g := ⟨_, rfl⟩
 have hsz1 : (w.alloc (.cells #[.slice (some ⟨b, off, none⟩) n c] 22)).heap.size = g := by simp; omega
 have hbx1 : (w.alloc (.cells #[.slice (some ⟨b, off, none⟩) n c] 22)).cell? ⟨w.heap.size, 0, none⟩ = some (.slice (some ⟨b, off, none⟩) n c) := by simp
 have hBw : Below w.heap.size w (w.alloc (.cells #[.slice (some ⟨b, off, none⟩) n c] 22)) := below_alloc_new _
 have hB0 : Below w.heap.size w w1 := hBw.trans (hB1.mono (by omega))
 rw [hsz1] at hb1 hB1 hs1
 have hbx := (hB1.cell (p := ⟨w.heap.size, 0, none⟩) (by show w.heap.size < g; omega)).trans hbx1
 have I1 : Hid (IB w1 g (List.replicate n (0 : Int))) := Lib.hid (IB.zeros hb1.out)
 have hsw : g < w1.heap.size := by omega
 clear hb1 hB1 hsz1 hbx1 hBw hs1
 generalize hbb : w.heap.size = bx at *
 rw [hg]
 have HG := Lib.hid hg
 have hgb : bx < g := by omega
 clear hg
 go_loopg [4, 10] n (fun kx s4 s10 wr => ∃ (k : Nat) (L : List Int), s10 = .int .i64 k ∧ k ≤ n ∧ n - k ≤ kx ∧ L.length = n ∧ Hid (∀ i, i < k → L.getD i 0 = i) ∧ Hid (IB wr g L) ∧ Below bx w wr ∧ Hid (wr.cell? ⟨bx, 0, none⟩ = some (.slice (some ⟨b, off, none⟩) n c)))
 case atStart => exact ⟨0, _, rfl, by omega, by omega, by simp, Lib.hid (fun i h => by omega), I1, hB0, Lib.hid hbx⟩
 case round =>
  clear I1 hB0 hbx hsw
  obtain ⟨k, L, rfl, hk, hkx, hL, HL, I1, hB0, HBX⟩ := hrel
  by_cases hlt : k < n
  ·have hltz : (k : Int) < (n : Int) := by omega
   have hc := I1.out.cell k (by omega)
   have hf := I1.out.frozen k
   have I2 : Hid (IB (wr.setCell ⟨g, k, none⟩ (.int .i64 k)) g (L.set k k)) := Lib.hid (I1.out.set k k)
   have hB2 : Below bx w (wr.setCell ⟨g, k, none⟩ (.int .i64 k)) := Below.setCell (p := ⟨g, k, none⟩) hB0 (by show bx ≤ g; omega) _
   have HBX2 : Hid ((wr.setCell ⟨g, k, none⟩ (.int .i64 k)).cell? ⟨bx, 0, none⟩ = some (.slice (some ⟨b, off, none⟩) n c)) := Lib.hid ((World.cell?_setCell_other _ _ _ _ (by intro e; simp only [Addr.mk.injEq] at e; omega)).trans HBX.out)
   go_wp2_with fail
   go_roundg (n - (k + 1))
   case measure => omega
   case rel =>
    refine ⟨k + 1, L.set k k, by go_num, by omega, by omega, by simpa using hL, Lib.hid fun i hi => ?_, I2, hB2, HBX2⟩
    rw [List.getD_eq_getElem?_getD, List.getElem?_set]
    by_cases e : k = i
    ·subst e; simp [hL, hlt]
    ·rw [if_neg e, ← List.getD_eq_getElem?_getD]; exact HL.out i (by omega)
  ·have hkn : k = n := by omega
   have hltz : ¬ (k : Int) < (n : Int) := by omega
   have eg : ∀ args w, (callFunc 45 args).run Try.prog w = .ok (.enter 45 args) w := enters_of Try.func45 (by kernel_rfl) rfl
   have hL9 : ∀ i, i < n → L.getD i 0 = i := fun i h => HL.out i (by omega)
   have hsz : (Array.ofFn fun i : Fin (p + 1) => i).size = n := by rw [Array.size_ofFn]; exact HPN.out.symm
   have hH : Holds (fun x : Fin (p + 1) => Value.int .i64 (x.val : Int)) wr g 0 (Array.ofFn fun i : Fin (p + 1) => i) := fun j hj => by
    rw [hsz] at hj
    rw [Nat.zero_add]
    refine ⟨?_, I1.out.frozen j⟩
    rw [I1.out.cell j (by omega), hL9 j hj]
    show _ = some (Value.int .i64 (((Array.ofFn fun i : Fin (p + 1) => i)[j]!).val : Int))
    rw [iota_at p j (by have := HPN.out; omega)]
   have RR : Row1 (fun x : Fin (p + 1) => Value.int .i64 (x.val : Int)) wr g 0 (Array.ofFn fun i : Fin (p + 1) => i) := ⟨fun _ => rfl, hH, I1.out.lt⟩
   have hcm : CmpReads Try.prog 45 #[.pointer (some ⟨bx, 0, none⟩)] (fun x : Fin (p + 1) => Value.int .i64 (x.val : Int)) (dcf R p) g 0 (Array.ofFn fun i : Fin (p + 1) => i).size wr := fun m os dk _ x y => by
    refine desc_cl bx b off n c R x.val y.val (by have := x.isLt; have := HPN.out; omega) (by have := y.isLt; have := HPN.out; omega) _ ?_ fun k2 hk2 => ?_
    ·rw [sortWorld_far _ _ _ _ _ _ _ _ (by show bx ≠ g; omega) (by show bx < wr.heap.size; have := I1.out.lt; omega)]; exact HBX.out
    ·rw [sortWorld_far _ _ _ _ _ _ _ _ (by show b ≠ g; omega) (by show b < wr.heap.size; have := I1.out.lt; omega)]
     exact (hB0.cell (p := ⟨b, off + k2, none⟩) hbw).trans (HCS.out k2 hk2)
   have hsort := st_sort RR (dcf R p) (dcf_swo R p) (fun x => x.val) 45 #[.pointer (some ⟨bx, 0, none⟩)] eg hcm.lays n n hsz (by omega) (fun q hq => iota_at p q (by have := HPN.out; omega))
   have HS := Lib.hid hsort
   have HH := Lib.hid hH
   clear hsort hcm RR hH hL9 eg
   go_wp2_with (go_at_call 44; refine HS.out.mono ?_; rintro e w' ⟨rfl, d', S, hpe, hso⟩)
   go_ret
   have hpn := HPN.out
   subst hpn
   obtain ⟨q1, q2⟩ := desc_order HP.out (iota_toList p) hsz hpe hso
   have hd' : d'.size = p + 1 := hpe.1.trans hsz
   rw [HNN.out] at q1
   refine ⟨g, d'.toList.map (fun x => x.val), rfl, by omega, by rw [hbb]; exact hB0.trans (sw_below S (by omega) (by have := I1.out.lt; omega)), q1, q2, fun h0 => ⟨g, 0, rfl, S.lt I1.out.lt, fun i hi => ?_⟩⟩
   have hi2 : i < d'.size := by simpa using hi
   rw [((S.holds I1.out.lt HH.out (by rw [hsz]; exact hd')) i hi2).1, getElem!_pos d' i hi2]
   simp [List.getD_eq_getElem?_getD, hi2]
def wgB (n : Int) : Bool := decide (0 ≤ n) && decide (n ≤ 1000000)
theorem wgB_is {n : Int} (h : wgB n = true) : 0 ≤ n ∧ n ≤ 1000000 := by simpa [wgB] using h
theorem wgB_no {n : Int} (h : wgB n = false) : n < 0 ∨ 1000000 < n := by
 unfold wgB at h
 by_cases h1 : 0 ≤ n
 ·rw [decide_eq_true h1, Bool.true_and] at h; have := of_decide_eq_false h; omega
 ·omega
def fillI (Q : List Int) (k : Nat) : List Int := Q.take k ++ List.replicate (Q.length - k) 0
theorem fillI_zero (Q : List Int) : fillI Q 0 = List.replicate Q.length 0 := by simp [fillI]
theorem fillI_all {Q : List Int} {k : Nat} (h : Q.length ≤ k) : fillI Q k = Q := by
 unfold fillI
 rw [List.take_of_length_le h, show Q.length - k = 0 by omega, List.replicate_zero, List.append_nil]
theorem fillI_len {Q : List Int} {k : Nat} (h : k ≤ Q.length) : (fillI Q k).length = Q.length := by simp [fillI]; omega
theorem fillI_next {Q : List Int} {k : Nat} (h : k < Q.length) : (fillI Q k).set k (Q.getD k 0) = fillI Q (k + 1) := by
 apply List.ext_getElem
 ·rw [List.length_set, fillI_len (by omega), fillI_len (by omega)]
 ·intro i h1 h2
  have hi : i < Q.length := by rw [fillI_len (by omega)] at h2; exact h2
  rw [List.getElem_set]
  by_cases e : k = i
  ·subst e
   rw [if_pos rfl]
   simp [fillI, List.getElem_append, List.getD_eq_getElem?_getD, h]
   omega
  ·rw [if_neg e]
   simp only [fillI, List.getElem_append, List.length_take, List.getElem_take]
   by_cases c : i < k
   ·rw [dif_pos (by omega), dif_pos (by omega)]
   ·rw [dif_neg (by omega), dif_neg (by omega), List.getElem_replicate, List.getElem_replicate]
theorem take_sum1 (zs : List Int) (k : Nat) (h : k < zs.length) : (zs.take (k + 1)).sum = (zs.take k).sum + zs.getD k 0 := by
 rw [List.take_succ_eq_append_getElem h, List.sum_append, List.getD_eq_getElem?_getD, List.getElem?_eq_getElem h]
 simp
theorem sum_nn : ∀ {l : List Int}, (∀ x ∈ l, 0 ≤ x) → 0 ≤ l.sum
 | [], _ => by simp
 | a :: t, h => by
  have := sum_nn (l := t) fun x hx => h x (List.mem_cons_of_mem _ hx)
  have := h a (List.mem_cons_self ..)
  rw [List.sum_cons]; omega
theorem take_sum_in {l : List Int} (h : ∀ x ∈ l, 0 ≤ x) (k : Nat) : 0 ≤ (l.take k).sum ∧ (l.take k).sum ≤ l.sum := by
 have h1 := sum_nn (l := l.take k) fun x hx => h x (List.mem_of_mem_take hx)
 have h2 := sum_nn (l := l.drop k) fun x hx => h x (List.mem_of_mem_drop hx)
 have h3 : l.sum = (l.take k).sum + (l.drop k).sum := by rw [← List.sum_append, List.take_append_drop]
 omega
theorem sum_le_len : ∀ {l : List Int} {M : Int}, (∀ x ∈ l, x ≤ M) → l.sum ≤ (l.length : Int) * M
 | [], M, _ => by simp
 | a :: t, M, h => by
  have h1 := sum_le_len (l := t) (M := M) fun x hx => h x (List.mem_cons_of_mem _ hx)
  have h2 := h a (List.mem_cons_self ..)
  rw [List.sum_cons, List.length_cons]
  rw [Int.natCast_add, Int.add_mul]; omega
theorem quoL_nn {T W : Int} {ws : List Int} (hT : 0 ≤ T) (hW : 0 < W) (hw : ∀ x ∈ ws, 0 ≤ x) : ∀ x ∈ quoL T W ws, 0 ≤ x := by
 intro x hx
 obtain ⟨y, hy, rfl⟩ := List.mem_map.1 hx
 exact Int.ediv_nonneg (Int.mul_nonneg hT (hw y hy)) (by omega)
theorem quoL_at {T W : Int} {ws : List Int} {k : Nat} (h : k < ws.length) : (quoL T W ws).getD k 0 = T * ws.getD k 0 / W := by simp [quoL, List.getD_eq_getElem?_getD, h]
theorem remL_at {T W : Int} {ws : List Int} {k : Nat} (h : k < ws.length) : (remL T W ws).getD k 0 = T * ws.getD k 0 % W := by simp [remL, List.getD_eq_getElem?_getD, h]
theorem left_k {T W : Int} {ws : List Int} (hT : 0 ≤ T) (hW : 0 < W) (hw : ∀ x ∈ ws, 0 ≤ x) (hs : ws.sum = W) (k : Nat) : 0 ≤ T - ((quoL T W ws).take k).sum ∧ T - ((quoL T W ws).take k).sum ≤ T := by
 have h1 := take_sum_in (quoL_nn hT hW hw) k
 have h2 := (left_in (T := T) hW hs).1
 unfold leftOf at h2
 omega
theorem quo_one {T W x : Int} (hT : 0 ≤ T ∧ T ≤ 1000000000000) (hW : 0 < W) (hx : 0 ≤ x ∧ x ≤ 1000000) :
  ∃ P q r : Int, T * x = P ∧ P / W = q ∧ P % W = r ∧ P.tdiv W = q ∧ P.tmod W = r ∧ 0 ≤ P ∧ P ≤ 1000000000000000000 ∧ 0 ≤ q ∧ q ≤ 1000000000000000000 ∧ 0 ≤ r ∧ r < W := by
 have h1 : 0 ≤ T * x := Int.mul_nonneg hT.1 hx.1
 have h2 : T * x ≤ 1000000000000 * 1000000 := Int.mul_le_mul hT.2 hx.2 hx.1 (by omega)
 have h3 : 0 ≤ T * x / W := Int.ediv_nonneg h1 (by omega)
 have h4 : T * x / W ≤ T * x := Int.ediv_le_self _ h1
 exact ⟨_, _, _, rfl, rfl, rfl, Int.tdiv_eq_ediv_of_nonneg h1, Int.tmod_eq_emod_of_nonneg h1, h1, by omega, h3, by omega, Int.emod_nonneg _ (by omega), Int.emod_lt_of_pos _ hW⟩
theorem mem_getD {l : List Int} {k : Nat} (h : k < l.length) : l.getD k 0 ∈ l := by
 rw [List.getD_eq_getElem?_getD, List.getElem?_eq_getElem h]; exact List.getElem_mem h
theorem all_take {p : Int → Bool} {l : List Int} (h : l.all p = true) {k : Nat} (hk : k < l.length) : p (l.getD k 0) = true := List.all_eq_true.1 h _ (mem_getD hk)
def wsE (T : Int) (ws : List Int) : Int := if (amtB T && (decide (1 ≤ ws.length) && decide (ws.length ≤ 1000))) = true then if ws.all wgB = true then if ws.sum = 0 then 10 else 0 else 1 else 1
def wsV (T : Int) (ws : List Int) : Int := if wsE T ws = 0 then ws.sum else 0
def splitL (T : Int) (ws : List Int) : List Int := if wsE T ws = 0 then partsL T ws.sum ws else []
structure WsOk (T : Int) (ws : List Int) : Prop where
 amt : -1000000000000 ≤ T ∧ T ≤ 1000000000000
 len : 0 < ws.length ∧ ws.length ≤ 1000
 all : ∀ x ∈ ws, 0 ≤ x ∧ x ≤ 1000000
 pos : 0 < ws.sum
 le : ws.sum ≤ 1000000000
theorem wsE_ok {T : Int} {ws : List Int} (h : wsE T ws = 0) : WsOk T ws := by
 unfold wsE at h
 split at h
 ·rename_i h1
  split at h
  ·rename_i h2
   split at h
   ·cases h
   ·rename_i h3
    simp only [Bool.and_eq_true, decide_eq_true_eq] at h1
    have ha : ∀ x ∈ ws, 0 ≤ x ∧ x ≤ 1000000 := fun x hx => wgB_is (List.all_eq_true.1 h2 x hx)
    have hs := sum_nn fun x hx => (ha x hx).1
    have hl := sum_le_len (M := 1000000) fun x hx => (ha x hx).2
    exact ⟨amtB_is h1.1, by omega, ha, by omega, by omega⟩
  ·cases h
 ·cases h
open Go.RowKit
theorem all_false_at {p : Int → Bool} {l : List Int} {k : Nat} (hk : k < l.length) (h : p (l.getD k 0) = false) : l.all p = false := by
 rw [List.all_eq_false]
 exact ⟨_, mem_getD hk, by rw [h]; simp⟩
theorem take_all1 {p : Int → Bool} (zs : List Int) (k : Nat) (h : k < zs.length) : (zs.take (k + 1)).all p = ((zs.take k).all p && p (zs.getD k 0)) := by
 rw [List.take_succ_eq_append_getElem h, List.all_append, List.getD_eq_getElem?_getD, List.getElem?_eq_getElem h]
 simp
set_option maxRecDepth 20000 in
set_option maxHeartbeats 3200000 in
theorem sumW_any (T : Int) (A : Option Addr) (c : Nat) (ws : List Int) (w : World) (hz : IntsAt .i64 w A ws) (hmax : ws.length ≤ 9223372036854775807) :
  Calls Try.prog 28 #[.int .i64 T, .slice A ws.length c] w fun e w' => e = .returned (.tuple #[.int .i64 (wsV T ws), .int .i64 (wsE T ws)]) ∧ Below w.heap.size w w' := by
 have hV := fun w => mvalid_any T w
 have hB := Below.refl w.heap.size w
 cases h0 : amtB T
 ·have e1 : wsE T ws = 1 := by unfold wsE; rw [h0]; rfl
  have e2 : wsV T ws = 0 := by unfold wsV; rw [e1]; rfl
  rw [e1, e2]
  rw [h0] at hV
  have HV := Lib.hid hV
  clear hV hz e1 e2
  go_enter Try.func28, Try.ntmps28
  go_wp2_with (go_at_call 26; refine (HV.out _).mono ?_; rintro e w' ⟨rfl, rfl⟩)
  go_ret2
  exact ⟨rfl, hB⟩
 ·rw [h0] at hV
  have HV := Lib.hid hV
  clear hV
  by_cases hlo : ws.length < 1
  ·have e1 : wsE T ws = 1 := by unfold wsE; rw [h0, decide_eq_false (show ¬ 1 ≤ ws.length by omega)]; rfl
   have e2 : wsV T ws = 0 := by unfold wsV; rw [e1]; rfl
   rw [e1, e2]
   have hl : ws.length = 0 := by omega
   rw [hl]
   clear e1 e2 hz hlo hl hmax
   go_enter Try.func28, Try.ntmps28
   go_wp2_with (go_at_call 26; refine (HV.out _).mono ?_; rintro e w' ⟨rfl, rfl⟩)
   go_ret2
   exact ⟨rfl, hB⟩
  ·by_cases hhi : 1000 < ws.length
   ·have e1 : wsE T ws = 1 := by unfold wsE; rw [h0, decide_eq_false (show ¬ ws.length ≤ 1000 by omega), Bool.and_false]; rfl
    have e2 : wsV T ws = 0 := by unfold wsV; rw [e1]; rfl
    rw [e1, e2]
    generalize ws.length = len at *
    have hd1 : decide ((len : Int) < 1) = false := decide_eq_false (by omega)
    have hd2 : (1000 : Int) < (len : Int) := by omega
    clear e1 e2 hz hlo hhi
    go_enter Try.func28, Try.ntmps28
    go_wp2_with (go_at_call 26; refine (HV.out _).mono ?_; rintro e w' ⟨rfl, rfl⟩)
    go_ret2
    exact ⟨rfl, hB⟩
   ·have hE : wsE T ws = if ws.all wgB = true then if ws.sum = 0 then 10 else 0 else 1 := by unfold wsE; rw [h0, decide_eq_true (show 1 ≤ ws.length by omega), decide_eq_true (show ws.length ≤ 1000 by omega)]; rfl
    obtain ⟨len, hlen⟩ : ∃ len, ws.length = len := ⟨_, rfl⟩
    rw [hlen] at hlo hhi hmax ⊢
    have HL := Lib.hid hlen
    have HZ := Lib.hid hz
    have HE := Lib.hid hE
    have hd1 : decide ((len : Int) < 1) = false := decide_eq_false (by omega)
    have hd2 : decide ((1000 : Int) < (len : Int)) = false := decide_eq_false (by omega)
    clear hlen hz hE hmax
    go_enter Try.func28, Try.ntmps28
    go_wp2_with (go_at_call 26; refine (HV.out _).mono ?_; rintro e w' ⟨rfl, rfl⟩)
    go_loopg [6, 8, 24] len (fun kx s6 s8 s24 wr => ∃ (k : Nat) (S : Int), s6 = .int .i64 S ∧ s24 = .int .i64 k ∧ k ≤ len ∧ len - k ≤ kx ∧ 0 ≤ S ∧ S ≤ (k : Int) * 1000000 ∧ Hid (S = (ws.take k).sum) ∧ Hid ((ws.take k).all wgB = true) ∧ wr = w)
    case atStart => exact ⟨0, 0, rfl, rfl, by omega, by omega, by omega, by omega, Lib.hid (by simp), Lib.hid (by simp), rfl⟩
    case round =>
     obtain ⟨k, S, rfl, rfl, hk, hkx, hS0, hS1, HS, HA, rfl⟩ := hrel
     by_cases hlt : k < len
     ·have hltz : (k : Int) < (len : Int) := by omega
      obtain ⟨b, off, rfl, hbw, hcs⟩ := HZ.out (by rw [HL.out]; omega)
      have hc := hcs k (by rw [HL.out]; exact hlt)
      obtain ⟨x, hx⟩ : ∃ x, ws.getD k 0 = x := ⟨_, rfl⟩
      rw [hx] at hc
      have HX := Lib.hid hx
      clear hx hcs
      cases hok : wgB x
      ·have hno : Hid (ws.all wgB = false) := Lib.hid (all_false_at (by rw [HL.out]; exact hlt) (by rw [HX.out]; exact hok))
       have e1 : Hid (wsE T ws = 1) := Lib.hid (by rw [HE.out, hno.out]; rfl)
       have e2 : Hid (wsV T ws = 0) := Lib.hid (by unfold wsV; rw [e1.out]; rfl)
       rcases wgB_no hok with h1 | h1
       ·clear hok
        go_wp2_with fail
        go_ret2
        exact ⟨by rw [e1.out, e2.out]; rfl, hB⟩
       ·have h2 : decide (x < 0) = false := decide_eq_false (by omega)
        clear hok
        go_wp2_with fail
        go_ret2
        exact ⟨by rw [e1.out, e2.out]; rfl, hB⟩
      ·obtain ⟨x1, x2⟩ := wgB_is hok
       have HA2 : Hid ((ws.take (k + 1)).all wgB = true) := Lib.hid (by rw [take_all1 ws k (by rw [HL.out]; exact hlt), HA.out, HX.out, hok]; rfl)
       have HS2 : Hid (S + x = (ws.take (k + 1)).sum) := Lib.hid (by rw [take_sum1 ws k (by rw [HL.out]; exact hlt), HS.out, HX.out])
       have h2 : decide (x < 0) = false := decide_eq_false (by omega)
       have h3 : decide (1000000 < x) = false := decide_eq_false (by omega)
       clear hok
       go_wp2_with fail
       go_roundg (len - (k + 1))
       case measure => omega
       case rel => exact ⟨k + 1, S + x, rfl, by go_num, by omega, by omega, by omega, by omega, HS2, HA2, rfl⟩
     ·have hkl : k = len := by omega
      have hltz : ¬ (k : Int) < (len : Int) := by omega
      have hall : ws.all wgB = true := by have := HA.out; rwa [List.take_of_length_le (by rw [HL.out]; omega)] at this
      have hsum : ws.sum = S := by have := HS.out; rw [List.take_of_length_le (by rw [HL.out]; omega)] at this; exact this.symm
      have hE2 : Hid (wsE T ws = if S = 0 then 10 else 0) := Lib.hid (by rw [HE.out, if_pos hall, hsum])
      have hV2 : Hid (wsV T ws = if wsE T ws = 0 then S else 0) := Lib.hid (by unfold wsV; rw [hsum])
      clear hall hsum
      by_cases hs0 : S = 0
      ·have hs1 : (S == 0) = true := by simp [hs0]
       have e1 : Hid (wsE T ws = 10) := Lib.hid (by rw [hE2.out, if_pos hs0])
       have e2 : Hid (wsV T ws = 0) := Lib.hid (by rw [hV2.out, e1.out]; rfl)
       clear hE2 hV2
       go_wp2_with fail
       go_ret2
       exact ⟨by rw [e1.out, e2.out]; rfl, hB⟩
      ·have hs1 : (S == 0) = false := by simp [hs0]
       have e1 : Hid (wsE T ws = 0) := Lib.hid (by rw [hE2.out, if_neg hs0])
       have e2 : Hid (wsV T ws = S) := Lib.hid (by rw [hV2.out, e1.out]; rfl)
       clear hE2 hV2
       go_wp2_with fail
       go_ret2
       exact ⟨by rw [e1.out, e2.out]; rfl, hB⟩
set_option maxRecDepth 20000 in
set_option maxHeartbeats 3200000 in
theorem negated_any (A : Option Addr) (c : Nat) (zs : List Int) (w : World) (hz : IntsAt .i64 w A zs) (hl : zs.length ≤ 1000) (hb : ∀ x ∈ zs, -9223372036854775807 ≤ x ∧ x ≤ 9223372036854775807) :
  Calls Try.prog 29 #[.slice A zs.length c] w fun e w' => ∃ g : Nat, e = .returned (.slice (some ⟨g, 0, none⟩) zs.length zs.length) ∧ Below w.heap.size w w' ∧ IB w' g (zs.map fun x => -x) := by
 obtain ⟨len, hlen⟩ : ∃ len, zs.length = len := ⟨_, rfl⟩
 rw [hlen] at hl ⊢
 have HL := Lib.hid hlen
 have HZ := Lib.hid hz
 have HB := Lib.hid hb
 clear hlen hz hb
 obtain ⟨i0, hi, hz0, hz1, hz2⟩ := info_parts infoI_int
 go_enter Try.func29, Try.ntmps29
 go_wp2_with (at_make; refine wpList_make_zeros _ rfl (.tmp 7) (.tmp 7) 22 rfl 3 .i64 i0 8 Try.underlying22 hi hz0 hz1 hz2 .i64 .i64 _ _ len rfl rfl rfl rfl (by omega) (by omega) ?_; intro w1 hb1 hB1 hs1)
 have I1 : Hid (IB w1 w.heap.size (fillI (zs.map fun x => -x) 0)) := Lib.hid (by rw [fillI_zero, List.length_map, HL.out]; exact IB.zeros hb1.out)
 clear hb1 hs1
 obtain ⟨g, hg⟩ : ∃ g, w.heap.size = g := ⟨_, rfl⟩
 rw [hg] at I1 hB1 ⊢
 go_loopg [4, 5, 11] len (fun kx s4 s5 s11 wr => ∃ k : Nat, s11 = .int .i64 k ∧ k ≤ len ∧ len - k ≤ kx ∧ Hid (IB wr g (fillI (zs.map fun x => -x) k)) ∧ Below g w wr)
 case atStart => exact ⟨0, rfl, by omega, by omega, I1, hB1⟩
 case round =>
  clear I1 hB1
  obtain ⟨k, rfl, hk, hkx, I1, hB1⟩ := hrel
  have hlm : Hid ((zs.map fun x => -x).length = len) := Lib.hid (by rw [List.length_map]; exact HL.out)
  by_cases hlt : k < len
  ·have hltz : (k : Int) < (len : Int) := by omega
   obtain ⟨b, off, rfl, hbw, hcs⟩ := HZ.out (by rw [HL.out]; omega)
   have hc := (hB1.cell (p := ⟨b, off + k, none⟩) (by show b < g; omega)).trans (hcs k (by rw [HL.out]; exact hlt))
   obtain ⟨x, hx⟩ : ∃ x, zs.getD k 0 = x := ⟨_, rfl⟩
   have hxb := HB.out x (by rw [← hx]; exact mem_getD (by rw [HL.out]; exact hlt))
   obtain ⟨x1, x2⟩ := hxb
   rw [hx] at hc
   have HX : Hid ((zs.map fun x => -x).getD k 0 = -x) := Lib.hid (by
    rw [List.getD_eq_getElem?_getD, List.getElem?_map, ← hx, List.getD_eq_getElem?_getD, List.getElem?_eq_getElem (show k < zs.length by rw [HL.out]; exact hlt)]; rfl)
   have c2 := I1.out.cell k (by rw [fillI_len (by rw [hlm.out]; omega), hlm.out]; exact hlt)
   have f2 := I1.out.frozen k
   have I2 : Hid (IB (wr.setCell ⟨g, k, none⟩ (.int .i64 (-x))) g (fillI (zs.map fun x => -x) (k + 1))) := Lib.hid (by
    have h := I1.out.set k (-x)
    rw [← HX.out, fillI_next (by rw [hlm.out]; exact hlt), HX.out] at h
    exact h)
   have hB2 : Below g w (wr.setCell ⟨g, k, none⟩ (.int .i64 (-x))) := Below.setCell (p := ⟨g, k, none⟩) hB1 (Nat.le_refl _) _
   clear hx hcs
   go_wp2_with fail
   go_roundg (len - (k + 1))
   case measure => omega
   case rel => exact ⟨k + 1, by go_num, by omega, by omega, I2, hB2⟩
  ·have hkl : k = len := by omega
   have hltz : ¬ (k : Int) < (len : Int) := by omega
   have I2 : Hid (IB wr g (zs.map fun x => -x)) := Lib.hid (by have h := I1.out; rwa [fillI_all (by rw [hlm.out]; omega)] at h)
   go_wp2_with fail
   go_ret
   exact ⟨g, rfl, hB1, I2.out⟩
set_option maxRecDepth 20000 in
set_option maxHeartbeats 3200000 in
theorem largest_any (T W : Int) (A : Option Addr) (c : Nat) (ws : List Int) (w : World) (hz : IntsAt .i64 w A ws) (hT : 0 ≤ T ∧ T ≤ 1000000000000) (hok : WsOk T ws) (hW : ws.sum = W) :
  Calls Try.prog 30 #[.int .i64 T, .slice A ws.length c, .int .i64 W] w fun e w' => ∃ g : Nat, e = .returned (.slice (some ⟨g, 0, none⟩) ws.length ws.length) ∧ Below w.heap.size w w' ∧ IB w' g (partsP T W ws) := by
 obtain ⟨hl0, hl1⟩ := hok.len
 have hW0 : 0 < W := by rw [← hW]; exact hok.pos
 have hW1 : W ≤ 1000000000 := by rw [← hW]; exact hok.le
 obtain ⟨hT0, hT1⟩ := hT
 obtain ⟨n, hlen⟩ : ∃ n, ws.length = n := ⟨_, rfl⟩
 obtain ⟨b, off, rfl, hbw, hcs⟩ := hz hl0
 rw [hlen] at hl0 hl1 hcs ⊢
 have HL := Lib.hid hlen
 have HCS := Lib.hid hcs
 have HOK := Lib.hid hok
 have HW := Lib.hid hW
 clear hz hok hW hlen hcs
 obtain ⟨i0, hi, hz0, hz1, hz2⟩ := info_parts infoI_int
 have hmk : ∀ V : World, (Instr.makeSlice 22 (.int .i64 (n : Int)) (.int .i64 (n : Int))).run Try.prog V = .ok (.slice (some ⟨V.heap.size, 0, none⟩) n n) (V.alloc (.cells (Array.replicate n (.int .i64 0)) 3)) := fun V => by
  have h := run_makeSlice (P := Try.prog) V 22 3 i0 (.int .i64 0) Try.underlying22 hi hz0 .i64 .i64 (n : Int) (n : Int) (by omega) (by omega) (by rw [hz1]; omega) (by rw [hz2]; omega) (by omega)
  rw [h, hz1, Int.toNat_natCast]
  have e : madeCells (Value.int .i64 0).cells (n * 1) = Array.replicate n (.int .i64 0) := by
   apply Array.ext
   ·simp [madeCells]
   ·intro j h1 h2; simp [madeCells, Value.cells, Nat.mod_one]
  rw [e]
 obtain ⟨s0, hs0⟩ : ∃ s0, w.heap.size = s0 := ⟨_, rfl⟩
 obtain ⟨W2, hW2⟩ : ∃ W2, ((w.alloc (.cells (Array.replicate n (.int .i64 0)) 3)).alloc (.cells (Array.replicate n (.int .i64 0)) 3)).drew = W2 := ⟨_, rfl⟩
 have hA : IB W2 s0 (List.replicate n 0) := by
  rw [← hW2, ← hs0]
  exact ((IB.mk ⟨3, by rw [heap_alloc_new]; simp⟩).alloc _).drew
 have hA2 : IB W2 (s0 + 1) (List.replicate n 0) := by
  have h : IB ((w.alloc (.cells (Array.replicate n (.int .i64 0)) 3)).alloc (.cells (Array.replicate n (.int .i64 0)) 3)) (w.alloc (.cells (Array.replicate n (.int .i64 0)) 3)).heap.size (List.replicate n 0) := IB.mk ⟨3, by rw [heap_alloc_new]; simp⟩
  rw [← hW2, ← hs0]
  have e : (w.alloc (.cells (Array.replicate n (.int .i64 0)) 3)).heap.size = w.heap.size + 1 := by simp
  rw [e] at h
  exact h.drew
 have hB2 : Below s0 w W2 := by
  rw [← hW2, ← hs0]
  exact dc_drew (((Below.refl _ w).alloc (Nat.le_refl _) _).alloc (by simp) _)
 have HA := Lib.hid hA
 have HA2 := Lib.hid hA2
 have HW2 := Lib.hid hW2
 have HS0 := Lib.hid hs0
 clear hA hA2 hW2
 obtain ⟨Q, hQ⟩ : ∃ Q, quoL T W ws = Q := ⟨_, rfl⟩
 obtain ⟨R, hRR⟩ : ∃ R, remL T W ws = R := ⟨_, rfl⟩
 have HQ := Lib.hid hQ
 have HRR := Lib.hid hRR
 have HQL : Hid (Q.length = n) := Lib.hid (by rw [← hQ]; simp [quoL]; exact HL.out)
 have HRL : Hid (R.length = n) := Lib.hid (by rw [← hRR]; simp [remL]; exact HL.out)
 clear hQ hRR
 go_enter Try.func30, Try.ntmps30
 go_upto_region 1 with fail
 go_cut [7, 8] from 14 to 19 (fun v7 v8 wx => ∃ g1 g2 : Nat, v7 = .slice (some ⟨g1, 0, none⟩) n n ∧ v8 = .slice (some ⟨g2, 0, none⟩) n n ∧ g1 ≠ g2 ∧ s0 ≤ g1 ∧ s0 ≤ g2 ∧ Hid (IB wx g1 (fillI Q 0)) ∧ Hid (IB wx g2 (fillI R 0)) ∧ Below s0 w wx)
 case first =>
  go_region
  all_goals
   go_wp2_with fail
   go_meet
   rw [fillI_zero, fillI_zero, HQL.out, HRL.out, HW2.out]
   first
    | exact ⟨s0, s0 + 1, rfl, rfl, by omega, by omega, by omega, HA, HA2, hB2⟩
    | exact ⟨s0 + 1, s0, rfl, rfl, by omega, by omega, by omega, HA2, HA, hB2⟩
 case rest =>
 clear hB2 HA HA2 HW2 hs0
 obtain ⟨g1, g2, rfl, rfl, hg12, hg1, hg2, I1, I2, hB⟩ := hcut
 have hbs : b < s0 := by have := HS0.out; omega
 go_wp2_with fail
 go_loopg [9, 10, 11, 23] n (fun kx s9 s10 s11 s23 wr => ∃ (k : Nat) (l : Int), s9 = .int .i64 l ∧ s23 = .int .i64 k ∧ k ≤ n ∧ n - k ≤ kx ∧ Hid (l = T - (Q.take k).sum) ∧ 0 ≤ l ∧ l ≤ T ∧ Hid (IB wr g1 (fillI Q k)) ∧ Hid (IB wr g2 (fillI R k)) ∧ Below s0 w wr)
 case atStart => exact ⟨0, T, rfl, rfl, by omega, by omega, Lib.hid (by simp), by omega, by omega, I1, I2, hB⟩
 case round =>
  clear I1 I2 hB
  obtain ⟨k, l, rfl, rfl, hk, hkx, HLE, hl2, hl3, I1, I2, hB⟩ := hrel
  by_cases hlt : k < n
  ·have hltz : (k : Int) < (n : Int) := by omega
   have hc := (hB.cell (p := ⟨b, off + k, none⟩) hbs).trans (HCS.out k hlt)
   obtain ⟨x, hx⟩ : ∃ x, ws.getD k 0 = x := ⟨_, rfl⟩
   have hxb := HOK.out.all x (by rw [← hx]; exact mem_getD (by rw [HL.out]; exact hlt))
   rw [hx] at hc
   obtain ⟨P, q, r, e1, e2, e3, e4, e5, p1, p2, q1, q2, r1, r2⟩ := quo_one (T := T) (W := W) ⟨hT0, hT1⟩ hW0 hxb
   have hq : Hid (Q.getD k 0 = q) := Lib.hid (by rw [← HQ.out, quoL_at (by rw [HL.out]; exact hlt), hx, e1, e2])
   have hr : Hid (R.getD k 0 = r) := Lib.hid (by rw [← HRR.out, remL_at (by rw [HL.out]; exact hlt), hx, e1, e3])
   have hW9 : ¬ W = 0 := by omega
   have hdv : IntKind.i64.wrap (P.tdiv W) = q := by rw [e4, IntKind.wrap_i64]; omega
   have c1 := I1.out.cell k (by rw [fillI_len (by rw [HQL.out]; omega), HQL.out]; exact hlt)
   have f1 := I1.out.frozen k
   have c2 := I2.out.cell k (by rw [fillI_len (by rw [HRL.out]; omega), HRL.out]; exact hlt)
   have f2 := I2.out.frozen k
   have hlk := left_k (T := T) (W := W) hT0 hW0 (fun y hy => (HOK.out.all y hy).1) HW.out (k + 1)
   rw [HQ.out, take_sum1 Q k (by rw [HQL.out]; exact hlt), hq.out] at hlk
   have hlk1 : 0 ≤ l - q := by have := HLE.out; omega
   have hlk2 : l - q ≤ T := by have := HLE.out; omega
   have HLE2 : Hid (l - q = T - (Q.take (k + 1)).sum) := Lib.hid (by rw [take_sum1 Q k (by rw [HQL.out]; exact hlt), hq.out]; have := HLE.out; omega)
   have I3 : IB ((wr.setCell ⟨g1, k, none⟩ (.int .i64 q)).setCell ⟨g2, k, none⟩ (.int .i64 r)) g1 (fillI Q (k + 1)) := by
    have h := I1.out.set k q
    rw [← hq.out, fillI_next (by rw [HQL.out]; exact hlt), hq.out] at h
    exact h.far hg12 _ _
   have I4 : IB ((wr.setCell ⟨g1, k, none⟩ (.int .i64 q)).setCell ⟨g2, k, none⟩ (.int .i64 r)) g2 (fillI R (k + 1)) := by
    have h := (I2.out.far (Ne.symm hg12) k (.int .i64 q)).set k r
    rw [← hr.out, fillI_next (by rw [HRL.out]; exact hlt), hr.out] at h
    exact h
   have hB4 : Below s0 w ((wr.setCell ⟨g1, k, none⟩ (.int .i64 q)).setCell ⟨g2, k, none⟩ (.int .i64 r)) := Below.setCell (p := ⟨g2, k, none⟩) (Below.setCell (p := ⟨g1, k, none⟩) hB hg1 _) hg2 _
   have c3 : (wr.setCell ⟨g1, k, none⟩ (.int .i64 q)).cell? ⟨g2, k, none⟩ = some (.int .i64 ((fillI R k).getD k 0)) := (World.cell?_setCell_other _ _ _ _ (by intro e; simp only [Addr.mk.injEq] at e; omega)).trans c2
   have c5 := I3.cell k (by rw [fillI_len (by rw [HQL.out]; omega), HQL.out]; exact hlt)
   have hfq : (fillI Q (k + 1)).getD k 0 = q := by
    rw [← fillI_next (by rw [HQL.out]; exact hlt), List.getD_eq_getElem?_getD, List.getElem?_set, if_pos rfl, if_pos (by rw [fillI_len (by rw [HQL.out]; omega), HQL.out]; exact hlt), hq.out]; rfl
   rw [hfq] at c5
   obtain ⟨u1, hu1⟩ : ∃ u, (fillI Q k).getD k 0 = u := ⟨_, rfl⟩
   obtain ⟨u2, hu2⟩ : ∃ u, (fillI R k).getD k 0 = u := ⟨_, rfl⟩
   rw [hu1] at c1
   rw [hu2] at c2 c3
   obtain ⟨W5, hW5⟩ : ∃ W5, ((wr.setCell ⟨g1, k, none⟩ (.int .i64 q)).setCell ⟨g2, k, none⟩ (.int .i64 r)).drew = W5 := ⟨_, rfl⟩
   have I5 : Hid (IB W5 g1 (fillI Q (k + 1))) := Lib.hid (by rw [← hW5]; exact I3.drew)
   have I6 : Hid (IB W5 g2 (fillI R (k + 1))) := Lib.hid (by rw [← hW5]; exact I4.drew)
   have hB5 : Below s0 w W5 := by rw [← hW5]; exact dc_drew hB4
   have c6 : W5.cell? ⟨g1, k, none⟩ = some (.int .i64 q) := by rw [← hW5]; exact c5
   have HW5 := Lib.hid hW5
   clear hx hu1 hu2 e2 e3 e4 hlk hfq I3 I4 hB4 hB c5 hW5 I1 I2
   go_upto_region 6 with fail
   go_region
   rw [HW5.out]
   clear c1 f1 c2 f2 c3 HW5 hc
   go_wp2_with fail
   go_roundg (n - (k + 1))
   case measure => omega
   case rel => exact ⟨k + 1, l - q, rfl, by go_num, by omega, by omega, HLE2, hlk1, hlk2, I5, I6, hB5⟩
  ·have hkn : k = n := by omega
   have hltz : ¬ (k : Int) < (n : Int) := by omega
   have I3 : Hid (IB wr g1 (givenL Q R 0)) := Lib.hid (by have h := I1.out; rw [fillI_all (by rw [HQL.out]; omega)] at h; rw [givenL_zero]; exact h)
   have I4 := I2.out
   rw [fillI_all (by rw [HRL.out]; omega)] at I4
   have hleft := left_in (T := T) (W := W) hW0 HW.out
   have hll : leftOf T W ws = l := by unfold leftOf; rw [HQ.out]; have := HLE.out; rw [List.take_of_length_le (by rw [HQL.out]; omega)] at this; omega
   rw [hll, HRR.out, HL.out] at hleft
   obtain ⟨m, rfl⟩ : ∃ m : Nat, l = (m : Int) := ⟨l.toNat, by omega⟩
   have hmn : m ≤ n := by omega
   have HM : Hid (partsP T W ws = givenL Q R m) := Lib.hid (by unfold partsP; rw [HQ.out, HRR.out, hll]; rfl)
   have hdes := desc_any (some ⟨g2, 0, none⟩) n R wr I4.ints (by rw [HRL.out]; omega) (by rw [HRL.out]; omega)
   rw [HRL.out] at hdes
   have HD := Lib.hid hdes
   have hg1w : g1 < wr.heap.size := I3.out.lt
   have hszw : s0 ≤ wr.heap.size := by omega
   clear hdes hll hleft I1 I2 I4 HLE
   go_wp2_with (go_at_call 41; refine HD.out.mono ?_; rintro e w' ⟨g3, O, rfl, hg3, hb3, hpe, hso, hO⟩)
   have hg13 : g1 ≠ g3 := by omega
   have I1 : Hid (IB w' g1 (givenL Q R 0)) := Lib.hid (I3.out.more hb3)
   replace hB : Below s0 w w' := hB.trans (hb3.mono hszw)
   have HO := Lib.hid hO
   have HPE := Lib.hid hpe
   have HSO := Lib.hid hso
   have HOL : Hid (O.length = n) := Lib.hid (by have := hpe.length_eq; rwa [List.length_range] at this)
   have HO9 : Hid (O.length = n) := HOL
   clear hb3 I3 HD hO hpe hso hg3
   go_loopg [13, 56] m (fun kx s13 s56 wq => ∃ k : Nat, s56 = .int .i64 k ∧ k ≤ m ∧ m - k ≤ kx ∧ Hid (IB wq g1 (givenL Q R k)) ∧ Hid (IntsAt .i64 wq (some ⟨g3, 0, none⟩) (O.map fun (k : Nat) => (k : Int))) ∧ Below s0 w wq)
   case atStart => exact ⟨0, rfl, by omega, by omega, I1, HO, hB⟩
   case round =>
    clear I1 HO hB
    obtain ⟨k2, rfl, hk2, hkx2, I1, HO, hB⟩ := hrel
    by_cases hlt2 : k2 < m
    ·have hltz2 : (k2 : Int) < (m : Int) := by omega
     obtain ⟨i, hio⟩ : ∃ i, O[k2]'(by rw [HOL.out]; omega) = i := ⟨_, rfl⟩
     have hin : i < n := by
      have h : i ∈ List.range R.length := by rw [HRL.out]; exact HPE.out.mem_iff.1 (by rw [← hio]; exact List.getElem_mem _)
      rw [List.mem_range, HRL.out] at h; exact h
     have hrk : rk R i = k2 := by rw [← hio]; exact order_rk (by rw [HRL.out]; exact HPE.out) HSO.out k2 (by rw [HOL.out]; omega)
     obtain ⟨b3, o3, e3, hb3w, hc3⟩ := HO.out (by rw [List.length_map, HOL.out]; omega)
     injection e3 with e3
     injection e3 with e4 e5
     subst e4
     subst e5
     have hco := hc3 k2 (by rw [List.length_map, HOL.out]; omega)
     have hoi : (O.map fun (k : Nat) => (k : Int)).getD k2 0 = (i : Int) := by
      rw [List.getD_eq_getElem?_getD, List.getElem?_map, List.getElem?_eq_getElem (show k2 < O.length by rw [HOL.out]; omega), hio]; rfl
     rw [hoi, Nat.zero_add] at hco
     obtain ⟨v, hv⟩ : ∃ v, (givenL Q R k2).getD i 0 = v := ⟨_, rfl⟩
     have hvb : 0 ≤ v ∧ v ≤ 1000000000000000001 := by
      have hxb := HOK.out.all (ws.getD i 0) (mem_getD (by rw [HL.out]; exact hin))
      obtain ⟨P, q, r, e1, e2, e3, e4, e5, p1, p2, q1, q2, r1, r2⟩ := quo_one (T := T) (W := W) ⟨hT0, hT1⟩ hW0 hxb
      have hq : Q.getD i 0 = q := by rw [← HQ.out, quoL_at (by rw [HL.out]; exact hin), e1, e2]
      rw [← hv, givenL_at (by rw [HQL.out]; exact hin), hq]
      split <;> omega
     obtain ⟨v1, v2⟩ := hvb
     have hcp := I1.out.cell i (by rw [givenL_len, HQL.out]; exact hin)
     have hfp := I1.out.frozen i
     rw [hv] at hcp
     have I5 : Hid (IB (wr.setCell ⟨g1, i, none⟩ (.int .i64 (v + 1))) g1 (givenL Q R (k2 + 1))) := Lib.hid (by
      rw [givenL_next (by rw [HQL.out, HRL.out]) (by rw [HQL.out]; exact hin) hrk, hv]
      exact I1.out.set i (v + 1))
     have HO5 : Hid (IntsAt .i64 (wr.setCell ⟨g1, i, none⟩ (.int .i64 (v + 1))) (some ⟨g3, 0, none⟩) (O.map fun (k : Nat) => (k : Int))) := Lib.hid fun h0 => ⟨g3, 0, rfl, by simpa using hb3w, fun j hj => (World.cell?_setCell_other _ _ _ _ (by intro e; simp only [Addr.mk.injEq] at e; omega)).trans (hc3 j hj)⟩
     have hB5 : Below s0 w (wr.setCell ⟨g1, i, none⟩ (.int .i64 (v + 1))) := Below.setCell (p := ⟨g1, i, none⟩) hB hg1 _
     have hinz : (i : Int) < (n : Int) := by omega
     clear hio hrk hc3 hoi hv I1 HO hB
     go_wp2_with fail
     go_roundg (m - (k2 + 1))
     case measure => omega
     case rel => exact ⟨k2 + 1, by go_num, by omega, by omega, I5, HO5, hB5⟩
    ·have hkm : k2 = m := by omega
     have hltz2 : ¬ (k2 : Int) < (m : Int) := by omega
     go_wp2_with fail
     go_ret
     exact ⟨g1, rfl, by rw [HS0.out]; exact hB, by rw [HM.out, ← hkm]; exact I1.out⟩
def SlR (w : World) (v : Value) (L : List Int) : Prop := ∃ A c, v = .slice A L.length c ∧ IntsAt .i64 w A L
theorem SlR.nil {w : World} : SlR w (.slice none 0 0) [] := ⟨none, 0, rfl, IntsAt.nil⟩
theorem partsP_bd {T W : Int} {ws : List Int} (hT : 0 ≤ T ∧ T ≤ 1000000000000) (hok : WsOk T ws) (hW : ws.sum = W) : ∀ x ∈ partsP T W ws, 0 ≤ x ∧ x ≤ 1000000000000000001 := by
 intro x hx
 have hW0 : 0 < W := by rw [← hW]; exact hok.pos
 obtain ⟨i, hi, e⟩ := List.getElem_of_mem hx
 have hil : i < ws.length := by rw [partsP_len] at hi; exact hi
 obtain ⟨P, q, r, e1, e2, e3, e4, e5, p1, p2, q1, q2, r1, r2⟩ := quo_one (T := T) (W := W) hT hW0 (hok.all (ws.getD i 0) (mem_getD hil))
 have h2 : x = (partsP T W ws).getD i 0 := by rw [List.getD_eq_getElem?_getD, List.getElem?_eq_getElem hi, ← e]; rfl
 rw [h2]
 unfold partsP
 rw [givenL_at (by simp [quoL]; exact hil), quoL_at hil, e1, e2]
 split <;> omega
theorem WsOk.neg {T : Int} {ws : List Int} (h : WsOk T ws) : WsOk (-T) ws := ⟨by have := h.amt; omega, h.len, h.all, h.pos, h.le⟩
set_option maxRecDepth 20000 in
set_option maxHeartbeats 1600000 in
theorem alSplit_any (T : Int) (A : Option Addr) (c : Nat) (ws : List Int) (w : World) (hz : IntsAt .i64 w A ws) (hmax : ws.length ≤ 9223372036854775807) :
  Calls Try.prog 16 #[.int .i64 T, .slice A ws.length c] w fun e w' => ∃ v, e = .returned (.tuple #[v, .int .i64 (wsE T ws)]) ∧ SlR w' v (splitL T ws) ∧ Below w.heap.size w w' := by
 have hS := sumW_any T A c ws w hz hmax
 have hB := Below.refl w.heap.size w
 by_cases hE : wsE T ws = 0
 ·have hok := wsE_ok hE
  have hV : wsV T ws = ws.sum := by unfold wsV; rw [if_pos hE]
  have hL : splitL T ws = partsL T ws.sum ws := by unfold splitL; rw [if_pos hE]
  rw [hV, hE] at hS
  rw [hL, hE]
  have hlen1 : ws.length ≤ 1000 := hok.len.2
  obtain ⟨hT0, hT1⟩ := hok.amt
  by_cases hneg : T < 0
  ·have hlr := fun w h => largest_any (-T) ws.sum A c ws w h ⟨by omega, by omega⟩ hok.neg rfl
   have hpl : partsL T ws.sum ws = (partsP (-T) ws.sum ws).map fun x => -x := by unfold partsL; rw [if_pos hneg]
   have hng := fun A w h => negated_any A ws.length (partsP (-T) ws.sum ws) w h (by rw [partsP_len]; omega) (fun x hx => by have := partsP_bd (T := -T) ⟨by omega, by omega⟩ hok.neg rfl x hx; omega)
   rw [partsP_len] at hng
   have hpl2 : (partsL T ws.sum ws).length = ws.length := partsL_len _ _ _
   rw [hpl] at hpl2 ⊢
   generalize partsP (-T) ws.sum ws = PP at *
   generalize ws.sum = W at *
   obtain ⟨n, hn⟩ : ∃ n, ws.length = n := ⟨_, rfl⟩
   rw [hn] at hS hlr hng hlen1 hpl2 ⊢
   have HS := Lib.hid hS
   have HLR := Lib.hid hlr
   have HNG := Lib.hid hng
   have HZ := Lib.hid hz
   have HPL := Lib.hid hpl2
   clear hS hlr hng hz hpl2 hpl hV hL hE hn hmax hok
   go_enter Try.func16, Try.ntmps16
   go_wp2_with (first | (go_at_call 28; refine HS.out.mono ?_; rintro e w1 ⟨rfl, hb⟩; replace hB := below_more hB hb; clear hb) | (go_at_call 30; refine (HLR.out _ (HZ.out.up hB)).mono ?_; rintro e w2 ⟨g, rfl, hb, hI⟩; replace hB := below_more hB hb; clear hb; replace hI := Lib.hid hI) | (go_at_call 29; refine (HNG.out _ _ hI.out.ints).mono ?_; rintro e w3 ⟨g3, rfl, hb, hI3⟩; replace hB := below_more hB hb; clear hb; replace hI3 := Lib.hid hI3))
   go_ret2
   exact ⟨_, rfl, ⟨_, _, by rw [HPL.out]; rfl, hI3.out.ints⟩, hB⟩
  ·have hneg' : decide (T < 0) = false := decide_eq_false hneg
   have hlr := fun w h => largest_any T ws.sum A c ws w h ⟨by omega, by omega⟩ hok rfl
   have hpl : partsL T ws.sum ws = partsP T ws.sum ws := by unfold partsL; rw [if_neg hneg]
   have hpl2 : (partsP T ws.sum ws).length = ws.length := partsP_len _ _ _
   rw [hpl]
   generalize partsP T ws.sum ws = PP at *
   generalize ws.sum = W at *
   obtain ⟨n, hn⟩ : ∃ n, ws.length = n := ⟨_, rfl⟩
   rw [hn] at hS hlr hlen1 hpl2 ⊢
   have HS := Lib.hid hS
   have HLR := Lib.hid hlr
   have HZ := Lib.hid hz
   have HPL := Lib.hid hpl2
   clear hS hlr hz hpl2 hpl hV hL hE hn hmax hok hneg
   go_enter Try.func16, Try.ntmps16
   go_wp2_with (first | (go_at_call 28; refine HS.out.mono ?_; rintro e w1 ⟨rfl, hb⟩; replace hB := below_more hB hb; clear hb) | (go_at_call 30; refine (HLR.out _ (HZ.out.up hB)).mono ?_; rintro e w2 ⟨g, rfl, hb, hI⟩; replace hB := below_more hB hb; clear hb; replace hI := Lib.hid hI))
   go_ret2
   exact ⟨_, rfl, ⟨_, _, by rw [HPL.out]; rfl, hI.out.ints⟩, hB⟩
 ·have hV : wsV T ws = 0 := by unfold wsV; rw [if_neg hE]
  have hL : splitL T ws = [] := by unfold splitL; rw [if_neg hE]
  rw [hL]
  rw [hV] at hS
  have hE2 : (wsE T ws == 0) = false := by simp [hE]
  generalize wsE T ws = E at *
  generalize ws.length = n at *
  have HS := Lib.hid hS
  clear hS hV hL hz
  go_enter Try.func16, Try.ntmps16
  go_wp2_with (go_at_call 28; refine HS.out.mono ?_; rintro e w1 ⟨rfl, hb⟩; replace hB := below_more hB hb; clear hb)
  go_ret2
  exact ⟨_, rfl, SlR.nil, hB⟩
set_option maxRecDepth 20000 in
set_option maxHeartbeats 1600000 in
theorem rsame_any (A B : Option Addr) (c d : Nat) (zs ys : List Int) (w : World) (hz : IntsAt .i64 w A zs) (hy : IntsAt .i64 w B ys) (hl : zs.length ≤ 9223372036854775807) :
  Calls Try.prog 14 #[.slice A zs.length c, .slice B ys.length d] w fun e w' => e = .returned (.bool (decide (zs = ys))) ∧ Below w.heap.size w w' := by
 have hB := Below.refl w.heap.size w
 obtain ⟨n, hn⟩ : ∃ n, zs.length = n := ⟨_, rfl⟩
 obtain ⟨m, hm⟩ : ∃ m, ys.length = m := ⟨_, rfl⟩
 rw [hn] at hl ⊢
 rw [hm]
 by_cases hnm : n = m
 ·subst hnm
  have HN := Lib.hid hn
  have HM := Lib.hid hm
  have HZ := Lib.hid hz
  have HY := Lib.hid hy
  clear hn hm hz hy
  have hnn : ((n : Int) == (n : Int)) = true := by simp
  go_enter Try.func14, Try.ntmps14
  go_wp2_with fail
  go_loopg [5] n (fun kx s5 wr => ∃ k : Nat, s5 = .int .i64 k ∧ k ≤ n ∧ n - k ≤ kx ∧ Hid (zs.take k = ys.take k) ∧ Below w.heap.size w wr)
  case atStart => exact ⟨0, rfl, by omega, by omega, Lib.hid (by simp), hB⟩
  case round =>
   clear hB
   obtain ⟨k, rfl, hk, hkx, HT, hB⟩ := hrel
   by_cases hlt : k < n
   ·have hltz : (k : Int) < (n : Int) := by omega
    obtain ⟨b, off, rfl, hbw, hcs⟩ := HZ.out (by rw [HN.out]; omega)
    obtain ⟨b2, off2, rfl, hbw2, hcs2⟩ := HY.out (by rw [HM.out]; omega)
    have hc := (hB.cell (p := ⟨b, off + k, none⟩) hbw).trans (hcs k (by rw [HN.out]; exact hlt))
    have hc2 := (hB.cell (p := ⟨b2, off2 + k, none⟩) hbw2).trans (hcs2 k (by rw [HM.out]; exact hlt))
    have ht1 : zs.take (k + 1) = zs.take k ++ [zs.getD k 0] := by rw [List.take_succ_eq_append_getElem (by rw [HN.out]; exact hlt), List.getD_eq_getElem?_getD, List.getElem?_eq_getElem (by rw [HN.out]; exact hlt)]; rfl
    have ht2 : ys.take (k + 1) = ys.take k ++ [ys.getD k 0] := by rw [List.take_succ_eq_append_getElem (by rw [HM.out]; exact hlt), List.getD_eq_getElem?_getD, List.getElem?_eq_getElem (by rw [HM.out]; exact hlt)]; rfl
    generalize zs.getD k 0 = x at *
    generalize ys.getD k 0 = y at *
    by_cases hxy : x = y
    ·subst hxy
     have hxx : (x == x) = true := by simp
     have HT2 : Hid (zs.take (k + 1) = ys.take (k + 1)) := Lib.hid (by rw [ht1, ht2, HT.out])
     clear ht1 ht2 hcs hcs2
     go_wp2_with fail
     go_quiet (fail)
     replace hB := below_drewN hB nq
     generalize World.drewN _ nq = W1 at *
     go_wp2_with fail
     go_roundg (n - (k + 1))
     case measure => omega
     case rel => exact ⟨k + 1, by go_num, by omega, by omega, HT2, hB⟩
    ·have hxx : (x == y) = false := by simp [hxy]
     have hno : Hid (decide (zs = ys) = false) := Lib.hid (decide_eq_false fun e => by
      rw [e, ht2] at ht1
      have := List.append_cancel_left ht1
      simp at this; exact hxy this.symm)
     clear ht1 ht2 hcs hcs2
     go_wp2_with fail
     go_quiet (fail)
     replace hB := below_drewN hB nq
     generalize World.drewN _ nq = W1 at *
     go_wp2_with fail
     go_ret
     exact ⟨by rw [hno.out]; rfl, hB⟩
   ·have hkn : k = n := by omega
    have hltz : ¬ (k : Int) < (n : Int) := by omega
    have hyes : Hid (decide (zs = ys) = true) := Lib.hid (decide_eq_true (by have h := HT.out; rwa [List.take_of_length_le (by rw [HN.out]; omega), List.take_of_length_le (by rw [HM.out]; omega)] at h))
    go_wp2_with fail
    go_ret
    exact ⟨by rw [hyes.out]; rfl, hB⟩
 ·have hno : Hid (decide (zs = ys) = false) := Lib.hid (decide_eq_false fun e => hnm (by rw [← hn, ← hm, e]))
  have hnn : ((n : Int) == (m : Int)) = false := by simp; omega
  clear hn hm hz hy
  go_enter Try.func14, Try.ntmps14
  go_wp2_with fail
  go_ret
  exact ⟨by rw [hno.out]; rfl, hB⟩
theorem ints_lit3 (w : World) (a b c : Int) (t : TypeId) : IntsAt .i64 (w.alloc (.cells #[.int .i64 a, .int .i64 b, .int .i64 c] t)) (some ⟨w.heap.size, 0, none⟩) [a, b, c] := fun _ => ⟨w.heap.size, 0, rfl, by simp, fun i hi => by
 have h : i = 0 ∨ i = 1 ∨ i = 2 := by simp at hi; omega
 rw [Nat.zero_add]
 rcases h with rfl | rfl | rfl <;> simp only [World.cell?, heap_alloc_new] <;> rfl⟩
set_option maxRecDepth 20000 in
set_option maxHeartbeats 1600000 in
theorem alAwake_any (w : World) : Calls Try.prog 11 #[] w fun e w' => e = .returned (.bool true) ∧ Below w.heap.size w w' := by
 have e1 : wsE 100 [1, 1, 1] = 0 := by decide
 have e2 : splitL 100 [1, 1, 1] = [34, 33, 33] := by decide
 have hS := fun A c w h => alSplit_any 100 A c [1, 1, 1] w h (by decide)
 have hM := fun A B c d w h1 h2 => rsame_any A B c d [34, 33, 33] [34, 33, 33] w h1 h2 (by decide)
 rw [e1, e2] at hS
 have e3 : decide (([34, 33, 33] : List Int) = [34, 33, 33]) = true := by decide
 rw [e3] at hM
 simp only [List.length_cons, List.length_nil] at hS hM
 have HS := Lib.hid hS
 have HM := Lib.hid hM
 have hB := Below.refl w.heap.size w
 clear hS hM e1 e2 e3
 go_enter Try.func11, Try.ntmps11
 go_wp2_with (first
  | (go_at_call 16; refine (HS.out _ _ _ (ints_lit3 _ 1 1 1 _)).mono ?_; rintro e w1 ⟨v, rfl, ⟨A1, c1, hv, hI⟩, hb⟩; replace hB := (hB.alloc (Nat.le_refl _) _).trans (hb.mono (by simp)); clear hb; simp only [List.length_cons, List.length_nil] at hv; subst hv; replace hI := Lib.hid hI)
  | (go_at_call 14; refine (HM.out _ _ _ _ _ (hI.out.up (below_alloc_new _)) (ints_lit3 _ 34 33 33 _)).mono ?_; rintro e w2 ⟨rfl, hb⟩; replace hB := (hB.alloc hB.size _).trans (hb.mono (by have := hB.size; simp; omega)); clear hb))
 go_ret
 exact ⟨rfl, hB⟩
def rsum (l : List Int) (k : Nat) : Int := (l.take k).sum
def rpor (l : List Int) (num den : Int) (k : Nat) : Int := hr (rsum l k * num) den
def rokB (l : List Int) (num den : Int) (k : Nat) : Bool := amtB (rsum l k) && amtB (rpor l num den k)
def rargB (l : List Int) (num den : Int) : Bool := l.all amtB && (numB num && denB den)
def runE (l : List Int) (num den : Int) : Int := if rargB l num den = true then if ((List.range l.length).all fun k => rokB l num den (k + 1)) = true then 0 else 2 else 1
def runD (l : List Int) (num den : Int) : List Int := (List.range l.length).map fun k => rpor l num den (k + 1) - rpor l num den k
def runL (l : List Int) (num den : Int) : List Int := if runE l num den = 0 then runD l num den else []
theorem rsum_zero (l : List Int) : rsum l 0 = 0 := by simp [rsum]
theorem rpor_zero {l : List Int} {num den : Int} (h : denB den = true) : rpor l num den 0 = 0 := by
 unfold rpor; rw [rsum_zero, Int.zero_mul]; exact hr_zero (by have := denB_is h; omega)
theorem rsum_next {l : List Int} {k : Nat} (h : k < l.length) : rsum l (k + 1) = rsum l k + l.getD k 0 := take_sum1 l k h
theorem runD_len (l : List Int) (num den : Int) : (runD l num den).length = l.length := by simp [runD]
theorem runD_at {l : List Int} {num den : Int} {k : Nat} (h : k < l.length) : (runD l num den).getD k 0 = rpor l num den (k + 1) - rpor l num den k := by simp [runD, List.getD_eq_getElem?_getD, h]
theorem run_bad {l : List Int} {num den : Int} {k : Nat} (ha : rargB l num den = true) (hk : k < l.length) (h : rokB l num den (k + 1) = false) : runE l num den = 2 := by
 unfold runE
 rw [if_pos ha]
 have : ((List.range l.length).all fun k => rokB l num den (k + 1)) = false := by
  rw [List.all_eq_false]
  exact ⟨k, List.mem_range.2 hk, by rw [h]; simp⟩
 rw [this]; rfl
theorem run_good {l : List Int} {num den : Int} (ha : rargB l num den = true) (h : ∀ k, k < l.length → rokB l num den (k + 1) = true) : runE l num den = 0 := by
 unfold runE
 rw [if_pos ha, if_pos (List.all_eq_true.2 fun k hk => h k (List.mem_range.1 hk))]
set_option maxRecDepth 20000 in
set_option maxHeartbeats 1600000 in
theorem areAmounts_any (A : Option Addr) (c : Nat) (zs : List Int) (w : World) (hz : IntsAt .i64 w A zs) (hl : zs.length ≤ 9223372036854775807) :
  Calls Try.prog 22 #[.slice A zs.length c] w fun e w' => e = .returned (.bool (zs.all amtB)) ∧ w = w' := by
 obtain ⟨len, hlen⟩ : ∃ len, zs.length = len := ⟨_, rfl⟩
 have HZ := Lib.hid hz
 clear hz
 rw [hlen] at hl ⊢
 have HL := Lib.hid hlen
 clear hlen
 go_enter Try.func22, Try.ntmps22
 go_wp2_with fail
 go_loop [4, 7] (fun _ i => ∃ (k : Nat), k ≤ len ∧ i = .int .i64 k ∧ Hid ((zs.take k).all amtB = true)) (fun _ i => len - (intOf i).toNat)
 case atStart => exact ⟨0, by omega, rfl, Lib.hid (by simp)⟩
 case round =>
  obtain ⟨k, hk, rfl, HM⟩ := hrel
  by_cases hlt : k < len
  ·obtain ⟨b, off, rfl, hbw, hcs⟩ := HZ.out (by rw [HL.out]; omega)
   have hc := hcs k (by rw [HL.out]; exact hlt)
   have hV := fun w => mvalid_any (zs.getD k 0) w
   obtain ⟨x, hx⟩ : ∃ x, zs.getD k 0 = x := ⟨_, rfl⟩
   rw [hx] at hc hV
   have HX := Lib.hid hx
   clear hx hcs
   cases hok : amtB x
   ·rw [hok] at hV
    have HV := Lib.hid hV
    have HE : Hid (zs.all amtB = false) := Lib.hid (all_false_at (by rw [HL.out]; exact hlt) (by rw [HX.out]; exact hok))
    clear hV hok
    go_wp2_with (go_at_call 26; refine (HV.out _).mono ?_; rintro e w' ⟨rfl, rfl⟩)
    go_ret
    exact ⟨by rw [HE.out]; rfl, rfl⟩
   ·rw [hok] at hV
    have HV := Lib.hid hV
    have HN : Hid ((zs.take (k + 1)).all amtB = true) := Lib.hid (by rw [take_all1 zs k (by rw [HL.out]; exact hlt), HM.out, HX.out, hok]; rfl)
    clear hV hok
    go_wp2_with (go_at_call 26; refine (HV.out _).mono ?_; rintro e w' ⟨rfl, rfl⟩)
    go_round
    case rel => exact ⟨k + 1, by omega, by go_num, HN⟩
    case measure => simp [intOf]; omega
  ·obtain rfl : k = len := by omega
   have hall : Hid (zs.all amtB = true) := Lib.hid (by have := HM.out; rwa [List.take_of_length_le (by rw [HL.out]; exact Nat.le_refl _)] at this)
   have hkk : decide ((k : Int) < (k : Int)) = false := by simp
   go_wp2_with fail
   go_ret
   exact ⟨by rw [hall.out]; rfl, rfl⟩
set_option maxRecDepth 20000 in
set_option maxHeartbeats 1600000 in
theorem port_cl (n S P num den : Int) (g1 g2 g3 g4 : Nat) (w : World) (hn : amtB n = true) (hS : amtB S = true) (hP : amtB P = true) (hN : numB num = true) (hD : denB den = true) (h14 : g1 ≠ g4)
    (c1 : w.cell? ⟨g1, 0, none⟩ = some (.int .i64 S)) (c2 : w.cell? ⟨g2, 0, none⟩ = some (.int .i64 num)) (c3 : w.cell? ⟨g3, 0, none⟩ = some (.int .i64 den)) (c4 : w.cell? ⟨g4, 0, none⟩ = some (.int .i64 P))
    (l1 : g1 < w.heap.size) (l2 : g2 < w.heap.size) (l3 : g3 < w.heap.size) (l4 : g4 < w.heap.size) (f1 : w.frozen? ⟨g1, 0, none⟩ = false) (f4 : w.frozen? ⟨g4, 0, none⟩ = false) :
    Calls Try.prog 34 #[.int .i64 n, .pointer (some ⟨g1, 0, none⟩), .pointer (some ⟨g2, 0, none⟩), .pointer (some ⟨g3, 0, none⟩), .pointer (some ⟨g4, 0, none⟩)] w fun e w' =>
      (((amtB (S + n) && amtB (hr ((S + n) * num) den)) = false ∧ e = .returned (.tuple #[.int .i64 0, .int .i64 2]) ∧ Below w.heap.size w w') ∨
       ((amtB (S + n) && amtB (hr ((S + n) * num) den)) = true ∧ e = .returned (.tuple #[.int .i64 (hr ((S + n) * num) den - P), .int .i64 0]) ∧ ∃ w1, Below w.heap.size w w1 ∧ w' = (w1.setCell ⟨g1, 0, none⟩ (.int .i64 (S + n))).setCell ⟨g4, 0, none⟩ (.int .i64 (hr ((S + n) * num) den)))) := by
  have hA := fun w => madd_any S n w
  have e1 : addV S n = amV (S + n) := by unfold addV; rw [hS, hn]; rfl
  have e2 : addE S n = amE (S + n) := by unfold addE; rw [hS, hn]; rfl
  rw [e1, e2] at hA
  have hPo := fun w => portion_any (S + n) num den w
  have hB := Below.refl w.heap.size w
  cases hs : amtB (S + n)
  · have e3 : amV (S + n) = 0 := by unfold amV; rw [hs]; rfl
    have e4 : amE (S + n) = 2 := by unfold amE; rw [hs]; rfl
    rw [e3, e4] at hA
    have HA := Lib.hid hA
    clear hA hPo e1 e2 e3 e4 hs hS hn hP hN hD
    go_enter Try.func34, Try.ntmps34
    go_wp2_with (go_at_call 35; refine (HA.out _).mono ?_; rintro e w1 ⟨rfl, hb⟩; replace hB := below_more hB hb; clear hb)
    go_ret2
    exact .inl ⟨rfl, rfl, hB⟩
  · have e3 : amV (S + n) = S + n := by unfold amV; rw [hs]; rfl
    have e4 : amE (S + n) = 0 := by unfold amE; rw [hs]; rfl
    rw [e3, e4] at hA
    have hpb : portB (S + n) num den = true := by unfold portB; rw [hs, hN, hD]; rfl
    have e5 : portV (S + n) num den = amV (hr ((S + n) * num) den) := by unfold portV; rw [if_pos hpb]
    have e6 : portE (S + n) num den = amE (hr ((S + n) * num) den) := by unfold portE; rw [if_pos hpb]
    rw [e5, e6] at hPo
    obtain ⟨sn1, sn2⟩ := amtB_is hs
    obtain ⟨p1, p2⟩ := amtB_is hP
    obtain ⟨T, hT⟩ : ∃ T, S + n = T := ⟨_, rfl⟩
    rw [hT] at hA hPo sn1 sn2 ⊢
    cases hq : amtB (hr (T * num) den)
    · have e7 : amV (hr (T * num) den) = 0 := by unfold amV; rw [hq]; rfl
      have e8 : amE (hr (T * num) den) = 2 := by unfold amE; rw [hq]; rfl
      rw [e7, e8] at hPo
      have HA := Lib.hid hA
      have HP := Lib.hid hPo
      clear hA hPo e1 e2 e3 e4 e5 e6 e7 e8 hs hS hn hP hN hD hpb hT hq
      go_enter Try.func34, Try.ntmps34
      go_wp2_with (first
        | (go_at_call 35; refine (HA.out _).mono ?_; rintro e w1 ⟨rfl, hb⟩; replace c2 := (hb.cell (p := ⟨g2, 0, none⟩) l2).trans c2; replace c3 := (hb.cell (p := ⟨g3, 0, none⟩) l3).trans c3; replace hB := below_more hB hb; clear hb)
        | (go_at_call 15; refine (HP.out _).mono ?_; rintro e w2 ⟨rfl, hb⟩; replace hB := below_more hB hb; clear hb))
      go_ret2
      exact .inl ⟨rfl, rfl, hB⟩
    · have e7 : amV (hr (T * num) den) = hr (T * num) den := by unfold amV; rw [hq]; rfl
      have e8 : amE (hr (T * num) den) = 0 := by unfold amE; rw [hq]; rfl
      rw [e7, e8] at hPo
      obtain ⟨q1, q2⟩ := amtB_is hq
      generalize hr (T * num) den = Q at *
      have HA := Lib.hid hA
      have HP := Lib.hid hPo
      have g14 : (⟨g4, 0, none⟩ : Addr) ≠ ⟨g1, 0, none⟩ := by intro e; simp only [Addr.mk.injEq] at e; omega
      clear hA hPo e1 e2 e3 e4 e5 e6 e7 e8 hs hS hn hP hN hD hpb hT hq
      go_enter Try.func34, Try.ntmps34
      go_wp2_with (first
        | (go_at_call 35; refine (HA.out _).mono ?_; rintro e w1 ⟨rfl, hb⟩; replace c1 := (hb.cell (p := ⟨g1, 0, none⟩) l1).trans c1; replace c2 := (hb.cell (p := ⟨g2, 0, none⟩) l2).trans c2; replace c3 := (hb.cell (p := ⟨g3, 0, none⟩) l3).trans c3; replace c4 := (hb.cell (p := ⟨g4, 0, none⟩) l4).trans c4; replace f1 := (hb.frozen (p := ⟨g1, 0, none⟩) l1).trans f1; replace f4 := (hb.frozen (p := ⟨g4, 0, none⟩) l4).trans f4; have l1' := Nat.lt_of_lt_of_le l1 hb.size; have l4' := Nat.lt_of_lt_of_le l4 hb.size; replace hB := below_more hB hb; clear hb)
        | (go_at_call 15; refine (HP.out _).mono ?_; rintro e w2 ⟨rfl, hb⟩; replace c1 := (hb.cell (p := ⟨g1, 0, none⟩) l1').trans c1; replace c4 := (hb.cell (p := ⟨g4, 0, none⟩) l4').trans c4; replace f1 := (hb.frozen (p := ⟨g1, 0, none⟩) l1').trans f1; replace f4 := (hb.frozen (p := ⟨g4, 0, none⟩) l4').trans f4; have c5 := fun v => (World.cell?_setCell_other w2 ⟨g1, 0, none⟩ ⟨g4, 0, none⟩ v (Ne.symm g14)).trans c4; replace hB := below_more hB hb; clear hb))
      go_ret2
      exact .inr ⟨rfl, rfl, w2, hB, rfl⟩
def SlC (w : World) (v : Value) (L : List Int) : Prop := ∃ A c, v = .slice A L.length c ∧ L.length ≤ c ∧ IntsAt .i64 w A L
theorem SlC.nil {w : World} : SlC w (.slice none 0 0) [] := ⟨none, 0, rfl, Nat.le_refl _, IntsAt.nil⟩
theorem four_boxes (w : World) (a b c d : Int) (t : TypeId) (B : Nat) (hB : w.heap.size = B) : ∃ W, (((w.alloc (.cells #[.int .i64 a] t)).alloc (.cells #[.int .i64 b] t)).alloc (.cells #[.int .i64 c] t)).alloc (.cells #[.int .i64 d] t) = W ∧
  IB W B [a] ∧ IB W (B + 1) [b] ∧ IB W (B + 2) [c] ∧ IB W (B + 3) [d] ∧ W.heap.size = B + 4 ∧ Below B w W := by
 subst hB
 have h1 : IB (w.alloc (.cells #[.int .i64 a] t)) w.heap.size [a] := IB.mk ⟨t, by rw [heap_alloc_new]; rfl⟩
 have h2 : IB ((w.alloc (.cells #[.int .i64 a] t)).alloc (.cells #[.int .i64 b] t)) (w.heap.size + 1) [b] := IB.mk ⟨t, by
  have h := heap_alloc_new (w.alloc (.cells #[.int .i64 a] t)) (.cells #[.int .i64 b] t)
  rw [show (w.alloc (.cells #[.int .i64 a] t)).heap.size = w.heap.size + 1 by simp] at h
  rw [h]; rfl⟩
 have h3 : IB (((w.alloc (.cells #[.int .i64 a] t)).alloc (.cells #[.int .i64 b] t)).alloc (.cells #[.int .i64 c] t)) (w.heap.size + 2) [c] := IB.mk ⟨t, by
  have h := heap_alloc_new ((w.alloc (.cells #[.int .i64 a] t)).alloc (.cells #[.int .i64 b] t)) (.cells #[.int .i64 c] t)
  rw [show ((w.alloc (.cells #[.int .i64 a] t)).alloc (.cells #[.int .i64 b] t)).heap.size = w.heap.size + 2 by simp] at h
  rw [h]; rfl⟩
 have h4 : IB ((((w.alloc (.cells #[.int .i64 a] t)).alloc (.cells #[.int .i64 b] t)).alloc (.cells #[.int .i64 c] t)).alloc (.cells #[.int .i64 d] t)) (w.heap.size + 3) [d] := IB.mk ⟨t, by
  have h := heap_alloc_new (((w.alloc (.cells #[.int .i64 a] t)).alloc (.cells #[.int .i64 b] t)).alloc (.cells #[.int .i64 c] t)) (.cells #[.int .i64 d] t)
  rw [show (((w.alloc (.cells #[.int .i64 a] t)).alloc (.cells #[.int .i64 b] t)).alloc (.cells #[.int .i64 c] t)).heap.size = w.heap.size + 3 by simp] at h
  rw [h]; rfl⟩
 refine ⟨_, rfl, ((h1.alloc _).alloc _).alloc _, (h2.alloc _).alloc _, h3.alloc _, h4, by simp, ?_⟩
 exact ((((Below.refl _ w).alloc (Nat.le_refl _) _).alloc (by simp) _).alloc (by simp; omega) _).alloc (by simp; omega) _
set_option maxRecDepth 20000 in
set_option maxHeartbeats 3200000 in
theorem running_cap (A : Option Addr) (c : Nat) (l : List Int) (num den : Int) (w : World) (hz : IntsAt .i64 w A l) (hl : l.length ≤ 1000) :
  Calls Try.prog 12 #[.slice A l.length c, .int .i64 num, .int .i64 den] w fun e w' => ∃ v, e = .returned (.tuple #[v, .int .i64 (runE l num den)]) ∧ SlC w' v (runL l num den) ∧ Below w.heap.size w w' := by
 have hB := Below.refl w.heap.size w
 have hPo := fun w => portion_any 0 num den w
 have hAm := fun w h => areAmounts_any A c l w h (by omega)
 have hr0 : denB den = true → hr (0 * num) den = 0 := fun h => by rw [Int.zero_mul]; exact hr_zero (by have := denB_is h; omega)
 by_cases hnd : (numB num && denB den) = true
 ·have hN : numB num = true := by simp at hnd; exact hnd.1
  have hD : denB den = true := by simp at hnd; exact hnd.2
  have e1 : portE 0 num den = 0 := by unfold portE portB; rw [hnd, hr0 hD]; rfl
  have e2 : portV 0 num den = 0 := by unfold portV portB; rw [hnd, hr0 hD]; rfl
  rw [e1, e2] at hPo
  cases hall : l.all amtB
  ·have hE : runE l num den = 1 := by unfold runE rargB; rw [hall]; rfl
   have hL : runL l num den = [] := by unfold runL; rw [hE]; rfl
   rw [hall] at hAm
   rw [hE, hL]
   generalize l.length = n at *
   have HP := Lib.hid hPo
   have HA := Lib.hid hAm
   have HZ := Lib.hid hz
   clear hPo hAm hz hr0 hnd hN hD e1 e2 hall hE hL
   go_enter Try.func12, Try.ntmps12
   go_wp2_with (first
    | (go_at_call 15; refine (HP.out _).mono ?_; rintro e w1 ⟨rfl, hb⟩; replace hB := below_more hB hb; clear hb)
    | (go_at_call 22; refine (HA.out _ (HZ.out.up hB)).mono ?_; rintro e w2 ⟨rfl, rfl⟩))
   go_ret2
   exact ⟨_, rfl, SlC.nil, hB⟩
  ·have harg : rargB l num den = true := by unfold rargB; rw [hall, hnd]; rfl
   rw [hall] at hAm
   have hbad := fun k h1 h2 => run_bad (k := k) harg h1 h2
   have hgood := run_good harg
   have hLD : runE l num den = 0 → runL l num den = runD l num den := fun h => by unfold runL; rw [if_pos h]
   have hLN : runE l num den = 2 → runL l num den = [] := fun h => by unfold runL; rw [h]; rfl
   obtain ⟨n, hn⟩ : ∃ n, l.length = n := ⟨_, rfl⟩
   rw [hn] at hAm hbad hgood hl ⊢
   have hDl : (runD l num den).length = n := by rw [runD_len]; exact hn
   have hp0 := rpor_zero (l := l) (num := num) hD
   have HP := Lib.hid hPo
   have HA := Lib.hid hAm
   have HZ := Lib.hid hz
   have HN := Lib.hid hn
   have HBAD := Lib.hid hbad
   have HGOOD := Lib.hid hgood
   have HLD := Lib.hid hLD
   have HLN := Lib.hid hLN
   have HDL := Lib.hid hDl
   have HALL := Lib.hid hall
   have HNUM := Lib.hid hN
   have HDEN := Lib.hid hD
   have HP0 := Lib.hid hp0
   obtain ⟨s0, hs0⟩ : ∃ s0, w.heap.size = s0 := ⟨_, rfl⟩
   have HS0 := Lib.hid hs0
   clear hPo hAm hz hr0 hnd hN hD e1 e2 hall hn hbad hgood hLD hLN hDl harg hp0 hs0
   obtain ⟨i0, hi, hz0, hz1, hz2⟩ := info_parts infoI_int
   have hmf : ∀ (fn : Fn) (first cap : Array Value) (w : World), (Instr.makeFunc fn first cap).run Try.prog w = .ok (.func fn first cap) w := fun _ _ _ _ => rfl
   go_enter Try.func12, Try.ntmps12
   go_wp2_with (first
    | (go_at_call 15; refine (HP.out _).mono ?_; rintro e w1 ⟨rfl, hb⟩; replace hB := below_more hB hb; clear hb)
    | (go_at_call 22; refine (HA.out _ (HZ.out.up hB)).mono ?_; rintro e w2 ⟨rfl, rfl⟩)
    | (go_at_call 23; go_in)
    | (at_make; refine wpList_make_zeros _ rfl (.tmp 33) (.tmp 33) 22 rfl 3 .i64 i0 8 Try.underlying22 hi hz0 hz1 hz2 .i64 .i64 _ _ n rfl rfl rfl rfl (by omega) (by omega) ?_; intro w3 hb3 hB3 hs3))
   obtain ⟨B, hBB⟩ : ∃ B, w1.heap.size = B := ⟨_, rfl⟩
   obtain ⟨W, hW, J1, J2, J3, J4, hWs, hBW⟩ := four_boxes w1 num den 0 0 3 B hBB
   rw [hW] at hb3 hB3 hs3
   rw [hWs] at hb3 hB3 hs3
   rw [hBB]
   obtain ⟨b1, q1⟩ : ∃ b1, B + 1 = b1 := ⟨_, rfl⟩
   rw [q1]
   obtain ⟨b2, q2⟩ : ∃ b2, b1 + 1 = b2 := ⟨_, rfl⟩
   rw [q2]
   obtain ⟨b3, q3⟩ : ∃ b3, b2 + 1 = b3 := ⟨_, rfl⟩
   rw [q3]
   obtain ⟨b4, q4⟩ : ∃ b4, b3 + 1 = b4 := ⟨_, rfl⟩
   rw [q4]
   rw [show B + 2 = b2 by omega] at J3
   rw [show B + 3 = b3 by omega] at J4
   rw [show B + 1 = b1 by omega] at J2
   rw [show B + 4 = b4 by omega] at hb3 hB3 hs3
   have o1 : B < b1 := by omega
   have o2 : b1 < b2 := by omega
   have o3 : b2 < b3 := by omega
   have o4 : b3 < b4 := by omega
   have hsB : s0 ≤ B := by have := hB.size; have := HS0.out; omega
   have hBa : Below s0 w w3 := ((HS0.out ▸ hB : Below s0 w w1).trans (hBW.mono hsB)).trans (hB3.mono (by omega))
   have I1 : Hid (IB w3 B [num]) := Lib.hid (J1.up hB3 (by omega))
   have I2 : Hid (IB w3 b1 [den]) := Lib.hid (J2.up hB3 (by omega))
   have I3 : Hid (IB w3 b2 [rsum l 0]) := Lib.hid (by rw [rsum_zero]; exact J3.up hB3 (by omega))
   have I4 : Hid (IB w3 b3 [rpor l num den 0]) := Lib.hid (by rw [HP0.out]; exact J4.up hB3 (by omega))
   have I5 : Hid (IB w3 b4 (fillI (runD l num den) 0)) := Lib.hid (by rw [fillI_zero, HDL.out]; exact IB.zeros hb3.out)
   have eg : ∀ args w, (callFunc 34 args).run Try.prog w = .ok (.enter 34 args) w := enters_of Try.func34 (by kernel_rfl) rfl
   clear hb3 hB3 hs3 J1 J2 J3 J4 hWs hBW hW hB hBB q1 q2 q3 q4
   go_loopg [12, 13, 14, 15, 37] n (fun kx s12 s13 s14 s15 s37 wr => ∃ k : Nat, s37 = .int .i64 k ∧ k ≤ n ∧ n - k ≤ kx ∧ Hid (∀ j, j < k → rokB l num den (j + 1) = true) ∧ Hid (amtB (rsum l k) = true ∧ amtB (rpor l num den k) = true) ∧ Hid (IB wr B [num]) ∧ Hid (IB wr b1 [den]) ∧ Hid (IB wr b2 [rsum l k]) ∧ Hid (IB wr b3 [rpor l num den k]) ∧ Hid (IB wr b4 (fillI (runD l num den) k)) ∧ Below s0 w wr)
   case atStart => exact ⟨0, rfl, by omega, by omega, Lib.hid (fun j h => by omega), Lib.hid (by rw [rsum_zero, HP0.out]; exact ⟨by decide, by decide⟩), I1, I2, I3, I4, I5, hBa⟩
   case round =>
    clear I1 I2 I3 I4 I5 hBa
    obtain ⟨k, rfl, hk, hkx, HR, HSP, I1, I2, I3, I4, I5, hB⟩ := hrel
    by_cases hlt : k < n
    ·have hltz : (k : Int) < (n : Int) := by omega
     obtain ⟨b, off, rfl, hbw, hcs⟩ := HZ.out (by rw [HN.out]; omega)
     have hc := (hB.cell (p := ⟨b, off + k, none⟩) (by have := HS0.out; show b < s0; omega)).trans (hcs k (by rw [HN.out]; exact hlt))
     have hx1 := all_take HALL.out (show k < l.length by rw [HN.out]; exact hlt)
     have hsn := rsum_next (l := l) (k := k) (by rw [HN.out]; exact hlt)
     have hDk := runD_at (l := l) (num := num) (den := den) (k := k) (by rw [HN.out]; exact hlt)
     have hpn : rpor l num den (k + 1) = hr (rsum l (k + 1) * num) den := rfl
     have hrk9 : rokB l num den (k + 1) = (amtB (rsum l (k + 1)) && amtB (rpor l num den (k + 1))) := rfl
     have hbd := HBAD.out k hlt
     have hfn := fillI_next (Q := runD l num den) (k := k) (by rw [HDL.out]; exact hlt)
     rw [hDk] at hfn
     rw [hpn] at hrk9 hfn
     rw [hsn] at hrk9 hfn
     have c3 := I3.out.cell 0 (by simp)
     have c4 := I4.out.cell 0 (by simp)
     have hcl := port_cl (l.getD k 0) (rsum l k) (rpor l num den k) num den b2 B b1 b3 wr hx1 HSP.out.1 HSP.out.2 HNUM.out HDEN.out (by omega) c3 (I1.out.cell 0 (by simp)) (I2.out.cell 0 (by simp)) c4 I3.out.lt I1.out.lt I2.out.lt I4.out.lt (I3.out.frozen 0) (I4.out.frozen 0)
     have hsz : s0 ≤ wr.heap.size := by have := hB.size; have := HS0.out; omega
     obtain ⟨x, hx⟩ : ∃ x, l.getD k 0 = x := ⟨_, rfl⟩
     rw [hx] at hc hcl hrk9 hfn hsn
     cases hrk : rokB l num den (k + 1)
     ·rw [hrk] at hrk9
      have hE := hbd hrk
      have HE : Hid (runE l num den = 2) := Lib.hid hE
      have HL : Hid (runL l num den = []) := Lib.hid (HLN.out hE)
      have HC : Hid (Calls Try.prog 34 #[.int .i64 x, .pointer (some ⟨b2, 0, none⟩), .pointer (some ⟨B, 0, none⟩), .pointer (some ⟨b1, 0, none⟩), .pointer (some ⟨b3, 0, none⟩)] wr fun e w' => e = .returned (.tuple #[.int .i64 0, .int .i64 2]) ∧ Below wr.heap.size wr w') := Lib.hid (hcl.mono fun e w' h => by
       rcases h with ⟨_, h2, h3⟩ | ⟨h1, _⟩
       ·exact ⟨h2, h3⟩
       ·rw [← hrk9] at h1; cases h1)
      clear hcl hrk9 hfn hsn hDk hpn hbd hE hrk hx hcs hx1 c3 c4
      go_wp2_with ((first | go_at_call 34 | go_at_fn 34); refine HC.out.mono ?_; rintro e w4 ⟨rfl, hb⟩; replace hB := hB.trans (hb.mono hsz); clear hb)
      go_ret2
      exact ⟨_, by rw [HE.out]; rfl, by rw [HL.out]; exact SlC.nil, by rw [HS0.out]; exact hB⟩
     ·rw [hrk] at hrk9
      obtain ⟨P2, hP2⟩ : ∃ P2, hr ((rsum l k + x) * num) den = P2 := ⟨_, rfl⟩
      obtain ⟨P1, hP1⟩ : ∃ P1, rpor l num den k = P1 := ⟨_, rfl⟩
      rw [hP2] at hcl hrk9 hfn
      rw [hP1] at hcl hfn
      have hpa : amtB P1 = true := by rw [← hP1]; exact HSP.out.2
      have hsa : amtB (rsum l k + x) = true ∧ amtB P2 = true := by simpa using hrk9.symm
      obtain ⟨p1, p2⟩ := amtB_is hpa
      obtain ⟨p3, p4⟩ := amtB_is hsa.2
      have HR2 : Hid (∀ j, j < k + 1 → rokB l num den (j + 1) = true) := Lib.hid (fun j hj => by
       by_cases e : j = k
       ·subst e; exact hrk
       ·exact HR.out j (by omega))
      have HSP2 : Hid (amtB (rsum l (k + 1)) = true ∧ amtB (rpor l num den (k + 1)) = true) := Lib.hid (by rw [hpn, hsn, hP2]; exact hsa)
      have HS2 : Hid (rsum l (k + 1) = rsum l k + x) := Lib.hid hsn
      have HPP : Hid (rpor l num den (k + 1) = P2) := Lib.hid (by rw [hpn, hsn, hP2])
      have HC : Hid (Calls Try.prog 34 #[.int .i64 x, .pointer (some ⟨b2, 0, none⟩), .pointer (some ⟨B, 0, none⟩), .pointer (some ⟨b1, 0, none⟩), .pointer (some ⟨b3, 0, none⟩)] wr fun e w' => e = .returned (.tuple #[.int .i64 (P2 - P1), .int .i64 0]) ∧ ∃ w1, Below wr.heap.size wr w1 ∧ w' = (w1.setCell ⟨b2, 0, none⟩ (.int .i64 (rsum l k + x))).setCell ⟨b3, 0, none⟩ (.int .i64 P2)) := Lib.hid (hcl.mono fun e w' h => by
       rcases h with ⟨h1, _⟩ | ⟨_, h2, h3⟩
       ·rw [← hrk9] at h1; cases h1
       ·exact ⟨h2, h3⟩)
      have HFN := Lib.hid hfn
      clear hcl hrk9 hfn hsn hDk hpn hbd hrk hx hcs hx1 c3 c4 hpa hsa hP1 hP2
      go_upto_region 12 with ((first | go_at_call 34 | go_at_fn 34); refine HC.out.mono ?_; rintro e w4 ⟨rfl, w5, hb, hw4'⟩; replace hw4' := Lib.hid hw4')
      have hw4 := hw4'.out
      replace I1 := Lib.hid (show IB w4 B [num] by rw [hw4]; exact ((I1.out.more hb).far (by omega) _ _).far (by omega) _ _)
      replace I2 := Lib.hid (show IB w4 b1 [den] by rw [hw4]; exact ((I2.out.more hb).far (by omega) _ _).far (by omega) _ _)
      replace I3 := Lib.hid (show IB w4 b2 [rsum l k + x] by rw [hw4]; exact ((I3.out.more hb).set 0 _).far (by omega) _ _)
      replace I4 := Lib.hid (show IB w4 b3 [P2] by rw [hw4]; exact ((I4.out.more hb).far (by omega) _ _).set 0 _)
      replace I5 := Lib.hid (show IB w4 b4 (fillI (runD l num den) k) by rw [hw4]; exact ((I5.out.more hb).far (by omega) _ _).far (by omega) _ _)
      replace hB : Below s0 w w4 := by
       rw [hw4]
       exact Below.setCell (p := ⟨b3, 0, none⟩) (Below.setCell (p := ⟨b2, 0, none⟩) (hB.trans (hb.mono hsz)) (by show s0 ≤ b2; omega) _) (by show s0 ≤ b3; omega) _
      have c5 := I5.out.cell k (by rw [fillI_len (by rw [HDL.out]; omega), HDL.out]; exact hlt)
      have f5 := I5.out.frozen k
      have I6 := Lib.hid (show IB (w4.setCell ⟨b4, k, none⟩ (.int .i64 (P2 - P1))) b4 (fillI (runD l num den) (k + 1)) by rw [← HFN.out]; exact I5.out.set k (P2 - P1))
      replace I1 := Lib.hid (I1.out.far (show B ≠ b4 by omega) k (.int .i64 (P2 - P1)))
      replace I2 := Lib.hid (I2.out.far (show b1 ≠ b4 by omega) k (.int .i64 (P2 - P1)))
      replace I3 := Lib.hid (I3.out.far (show b2 ≠ b4 by omega) k (.int .i64 (P2 - P1)))
      replace I4 := Lib.hid (I4.out.far (show b3 ≠ b4 by omega) k (.int .i64 (P2 - P1)))
      replace hB := Below.setCell (p := ⟨b4, k, none⟩) hB (by show s0 ≤ b4; omega) (.int .i64 (P2 - P1))
      clear hb hw4 hw4' I5
      go_wp2_with fail
      go_roundg (n - (k + 1))
      case measure => omega
      case rel => exact ⟨k + 1, by go_num, by omega, by omega, HR2, HSP2, I1, I2, by rw [HS2.out]; exact I3, by rw [HPP.out]; exact I4, I6, hB⟩
    ·have hkn : k = n := by omega
     have hltz : ¬ (k : Int) < (n : Int) := by omega
     have hE := HGOOD.out fun j hj => HR.out j (by have : j < n := hj; omega)
     have HE : Hid (runE l num den = 0) := Lib.hid hE
     have HL : Hid (runL l num den = runD l num den) := Lib.hid (HLD.out hE)
     have I6 := I5.out
     rw [fillI_all (by rw [HDL.out]; omega)] at I6
     have HI6 := Lib.hid I6
     clear hE I6 I5
     go_wp2_with fail
     go_ret2
     exact ⟨_, by rw [HE.out]; rfl, by rw [HL.out]; exact ⟨_, _, by rw [HDL.out]; rfl, by rw [HDL.out]; exact Nat.le_refl _, HI6.out.ints⟩, by rw [HS0.out]; exact hB⟩
 ·have hp : portB 0 num den = false := by
   unfold portB
   cases h : (numB num && denB den)
   ·simp
   ·exact absurd h hnd
  have e1 : portE 0 num den = 1 := by unfold portE; rw [hp]; rfl
  have e2 : portV 0 num den = 0 := by unfold portV; rw [hp]; rfl
  have hE : runE l num den = 1 := by
   unfold runE rargB
   cases h : (numB num && denB den)
   ·simp
   ·exact absurd h hnd
  have hL : runL l num den = [] := by unfold runL; rw [hE]; rfl
  rw [e1, e2] at hPo
  rw [hE, hL]
  generalize l.length = n at *
  have HP := Lib.hid hPo
  clear hPo hAm hz hr0 hnd e1 e2 hE hL hp
  go_enter Try.func12, Try.ntmps12
  go_wp2_with (go_at_call 15; refine (HP.out _).mono ?_; rintro e w1 ⟨rfl, hb⟩; replace hB := below_more hB hb; clear hb)
  go_ret2
  exact ⟨_, rfl, SlC.nil, hB⟩
open Go Go.RowKit
structure Fact where
 p : Value → World → Prop
 st : ∀ v w w', Below w.heap.size w w' → p v w → p v w'
def Fact.triv : Fact := ⟨fun _ _ => True, fun _ _ _ _ _ => trivial⟩
def look : List (Nat × Fact) → Nat → Fact
 | [], _ => Fact.triv
 | (k, f) :: rest, d => bif Nat.beq k d then f else look rest d
def factOf (FL : List (Nat × Fact)) (dst : Option Nat) (v : Value) (w : World) : Prop := match dst with
 | none => True
 | some d => (look FL d).p v w
def fillL (u : Nat → Value) : List Nat → Array Value → Array Value
 | [], t => t
 | d :: ds, t => fillL u ds (t.setIfInBounds d (u d))
def upd (u : Nat → Value) (d : Option Nat) (v : Value) (n : Nat) : Value := match d with
 | none => u n
 | some d => if n = d then v else u n
theorem fillL_size (u : Nat → Value) (ds : List Nat) : ∀ t : Array Value, (fillL u ds t).size = t.size := by
 induction ds with
 | nil => intro t; rfl
 | cons d ds ih => intro t; rw [fillL, ih]; simp
theorem fillL_get (u : Nat → Value) (ds : List Nat) : ∀ (t : Array Value) (n : Nat), (fillL u ds t)[n]? = if n < t.size then (if n ∈ ds then some (u n) else t[n]?) else none := by
 induction ds with
 | nil => intro t n; by_cases h : n < t.size <;> simp [fillL, h]
 | cons d ds ih =>
  intro t n
  rw [fillL, ih]
  by_cases h : n < t.size
  ·simp only [Array.size_setIfInBounds, h, if_true, List.mem_cons]
   by_cases h1 : n ∈ ds
   ·simp [h1]
   ·by_cases h2 : n = d
    ·subst h2; simp [h1, h]
    ·simp only [h1, h2, if_false, or_self]; rw [Array.getElem?_setIfInBounds_ne (Ne.symm h2)]
  ·simp [h]
theorem fillL_upd (u : Nat → Value) (ds : List Nat) (t : Array Value) (d : Nat) (v : Value) (hd : d ∈ ds) : (fillL u ds t).setIfInBounds d v = fillL (upd u (some d) v) ds t := by
 apply Array.ext_getElem?
 intro n
 rw [Array.getElem?_setIfInBounds, fillL_get, fillL_get, fillL_size]
 by_cases h : n < t.size
 ·by_cases h2 : d = n
  ·subst h2; simp [h, hd, upd]
  ·simp only [h, h2, if_true, if_false]
   by_cases h3 : n ∈ ds
   ·simp [h3, upd, Ne.symm h2]
   ·simp [h3]
 ·simp only [h, if_false]
  by_cases h2 : d = n
  ·subst h2; simp [h]
  ·simp [h2]
theorem fillL_self (ds : List Nat) (t : Array Value) : fillL (fun d => t.getD d undef) ds t = t := by
 apply Array.ext_getElem?
 intro n
 rw [fillL_get]
 by_cases h : n < t.size
 ·simp [h]
 ·simp [h]
theorem filter_less {p q : Nat → Bool} {i : Nat} (hpi : p i = true) (hqi : q i = false) (h : ∀ j, q j = true → p j = true) : ∀ l : List Nat, i ∈ l → (l.filter q).length < (l.filter p).length := by
 have hle : ∀ l : List Nat, (l.filter q).length ≤ (l.filter p).length := by
  intro l
  induction l with
  | nil => simp
  | cons x l ih =>
   rw [List.filter_cons, List.filter_cons]
   by_cases hq : q x = true
   ·simp [hq, h x hq]; exact ih
   ·by_cases hp : p x = true <;> simp [hq, hp] <;> omega
 intro l hl
 induction l with
 | nil => cases hl
 | cons x l ih =>
  rw [List.filter_cons, List.filter_cons]
  rcases List.mem_cons.1 hl with rfl | hl
  ·simp [hpi, hqi]; have := hle l; omega
  ·have := ih hl
   by_cases hq : q x = true
   ·simp [hq, h x hq]; exact this
   ·by_cases hp : p x = true <;> simp [hq, hp] <;> omega
section
variable {P : Program} {ops : Array Oper} {Q : Exit → Act → World → Prop} {FL : List (Nat × Fact)} {J : World → Prop} {t0 : Array Value} {df : List Deferred} {ds : List Nat}
theorem put_fill (u : Nat → Value) (o : Oper) (v : Value) (hd : ∀ d, o.dst = some d → d ∈ ds) : (⟨fillL u ds t0, df⟩ : Act).put o.dst v = ⟨fillL (upd u o.dst v) ds t0, df⟩ := by
 cases h : o.dst with
 | none => rfl
 | some d =>
  show Act.mk ((fillL u ds t0).setIfInBounds d v) df = _
  rw [fillL_upd _ _ _ _ _ (hd d h)]
theorem none_listed (n j : Nat) : (Array.replicate n false).getD j false = false := by
 by_cases h : j < n <;> simp [h]
end
open Go Go.RowKit
def AS.NoInt (w : World) (b : Nat) : Prop := ∀ j k n, w.cell? ⟨b, j, none⟩ ≠ some (.int k n)
open AS (NoInt)
def Leaf (x : Value) : Prop := ∀ k n, x ≠ .int k n
structure Bx (t : TypeId) (w : World) (g : Nat) (vs : List Value) : Prop where
 blk : w.heap[g]? = some (.cells vs.toArray t (0, 0))
 leaf : ∀ v ∈ vs, Leaf v
section
variable {t : TypeId} {w w' : World} {g : Nat} {vs : List Value}
theorem Bx.lt (h : Bx t w g vs) : g < w.heap.size := by
 rcases Nat.lt_or_ge g w.heap.size with hlt | hge
 ·exact hlt
 ·have := h.blk; rw [Array.getElem?_eq_none hge] at this; cases this
theorem Bx.up (h : Bx t w g vs) (hb : Below w.heap.size w w') : Bx t w' g vs := ⟨(hb.block g h.lt).trans h.blk, h.leaf⟩
end
end Go.Proofs.Ytocojbkhdijjeaa
namespace Go.Proofs.Ytocojbkhdijjeaa.AS
open Go Go.RowKit
open Go.Proofs.Ytocojbkhdijjeaa (fillL upd fillL_size fillL_get fillL_upd fillL_self filter_less none_listed put_fill)
structure Keep (w w' : World) : Prop where
 size : w.heap.size ≤ w'.heap.size
 blk : ∀ i, i < w.heap.size → (∃ j k n, w.cell? ⟨i, j, none⟩ = some (.int k n)) → w'.heap[i]? = w.heap[i]?
 box : ∀ (t : TypeId) (g : Nat) (vs : List Value), 2 ≤ vs.length → Bx t w g vs → ∃ vs' : List Value, vs'.length = vs.length ∧ Bx t w' g vs'
theorem Keep.ofBelow {w w' : World} (h : Below w.heap.size w w') : Keep w w' := ⟨h.size, fun i hi _ => h.block i hi, fun _ _ vs _ hb => ⟨vs, rfl, hb.up h⟩⟩
theorem Keep.cell {w w' : World} (h : Keep w w') {i j : Nat} (hi : i < w.heap.size) {j' : Nat} {k : IntKind} {n : Int} (hc : w.cell? ⟨i, j', none⟩ = some (.int k n)) : w'.cell? ⟨i, j, none⟩ = w.cell? ⟨i, j, none⟩ :=
 World.cell?_of_block (h.blk i hi ⟨j', k, n, hc⟩)
structure Fact where
 p : Value → World → Prop
 st : ∀ v w w', Keep w w' → p v w → p v w'
def Fact.triv : Fact := ⟨fun _ _ => True, fun _ _ _ _ _ => trivial⟩
def look : List (Nat × Fact) → Nat → Fact
 | [], _ => Fact.triv
 | (k, f) :: rest, d => bif Nat.beq k d then f else look rest d
def temps (FL : List (Nat × Fact)) : List Nat := FL.map (·.1)
def factOf (FL : List (Nat × Fact)) (dst : Option Nat) (v : Value) (w : World) : Prop := match dst with
 | none => True
 | some d => (look FL d).p v w
def Facts (FL : List (Nat × Fact)) (u : Nat → Value) (w : World) : List Nat → Prop
 | [] => True
 | d :: ds => (look FL d).p (u d) w ∧ Facts FL u w ds
theorem facts_mk {FL : List (Nat × Fact)} {u : Nat → Value} {w : World} {ds : List Nat} (h : ∀ d ∈ ds, (look FL d).p (u d) w) : Facts FL u w ds := by
 induction ds with
 | nil => trivial
 | cons d ds ih => exact ⟨h d (List.mem_cons_self ..), ih fun e he => h e (List.mem_cons_of_mem _ he)⟩
theorem facts_get {FL : List (Nat × Fact)} {u : Nat → Value} {w : World} {ds : List Nat} (h : Facts FL u w ds) (d : Nat) (hd : d ∈ ds) : (look FL d).p (u d) w := by
 induction ds with
 | nil => cases hd
 | cons e ds ih =>
  rcases List.mem_cons.1 hd with rfl | hd
  ·exact h.1
  ·exact ih h.2 hd
def edgesOk (ops : Array Oper) : Bool := (List.range ops.size).all fun i => match ops[i]? with
 | none => true
 | some o => o.after.all fun e => !Region.binds .any e || decide (e.on < i)
def needsOk (ops : Array Oper) (pt : List (List Nat)) (ds : List Nat) : Bool :=
 (List.range ops.size).all fun i => match ops[i]? with
  | none => true
  | some o => (match o.dst with | some d => ds.contains d | none => true) &&
   (pt.getD i []).all fun d => o.after.any fun e => Region.binds .any e && ((match ops[e.on]? with | some o' => o'.dst == some d | none => false) || (pt.getD e.on []).contains d)
def onceOk (ops : Array Oper) : Bool := (List.range ops.size).all fun i => (List.range ops.size).all fun j => match ops[i]?, ops[j]? with
 | some o, some o' => Nat.beq i j || (match o.dst, o'.dst with | some d, some d' => !Nat.beq d d' | _, _ => true)
 | _, _ => true
def storesOk (ops : Array Oper) (pt : List (List Nat)) (st : List Nat) (js : List (List Nat)) : Bool :=
 (List.range st.length).all fun m => decide (st.getD m 0 < ops.size) && (match ops[st.getD m 0]? with | some o => o.dst == none | none => false) &&
  (Nat.beq m 0 || Region.waitsFor .any ops (st.getD m 0) (st.getD (m - 1) 0)) && (js.getD (m + 1) []).all fun d => (pt.getD (st.getD m 0) []).contains d || (js.getD m []).contains d
def waits2 (ops : Array Oper) (s i : Nat) : Bool := Region.waitsFor .any ops s i || (List.range ops.size).any fun j => Region.waitsFor .any ops s j && Region.waitsFor .any ops j i
def limOk (ops : Array Oper) (st lm : List Nat) : Bool :=
 (List.range ops.size).all fun i => Nat.beq (lm.getD i st.length) st.length || waits2 ops (st.getD (lm.getD i st.length) ops.size) i
def allWritten (ops : Array Oper) (ds : List Nat) : Bool := ds.all fun d => ops.any fun o => o.dst == some d
def allocsOk (ops : Array Oper) (al st : List Nat) : Bool := al.all fun d => st.all fun s => (List.range ops.size).any fun i => (match ops[i]? with | some o => o.dst == some d | none => false) && waits2 ops s i
def chk (al : List Nat) (ops : Array Oper) (pt : List (List Nat)) (ds st : List Nat) (js : List (List Nat)) (lm : List Nat) : Bool :=
 allocsOk ops al st && al.all ds.contains && edgesOk ops && needsOk ops pt ds && onceOk ops && storesOk ops pt st js && limOk ops st lm && allWritten ops ds && (js.getD 0 []).isEmpty
section
variable {P : Program} {ops : Array Oper} {Q : Exit → Act → World → Prop} {FL : List (Nat × Fact)} {J : Nat → List Value → World → Prop} {t0 : Array Value} {df : List Deferred} {ds : List Nat}
 {st lm al : List Nat} {js : List (List Nat)} {pt : List (List Nat)}
def aOk (al : List Nat) (dst : Option Nat) (v : Value) (w w' : World) : Prop := match dst with
 | some d => bif al.contains d then v = .pointer (some ⟨w.heap.size, 0, none⟩) ∧ w.heap.size < w'.heap.size else True
 | none => True
def Apart (al : List Nat) (u : Nat → Value) : Prop := ∀ d ∈ al, ∀ d' ∈ al, d ≠ d' → u d ≠ u d'
def StepOk (al : List Nat) (P : Program) (ops : Array Oper) (Q : Exit → Act → World → Prop) (FL : List (Nat × Fact)) (J : Nat → List Value → World → Prop) (js : List (List Nat)) (fr : (Nat → Value) → Array Value) (df : List Deferred) (o : Oper) (need : List Nat) (lim : Nat) : Prop :=
 ∀ (k : Nat) (u : Nat → Value) (w : World), k ≤ lim → J k ((js.getD k []).map u) w → Facts FL u w need → ∀ K : Act → World → Prop, Shut (∀ v w', Below w.heap.size w w' → factOf FL o.dst v w' → aOk al o.dst v w w' → K ((⟨fr u, df⟩ : Act).put o.dst v) w') →
  if Region.wanted o (yielded ops (fr u)) = true then Oper.wp P o ⟨fr u, df⟩ w K Q else K ((⟨fr u, df⟩ : Act).put o.dst undef) w
def StoreOk (al : List Nat) (P : Program) (ops : Array Oper) (Q : Exit → Act → World → Prop) (FL : List (Nat × Fact)) (J : Nat → List Value → World → Prop) (js : List (List Nat)) (fr : (Nat → Value) → Array Value) (df : List Deferred) (o : Oper) (need : List Nat) (k : Nat) : Prop :=
 ∀ (u : Nat → Value) (w : World), J k ((js.getD k []).map u) w → Apart al u → Facts FL u w need → ∀ K : Act → World → Prop, Shut (∀ v w', J (k + 1) ((js.getD (k + 1) []).map u) w' → Keep w w' → K ((⟨fr u, df⟩ : Act).put o.dst v) w') →
  if Region.wanted o (yielded ops (fr u)) = true then Oper.wp P o ⟨fr u, df⟩ w K Q else K ((⟨fr u, df⟩ : Act).put o.dst undef) w
def StepsOk (al : List Nat) (P : Program) (ops : Array Oper) (Q : Exit → Act → World → Prop) (FL : List (Nat × Fact)) (J : Nat → List Value → World → Prop) (js : List (List Nat)) (fr : (Nat → Value) → Array Value) (df : List Deferred) (pt : List (List Nat)) (st lm : List Nat) : List Oper → Nat → Prop
 | [], _ => True
 | o :: rest, i => (match st.idxOf? i with
   | some k => StoreOk al P ops Q FL J js fr df o (pt.getD i []) k
   | none => StepOk al P ops Q FL J js fr df o (pt.getD i []) (lm.getD i st.length)) ∧ StepsOk al P ops Q FL J js fr df pt st lm rest (i + 1)
theorem StepsOk.nil {fr : (Nat → Value) → Array Value} {i : Nat} : StepsOk al P ops Q FL J js fr df pt st lm [] i := trivial
theorem sc {fr : (Nat → Value) → Array Value} {o : Oper} {rest : List Oper} {i : Nat} {need : List Nat} {lim : Nat} (h0 : st.idxOf? i = none) (h1 : pt.getD i [] = need) (h2 : lm.getD i st.length = lim)
  (h : StepOk al P ops Q FL J js fr df o need lim) (hs : StepsOk al P ops Q FL J js fr df pt st lm rest (i + 1)) : StepsOk al P ops Q FL J js fr df pt st lm (o :: rest) i := ⟨by rw [h0, h1, h2]; exact h, hs⟩
theorem ss {fr : (Nat → Value) → Array Value} {o : Oper} {rest : List Oper} {i k : Nat} {need : List Nat} (h0 : st.idxOf? i = some k) (h1 : pt.getD i [] = need)
  (h : StoreOk al P ops Q FL J js fr df o need k) (hs : StepsOk al P ops Q FL J js fr df pt st lm rest (i + 1)) : StepsOk al P ops Q FL J js fr df pt st lm (o :: rest) i := ⟨by rw [h0, h1]; exact h, hs⟩
theorem steps_at {fr : (Nat → Value) → Array Value} : ∀ (l : List Oper) (i0 : Nat), StepsOk al P ops Q FL J js fr df pt st lm l i0 → ∀ i o, l[i]? = some o → (match st.idxOf? (i0 + i) with
      | some k => StoreOk al P ops Q FL J js fr df o (pt.getD (i0 + i) []) k
      | none => StepOk al P ops Q FL J js fr df o (pt.getD (i0 + i) []) (lm.getD (i0 + i) st.length)) := by
  intro l
  induction l with
  | nil => intro i0 _ i o h; simp at h
  | cons x l ih =>
    intro i0 hs i o h
    cases i with
    | zero => simp at h; subst h; exact hs.1
    | succ i =>
      have := ih (i0 + 1) hs.2 i o (by simpa using h)
      rwa [show i0 + 1 + i = i0 + (i + 1) by omega] at this
def Written (ops : Array Oper) (listed : Array Bool) (d : Nat) : Prop := ∃ j o', listed.getD j false = true ∧ ops[j]? = some o' ∧ o'.dst = some d
structure Inv (al : List Nat) (ops : Array Oper) (FL : List (Nat × Fact)) (J : Nat → List Value → World → Prop) (js : List (List Nat)) (t0 : Array Value) (df : List Deferred) (ds : List Nat) (pt : List (List Nat)) (st : List Nat) (listed : Array Bool) (a : Act) (w : World) : Prop where
 fr : ∃ k u, a = ⟨fillL u ds t0, df⟩ ∧ (∀ d, Written ops listed d → (look FL d).p (u d) w) ∧ J k ((js.getD k []).map u) w ∧ k ≤ st.length ∧ (∀ m, m < k → listed.getD (st.getD m 0) false = true) ∧
  (∀ m, k ≤ m → m < st.length → listed.getD (st.getD m 0) false = false) ∧ (∀ d ∈ js.getD k [], Written ops listed d) ∧ (∀ d ∈ al, Written ops listed d → ∃ g, u d = .pointer (some ⟨g, 0, none⟩) ∧ g < w.heap.size) ∧
  (∀ d ∈ al, ∀ d' ∈ al, d ≠ d' → Written ops listed d → Written ops listed d' → u d ≠ u d')
 cl : ∀ i, listed.getD i false = true → ∀ d ∈ pt.getD i [], Written ops listed d
 cs : ∀ j oj, ops[j]? = some oj → listed.getD j false = true → ∀ e ∈ oj.after, Region.binds .any e = true → listed.getD e.on false = true
 sz : listed.size = ops.size
theorem Written.more {listed : Array Bool} {d i : Nat} (h : Written ops listed d) : Written ops (listed.setIfInBounds i true) d := by
 obtain ⟨j, o', h1, h2, h3⟩ := h
 exact ⟨j, o', getD_set_true h1, h2, h3⟩
theorem getD_flag {listed : Array Bool} {i : Nat} (h : i < listed.size) : listed.getD i true = listed.getD i false := by simp [h]
structure Chk (al : List Nat) (ops : Array Oper) (pt : List (List Nat)) (ds st : List Nat) (js : List (List Nat)) (lm : List Nat) : Prop where
 edge : ∀ (i : Nat) (o : Oper), ops[i]? = some o → ∀ e ∈ o.after, Region.binds .any e = true → e.on < i
 dst : ∀ (i : Nat) (o : Oper), ops[i]? = some o → ∀ d, o.dst = some d → d ∈ ds
 need : ∀ (i : Nat) (o : Oper), ops[i]? = some o → ∀ d ∈ pt.getD i [], ∃ e ∈ o.after, Region.binds .any e = true ∧ ((∃ o' : Oper, ops[e.on]? = some o' ∧ o'.dst = some d) ∨ d ∈ pt.getD e.on [])
 once : ∀ (i j : Nat) (o o' : Oper) (d : Nat), ops[i]? = some o → ops[j]? = some o' → o.dst = some d → o'.dst = some d → i = j
 slt : ∀ m, m < st.length → st.getD m 0 < ops.size
 sdst : ∀ m, m < st.length → ∀ o : Oper, ops[st.getD m 0]? = some o → o.dst = none
 schain : ∀ m, 0 < m → m < st.length → Region.waitsFor .any ops (st.getD m 0) (st.getD (m - 1) 0) = true
 sjs : ∀ m, m < st.length → ∀ d ∈ js.getD (m + 1) [], d ∈ pt.getD (st.getD m 0) [] ∨ d ∈ js.getD m []
 lim : ∀ i, i < ops.size → lm.getD i st.length = st.length ∨ waits2 ops (st.getD (lm.getD i st.length) ops.size) i = true
 wr : ∀ d ∈ ds, ∃ (i : Nat) (o : Oper), ops[i]? = some o ∧ o.dst = some d
 js0 : js.getD 0 [] = []
 alw : ∀ d ∈ al, ∀ m, m < st.length → ∃ (i : Nat) (o : Oper), ops[i]? = some o ∧ o.dst = some d ∧ waits2 ops (st.getD m 0) i = true
 ald : ∀ d ∈ al, d ∈ ds
theorem chk_spec (h : chk al ops pt ds st js lm = true) : Chk al ops pt ds st js lm := by
 unfold chk at h
 simp only [Bool.and_eq_true] at h
 obtain ⟨⟨⟨⟨⟨⟨⟨⟨h8, h9⟩, h1⟩, h2⟩, h3⟩, h4⟩, h5⟩, h6⟩, h7⟩ := h
 have lt : ∀ (i : Nat) (o : Oper), ops[i]? = some o → i ∈ List.range ops.size := fun i o ho => List.mem_range.2 (Array.getElem?_eq_some_iff.1 ho).1
 constructor
 ·intro i o ho e he hb
  have h := List.all_eq_true.1 h1 i (lt i o ho)
  rw [ho] at h
  dsimp only at h
  rw [Array.all_eq_true_iff_forall_mem] at h
  have h := h e he
  rw [hb] at h
  simpa using h
 ·intro i o ho d hd
  have h := List.all_eq_true.1 h2 i (lt i o ho)
  rw [ho] at h
  dsimp only at h
  rw [hd] at h
  simp only [Bool.and_eq_true] at h
  simpa using h.1
 ·intro i o ho d hd
  have h := List.all_eq_true.1 h2 i (lt i o ho)
  rw [ho] at h
  simp only [Bool.and_eq_true] at h
  have h := List.all_eq_true.1 h.2 d hd
  rw [Array.any_eq_true] at h
  obtain ⟨k, hk, h⟩ := h
  rw [Bool.and_eq_true, Bool.or_eq_true] at h
  refine ⟨o.after[k], Array.getElem_mem _, h.1, ?_⟩
  rcases h.2 with h4 | h4
  ·left
   cases h5 : ops[(o.after[k]).on]? with
   | none => rw [h5] at h4; cases h4
   | some o' => rw [h5] at h4; exact ⟨o', rfl, by simpa using h4⟩
  ·right; simpa using h4
 ·intro i j o o' d ho ho' hd hd'
  have h := List.all_eq_true.1 (List.all_eq_true.1 h3 i (lt i o ho)) j (lt j o' ho')
  rw [ho, ho'] at h
  dsimp only at h
  rw [hd, hd'] at h
  simpa using h
 ·intro m hm
  have h := List.all_eq_true.1 h4 m (List.mem_range.2 hm)
  simp only [Bool.and_eq_true, decide_eq_true_eq] at h
  exact h.1.1.1
 ·intro m hm o ho
  have h := List.all_eq_true.1 h4 m (List.mem_range.2 hm)
  simp only [Bool.and_eq_true, decide_eq_true_eq] at h
  have h := h.1.1.2
  rw [ho] at h
  simpa using h
 ·intro m h0 hm
  have h := List.all_eq_true.1 h4 m (List.mem_range.2 hm)
  simp only [Bool.and_eq_true, decide_eq_true_eq, Bool.or_eq_true, Nat.beq_eq] at h
  rcases h.1.2 with h | h
  ·omega
  ·exact h
 ·intro m hm d hd
  have h := List.all_eq_true.1 h4 m (List.mem_range.2 hm)
  simp only [Bool.and_eq_true] at h
  have h := List.all_eq_true.1 h.2 d hd
  simpa using h
 ·intro i hi
  have h := List.all_eq_true.1 h5 i (List.mem_range.2 hi)
  simp only [Bool.or_eq_true, Nat.beq_eq] at h
  exact h
 ·intro d hd
  have h := List.all_eq_true.1 h6 d hd
  rw [Array.any_eq_true] at h
  obtain ⟨k, hk, h⟩ := h
  exact ⟨k, ops[k], by simp [hk], by simpa using h⟩
 ·simpa using h7
 ·intro d hd m hm
  have h := List.all_eq_true.1 (List.all_eq_true.1 h8 d hd) (st.getD m 0) (by simp [hm])
  obtain ⟨i, hi, h⟩ := List.any_eq_true.1 h
  rw [Bool.and_eq_true] at h
  cases ho : ops[i]? with
  | none => rw [ho] at h; cases h.1
  | some o => rw [ho] at h; exact ⟨i, o, ho, by simpa using h.1, h.2⟩
 ·intro d hd
  have h := List.all_eq_true.1 h9 d hd
  simpa using h
theorem inv_step (hc : Chk al ops pt ds st js lm) (hst : ∀ k l w w', Below w.heap.size w w' → J k l w → J k l w') (hs : StepsOk al P ops Q FL J js (fun u => fillL u ds t0) df pt st lm ops.toList 0) {listed : Array Bool} {a : Act} {w : World}
    (hI : Inv al ops FL J js t0 df ds pt st listed a w) {i : Nat} (hi : i ∈ Region.ready .any ops listed) :
    wpOp P ops Q i (Inv al ops FL J js t0 df ds pt st (listed.setIfInBounds i true)) a w := by
  obtain ⟨h0, o, ho, hall⟩ := mem_ready.1 hi
  have hlt : i < ops.size := (Array.getElem?_eq_some_iff.1 ho).1
  have hil : i < listed.size := by rw [hI.sz]; exact hlt
  have hun : listed.getD i false = false := by rw [← getD_flag hil]; exact h0
  obtain ⟨k, u, rfl, hfac, hJ, hk, hk1, hk2, hk3, hk4, hk5⟩ := hI.fr
  have hneed : ∀ d ∈ pt.getD i [], Written ops listed d := by
    intro d hd
    obtain ⟨e, he, hb, h1⟩ := hc.need i o ho d hd
    have h2 := hall e he hb
    rcases h1 with ⟨o', h3, h4⟩ | h3
    · exact ⟨e.on, o', h2, h3, h4⟩
    · exact hI.cl e.on h2 d h3
  have hstep := steps_at _ _ hs i o (by simpa using ho)
  rw [Nat.zero_add] at hstep
  have hcs : ∀ j oj, ops[j]? = some oj → (listed.setIfInBounds i true).getD j false = true → ∀ e ∈ oj.after, Region.binds .any e = true → (listed.setIfInBounds i true).getD e.on false = true := by
    intro j oj hj hl e he hb
    by_cases hij : i = j
    · subst hij
      have : oj = o := Option.some.inj (hj.symm.trans ho)
      subst this
      exact getD_set_true (hall e he hb)
    · rw [getD_set_ne false hij] at hl
      exact getD_set_true (hI.cs j oj hj hl e he hb)
  have hcl : ∀ j, (listed.setIfInBounds i true).getD j false = true → ∀ d ∈ pt.getD j [], Written ops (listed.setIfInBounds i true) d := by
    intro j hj d hd
    by_cases hij : i = j
    · subst hij; exact (hneed d hd).more
    · rw [getD_set_ne false hij] at hj
      exact (hI.cl j hj d hd).more
  have hwait : ∀ m, m < k → ∀ j, Region.waitsFor .any ops (st.getD m 0) j = true → listed.getD j false = true := by
    intro m hm j hw
    obtain ⟨oj, hoj, e, he, hb, hon⟩ := Region.waitsFor_spec hw
    rw [← hon]
    exact hI.cs _ oj hoj (hk1 m hm) e he hb
  have hwait2 : ∀ m, m < k → ∀ j, waits2 ops (st.getD m 0) j = true → listed.getD j false = true := by
    intro m hm j hw
    unfold waits2 at hw
    rw [Bool.or_eq_true] at hw
    rcases hw with hw | hw
    · exact hwait m hm j hw
    · obtain ⟨x, -, hx⟩ := List.any_eq_true.1 hw
      rw [Bool.and_eq_true] at hx
      obtain ⟨oj, hoj, e, he, hb, hon⟩ := Region.waitsFor_spec hx.2
      rw [← hon]
      exact hI.cs _ oj hoj (hwait m hm x hx.1) e he hb
  cases hsi : st.idxOf? i with
  | none =>
    rw [hsi] at hstep
    have hns : ∀ m, m < st.length → st.getD m 0 ≠ i := by
      intro m hm e
      have h1 : i ∈ st := by rw [← e]; simp [hm]
      have h2 := List.idxOf?_eq_none_iff.1 hsi
      exact h2 h1
    have hlim : k ≤ lm.getD i st.length := by
      rcases hc.lim i hlt with h1 | h1
      · omega
      · rcases Nat.lt_or_ge (lm.getD i st.length) k with h2 | h2
        · exfalso
          have h3 := hwait2 _ h2 i (by
            have e : st.getD (lm.getD i st.length) ops.size = st.getD (lm.getD i st.length) 0 := by
              have : lm.getD i st.length < st.length := by omega
              generalize lm.getD i st.length = z at *
              simp [this]
            rw [← e]; exact h1)
          rw [hun] at h3; cases h3
        · exact h2
    refine wpOp_step ho (fun K' hK => hstep k u w hlim hJ (facts_mk fun d hd => hfac d (hneed d hd)) K' ?_)
    intro v w' hb hf hao
    have hwi : ∀ d, Written ops (listed.setIfInBounds i true) d → o.dst = some d ∨ Written ops listed d := by
      rintro d ⟨j, o', h1, h2, h3⟩
      by_cases hij : i = j
      · subst hij
        rw [ho] at h2
        injection h2 with h2
        subst h2
        exact .inl h3
      · rw [getD_set_ne false hij] at h1
        exact .inr ⟨j, o', h1, h2, h3⟩
    have hnw : ∀ d, o.dst = some d → ¬ Written ops listed d := by
      rintro d hd ⟨j, o', h1, h2, h3⟩
      have := hc.once i j o o' d ho h2 hd h3
      subst this
      rw [hun] at h1; cases h1
    have hne : ∀ d, o.dst ≠ some d → upd u o.dst v d = u d := by
      intro d hd
      cases h : o.dst with
      | none => rfl
      | some d' => rw [h] at hd; simp only [upd]; rw [if_neg (fun h => hd (by rw [h]))]
    have hal : ∀ d ∈ al, o.dst = some d → v = .pointer (some ⟨w.heap.size, 0, none⟩) ∧ w.heap.size < w'.heap.size := by
      intro d hd h
      unfold aOk at hao
      rw [h] at hao
      dsimp only at hao
      rw [show al.contains d = true by simpa using hd] at hao
      exact hao
    refine hK _ _ ⟨⟨k, upd u o.dst v, put_fill u o v (hc.dst i o ho), ?_, ?_, hk, fun m hm => getD_set_true (hk1 m hm), fun m hm hm' => ?_, fun d hd => (hk3 d hd).more, fun d hd hw => ?_, fun d hd d' hd' hdd hw hw' => ?_⟩, hcl, hcs, by simpa using hI.sz⟩
    · rintro d ⟨j, o', h1, h2, h3⟩
      by_cases hd : o.dst = some d
      · rw [hd] at hf ⊢
        have e : upd u (some d) v d = v := by simp [upd]
        rw [e]; exact hf
      · have hw : Written ops listed d := by
          by_cases hij : i = j
          · subst hij
            rw [ho] at h2
            injection h2 with h2
            subst h2
            exact absurd h3 hd
          · rw [getD_set_ne false hij] at h1
            exact ⟨j, o', h1, h2, h3⟩
        have e : upd u o.dst v d = u d := by
          cases h : o.dst with
          | none => rfl
          | some d' => rw [h] at hd; simp only [upd]; rw [if_neg (fun h => hd (by rw [h]))]
        rw [e]
        exact (look FL d).st _ _ _ (Keep.ofBelow hb) (hfac d hw)
    · have e : (js.getD k []).map (upd u o.dst v) = (js.getD k []).map u := by
        apply List.map_congr_left
        intro d hd
        cases h : o.dst with
        | none => rfl
        | some d' =>
          simp only [upd]
          rw [if_neg]
          rintro rfl
          obtain ⟨j, o', h1, h2, h3⟩ := hk3 d hd
          have := hc.once i j o o' d ho h2 h h3
          subst this
          rw [hun] at h1; cases h1
      rw [e]
      exact hst _ _ _ _ hb hJ
    · rw [getD_set_ne false (Ne.symm (hns m hm'))]; exact hk2 m hm hm'
    · by_cases h : o.dst = some d
      · obtain ⟨h1, h2⟩ := hal d hd h
        exact ⟨w.heap.size, by rw [h]; simp [upd, h1], h2⟩
      · rcases hwi d hw with h1 | h1
        · exact absurd h1 h
        · obtain ⟨g, h2, h3⟩ := hk4 d hd h1
          exact ⟨g, by rw [hne d h]; exact h2, Nat.lt_of_lt_of_le h3 hb.size⟩
    · by_cases h : o.dst = some d
      · have h' : o.dst ≠ some d' := fun h2 => hdd (by rw [h] at h2; injection h2)
        rcases hwi d' hw' with h1 | h1
        · exact absurd h1 h'
        · obtain ⟨g, h2, h3⟩ := hk4 d' hd' h1
          rw [hne d' h', h2, h]
          simp only [upd, if_pos]
          rw [(hal d hd h).1]
          intro he
          simp at he <;> omega
      · rcases hwi d hw with h1 | h1
        · exact absurd h1 h
        · by_cases h' : o.dst = some d'
          · obtain ⟨g, h2, h3⟩ := hk4 d hd h1
            rw [hne d h, h2, h']
            simp only [upd, if_pos]
            rw [(hal d' hd' h').1]
            intro he
            simp at he <;> omega
          · rcases hwi d' hw' with h2 | h2
            · exact absurd h2 h'
            · rw [hne d h, hne d' h']; exact hk5 d hd d' hd' hdd h1 h2
  | some m =>
    rw [hsi] at hstep
    obtain ⟨hm, hmi, -⟩ := List.idxOf?_eq_some_iff.1 hsi
    have hmi' : st.getD m 0 = i := by simp [hm]; exact hmi
    have hmk : m = k := by
      rcases Nat.lt_trichotomy m k with h1 | h1 | h1
      · have := hk1 m h1; rw [hmi', hun] at this; cases this
      · exact h1
      · exfalso
        have h2 := hc.schain m (by omega) hm
        rw [hmi'] at h2
        obtain ⟨oj, hoj, e, he, hb, hon⟩ := Region.waitsFor_spec h2
        have : oj = o := Option.some.inj (hoj.symm.trans ho)
        subst this
        have h3 := hall e he hb
        rw [hon, hk2 (m - 1) (by omega) (by omega)] at h3
        cases h3
    subst hmk
    have hdn : o.dst = none := hc.sdst m hm o (by rw [hmi']; exact ho)
    have hwal : ∀ d ∈ al, Written ops listed d := by
      intro d hd
      obtain ⟨j, o', h1, h2, h3⟩ := hc.alw d hd m hm
      rw [hmi'] at h3
      refine ⟨j, o', ?_, h1, h2⟩
      unfold waits2 at h3
      rw [Bool.or_eq_true] at h3
      rcases h3 with h3 | h3
      · obtain ⟨oj, hoj, e, he, hb, hon⟩ := Region.waitsFor_spec h3
        have : oj = o := Option.some.inj (hoj.symm.trans ho)
        subst this
        rw [← hon]; exact hall e he hb
      · obtain ⟨x, -, hx⟩ := List.any_eq_true.1 h3
        rw [Bool.and_eq_true] at hx
        obtain ⟨oj, hoj, e, he, hb, hon⟩ := Region.waitsFor_spec hx.1
        have : oj = o := Option.some.inj (hoj.symm.trans ho)
        subst this
        have h4 := hall e he hb
        rw [hon] at h4
        obtain ⟨oj2, hoj2, e2, he2, hb2, hon2⟩ := Region.waitsFor_spec hx.2
        rw [← hon2]
        exact hI.cs _ oj2 hoj2 h4 e2 he2 hb2
    refine wpOp_step ho (fun K' hK => hstep u w hJ (fun d hd d' hd' hdd => hk5 d hd d' hd' hdd (hwal d hd) (hwal d' hd')) (facts_mk fun d hd => hfac d (hneed d hd)) K' ?_)
    intro v w' hJ' hb
    refine hK _ _ ⟨⟨m + 1, u, by rw [hdn]; rfl, ?_, hJ', hm, fun j hj => ?_, fun j hj hj' => ?_, fun d hd => ?_, fun d hd hw => ?_, fun d hd d' hd' hdd hw hw' => hk5 d hd d' hd' hdd (hwal d hd) (hwal d' hd')⟩, hcl, hcs, by simpa using hI.sz⟩
    · rintro d ⟨j, o', h1, h2, h3⟩
      have hij : i ≠ j := by
        rintro rfl
        rw [ho] at h2
        injection h2 with h2
        subst h2
        rw [hdn] at h3; cases h3
      rw [getD_set_ne false hij] at h1
      exact (look FL d).st _ _ _ hb (hfac d ⟨j, o', h1, h2, h3⟩)
    · by_cases h1 : j = m
      · subst h1; rw [hmi']; simp [hil]
      · exact getD_set_true (hk1 j (by omega))
    · have h1 := hk2 j (by omega) hj'
      by_cases h2 : st.getD j 0 = i
      · exfalso
        have h3 : ∀ n, m ≤ n → n < st.length → i ≤ st.getD n 0 ∧ (m < n → i < st.getD n 0) := by
          intro n
          induction n with
          | zero => intro h4 h5; exact ⟨by have : m = 0 := by omega
                                           subst this; rw [hmi']; exact Nat.le_refl _, fun h => by omega⟩
          | succ n ih =>
            intro h4 h5
            by_cases h6 : m = n + 1
            · subst h6; exact ⟨by rw [hmi']; exact Nat.le_refl _, fun h => by omega⟩
            · have h7 := ih (by omega) (by omega)
              have h8 := hc.schain (n + 1) (by omega) h5
              obtain ⟨oj, hoj, e, he, hb', hon⟩ := Region.waitsFor_spec h8
              have h9 := hc.edge _ oj hoj e he hb'
              rw [hon, Nat.add_sub_cancel] at h9
              exact ⟨by omega, fun _ => by omega⟩
        have := (h3 j (by omega) hj').2 (by omega)
        omega
      · rw [getD_set_ne false (Ne.symm h2)]; exact h1
    · rcases hc.sjs m hm d hd with h1 | h1
      · rw [hmi'] at h1; exact (hneed d h1).more
      · exact (hk3 d h1).more
    · obtain ⟨g, h1, h2⟩ := hk4 d hd (hwal d hd)
      exact ⟨g, h1, Nat.lt_of_lt_of_le h2 hb.size⟩
theorem ready_nil_all (hc : Chk al ops pt ds st js lm) {listed : Array Bool} (hsz : listed.size = ops.size) (hr : Region.ready .any ops listed = []) : ∀ n i, i < n → i < ops.size → listed.getD i false = true := by
 intro n
 induction n with
 | zero => intro i h; omega
 | succ n ih =>
  intro i hin hi
  have hil : i < listed.size := by omega
  cases hv : listed.getD i false with
  | true => rfl
  | false =>
   exfalso
   have ho : ops[i]? = some ops[i] := by simp [hi]
   have : i ∈ Region.ready .any ops listed := by
    rw [mem_ready]
    refine ⟨by simp [hil] at hv ⊢; exact hv, _, ho, fun e he hb => ?_⟩
    have h1 := hc.edge i _ ho e he hb
    exact ih e.on (by omega) (by omega)
   rw [hr] at this
   cases this
theorem wpAny_inv (hc : Chk al ops pt ds st js lm) (hst : ∀ k l w w', Below w.heap.size w w' → J k l w → J k l w') (hs : StepsOk al P ops Q FL J js (fun u => fillL u ds t0) df pt st lm ops.toList 0)
  (hend : ∀ u w, J st.length ((js.getD st.length []).map u) w → Facts FL u w ds → Q .normal ⟨fillL u ds t0, df⟩ w) :
  ∀ (fuel : Nat) (listed : Array Bool) (a : Act) (w : World), ((List.range ops.size).filter fun j => !listed.getD j true).length ≤ fuel → Inv al ops FL J js t0 df ds pt st listed a w → wpAny P .any ops Q fuel listed a w := by
 have hfin : ∀ (listed : Array Bool) (a : Act) (w : World), Inv al ops FL J js t0 df ds pt st listed a w → Region.ready .any ops listed = [] → Q .normal a w := by
  intro listed a w hI hr
  obtain ⟨k, u, rfl, hfac, hJ, hk, hk1, hk2, hk3, hk4, hk5⟩ := hI.fr
  have hall := ready_nil_all hc hI.sz hr
  have hkl : k = st.length := by
   rcases Nat.lt_or_ge k st.length with h | h
   ·have h1 := hk2 k (Nat.le_refl _) h
    rw [hall (st.getD k 0 + 1) _ (by omega) (hc.slt k h)] at h1
    cases h1
   ·omega
  subst hkl
  refine hend u w hJ (facts_mk fun d hd => hfac d ?_)
  obtain ⟨i, o, h1, h2⟩ := hc.wr d hd
  exact ⟨i, o, hall (i + 1) i (by omega) (Array.getElem?_eq_some_iff.1 h1).1, h1, h2⟩
 intro fuel
 induction fuel with
 | zero =>
  intro listed a w hcnt hI
  have hr : Region.ready .any ops listed = [] := by
   rw [List.eq_nil_iff_forall_not_mem]
   intro j hj
   obtain ⟨h0, o, ho, -⟩ := mem_ready.1 hj
   have hlt : j < ops.size := (Array.getElem?_eq_some_iff.1 ho).1
   have hm : j ∈ (List.range ops.size).filter fun j => !listed.getD j true := by
    rw [List.mem_filter]
    exact ⟨List.mem_range.2 hlt, by rw [h0]; rfl⟩
   have := List.length_pos_of_mem hm
   omega
  exact ⟨hr, hfin _ _ _ hI hr⟩
 | succ fuel ih =>
  intro listed a w hcnt hI
  refine ⟨fun hr => hfin _ _ _ hI hr, fun i hi => ?_⟩
  obtain ⟨h0, o, ho, -⟩ := mem_ready.1 hi
  have hlt : i < ops.size := (Array.getElem?_eq_some_iff.1 ho).1
  refine wpOp_mono (fun a' w' hI' => ih _ a' w' ?_ hI') (inv_step hc hst hs hI hi)
  have := filter_less (p := fun j => !listed.getD j true) (q := fun j => !(listed.setIfInBounds i true).getD j true) (i := i) (by simp only [h0]; rfl) (by
   have hil : i < listed.size := by rw [hI.sz]; exact hlt
   simp [hil]) (fun j hj => by
   by_cases hij : i = j
   ·subst hij
    exfalso
    have hil : i < listed.size := by rw [hI.sz]; exact hlt
    simp [hil] at hj
   ·rw [getD_set_ne true hij] at hj; exact hj) (List.range ops.size) (List.mem_range.2 hlt)
  omega
theorem region_facts {id : Nat} {w : World} {opl : List Oper} (FL : List (Nat × Fact)) (J : Nat → List Value → World → Prop) (pt : List (List Nat)) (st : List Nat) (js : List (List Nat)) (lm : List Nat) (al : List Nat) {fr : (Nat → Value) → Array Value} (hfr : ∀ u, fillL u (temps FL) t0 = fr u)
  (hm : P.follows .mixedOrders = true) (hchk : chk al opl.toArray pt (temps FL) st js lm = true) (hst : ∀ k l w w', Below w.heap.size w w' → J k l w → J k l w') (hJ : J 0 [] w.drew)
  (hs : StepsOk al P opl.toArray Q FL J js fr df pt st lm opl 0)
  (hend : ∀ u w, J st.length ((js.getD st.length []).map u) w → Facts FL u w (temps FL) → Q .normal ⟨fr u, df⟩ w) : (Code.region id opl.toArray true).wp P Q ⟨t0, df⟩ w := by
 obtain rfl : (fun u => fillL u (temps FL) t0) = fr := funext hfr
 have hc := chk_spec hchk
 refine wp_region_any hm (wpAny_inv (t0 := t0) hc hst hs hend opl.toArray.size _ _ _ ?_ ⟨⟨0, fun d => t0.getD d undef, by rw [fillL_self], ?_, by rw [hc.js0]; exact hJ, Nat.zero_le _, fun m h => by omega, fun m _ _ => none_listed _ _, fun d hd => (by rw [hc.js0] at hd; cases hd), fun d _ hw => (by obtain ⟨j, o', h1, _, _⟩ := hw; rw [none_listed] at h1; cases h1), fun d _ d' _ _ hw => by obtain ⟨j, o', h1, _, _⟩ := hw; rw [none_listed] at h1; cases h1⟩, ?_, ?_, by simp⟩)
 ·exact Nat.le_trans (List.length_filter_le _ _) (by simp)
 ·rintro d ⟨j, o', h1, -, -⟩
  rw [none_listed] at h1; cases h1
 ·intro i hi
  rw [none_listed] at hi; cases hi
 ·intro j oj _ hl
  rw [none_listed] at hl; cases hl
end
end Go.Proofs.Ytocojbkhdijjeaa.AS
namespace Go.Proofs.Ytocojbkhdijjeaa
open Go.ChangeShapes Go.WideShapes Go.ChangeAt Go.WideMaps Go.WideElems Go.RowKit
theorem laid_out : laidOutB Try.prog = true := by kernel_rfl
theorem trodAll_stays {H : Type} {enc : TypeId × Value → H} {P : Program} (hl : laidOutB P = true) {W W' : World} (hb : Below W.heap.size W W') {sp : Nat → Bool} :
  ∀ {ts : List TypeId} {vs : List Value} {ds : List (DataW H)} {ps : List MemPlace}, (ts.all fun t => P.readableRec t && decide (t < P.types.size)) = true → DataW.TrodAll enc P W 0 (fun _ => true) true ts vs ds ps →
   (∀ x ∈ ps, x.block < W.heap.size) → (∀ x ∈ ps, sp x.block = true) → DataW.TrodAll enc P W' 0 sp true ts vs ds ps
 | [], vs, ds, ps, _, h, _, _ => by
  cases vs <;> cases ds <;> simp [DataW.TrodAll] at h ⊢
  exact h
 | t :: ts, vs, ds, ps, ht, h, hlt, hs => by
  obtain ⟨v, vs', d, ds', p, q, rfl, rfl, rfl, h1, h2⟩ := trodAll_cons h
  simp only [List.all_cons, Bool.and_eq_true, decide_eq_true_eq] at ht
  refine trodAll_cons_mk (WideElems.Trod_stays hl ht.1.1 ht.1.2 h1 (fun x hx => hb.same (hlt x (by simp [hx]))) fun x hx => hs x (by simp [hx])) ?_
  exact trodAll_stays hl hb ht.2 h2 (fun x hx => hlt x (by simp [hx])) fun x hx => hs x (by simp [hx])
theorem post_plain {H : Type} {enc : TypeId × Value → H} {P : Program} {f : Func} {s : ChangeSpec} {ap fr ho ag : Bool} {W W' : World} {args : Array Value} {v : Value} {ds gs : List (DataW H)} {before pa pv : List MemPlace}
  (hW : DataW.Whole enc P f.params.toList s.vars ap W args.toList ds gs before)
  (hres : ∀ (b : Nat) (sp : Nat → Bool) (hd : Bool), DataW.TrodAll enc P W' b sp hd f.resultTypes.toList (v.resultList f.resultTypes.size) (s.fn H (ds ++ gs)).results [])
  (hargs : ∀ sp : Nat → Bool, (∀ p ∈ before, sp p.block = true) → DataW.TrodAll enc P W' 0 sp true f.params.toList args.toList (s.fn H (ds ++ gs)).args pa)
  (hvars : ∀ sp : Nat → Bool, (∀ p ∈ before, sp p.block = true) → DataW.TrodVars enc P W' sp s.vars (s.fn H (ds ++ gs)).vars pv)
  (hps : before = pa ++ pv) (hb : Below W.heap.size W W')
  (hok : ∀ (j : Nat) (t : TypeId) (r : Value), f.resultTypes[j]? = some t → (v.resultList f.resultTypes.size)[j]? = some r → Value.okWide P W' .any 0 t r) : s.post enc P f ap fr ho ag W args v W' := by
 have hlt : ∀ p ∈ before, p.block < W.heap.size := fun p hp => hW.lt p hp
 have hin : ∀ p ∈ before, (fun b => decide (b < W.heap.size)) p.block = true := fun p hp => by simpa using hlt p hp
 refine ⟨ds, gs, before, [], pa, pv, hW, hres _ _ _, hargs _ hin, hvars _ hin, World.keptBut_mono (fun p hp => ⟨hp, .inr (List.mem_append.1 (hps ▸ hp))⟩) (hb.frame (· ∈ before)), fun _ => ?_⟩
 obtain ⟨_, _, _, _, _, hz, hn⟩ := hW
 refine ⟨hok, _, _, ([] ++ pa) ++ pv, ⟨[] ++ pa, pv, trodAll_append (hargs _ (fun _ _ => rfl)) (hres _ _ _), hvars _ (fun _ _ => rfl), rfl, fun b off hp => ?_, fun ha => ?_⟩, ?_⟩
 ·have hbe : MemPlace.cell b off ∈ before := by rw [hps]; simpa using hp
  rw [hb.frozen (hlt _ hbe)]
  exact hz b off hbe
 ·have h9 := hn ha
  rw [hps] at h9
  simpa using h9
 ·intro p hp _
  rw [hps, ← List.nil_append pa]
  exact hp
open Go.ChangeShapes Go.WideShapes Go.ChangeAt Go.WideMaps Go.WideElems Go.RowKit Go.Joins Go.Deep
theorem open_ipair {H : Type} {enc : TypeId × Value → H} {P : Program} {w : World} {base b0 : Nat} {sp : Nat → Bool} {held : Bool} {r : Reach} {t e : TypeId} {f0 f1 : Field} {v : Value} {d : DataW H} {p : List MemPlace} (hs : P.underlying t = some (.struct #[f0, f1])) (h0 : f0.type = e) (h1 : f1.type = e) (hone : oneCellFields P #[f0, f1] = true) (hC : P.cellsOf t = 2)
  (he : P.underlying e = some (.int .i64)) (hv : Value.okWide P w r b0 t v) (h : DataW.Trod enc P w base sp held t v d p) :
  ∃ x y, v = .agg #[.int .i64 x, .int .i64 y] ∧ (Lit.int .i64 x).wf = true ∧ (Lit.int .i64 y).wf = true := by
 obtain ⟨v0, v1, y0, y1, n, rfl, _, _, k0, k1⟩ := open_agg2 hs hone hC hv h
 rw [h0] at k0
 rw [h1] at k1
 obtain ⟨x, e0, _, w0⟩ := DataW.trod_int he k0
 obtain ⟨y, e1, _, w1⟩ := DataW.trod_int he k1
 simp at e0 e1
 subst e0 e1
 exact ⟨x, y, rfl, w0, w1⟩
end Go.Proofs.Ytocojbkhdijjeaa
