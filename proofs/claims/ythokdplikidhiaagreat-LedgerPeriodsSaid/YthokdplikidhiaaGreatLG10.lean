/- Contracts of the functions that the statements reach, part 10: what was proved of each, callees first. -/
import Derived.Shelf.SlGeneric
import Derived.Test.YthokdplikidhiaaGreatLG9
namespace Go.Proofs.YthokdplikidhiaaGreat
open Go.RowKit Go.Shelf
theorem Wh.ownFrom {β : Type} (B : Nat) (t : TypeId) (s : Nat) (cs : List Value) : OwnFrom B (fun (_ : β) W => Wh t W s cs) := fun _ W W' row hs hg hr =>
 hs.same (hg.block s hs.lt (fun e => by
  obtain ⟨-, o, ho, hc⟩ := hr s e.symm
  rw [hs.blk] at ho
  injection ho with ho
  rw [← ho] at hc; cases hc))
theorem keeps_below {W W' : World} (h : Below W.heap.size W W') : KeepsOthers W W' := ⟨h.size, fun k _ hk _ => (h.block k (Array.getElem?_eq_some_iff.1 hk).1).trans hk⟩
def lndC (q : LnD) : List Value := [.int .i64 q.1.frm, .int .i64 q.1.tgt, .int .i64 q.1.since, .int .i64 q.2]
set_option maxRecDepth 100000 in
set_option maxHeartbeats 6400000 in
theorem lsum_any (hf : FuncId) (hb : Array Value) (eg : ∀ args w, (callFunc hf args).run Tryz.prog w = .ok (.enter hf args) w) (h : LnD → Bool) (b1 b2 b3 : Nat) (A : Option Addr) (c : Nat) (Xs : List Etl) (e hi : Int) (w : World)
  (hh : ∀ W q, Below w.heap.size w W → Calls Tryz.prog hf (#[lndV q] ++ hb) W fun r W' => r = .returned (.bool (h q)) ∧ Below W.heap.size W W')
  (h1 : Wh 30 w b1 [.slice A Xs.length c]) (h2 : Wh 3 w b2 [.int .i64 e]) (h3 : Wh 3 w b3 [.int .i64 hi])
  (hz : RowAt lyX w A (Xs.map (·.1))) (hzs : EtysK w Xs) (hzn : ∀ p ∈ Xs, p.2.length ≤ 1000) (hl : Xs.length ≤ 100000) :
  Calls Tryz.prog 68 #[.func (.func 99) #[] #[.pointer (some ⟨b1, 0, none⟩), .pointer (some ⟨b2, 0, none⟩), .pointer (some ⟨b3, 0, none⟩)], .func (.func hf) #[] hb] w fun r w' => r = .returned (.int .i64 (wr (sumL h (lnsU Xs e hi)))) ∧ Below w.heap.size w w' := by
 refine (callsIn_wide (n := 6)).1 ?_
 refine callsIn_of_wp_marks Tryz.func68 rfl trivial ?_ rfl
 simp only [Tryz.ntmps68, List.size_toArray, List.length_cons, List.length_nil, Nat.reduceAdd, Nat.reduceSub, Array.replicate_succ, Array.replicate_zero, List.push_toArray, List.append_toArray, List.nil_append, List.cons_append]
 gi_wp2
 obtain ⟨W0, hW0⟩ : ∃ W0, (w.alloc (.cells #[.func (.func hf) #[] hb] 113)).alloc (.cells #[.int .i64 0] 3) = W0 := ⟨_, rfl⟩
 have bH : Boxed W0 w.heap.size 113 (.func (.func hf) #[] hb) := by rw [← hW0]; exact (Boxed.new w _ _).alloc _
 have bN : Boxed W0 (w.heap.size + 1) 3 (.int .i64 0) := by
  rw [← hW0]
  have h9 := Boxed.new (w.alloc (.cells #[.func (.func hf) #[] hb] 113)) 3 (.int .i64 0)
  rw [World.size_alloc] at h9
  exact h9
 have hB0 : Below w.heap.size w W0 := by rw [← hW0]; exact ((Below.refl _ w).alloc (Nat.le_refl _) _).alloc (by simp) _
 have hsz : W0.heap.size = w.heap.size + 2 := by rw [← hW0]; simp
 rw [hW0]
 clear hW0
 refine wpIn_rangeFunc_ownH rfl (by omega) (gf := 99) (lb := #[.pointer (some ⟨b1, 0, none⟩), .pointer (some ⟨b2, 0, none⟩), .pointer (some ⟨b3, 0, none⟩)]) rfl trivial (enters_of Tryz.func99 (by kernel_rfl) rfl)
  (encs := fun q : LnD => #[lndV q]) (Kp := Kp2 w.heap.size (w.heap.size + 1)) (S := fun ys => ys = lnsU Xs e hi) (Sp := fun _ => True) (N := (lnsU Xs e hi).length) (w0 := W0)
  (fun l J Jx W hW hJ _ hY h0 => lnu1_in _ (by omega) l b1 b2 b3 (w.heap.size + 1) w.heap.size A c Xs e hi w W rfl J Jx hY (hB0.trans (hW.mono hB0.size)) (by have := hW.size; omega) hJ h1 h2 h3 hz hzs hzn hl h0)
  (fun h k => h.trans k) (fun W l o o' hl9 ho hc hwk => ⟨belowK_b (w := W0) hB0.size W l o o' hl9 ho hc hwk, CK.put o' ho hc, by simp [World.putObj]⟩) (Below.refl _ _) (fun _ => rfl)
  (fun pre W => (Boxed W (w.heap.size + 1) 3 (.int .i64 (wrap64 (sumL h pre))) ∧ Boxed W w.heap.size 113 (.func (.func hf) #[] hb)) ∧ Below w.heap.size w W)
  (fun _ _ _ => False)
  (OwnFrom.and (OwnFrom.and (Own.from (boxed_own _ _ _) _) (Own.from (boxed_own _ _ _) _)) (ownFrom_below (Nat.le_refl _) hB0.size))
  (fun _ _ _ _ _ hs _ _ => hs)
  ⟨⟨by rw [sumL_nil, show wrap64 0 = 0 from wr_zero]; exact bN, bH⟩, hB0⟩
  (fun x a' W => ∃ Bx, w.heap.size + 1 < Bx ∧ Wh 112 W Bx (lndC x) ∧ a' = { tmps := #[.func (.func 99) #[] #[.pointer (some ⟨b1, 0, none⟩), .pointer (some ⟨b2, 0, none⟩), .pointer (some ⟨b3, 0, none⟩)], .func (.func hf) #[] hb, undef, .pointer (some ⟨w.heap.size, 0, none⟩), .int .i64 0, .pointer (some ⟨w.heap.size + 1, 0, none⟩), .pointer (some ⟨Bx, 0, none⟩), .func (.func 99) #[] #[.pointer (some ⟨b1, 0, none⟩), .pointer (some ⟨b2, 0, none⟩), .pointer (some ⟨b3, 0, none⟩)], lndV x, undef, undef, undef, undef, undef, undef, undef, undef, undef], defers := [] })
  (fun x a' _ X Y row hs hg hr => by obtain ⟨Bx, h1, h2, h3⟩ := hs; exact ⟨Bx, h1, Wh.ownFrom (β := Unit) _ _ _ _ () X Y row h2 hg hr, h3⟩)
  ?assign ?body ?done ?stop
 case assign =>
  rintro l pre x W K ⟨⟨bS1, bB1⟩, hB1⟩ hK
  unfold lndV
  gi_wp2_with gi_round_op_a
  exact hK _ _ ((KeepsOthers.alloc _ _).from _) ⟨(Below.refl _ W).alloc hB1.size _, CK.below (below_alloc_new _), by simp⟩ ⟨⟨bS1.alloc _, bB1.alloc _⟩, hB1.alloc hB1.size _⟩ ⟨W.heap.size, by have := bS1.lt; omega, Wh.new W _ (lndC x), rfl⟩
 case body =>
  rintro l pre x a' W hl9 ⟨r, hr⟩ ⟨⟨bS1, bB1⟩, hB1⟩ ⟨Bx, hBx, bX, rfl⟩ hlt
  have cH := bB1.cell
  have cS := bS1.cell
  have fS := bS1.frozen
  have c0 := bX.at 0 _ rfl
  have c1 := bX.at 1 _ rfl
  have c2 := bX.at 2 _ rfl
  have c3 := bX.at 3 _ rfl
  have HC := Lib.hid (fun k => (callsIn_wide (n := k)).2 (hh W x hB1))
  unfold lndV at HC ⊢
  gi_wp2_with gi_round_op_a
  refine ⟨trivial, ?_⟩
  refine (CallsIn.inRound l (HC.out _)).mono ?_
  rintro r9 W9 ⟨rfl, hb9⟩
  have bS9 : Boxed W9 (w.heap.size + 1) 3 (.int .i64 (wrap64 (sumL h pre))) := (hb9.block _ bS1.lt).trans bS1
  have bH9 : Boxed W9 w.heap.size 113 (.func (.func hf) #[] hb) := (hb9.block _ bB1.lt).trans bB1
  have bX9 := bX.up hb9
  have hB9 : Below w.heap.size w W9 := hB1.trans (hb9.mono hB1.size)
  have hK9 := keeps_below hb9
  have hC9 := CK.below (b := w.heap.size + 1) hb9
  have hn9 : Below w.heap.size W W9 := hb9.mono hB1.size
  have HB9 := Lib.hid hb9
  clear cH cS fS c0 c1 c2 c3 hb9
  have cS := bS9.cell
  have fS := bS9.frozen
  have c1 := bX9.at 1 _ rfl
  cases hx : h x
  ·gi_wp2_with gi_round_op_a
   exact ⟨hK9.from _, ⟨hn9, hC9, HB9.out.size⟩, ⟨⟨by rw [show wrap64 (sumL h (pre ++ [x])) = wrap64 (sumL h pre) from sumL_no hx]; exact bS9, bH9⟩, hB9⟩⟩
  ·gi_wp2_with gi_round_op_a
   exact ⟨(hK9.trans (KeepsOthers.setCell _ _ _)).from _, ⟨hn9.setCell (p := ⟨w.heap.size + 1, 0, none⟩) (by simp) _, hC9.trans (CK.only (Only.setCell (S := fun k => k = w.heap.size + 1) W9 (a := ⟨w.heap.size + 1, 0, none⟩) rfl _)), by rw [World.size_setCell]; exact HB9.out.size⟩,
    ⟨⟨by rw [show wrap64 (sumL h (pre ++ [x])) = wrap64 (wrap64 (sumL h pre) + x.1.tgt) from sumL_yes hx]; exact bS9.set _, bH9.other (by omega) _⟩, hB9.setCell (p := ⟨w.heap.size + 1, 0, none⟩) (by simp) _⟩⟩
 case done =>
  rintro D zs W hD rfl ⟨⟨bS1, bB1⟩, hB1⟩ hK
  have cS := bS1.cell
  gi_wp2
  refine ⟨by simp, .inl ⟨_, _, rfl, run_takeDeferred hK, ?_⟩⟩
  exact ⟨_, results_tmp rfl _ _ _, rfl, hB1.trans (belowK_b (w := w) (Nat.le_refl _) W D _ _ (by omega) hK rfl rfl)⟩
 case stop =>
  rintro D c pre W _ _ h _
  exact h.elim
theorem lndV_is (q : LnD) : lndV q = .agg (lndC q).toArray := rfl
set_option maxRecDepth 100000 in
theorem lbal1_any (q : LnD) (b1 : Nat) (a : Int) (W : World) (h1 : Wh 3 W b1 [.int .i64 a]) : Calls Tryz.prog 96 #[lndV q, .pointer (some ⟨b1, 0, none⟩)] W fun r W' => r = .returned (.bool (lcB a q)) ∧ Below W.heap.size W W' := by
 obtain ⟨xs, hxs⟩ : ∃ xs, (lndC q).toArray = xs := ⟨_, rfl⟩
 rw [lndV_is, hxs]
 obtain ⟨s0, hs0⟩ : ∃ s0, W.heap.size = s0 := ⟨_, rfl⟩
 obtain ⟨w2, hw2⟩ : ∃ w2, W.alloc (.cells xs 112) = w2 := ⟨_, rfl⟩
 have HXB : Wh 112 w2 s0 (lndC q) := by rw [← hw2, ← hs0, ← hxs]; exact Wh.new W _ _
 have HB2 : Hid (Below W.heap.size W w2) := Lib.hid (by rw [← hw2]; exact below_alloc_new _)
 have HS0 := Lib.hid hs0
 have p0 := HXB.at 0 _ rfl
 have p1 := HXB.at 1 _ rfl
 have p3 := HXB.at 3 _ rfl
 have k1 := (h1.up HB2.out).at 0 _ rfl
 clear hxs HXB h1
 unfold lcB
 by_cases he : q.1.frm = a
 ·have e1 : (q.1.frm == a) = true := by simp [he]
  rw [decide_eq_true he]
  clear he
  go_enter Tryz.func96, Tryz.ntmps96
  go_wp2_with fail
  go_ret
  exact ⟨by first | rfl | simp, by have h9 := HB2.out; first | exact h9 | (rw [← HS0.out]; exact h9)⟩
 ·have e1 : (q.1.frm == a) = false := by simp [he]
  rw [decide_eq_false he]
  clear he
  go_enter Tryz.func96, Tryz.ntmps96
  go_wp2_with fail
  go_ret
  exact ⟨by first | rfl | simp, by have h9 := HB2.out; first | exact h9 | (rw [← HS0.out]; exact h9)⟩
set_option maxRecDepth 100000 in
theorem ltur1_any (q : LnD) (b1 : Nat) (a : Int) (b2 : Nat) (lo : Int) (W : World) (h1 : Wh 3 W b1 [.int .i64 a]) (h2 : Wh 3 W b2 [.int .i64 lo]) : Calls Tryz.prog 69 #[lndV q, .pointer (some ⟨b1, 0, none⟩), .pointer (some ⟨b2, 0, none⟩)] W fun r W' => r = .returned (.bool (lcD a lo q)) ∧ Below W.heap.size W W' := by
 obtain ⟨xs, hxs⟩ : ∃ xs, (lndC q).toArray = xs := ⟨_, rfl⟩
 rw [lndV_is, hxs]
 obtain ⟨s0, hs0⟩ : ∃ s0, W.heap.size = s0 := ⟨_, rfl⟩
 obtain ⟨w2, hw2⟩ : ∃ w2, W.alloc (.cells xs 112) = w2 := ⟨_, rfl⟩
 have HXB : Wh 112 w2 s0 (lndC q) := by rw [← hw2, ← hs0, ← hxs]; exact Wh.new W _ _
 have HB2 : Hid (Below W.heap.size W w2) := Lib.hid (by rw [← hw2]; exact below_alloc_new _)
 have HS0 := Lib.hid hs0
 have p0 := HXB.at 0 _ rfl
 have p1 := HXB.at 1 _ rfl
 have p3 := HXB.at 3 _ rfl
 have k1 := (h1.up HB2.out).at 0 _ rfl
 have k2 := (h2.up HB2.out).at 0 _ rfl
 clear hxs HXB h1 h2
 unfold lcD
 by_cases he : q.1.frm = a
 ·have e1 : (q.1.frm == a) = true := by simp [he]
  rw [decide_eq_true he]
  by_cases hl : lo ≤ q.2
  ·have l1 : decide (q.2 ≥ lo) = true := decide_eq_true hl
   have l2 : decide (lo ≤ q.2) = true := decide_eq_true hl
   rw [l2]
   by_cases ht : 0 < q.1.tgt
   ·have t0 : decide (q.1.tgt > 0) = true := decide_eq_true ht
    have t1 : decide (0 < q.1.tgt) = true := decide_eq_true ht
    rw [decide_eq_true ht]
    clear he hl ht
    go_enter Tryz.func69, Tryz.ntmps69
    go_wp2_with fail
    go_ret
    exact ⟨by first | rfl | simp, by have h9 := HB2.out; first | exact h9 | (rw [← HS0.out]; exact h9)⟩
   ·have t0 : decide (q.1.tgt > 0) = false := decide_eq_false ht
    have t1 : decide (0 < q.1.tgt) = false := decide_eq_false ht
    rw [decide_eq_false ht]
    clear he hl ht
    go_enter Tryz.func69, Tryz.ntmps69
    go_wp2_with fail
    go_ret
    exact ⟨by first | rfl | simp, by have h9 := HB2.out; first | exact h9 | (rw [← HS0.out]; exact h9)⟩
  ·have l1 : decide (q.2 ≥ lo) = false := decide_eq_false hl
   have l2 : decide (lo ≤ q.2) = false := decide_eq_false hl
   rw [l2]
   clear he hl
   go_enter Tryz.func69, Tryz.ntmps69
   go_wp2_with fail
   go_ret
   exact ⟨by first | rfl | simp, by have h9 := HB2.out; first | exact h9 | (rw [← HS0.out]; exact h9)⟩
 ·have e1 : (q.1.frm == a) = false := by simp [he]
  rw [decide_eq_false he]
  clear he
  go_enter Tryz.func69, Tryz.ntmps69
  go_wp2_with fail
  go_ret
  exact ⟨by first | rfl | simp, by have h9 := HB2.out; first | exact h9 | (rw [← HS0.out]; exact h9)⟩
set_option maxRecDepth 100000 in
theorem ltur2_any (q : LnD) (b1 : Nat) (a : Int) (b2 : Nat) (lo : Int) (W : World) (h1 : Wh 3 W b1 [.int .i64 a]) (h2 : Wh 3 W b2 [.int .i64 lo]) : Calls Tryz.prog 70 #[lndV q, .pointer (some ⟨b1, 0, none⟩), .pointer (some ⟨b2, 0, none⟩)] W fun r W' => r = .returned (.bool (lcC a lo q)) ∧ Below W.heap.size W W' := by
 obtain ⟨xs, hxs⟩ : ∃ xs, (lndC q).toArray = xs := ⟨_, rfl⟩
 rw [lndV_is, hxs]
 obtain ⟨s0, hs0⟩ : ∃ s0, W.heap.size = s0 := ⟨_, rfl⟩
 obtain ⟨w2, hw2⟩ : ∃ w2, W.alloc (.cells xs 112) = w2 := ⟨_, rfl⟩
 have HXB : Wh 112 w2 s0 (lndC q) := by rw [← hw2, ← hs0, ← hxs]; exact Wh.new W _ _
 have HB2 : Hid (Below W.heap.size W w2) := Lib.hid (by rw [← hw2]; exact below_alloc_new _)
 have HS0 := Lib.hid hs0
 have p0 := HXB.at 0 _ rfl
 have p1 := HXB.at 1 _ rfl
 have p3 := HXB.at 3 _ rfl
 have k1 := (h1.up HB2.out).at 0 _ rfl
 have k2 := (h2.up HB2.out).at 0 _ rfl
 clear hxs HXB h1 h2
 unfold lcC
 by_cases he : q.1.frm = a
 ·have e1 : (q.1.frm == a) = true := by simp [he]
  rw [decide_eq_true he]
  by_cases hl : lo ≤ q.2
  ·have l1 : decide (q.2 ≥ lo) = true := decide_eq_true hl
   have l2 : decide (lo ≤ q.2) = true := decide_eq_true hl
   rw [l2]
   by_cases ht : q.1.tgt < 0
   ·have t0 : decide (q.1.tgt < 0) = true := decide_eq_true ht
    rw [decide_eq_true ht]
    clear he hl ht
    go_enter Tryz.func70, Tryz.ntmps70
    go_wp2_with fail
    go_ret
    exact ⟨by first | rfl | simp, by have h9 := HB2.out; first | exact h9 | (rw [← HS0.out]; exact h9)⟩
   ·have t0 : decide (q.1.tgt < 0) = false := decide_eq_false ht
    rw [decide_eq_false ht]
    clear he hl ht
    go_enter Tryz.func70, Tryz.ntmps70
    go_wp2_with fail
    go_ret
    exact ⟨by first | rfl | simp, by have h9 := HB2.out; first | exact h9 | (rw [← HS0.out]; exact h9)⟩
  ·have l1 : decide (q.2 ≥ lo) = false := decide_eq_false hl
   have l2 : decide (lo ≤ q.2) = false := decide_eq_false hl
   rw [l2]
   clear he hl
   go_enter Tryz.func70, Tryz.ntmps70
   go_wp2_with fail
   go_ret
   exact ⟨by first | rfl | simp, by have h9 := HB2.out; first | exact h9 | (rw [← HS0.out]; exact h9)⟩
 ·have e1 : (q.1.frm == a) = false := by simp [he]
  rw [decide_eq_false he]
  clear he
  go_enter Tryz.func70, Tryz.ntmps70
  go_wp2_with fail
  go_ret
  exact ⟨by first | rfl | simp, by have h9 := HB2.out; first | exact h9 | (rw [← HS0.out]; exact h9)⟩
def lnuV (b1 b2 b3 : Nat) : Value := .func (.func 99) #[] #[.pointer (some ⟨b1, 0, none⟩), .pointer (some ⟨b2, 0, none⟩), .pointer (some ⟨b3, 0, none⟩)]
def LnuQ (A : Option Addr) (n c : Nat) (e hi : Int) (r : Ending) (W : World) : Prop := ∃ b1 b2 b3, r = .returned (lnuV b1 b2 b3) ∧ Wh 30 W b1 [.slice A n c] ∧ Wh 3 W b2 [.int .i64 e] ∧ Wh 3 W b3 [.int .i64 hi]
set_option maxRecDepth 100000 in
theorem lnu_any (A : Option Addr) (n c : Nat) (e hi : Int) (w : World) : Calls Tryz.prog 67 #[.slice A n c, .int .i64 e, .int .i64 hi] w fun r w' => LnuQ A n c e hi r w' ∧ Below w.heap.size w w' := by
 have H1 := Wh.new w 30 [.slice A n c]
 have H2 := Wh.new (w.alloc (.cells #[.slice A n c] 30)) 3 [.int .i64 e]
 have H3 := Wh.new ((w.alloc (.cells #[.slice A n c] 30)).alloc (.cells #[.int .i64 e] 3)) 3 [.int .i64 hi]
 simp only [World.size_alloc] at H2 H3
 have HB := below_new (below_new (below_alloc_new (w := w) (.cells #[.slice A n c] 30)) (.cells #[.int .i64 e] 3)) (.cells #[.int .i64 hi] 3)
 have HQ : Hid (∀ r, r = .returned (lnuV w.heap.size (w.heap.size + 1) (w.heap.size + 1 + 1)) → LnuQ A n c e hi r (((w.alloc (.cells #[.slice A n c] 30)).alloc (.cells #[.int .i64 e] 3)).alloc (.cells #[.int .i64 hi] 3))) := Lib.hid (fun r h => ⟨_, _, _, h, (H1.up (below_alloc_new _)).up (below_alloc_new _), H2.up (below_alloc_new _), H3⟩)
 have HB9 := Lib.hid HB
 clear H1 H2 H3 HB
 go_enter Tryz.func67, Tryz.ntmps67
 go_wp2_with fail
 go_ret
 exact ⟨HQ.out _ rfl, HB9.out⟩
set_option maxRecDepth 100000 in
set_option maxHeartbeats 3200000 in
theorem lbal_any (A : Option Addr) (c : Nat) (Xs : List Etl) (e a hi : Int) (w : World) (hz : RowAt lyX w A (Xs.map (·.1))) (hzs : EtysK w Xs) (hzn : ∀ p ∈ Xs, p.2.length ≤ 1000) (hl : Xs.length ≤ 100000) :
  Calls Tryz.prog 63 #[.slice A Xs.length c, .int .i64 e, .int .i64 a, .int .i64 hi] w fun r w' => r = .returned (.int .i64 (wr (balS Xs e a hi))) ∧ Below w.heap.size w w' := by
 obtain ⟨s0, hs0⟩ : ∃ s0, w.heap.size = s0 := ⟨_, rfl⟩
 obtain ⟨w2, hw2⟩ : ∃ w2, w.alloc (.cells #[.int .i64 a] 3) = w2 := ⟨_, rfl⟩
 have HAB : Hid (Wh 3 w2 s0 [.int .i64 a]) := Lib.hid (by rw [← hw2, ← hs0]; exact Wh.new w _ _)
 have HB2 : Hid (Below w.heap.size w w2) := Lib.hid (by rw [← hw2]; exact below_alloc_new _)
 have HSU : Hid (∀ W b1 b2 b3, Below w2.heap.size w2 W → Wh 30 W b1 [.slice A Xs.length c] → Wh 3 W b2 [.int .i64 e] → Wh 3 W b3 [.int .i64 hi] → Calls Tryz.prog 68 #[lnuV b1 b2 b3, .func (.func 96) #[] #[.pointer (some ⟨s0, 0, none⟩)]] W fun r w' => r = .returned (.int .i64 (wrap64 (balS Xs e a hi))) ∧ Below W.heap.size W w') := Lib.hid (fun W b1 b2 b3 hb h1 h2 h3 =>
  lsum_any 96 #[.pointer (some ⟨s0, 0, none⟩)] (enters_of Tryz.func96 (by kernel_rfl) rfl) (lcB a) b1 b2 b3 A c Xs e hi W (fun W2 q h => lbal1_any q s0 a W2 ((HAB.out.up hb).up h)) h1 h2 h3 ((hz.up HB2.out).up hb) ((hzs.up HB2.out).up hb) hzn hl)
 obtain ⟨n, hn⟩ : ∃ n, Xs.length = n := ⟨_, rfl⟩
 rw [hn] at HSU ⊢
 have HLU := Lib.hid (fun W => lnu_any A n c e hi W)
 have HS0 := Lib.hid hs0
 obtain ⟨BV, hBV⟩ : ∃ BV, wrap64 (balS Xs e a hi) = BV := ⟨_, rfl⟩
 rw [hBV] at HSU
 rw [show wr (balS Xs e a hi) = BV from hBV]
 clear hz hzs hzn hl hn hBV
 go_enter Tryz.func63, Tryz.ntmps63
 go_wp2_with (first
  | (go_at_call 67; refine (HLU.out _).mono ?_; rintro r w3 ⟨⟨b1, b2, b3, rfl, k1, k2, k3⟩, hb⟩; have HK1 := Lib.hid k1; have HK2 := Lib.hid k2; have HK3 := Lib.hid k3; have HB3 := Lib.hid hb; clear k1 k2 k3 hb)
  | (go_at_call 68; refine (HSU.out _ _ _ _ HB3.out HK1.out HK2.out HK3.out).mono ?_; rintro r w4 ⟨rfl, hb⟩; have HB4 := Lib.hid (HB3.out.trans (hb.mono HB3.out.size)); clear hb))
 go_ret
 exact ⟨rfl, by have h9 := HB2.out.trans (HB4.out.mono HB2.out.size); first | exact h9 | (rw [← HS0.out]; exact h9)⟩
open Go.RowKit
def pst (ck : Etl → Int) (Xs : List Etl) (i : Nat) : Int := match Xs[i]? with | some p => postE (ck p) ((Xs.take i).map pe) (pe p) | none => 0
def vldB (ck : Etl → Int) (Xs : List Etl) : Bool := allTo (fun i => decide (pst ck Xs i = 0)) Xs.length
theorem vldB_is {ck : Etl → Int} {Xs : List Etl} : vldB ck Xs = true ↔ ∀ i, i < Xs.length → pst ck Xs i = 0 := by
 unfold vldB
 rw [allTo_is]
 simp
theorem vld_ck {ck : Etl → Int} {Xs : List Etl} (h : vldB ck Xs = true) : ∀ p ∈ Xs, ck p = 0 := by
 intro p hp
 obtain ⟨i, hi, rfl⟩ := List.getElem_of_mem hp
 have h1 := vldB_is.1 h i hi
 unfold pst at h1
 rw [List.getElem?_eq_getElem hi] at h1
 exact (fst4_zero h1).1
def rpFE (x y : Ety) (bb off n c k s0 : Nat) (_ob : Bool) : List (Nat × AK.Fact (Below0)) := [(45, AK.Fact.is (.slice (some ⟨bb, off, none⟩) n c)), (46, AK.Fact.is (.int .i64 (k : Int))), (47, AK.Fact.is (.pointer (some ⟨bb, off + k * 7, none⟩))), (48, AK.Fact.is (.pointer (some ⟨bb, off + k * 7 + 1, none⟩))), (49, AK.Fact.is (.int .i64 y.ent)), (50, AK.Fact.is (.pointer (some ⟨s0 + 1, 1, none⟩))), (51, AK.Fact.is (.int .i64 x.ent)), (52, AK.Fact.is (.bool true)), (53, AK.Fact.is (.bool true)), (54, AK.Fact.is (undef)), (55, AK.Fact.is (undef)), (56, AK.Fact.is (undef)), (57, AK.Fact.is (undef)), (58, AK.Fact.is (undef)), (59, AK.Fact.is (undef)), (60, AK.Fact.is (undef)), (61, AK.Fact.is (undef)), (62, AK.Fact.is (.bool true)), (63, AK.Fact.is (.bool true)), (64, AK.Fact.is (undef)), (65, AK.Fact.is (undef)), (66, AK.Fact.is (undef)), (67, AK.Fact.is (undef)), (68, AK.Fact.is (undef)), (69, AK.Fact.is (undef)), (70, AK.Fact.is (undef)), (71, AK.Fact.is (undef)), (72, AK.Fact.is (undef)), (73, AK.Fact.is (.bool true)), (44, AK.Fact.is (.bool true))]
def rpFD (x y : Ety) (bb off n c k s0 : Nat) (_ob : Bool) : List (Nat × AK.Fact (Below0)) := [(45, AK.Fact.is (.slice (some ⟨bb, off, none⟩) n c)), (46, AK.Fact.is (.int .i64 (k : Int))), (47, AK.Fact.is (.pointer (some ⟨bb, off + k * 7, none⟩))), (48, AK.Fact.is (.pointer (some ⟨bb, off + k * 7 + 1, none⟩))), (49, AK.Fact.is (.int .i64 y.ent)), (50, AK.Fact.is (.pointer (some ⟨s0 + 1, 1, none⟩))), (51, AK.Fact.is (.int .i64 x.ent)), (52, AK.Fact.is (.bool false)), (53, AK.Fact.is (.bool false)), (54, AK.Fact.is (.slice (some ⟨bb, off, none⟩) n c)), (55, AK.Fact.is (.int .i64 (k : Int))), (56, AK.Fact.is (.pointer (some ⟨bb, off + k * 7, none⟩))), (57, AK.Fact.is (.pointer (some ⟨bb, off + k * 7 + 2, none⟩))), (58, AK.Fact.is (.int .i64 y.day)), (59, AK.Fact.is (.pointer (some ⟨s0 + 1, 2, none⟩))), (60, AK.Fact.is (.int .i64 x.day)), (61, AK.Fact.is (.bool true)), (62, AK.Fact.is (.bool true)), (63, AK.Fact.is (.bool true)), (64, AK.Fact.is (undef)), (65, AK.Fact.is (undef)), (66, AK.Fact.is (undef)), (67, AK.Fact.is (undef)), (68, AK.Fact.is (undef)), (69, AK.Fact.is (undef)), (70, AK.Fact.is (undef)), (71, AK.Fact.is (undef)), (72, AK.Fact.is (undef)), (73, AK.Fact.is (.bool true)), (44, AK.Fact.is (.bool true))]
def rpFO (x y : Ety) (bb off n c k s0 : Nat) (ob : Bool) : List (Nat × AK.Fact (Below0)) := [(45, AK.Fact.is (.slice (some ⟨bb, off, none⟩) n c)), (46, AK.Fact.is (.int .i64 (k : Int))), (47, AK.Fact.is (.pointer (some ⟨bb, off + k * 7, none⟩))), (48, AK.Fact.is (.pointer (some ⟨bb, off + k * 7 + 1, none⟩))), (49, AK.Fact.is (.int .i64 y.ent)), (50, AK.Fact.is (.pointer (some ⟨s0 + 1, 1, none⟩))), (51, AK.Fact.is (.int .i64 x.ent)), (52, AK.Fact.is (.bool false)), (53, AK.Fact.is (.bool false)), (54, AK.Fact.is (.slice (some ⟨bb, off, none⟩) n c)), (55, AK.Fact.is (.int .i64 (k : Int))), (56, AK.Fact.is (.pointer (some ⟨bb, off + k * 7, none⟩))), (57, AK.Fact.is (.pointer (some ⟨bb, off + k * 7 + 2, none⟩))), (58, AK.Fact.is (.int .i64 y.day)), (59, AK.Fact.is (.pointer (some ⟨s0 + 1, 2, none⟩))), (60, AK.Fact.is (.int .i64 x.day)), (61, AK.Fact.is (.bool false)), (62, AK.Fact.is (.bool false)), (63, AK.Fact.is (.bool false)), (64, AK.Fact.is (.pointer (some ⟨s0 + 1, 6, none⟩))), (65, AK.Fact.is (.slice x.A x.n x.c)), (66, AK.Fact.is (.slice (some ⟨bb, off, none⟩) n c)), (67, AK.Fact.is (.int .i64 (k : Int))), (68, AK.Fact.is (.pointer (some ⟨bb, off + k * 7, none⟩))), (69, AK.Fact.is (.pointer (some ⟨bb, off + k * 7 + 6, none⟩))), (70, AK.Fact.is (.slice y.A y.n y.c)), (71, AK.Fact.is (.bool ob)), (72, AK.Fact.is (.bool (!ob))), (73, AK.Fact.is (.bool (!ob))), (44, AK.Fact.is (.bool (!ob)))]
theorem getP_neg {Es : List PE} {id : Int} (h : getP Es id < 0) : ¬ idxP Es id < Es.length := fun h1 => by unfold getP at h; rw [if_pos h1] at h; omega
theorem getP_pos {Es : List PE} {id : Int} (h : ¬ getP Es id < 0) : idxP Es id < Es.length ∧ getP Es id = (idxP Es id : Nat) := by
 unfold getP at h ⊢
 by_cases h1 : idxP Es id < Es.length
 ·rw [if_pos h1]; exact ⟨h1, rfl⟩
 ·rw [if_neg h1] at h; exact absurd (by omega) h
theorem rvE_at {Es : List PE} {x e : PE} (h : x.kind = 3) (he : Es[idxP Es x.of_]? = some e) : rvE Es x = if (decide (e.kind = 3) || decide (revP Es x.of_ ≠ 0)) = true then 7 else if (decide (e.ent ≠ x.ent) || (decide (x.day < e.day) || !oppB x.ls e.ls)) = true then 18 else 0 := by
 unfold rvE
 rw [if_pos h, he]
theorem rvE_at0 {Es : List PE} {x : PE} (h : x.kind = 3) (he : ¬ idxP Es x.of_ < Es.length) : rvE Es x = 8 := by
 unfold rvE
 rw [if_pos h, List.getElem?_eq_none (by omega)]
set_option maxRecDepth 100000 in
set_option maxHeartbeats 12800000 in
theorem r12post_any (g : Grp) (L : List Acc) (G : List Ent) (A : Option Addr) (c : Nat) (Xs : List Etl) (x : Ety) (X : List Lnk) (w : World) (hk : GrK w g L G) (hs : Sm g G) (hw : GrW g L G) (hz : RowAt lyX w A (Xs.map (·.1))) (hzs : EtysK w Xs) (hzn : ∀ p ∈ Xs, p.2.length ≤ 1000) (hl : Xs.length ≤ 100000) (hx : EtyK w x X) (hxn : x.n ≤ 1000) (ht : x.txt.size ≤ maxLen) :
  Calls Tryz.prog 28 #[grpV g, .slice A Xs.length c, etyV x] w fun e w' => e = .returned (.int .i64 (postE (rchkN (shpB (grpR g L G) g x X) (acB (G.getD x.ent.toNat ent0).L X) (rtlN g x X)) (Xs.map pe) (pe (x, X)))) ∧ Below w.heap.size w w' := by
 obtain ⟨GV, hGV⟩ : ∃ GV, GV = grpV g := ⟨_, rfl⟩
 obtain ⟨XV, hXV⟩ : ∃ XV, XV = etyV x := ⟨_, rfl⟩
 have HCK := Lib.hid (fun W (h : GrK W g L G) (h2 : EtyK W x X) => ercheck_any g x X L G W h hs hw h2 hxn ht)
 rw [← hGV, ← hXV] at HCK
 generalize rchkN (shpB (grpR g L G) g x X) (acB (G.getD x.ent.toNat ent0).L X) (rtlN g x X) = cc at *
 have HG1 := Lib.hid (fun W (h : RowAt lyX W A (Xs.map (·.1))) => r12get_any A c Xs x.id W h hl)
 have HG2 := Lib.hid (fun W (h : RowAt lyX W A (Xs.map (·.1))) => r12get_any A c Xs x.of_ W h hl)
 have HRV := Lib.hid (fun W (h : RowAt lyX W A (Xs.map (·.1))) => r12rev_any A c Xs x.of_ W h hl)
 obtain ⟨n, hn⟩ : ∃ n, Xs.length = n := ⟨_, rfl⟩
 have hEn : (Xs.map pe).length = n := by rw [List.length_map]; exact hn
 rw [hn] at HG1 HG2 HRV hl ⊢
 rw [grpV_is]
 obtain ⟨gs, hgs⟩ : ∃ gs, (grpC g).toArray = gs := ⟨_, rfl⟩
 obtain ⟨xs, hxs⟩ : ∃ xs, (etyC x).toArray = xs := ⟨_, rfl⟩
 have hxV : etyV x = .agg xs := by rw [etyV_is, hxs]
 rw [hgs, hxV]
 obtain ⟨s0, hs0⟩ : ∃ s0, w.heap.size = s0 := ⟨_, rfl⟩
 obtain ⟨w2, hw2⟩ : ∃ w2, (w.alloc (.cells gs 29)).alloc (.cells xs 46) = w2 := ⟨_, rfl⟩
 have HGB : Hid (Wh 29 w2 s0 (grpC g)) := Lib.hid (by rw [← hw2, ← hgs, ← hs0]; exact (Wh.new w _ _).up (below_alloc_new _))
 have HXB : Hid (Wh 46 w2 (s0 + 1) (etyC x)) := Lib.hid (by
  rw [← hw2, ← hxs, ← hs0]
  have h9 := Wh.new (w.alloc (.cells gs 29)) 46 (etyC x)
  rw [World.size_alloc] at h9
  exact h9)
 have HB2 : Hid (Below w.heap.size w w2) := Lib.hid (by rw [← hw2]; exact below_new (below_alloc_new _) _)
 have HS0 := Lib.hid hs0
 have HK2 := Lib.hid (hk.up HB2.out)
 have HX2 := Lib.hid (hx.up HB2.out)
 have HZ2 := Lib.hid (hz.up HB2.out)
 have HZS2 := Lib.hid (hzs.up HB2.out)
 have HLG : Hid ((Instr.loadAt 29 (.pointer (some ⟨s0, 0, none⟩))).run Tryz.prog w2 = .ok GV w2) := Lib.hid (by rw [hGV, grpV_is]; exact HGB.out.rg.load 0 29 (grpC g) rfl _ Tryz.underlying29 rfl (by kernel_rfl))
 have HLX : Hid ((Instr.loadAt 46 (.pointer (some ⟨s0 + 1, 0, none⟩))).run Tryz.prog w2 = .ok XV w2) := Lib.hid (by rw [hXV, etyV_is]; exact HXB.out.rg.load 0 46 (etyC x) rfl _ Tryz.underlying46 rfl (by kernel_rfl))
 have HXN := Lib.hid hxn
 have HEN := Lib.hid hEn
 have HNN := Lib.hid hn
 have HZN := Lib.hid hzn
 have hpid : (pe (x, X)).id = x.id := rfl
 have hpof : (pe (x, X)).of_ = x.of_ := rfl
 have hpk : (pe (x, X)).kind = x.kind := rfl
 obtain ⟨p, hp⟩ : ∃ p, pe (x, X) = p := ⟨_, rfl⟩
 have HP := Lib.hid hp
 rw [hp] at hpid hpof hpk ⊢
 have hPE : postE cc (Xs.map pe) p = fst4 cc (if getP (Xs.map pe) x.id < 0 then 0 else 9) (rvE (Xs.map pe) p) (if 2000 ≤ n then 6 else 0) := by
  unfold postE
  rw [hEn, hpid]
  congr 1
  unfold getP
  rw [hEn]
  by_cases h : idxP (Xs.map pe) x.id < n
  ·rw [if_pos h, if_pos h, if_neg (by omega)]
  ·rw [if_neg h, if_neg h, if_pos (by omega)]
 rw [hPE]
 have HPK := Lib.hid hpk
 have HPO := Lib.hid hpof
 clear hPE hk hx hz hzs hxV hgs hxs hGV hXV hs hw hp hn hEn
 generalize hg1 : getP (Xs.map pe) x.id = k1 at *
 generalize hg2 : getP (Xs.map pe) x.of_ = k2 at *
 generalize hrv : revP (Xs.map pe) x.of_ = k3 at *
 have HK2V := Lib.hid hg2
 have HRVV := Lib.hid hrv
 clear hg1 hg2 hrv
 have HM1 : True := trivial
 have HM2 : True := trivial
 have HM3 : True := trivial
 have HM4 : True := trivial
 by_cases hc : cc = 0
 ·subst hc
  by_cases h1 : k1 < 0
  ·have h1' : ¬ (0 : Int) ≤ k1 := by omega
   rw [if_pos h1]
   have hf : ∀ a b : Int, fst4 0 0 a b = if a = 0 then b else a := fun a b => by unfold fst4; rw [if_pos rfl, if_pos rfl]
   rw [hf]
   clear hf
   by_cases hkd : x.kind = 3
   ·by_cases h2 : k2 < 0
    ·rw [rvE_at0 (HPK.out.trans hkd) (by rw [HPO.out]; exact getP_neg (by rw [HK2V.out]; exact h2)), if_neg (by decide)]
     go_enter Tryz.func28, Tryz.ntmps28
     go_wp2_with (first
      | (clear HM1; refine wpList_load_is rfl 29 _ rfl (.pointer (some ⟨s0, 0, none⟩)) rfl GV HLG.out ?_)
      | (clear HM2; refine wpList_load_is rfl 46 _ rfl (.pointer (some ⟨s0 + 1, 0, none⟩)) rfl XV HLX.out ?_)
      | (go_at_call 59; refine (HCK.out _ HK2.out HX2.out).mono ?_; rintro e w3 ⟨rfl, hb⟩; have HB3 := Lib.hid hb; clear hb; have HX3 := Lib.hid (HXB.out.up HB3.out); have p0 := HX3.out.at 0 _ rfl; have p3 := HX3.out.at 3 _ rfl; have p4 := HX3.out.at 4 _ rfl; rw [hkd] at p3)
      | (go_at_call 21; first
        | (clear HM3; refine (HG1.out _ (HZ2.out.up HB3.out)).mono ?_; rintro e w4 ⟨rfl, rfl⟩)
        | (clear HM4; refine (HG2.out _ (HZ2.out.up HB3.out)).mono ?_; rintro e w4 ⟨rfl, rfl⟩; skip))
      | (go_at_call 49; refine (HRV.out _ (HZ2.out.up HB3.out)).mono ?_; rintro e w4 ⟨rfl, rfl⟩))
     go_ret
     exact ⟨by first | rfl | (simp), (by have h9 := HB2.out.trans (HB3.out.mono HB2.out.size); first | exact h9 | (rw [← HS0.out]; exact h9))⟩
    ·have h2' : (0 : Int) ≤ k2 := by omega
     obtain ⟨h3, h4⟩ := getP_pos (Es := Xs.map pe) (id := x.of_) (by rw [HK2V.out]; exact h2)
     obtain ⟨k, hkk⟩ : ∃ k, idxP (Xs.map pe) x.of_ = k := ⟨_, rfl⟩
     rw [hkk] at h3 h4
     have hk2 : k2 = (k : Int) := by rw [← HK2V.out]; exact h4
     subst hk2
     have hkn : k < n := by rw [← HEN.out]; exact h3
     obtain ⟨q, hq⟩ : ∃ q, Xs[k]? = some q := ⟨_, List.getElem?_eq_getElem (by rw [HNN.out]; exact hkn)⟩
     obtain ⟨y, Y⟩ := q
     have hqe : (Xs.map pe)[idxP (Xs.map pe) p.of_]? = some (pe (y, Y)) := by rw [HPO.out, hkk, List.getElem?_map, hq]; rfl
     have hrr := rvE_at (HPK.out.trans hkd) hqe
     rw [HPO.out, HRVV.out, ← HP.out] at hrr
     have hrr2 : rvE (Xs.map pe) p = if (decide (y.kind = 3) || decide (k3 ≠ 0)) = true then 7 else if (decide (y.ent ≠ x.ent) || (decide (x.day < y.day) || !oppB X Y)) = true then 18 else 0 := by rw [← HP.out]; exact hrr
     have HRR := Lib.hid hrr2
     have hmem : (y, Y) ∈ Xs := List.mem_of_getElem? hq
     have hYK := HZS2.out _ hmem
     have hYn := HZN.out _ hmem
     have hYln : Y.length = y.n := hYK.ln
     have hYn2 : Y.length ≤ 1000 := hYn
     obtain ⟨bb, off, hA, hbl, hrg⟩ := HZ2.out.at (i := k) (a := y) (by rw [List.getElem?_map, hq]; rfl)
     subst hA
     have HYC : ∀ jj v, (etyC y)[jj]? = some v → Hid (∀ W, Below w2.heap.size w2 W → W.cell? ⟨bb, off + k * 7 + jj, none⟩ = some v) := fun jj v hv => Lib.hid (fun W hW => (hW.cell (p := ⟨bb, off + k * 7 + jj, none⟩) hbl).trans (hrg jj v hv))
     have HY1 := HYC 1 _ rfl
     have HY2 := HYC 2 _ rfl
     have HY3 := HYC 3 _ rfl
     have HY6 := HYC 6 _ rfl
     have HYK := Lib.hid hYK
     have HOP := Lib.hid (fun W (h : LnkAt W x.A X) (h2 : LnkAt W y.A Y) => ropp_any x.A y.A x.c y.c X Y W h h2 (by have := HX2.out.ln; have := HXN.out; omega) (by omega))
     rw [HX2.out.ln, hYln] at HOP
     generalize oppB X Y = ob at *
     have hknz : (k : Int) < (n : Int) := by omega
     clear hrr hrr2 hqe hq hmem hYK hYn hYln hYn2 hbl hrg HYC hkk h3 h4 h2 HZS2 HZN
     by_cases hy3 : y.kind = 3
     ·rw [show rvE (Xs.map pe) p = 7 by rw [HRR.out]; simp [hy3]]
      rw [if_neg (by decide)]
      go_enter Tryz.func28, Tryz.ntmps28
      go_wp2_with (first
       | (clear HM1; refine wpList_load_is rfl 29 _ rfl (.pointer (some ⟨s0, 0, none⟩)) rfl GV HLG.out ?_)
       | (clear HM2; refine wpList_load_is rfl 46 _ rfl (.pointer (some ⟨s0 + 1, 0, none⟩)) rfl XV HLX.out ?_)
       | (go_at_call 59; refine (HCK.out _ HK2.out HX2.out).mono ?_; rintro e w3 ⟨rfl, hb⟩; have HB3 := Lib.hid hb; clear hb; have HX3 := Lib.hid (HXB.out.up HB3.out); have p0 := HX3.out.at 0 _ rfl; have p3 := HX3.out.at 3 _ rfl; have p4 := HX3.out.at 4 _ rfl; rw [hkd] at p3)
       | (go_at_call 21; first
         | (clear HM3; refine (HG1.out _ (HZ2.out.up HB3.out)).mono ?_; rintro e w4 ⟨rfl, rfl⟩)
         | (clear HM4; refine (HG2.out _ (HZ2.out.up HB3.out)).mono ?_; rintro e w4 ⟨rfl, rfl⟩; have q3 := HY3.out _ HB3.out; rw [hy3] at q3))
       | (go_at_call 49; refine (HRV.out _ (HZ2.out.up HB3.out)).mono ?_; rintro e w4 ⟨rfl, rfl⟩))
      go_ret
      exact ⟨by first | rfl | (simp), (by have h9 := HB2.out.trans (HB3.out.mono HB2.out.size); first | exact h9 | (rw [← HS0.out]; exact h9))⟩
     ·have hyq : (y.kind == 3) = false := by simp [hy3]
      by_cases hk3 : k3 = 0
      ·subst hk3
       by_cases he : y.ent = x.ent
       ·by_cases hd : x.day < y.day
        ·rw [show rvE (Xs.map pe) p = 18 by rw [HRR.out]; simp [hy3, hd]]
         rw [if_neg (by decide)]
         have HE1 : Hid ((y.ent != x.ent) = false) := Lib.hid (by simp [he])
         have HE2 : Hid (x.day < y.day) := Lib.hid hd
         clear he
         clear hd
         go_enter Tryz.func28, Tryz.ntmps28
         go_wp2_with (first
          | (clear HM1; refine wpList_load_is rfl 29 _ rfl (.pointer (some ⟨s0, 0, none⟩)) rfl GV HLG.out ?_)
          | (clear HM2; refine wpList_load_is rfl 46 _ rfl (.pointer (some ⟨s0 + 1, 0, none⟩)) rfl XV HLX.out ?_)
          | (go_at_call 59; refine (HCK.out _ HK2.out HX2.out).mono ?_; rintro e w3 ⟨rfl, hb⟩; have HB3 := Lib.hid hb; clear hb; have HX3 := Lib.hid (HXB.out.up HB3.out); have p0 := HX3.out.at 0 _ rfl; have p3 := HX3.out.at 3 _ rfl; have p4 := HX3.out.at 4 _ rfl; rw [hkd] at p3)
          | (go_at_call 21; first
            | (clear HM3; refine (HG1.out _ (HZ2.out.up HB3.out)).mono ?_; rintro e w4 ⟨rfl, rfl⟩)
            | (clear HM4; refine (HG2.out _ (HZ2.out.up HB3.out)).mono ?_; rintro e w4 ⟨rfl, rfl⟩; have q3 := HY3.out _ HB3.out; skip))
          | (go_at_call 49; refine (HRV.out _ (HZ2.out.up HB3.out)).mono ?_; rintro e w4 ⟨rfl, rfl⟩))
         have HY1_ := Lib.hid (fun W (h : Below w3.heap.size w3 W) => HY1.out W (HB3.out.trans (h.mono HB3.out.size)))
         have HY2_ := Lib.hid (fun W (h : Below w3.heap.size w3 W) => HY2.out W (HB3.out.trans (h.mono HB3.out.size)))
         have HY6_ := Lib.hid (fun W (h : Below w3.heap.size w3 W) => HY6.out W (HB3.out.trans (h.mono HB3.out.size)))
         have HXK_ := Lib.hid (HX2.out.up HB3.out)
         have HYK_ := Lib.hid (HYK.out.up HB3.out)
         clear HY1 HY2 HY6 HYK
         have HY1 := HY1_
         have HY2 := HY2_
         have HY6 := HY6_
         have HXK := HXK_
         have HYK := HYK_
         refine AK.region_facts (Rp := Below0) (Kp := Below0) (rpFD x y bb off n c k s0 ob) (fun _ _ W => Below w3.heap.size w3 W) [[], [], [45, 46], [47], [48], [], [50], [49, 51], [52], [53], [53], [54, 55, 53], [56, 53], [57, 53], [53], [59, 53], [58, 60, 53], [53, 61], [62], [63], [63], [63], [63], [63], [63], [63], [63], [63], [63, 72], [73]] [] [[]] [0, 0, 0, 0, 0, 0, 0, 0, 0, 0, 0, 0, 0, 0, 0, 0, 0, 0, 0, 0, 0, 0, 0, 0, 0, 0, 0, 0, 0, 0] [0, 0, 0, 0, 0, 0, 0, 0, 0, 0, 0, 0, 0, 0, 0, 0, 0, 0, 0, 0, 0, 0, 0, 0, 0, 0, 0, 0, 0, 0] [] (fun u => by simp only [rpFD, AK.temps, List.map_cons, List.map_nil, fillL, List.setIfInBounds_toArray, List.set_cons_zero, List.set_cons_succ]; rfl) (by kernel_rfl) (by kernel_rfl) (fun _ _ h => h.size) (fun _ _ h => h) (fun _ _ _ _ hb h => h.trans (hb.mono h.size)) (dc_drew (Below.refl _ _)) ?_ ?_
         ·refine AK.sc (lim := 0) (lo := 0) rfl rfl rfl rfl ?_ ?_
          ·intro k_ u w_ hk_ hl_ hJ hF K hK
           clear hF
           go_simp
           exact hK.out _ _ (Below.refl _ _) (rfl) trivial
          refine AK.sc (lim := 0) (lo := 0) rfl rfl rfl rfl ?_ ?_
          ·intro k_ u w_ hk_ hl_ hJ hF K hK
           clear hF
           go_simp
           exact hK.out _ _ (Below.refl _ _) (rfl) trivial
          refine AK.sc (lim := 0) (lo := 0) rfl rfl rfl rfl ?_ ?_
          ·intro k_ u w_ hk_ hl_ hJ hF K hK
           have h45 : u 45 = .slice (some ⟨bb, off, none⟩) n c := AK.facts_get hF 45 (by simp)
           have h46 : u 46 = .int .i64 (k : Int) := AK.facts_get hF 46 (by simp)
           clear hF
           simp only [h45, h46] at hK ⊢
           clear h45 h46
           go_simp
           exact hK.out _ _ (Below.refl _ _) (rfl) trivial
          refine AK.sc (lim := 0) (lo := 0) rfl rfl rfl rfl ?_ ?_
          ·intro k_ u w_ hk_ hl_ hJ hF K hK
           have h47 : u 47 = .pointer (some ⟨bb, off + k * 7, none⟩) := AK.facts_get hF 47 (by simp)
           clear hF
           simp only [h47] at hK ⊢
           clear h47
           go_simp
           exact hK.out _ _ (Below.refl _ _) (rfl) trivial
          refine AK.sc (lim := 0) (lo := 0) rfl rfl rfl rfl ?_ ?_
          ·intro k_ u w_ hk_ hl_ hJ hF K hK
           have h48 : u 48 = .pointer (some ⟨bb, off + k * 7 + 1, none⟩) := AK.facts_get hF 48 (by simp)
           clear hF
           simp only [h48] at hK ⊢
           clear h48
           have c_ := HY1.out _ hJ
           go_simp
           exact hK.out _ _ (Below.refl _ _) (rfl) trivial
          refine AK.sc (lim := 0) (lo := 0) rfl rfl rfl rfl ?_ ?_
          ·intro k_ u w_ hk_ hl_ hJ hF K hK
           clear hF
           go_simp
           exact hK.out _ _ (Below.refl _ _) (rfl) trivial
          refine AK.sc (lim := 0) (lo := 0) rfl rfl rfl rfl ?_ ?_
          ·intro k_ u w_ hk_ hl_ hJ hF K hK
           have h50 : u 50 = .pointer (some ⟨s0 + 1, 1, none⟩) := AK.facts_get hF 50 (by simp)
           clear hF
           simp only [h50] at hK ⊢
           clear h50
           have c_ := (HX3.out.up hJ).at 1 _ rfl
           go_simp
           exact hK.out _ _ (Below.refl _ _) (rfl) trivial
          refine AK.sc (lim := 0) (lo := 0) rfl rfl rfl rfl ?_ ?_
          ·intro k_ u w_ hk_ hl_ hJ hF K hK
           have h49 : u 49 = .int .i64 y.ent := AK.facts_get hF 49 (by simp)
           have h51 : u 51 = .int .i64 x.ent := AK.facts_get hF 51 (by simp)
           clear hF
           simp only [h49, h51] at hK ⊢
           clear h49 h51
           have e_ := HE1.out
           go_simp
           exact hK.out _ _ (Below.refl _ _) (rfl) trivial
          refine AK.sc (lim := 0) (lo := 0) rfl rfl rfl rfl ?_ ?_
          ·intro k_ u w_ hk_ hl_ hJ hF K hK
           have h52 : u 52 = .bool false := AK.facts_get hF 52 (by simp)
           clear hF
           simp only [h52] at hK ⊢
           clear h52
           go_simp
           exact hK.out _ _ (Below.refl _ _) (rfl) trivial
          refine AK.sc (lim := 0) (lo := 0) rfl rfl rfl rfl ?_ ?_
          ·intro k_ u w_ hk_ hl_ hJ hF K hK
           have h53 : u 53 = .bool false := AK.facts_get hF 53 (by simp)
           clear hF
           simp only [h53] at hK ⊢
           clear h53
           go_simp
           exact hK.out _ _ (Below.refl _ _) (rfl) trivial
          refine AK.sc (lim := 0) (lo := 0) rfl rfl rfl rfl ?_ ?_
          ·intro k_ u w_ hk_ hl_ hJ hF K hK
           have h53 : u 53 = .bool false := AK.facts_get hF 53 (by simp)
           clear hF
           simp only [h53] at hK ⊢
           clear h53
           go_simp
           exact hK.out _ _ (Below.refl _ _) (rfl) trivial
          refine AK.sc (lim := 0) (lo := 0) rfl rfl rfl rfl ?_ ?_
          ·intro k_ u w_ hk_ hl_ hJ hF K hK
           have h54 : u 54 = .slice (some ⟨bb, off, none⟩) n c := AK.facts_get hF 54 (by simp)
           have h55 : u 55 = .int .i64 (k : Int) := AK.facts_get hF 55 (by simp)
           have h53 : u 53 = .bool false := AK.facts_get hF 53 (by simp)
           clear hF
           simp only [h54, h55, h53] at hK ⊢
           clear h54 h55 h53
           go_simp
           exact hK.out _ _ (Below.refl _ _) (rfl) trivial
          refine AK.sc (lim := 0) (lo := 0) rfl rfl rfl rfl ?_ ?_
          ·intro k_ u w_ hk_ hl_ hJ hF K hK
           have h56 : u 56 = .pointer (some ⟨bb, off + k * 7, none⟩) := AK.facts_get hF 56 (by simp)
           have h53 : u 53 = .bool false := AK.facts_get hF 53 (by simp)
           clear hF
           simp only [h56, h53] at hK ⊢
           clear h56 h53
           go_simp
           exact hK.out _ _ (Below.refl _ _) (rfl) trivial
          refine AK.sc (lim := 0) (lo := 0) rfl rfl rfl rfl ?_ ?_
          ·intro k_ u w_ hk_ hl_ hJ hF K hK
           have h57 : u 57 = .pointer (some ⟨bb, off + k * 7 + 2, none⟩) := AK.facts_get hF 57 (by simp)
           have h53 : u 53 = .bool false := AK.facts_get hF 53 (by simp)
           clear hF
           simp only [h57, h53] at hK ⊢
           clear h57 h53
           have c_ := HY2.out _ hJ
           go_simp
           exact hK.out _ _ (Below.refl _ _) (rfl) trivial
          refine AK.sc (lim := 0) (lo := 0) rfl rfl rfl rfl ?_ ?_
          ·intro k_ u w_ hk_ hl_ hJ hF K hK
           have h53 : u 53 = .bool false := AK.facts_get hF 53 (by simp)
           clear hF
           simp only [h53] at hK ⊢
           clear h53
           go_simp
           exact hK.out _ _ (Below.refl _ _) (rfl) trivial
          refine AK.sc (lim := 0) (lo := 0) rfl rfl rfl rfl ?_ ?_
          ·intro k_ u w_ hk_ hl_ hJ hF K hK
           have h59 : u 59 = .pointer (some ⟨s0 + 1, 2, none⟩) := AK.facts_get hF 59 (by simp)
           have h53 : u 53 = .bool false := AK.facts_get hF 53 (by simp)
           clear hF
           simp only [h59, h53] at hK ⊢
           clear h59 h53
           have c_ := (HX3.out.up hJ).at 2 _ rfl
           go_simp
           exact hK.out _ _ (Below.refl _ _) (rfl) trivial
          refine AK.sc (lim := 0) (lo := 0) rfl rfl rfl rfl ?_ ?_
          ·intro k_ u w_ hk_ hl_ hJ hF K hK
           have h58 : u 58 = .int .i64 y.day := AK.facts_get hF 58 (by simp)
           have h60 : u 60 = .int .i64 x.day := AK.facts_get hF 60 (by simp)
           have h53 : u 53 = .bool false := AK.facts_get hF 53 (by simp)
           clear hF
           simp only [h58, h60, h53] at hK ⊢
           clear h58 h60 h53
           have e_ := HE2.out
           go_simp
           exact hK.out _ _ (Below.refl _ _) (rfl) trivial
          refine AK.sc (lim := 0) (lo := 0) rfl rfl rfl rfl ?_ ?_
          ·intro k_ u w_ hk_ hl_ hJ hF K hK
           have h53 : u 53 = .bool false := AK.facts_get hF 53 (by simp)
           have h61 : u 61 = .bool true := AK.facts_get hF 61 (by simp)
           clear hF
           simp only [h53, h61] at hK ⊢
           clear h53 h61
           go_simp
           exact hK.out _ _ (Below.refl _ _) (rfl) trivial
          refine AK.sc (lim := 0) (lo := 0) rfl rfl rfl rfl ?_ ?_
          ·intro k_ u w_ hk_ hl_ hJ hF K hK
           have h62 : u 62 = .bool true := AK.facts_get hF 62 (by simp)
           clear hF
           simp only [h62] at hK ⊢
           clear h62
           go_simp
           exact hK.out _ _ (Below.refl _ _) (rfl) trivial
          refine AK.sc (lim := 0) (lo := 0) rfl rfl rfl rfl ?_ ?_
          ·intro k_ u w_ hk_ hl_ hJ hF K hK
           have h63 : u 63 = .bool true := AK.facts_get hF 63 (by simp)
           clear hF
           simp only [h63] at hK ⊢
           clear h63
           go_simp
           exact hK.out _ _ (Below.refl _ _) (rfl) trivial
          refine AK.sc (lim := 0) (lo := 0) rfl rfl rfl rfl ?_ ?_
          ·intro k_ u w_ hk_ hl_ hJ hF K hK
           have h63 : u 63 = .bool true := AK.facts_get hF 63 (by simp)
           clear hF
           simp only [h63] at hK ⊢
           clear h63
           go_simp
           exact hK.out _ _ (Below.refl _ _) (rfl) trivial
          refine AK.sc (lim := 0) (lo := 0) rfl rfl rfl rfl ?_ ?_
          ·intro k_ u w_ hk_ hl_ hJ hF K hK
           have h63 : u 63 = .bool true := AK.facts_get hF 63 (by simp)
           clear hF
           simp only [h63] at hK ⊢
           clear h63
           go_simp
           exact hK.out _ _ (Below.refl _ _) (rfl) trivial
          refine AK.sc (lim := 0) (lo := 0) rfl rfl rfl rfl ?_ ?_
          ·intro k_ u w_ hk_ hl_ hJ hF K hK
           have h63 : u 63 = .bool true := AK.facts_get hF 63 (by simp)
           clear hF
           simp only [h63] at hK ⊢
           clear h63
           go_simp
           exact hK.out _ _ (Below.refl _ _) (rfl) trivial
          refine AK.sc (lim := 0) (lo := 0) rfl rfl rfl rfl ?_ ?_
          ·intro k_ u w_ hk_ hl_ hJ hF K hK
           have h63 : u 63 = .bool true := AK.facts_get hF 63 (by simp)
           clear hF
           simp only [h63] at hK ⊢
           clear h63
           go_simp
           exact hK.out _ _ (Below.refl _ _) (rfl) trivial
          refine AK.sc (lim := 0) (lo := 0) rfl rfl rfl rfl ?_ ?_
          ·intro k_ u w_ hk_ hl_ hJ hF K hK
           have h63 : u 63 = .bool true := AK.facts_get hF 63 (by simp)
           clear hF
           simp only [h63] at hK ⊢
           clear h63
           go_simp
           exact hK.out _ _ (Below.refl _ _) (rfl) trivial
          refine AK.sc (lim := 0) (lo := 0) rfl rfl rfl rfl ?_ ?_
          ·intro k_ u w_ hk_ hl_ hJ hF K hK
           have h63 : u 63 = .bool true := AK.facts_get hF 63 (by simp)
           clear hF
           simp only [h63] at hK ⊢
           clear h63
           go_simp
           exact hK.out _ _ (Below.refl _ _) (rfl) trivial
          refine AK.sc (lim := 0) (lo := 0) rfl rfl rfl rfl ?_ ?_
          ·intro k_ u w_ hk_ hl_ hJ hF K hK
           have h63 : u 63 = .bool true := AK.facts_get hF 63 (by simp)
           clear hF
           simp only [h63] at hK ⊢
           clear h63
           go_simp
           exact hK.out _ _ (Below.refl _ _) (rfl) trivial
          refine AK.sc (lim := 0) (lo := 0) rfl rfl rfl rfl ?_ ?_
          ·intro k_ u w_ hk_ hl_ hJ hF K hK
           have h63 : u 63 = .bool true := AK.facts_get hF 63 (by simp)
           clear hF
           simp only [h63] at hK ⊢
           clear h63
           go_simp
           exact hK.out _ _ (Below.refl _ _) (rfl) trivial
          refine AK.sc (lim := 0) (lo := 0) rfl rfl rfl rfl ?_ ?_
          ·intro k_ u w_ hk_ hl_ hJ hF K hK
           have h63 : u 63 = .bool true := AK.facts_get hF 63 (by simp)
           have h72 : u 72 = undef := AK.facts_get hF 72 (by simp)
           clear hF
           simp only [h63, h72] at hK ⊢
           clear h63 h72
           go_simp
           exact hK.out _ _ (Below.refl _ _) (rfl) trivial
          refine AK.sc (lim := 0) (lo := 0) rfl rfl rfl rfl ?_ ?_
          ·intro k_ u w_ hk_ hl_ hJ hF K hK
           have h73 : u 73 = .bool true := AK.facts_get hF 73 (by simp)
           clear hF
           simp only [h73] at hK ⊢
           clear h73
           go_simp
           exact hK.out _ _ (Below.refl _ _) (rfl) trivial
          exact AK.StepsOk.nil
         ·intro u W9 hJ9 hF
          have h44 : u 44 = .bool true := AK.facts_get hF 44 (by simp [rpFD, AK.temps])
          clear hF
          simp only [h44]
          clear h44
          go_wp2_with fail
          go_ret
          exact ⟨by first | rfl | simp, (by have h9 := HB2.out.trans ((HB3.out.trans (hJ9.mono HB3.out.size)).mono HB2.out.size); first | exact h9 | (rw [← HS0.out]; exact h9))⟩
        ·have HE1 : Hid ((y.ent != x.ent) = false) := Lib.hid (by simp [he])
         have HE2 : Hid (¬ x.day < y.day) := Lib.hid hd
         cases ob
         ·rw [show rvE (Xs.map pe) p = 18 by rw [HRR.out]; simp [hy3]]
          rw [if_neg (by decide)]
          clear he
          clear hd
          go_enter Tryz.func28, Tryz.ntmps28
          go_wp2_with (first
           | (clear HM1; refine wpList_load_is rfl 29 _ rfl (.pointer (some ⟨s0, 0, none⟩)) rfl GV HLG.out ?_)
           | (clear HM2; refine wpList_load_is rfl 46 _ rfl (.pointer (some ⟨s0 + 1, 0, none⟩)) rfl XV HLX.out ?_)
           | (go_at_call 59; refine (HCK.out _ HK2.out HX2.out).mono ?_; rintro e w3 ⟨rfl, hb⟩; have HB3 := Lib.hid hb; clear hb; have HX3 := Lib.hid (HXB.out.up HB3.out); have p0 := HX3.out.at 0 _ rfl; have p3 := HX3.out.at 3 _ rfl; have p4 := HX3.out.at 4 _ rfl; rw [hkd] at p3)
           | (go_at_call 21; first
             | (clear HM3; refine (HG1.out _ (HZ2.out.up HB3.out)).mono ?_; rintro e w4 ⟨rfl, rfl⟩)
             | (clear HM4; refine (HG2.out _ (HZ2.out.up HB3.out)).mono ?_; rintro e w4 ⟨rfl, rfl⟩; have q3 := HY3.out _ HB3.out; skip))
           | (go_at_call 49; refine (HRV.out _ (HZ2.out.up HB3.out)).mono ?_; rintro e w4 ⟨rfl, rfl⟩))
          have HY1_ := Lib.hid (fun W (h : Below w3.heap.size w3 W) => HY1.out W (HB3.out.trans (h.mono HB3.out.size)))
          have HY2_ := Lib.hid (fun W (h : Below w3.heap.size w3 W) => HY2.out W (HB3.out.trans (h.mono HB3.out.size)))
          have HY6_ := Lib.hid (fun W (h : Below w3.heap.size w3 W) => HY6.out W (HB3.out.trans (h.mono HB3.out.size)))
          have HXK_ := Lib.hid (HX2.out.up HB3.out)
          have HYK_ := Lib.hid (HYK.out.up HB3.out)
          clear HY1 HY2 HY6 HYK
          have HY1 := HY1_
          have HY2 := HY2_
          have HY6 := HY6_
          have HXK := HXK_
          have HYK := HYK_
          refine AK.region_facts (Rp := Below0) (Kp := Below0) (rpFO x y bb off n c k s0 false) (fun _ _ W => Below w3.heap.size w3 W) [[], [], [45, 46], [47], [48], [], [50], [49, 51], [52], [53], [53], [54, 55, 53], [56, 53], [57, 53], [53], [59, 53], [58, 60, 53], [53, 61], [62], [63], [64, 63], [63], [63], [66, 67, 63], [68, 63], [69, 63], [65, 70, 63], [71, 63], [63, 72], [73]] [] [[]] [0, 0, 0, 0, 0, 0, 0, 0, 0, 0, 0, 0, 0, 0, 0, 0, 0, 0, 0, 0, 0, 0, 0, 0, 0, 0, 0, 0, 0, 0] [0, 0, 0, 0, 0, 0, 0, 0, 0, 0, 0, 0, 0, 0, 0, 0, 0, 0, 0, 0, 0, 0, 0, 0, 0, 0, 0, 0, 0, 0] [] (fun u => by simp only [rpFO, AK.temps, List.map_cons, List.map_nil, fillL, List.setIfInBounds_toArray, List.set_cons_zero, List.set_cons_succ]; rfl) (by kernel_rfl) (by kernel_rfl) (fun _ _ h => h.size) (fun _ _ h => h) (fun _ _ _ _ hb h => h.trans (hb.mono h.size)) (dc_drew (Below.refl _ _)) ?_ ?_
          ·refine AK.sc (lim := 0) (lo := 0) rfl rfl rfl rfl ?_ ?_
           ·intro k_ u w_ hk_ hl_ hJ hF K hK
            clear hF
            go_simp
            exact hK.out _ _ (Below.refl _ _) (rfl) trivial
           refine AK.sc (lim := 0) (lo := 0) rfl rfl rfl rfl ?_ ?_
           ·intro k_ u w_ hk_ hl_ hJ hF K hK
            clear hF
            go_simp
            exact hK.out _ _ (Below.refl _ _) (rfl) trivial
           refine AK.sc (lim := 0) (lo := 0) rfl rfl rfl rfl ?_ ?_
           ·intro k_ u w_ hk_ hl_ hJ hF K hK
            have h45 : u 45 = .slice (some ⟨bb, off, none⟩) n c := AK.facts_get hF 45 (by simp)
            have h46 : u 46 = .int .i64 (k : Int) := AK.facts_get hF 46 (by simp)
            clear hF
            simp only [h45, h46] at hK ⊢
            clear h45 h46
            go_simp
            exact hK.out _ _ (Below.refl _ _) (rfl) trivial
           refine AK.sc (lim := 0) (lo := 0) rfl rfl rfl rfl ?_ ?_
           ·intro k_ u w_ hk_ hl_ hJ hF K hK
            have h47 : u 47 = .pointer (some ⟨bb, off + k * 7, none⟩) := AK.facts_get hF 47 (by simp)
            clear hF
            simp only [h47] at hK ⊢
            clear h47
            go_simp
            exact hK.out _ _ (Below.refl _ _) (rfl) trivial
           refine AK.sc (lim := 0) (lo := 0) rfl rfl rfl rfl ?_ ?_
           ·intro k_ u w_ hk_ hl_ hJ hF K hK
            have h48 : u 48 = .pointer (some ⟨bb, off + k * 7 + 1, none⟩) := AK.facts_get hF 48 (by simp)
            clear hF
            simp only [h48] at hK ⊢
            clear h48
            have c_ := HY1.out _ hJ
            go_simp
            exact hK.out _ _ (Below.refl _ _) (rfl) trivial
           refine AK.sc (lim := 0) (lo := 0) rfl rfl rfl rfl ?_ ?_
           ·intro k_ u w_ hk_ hl_ hJ hF K hK
            clear hF
            go_simp
            exact hK.out _ _ (Below.refl _ _) (rfl) trivial
           refine AK.sc (lim := 0) (lo := 0) rfl rfl rfl rfl ?_ ?_
           ·intro k_ u w_ hk_ hl_ hJ hF K hK
            have h50 : u 50 = .pointer (some ⟨s0 + 1, 1, none⟩) := AK.facts_get hF 50 (by simp)
            clear hF
            simp only [h50] at hK ⊢
            clear h50
            have c_ := (HX3.out.up hJ).at 1 _ rfl
            go_simp
            exact hK.out _ _ (Below.refl _ _) (rfl) trivial
           refine AK.sc (lim := 0) (lo := 0) rfl rfl rfl rfl ?_ ?_
           ·intro k_ u w_ hk_ hl_ hJ hF K hK
            have h49 : u 49 = .int .i64 y.ent := AK.facts_get hF 49 (by simp)
            have h51 : u 51 = .int .i64 x.ent := AK.facts_get hF 51 (by simp)
            clear hF
            simp only [h49, h51] at hK ⊢
            clear h49 h51
            have e_ := HE1.out
            go_simp
            exact hK.out _ _ (Below.refl _ _) (rfl) trivial
           refine AK.sc (lim := 0) (lo := 0) rfl rfl rfl rfl ?_ ?_
           ·intro k_ u w_ hk_ hl_ hJ hF K hK
            have h52 : u 52 = .bool false := AK.facts_get hF 52 (by simp)
            clear hF
            simp only [h52] at hK ⊢
            clear h52
            go_simp
            exact hK.out _ _ (Below.refl _ _) (rfl) trivial
           refine AK.sc (lim := 0) (lo := 0) rfl rfl rfl rfl ?_ ?_
           ·intro k_ u w_ hk_ hl_ hJ hF K hK
            have h53 : u 53 = .bool false := AK.facts_get hF 53 (by simp)
            clear hF
            simp only [h53] at hK ⊢
            clear h53
            go_simp
            exact hK.out _ _ (Below.refl _ _) (rfl) trivial
           refine AK.sc (lim := 0) (lo := 0) rfl rfl rfl rfl ?_ ?_
           ·intro k_ u w_ hk_ hl_ hJ hF K hK
            have h53 : u 53 = .bool false := AK.facts_get hF 53 (by simp)
            clear hF
            simp only [h53] at hK ⊢
            clear h53
            go_simp
            exact hK.out _ _ (Below.refl _ _) (rfl) trivial
           refine AK.sc (lim := 0) (lo := 0) rfl rfl rfl rfl ?_ ?_
           ·intro k_ u w_ hk_ hl_ hJ hF K hK
            have h54 : u 54 = .slice (some ⟨bb, off, none⟩) n c := AK.facts_get hF 54 (by simp)
            have h55 : u 55 = .int .i64 (k : Int) := AK.facts_get hF 55 (by simp)
            have h53 : u 53 = .bool false := AK.facts_get hF 53 (by simp)
            clear hF
            simp only [h54, h55, h53] at hK ⊢
            clear h54 h55 h53
            go_simp
            exact hK.out _ _ (Below.refl _ _) (rfl) trivial
           refine AK.sc (lim := 0) (lo := 0) rfl rfl rfl rfl ?_ ?_
           ·intro k_ u w_ hk_ hl_ hJ hF K hK
            have h56 : u 56 = .pointer (some ⟨bb, off + k * 7, none⟩) := AK.facts_get hF 56 (by simp)
            have h53 : u 53 = .bool false := AK.facts_get hF 53 (by simp)
            clear hF
            simp only [h56, h53] at hK ⊢
            clear h56 h53
            go_simp
            exact hK.out _ _ (Below.refl _ _) (rfl) trivial
           refine AK.sc (lim := 0) (lo := 0) rfl rfl rfl rfl ?_ ?_
           ·intro k_ u w_ hk_ hl_ hJ hF K hK
            have h57 : u 57 = .pointer (some ⟨bb, off + k * 7 + 2, none⟩) := AK.facts_get hF 57 (by simp)
            have h53 : u 53 = .bool false := AK.facts_get hF 53 (by simp)
            clear hF
            simp only [h57, h53] at hK ⊢
            clear h57 h53
            have c_ := HY2.out _ hJ
            go_simp
            exact hK.out _ _ (Below.refl _ _) (rfl) trivial
           refine AK.sc (lim := 0) (lo := 0) rfl rfl rfl rfl ?_ ?_
           ·intro k_ u w_ hk_ hl_ hJ hF K hK
            have h53 : u 53 = .bool false := AK.facts_get hF 53 (by simp)
            clear hF
            simp only [h53] at hK ⊢
            clear h53
            go_simp
            exact hK.out _ _ (Below.refl _ _) (rfl) trivial
           refine AK.sc (lim := 0) (lo := 0) rfl rfl rfl rfl ?_ ?_
           ·intro k_ u w_ hk_ hl_ hJ hF K hK
            have h59 : u 59 = .pointer (some ⟨s0 + 1, 2, none⟩) := AK.facts_get hF 59 (by simp)
            have h53 : u 53 = .bool false := AK.facts_get hF 53 (by simp)
            clear hF
            simp only [h59, h53] at hK ⊢
            clear h59 h53
            have c_ := (HX3.out.up hJ).at 2 _ rfl
            go_simp
            exact hK.out _ _ (Below.refl _ _) (rfl) trivial
           refine AK.sc (lim := 0) (lo := 0) rfl rfl rfl rfl ?_ ?_
           ·intro k_ u w_ hk_ hl_ hJ hF K hK
            have h58 : u 58 = .int .i64 y.day := AK.facts_get hF 58 (by simp)
            have h60 : u 60 = .int .i64 x.day := AK.facts_get hF 60 (by simp)
            have h53 : u 53 = .bool false := AK.facts_get hF 53 (by simp)
            clear hF
            simp only [h58, h60, h53] at hK ⊢
            clear h58 h60 h53
            go_simp
            exact hK.out _ _ (Below.refl _ _) (congrArg Value.bool (decide_eq_false (Int.not_lt.2 HE2.out))) trivial
           refine AK.sc (lim := 0) (lo := 0) rfl rfl rfl rfl ?_ ?_
           ·intro k_ u w_ hk_ hl_ hJ hF K hK
            have h53 : u 53 = .bool false := AK.facts_get hF 53 (by simp)
            have h61 : u 61 = .bool false := AK.facts_get hF 61 (by simp)
            clear hF
            simp only [h53, h61] at hK ⊢
            clear h53 h61
            go_simp
            exact hK.out _ _ (Below.refl _ _) (rfl) trivial
           refine AK.sc (lim := 0) (lo := 0) rfl rfl rfl rfl ?_ ?_
           ·intro k_ u w_ hk_ hl_ hJ hF K hK
            have h62 : u 62 = .bool false := AK.facts_get hF 62 (by simp)
            clear hF
            simp only [h62] at hK ⊢
            clear h62
            go_simp
            exact hK.out _ _ (Below.refl _ _) (rfl) trivial
           refine AK.sc (lim := 0) (lo := 0) rfl rfl rfl rfl ?_ ?_
           ·intro k_ u w_ hk_ hl_ hJ hF K hK
            have h63 : u 63 = .bool false := AK.facts_get hF 63 (by simp)
            clear hF
            simp only [h63] at hK ⊢
            clear h63
            go_simp
            exact hK.out _ _ (Below.refl _ _) (rfl) trivial
           refine AK.sc (lim := 0) (lo := 0) rfl rfl rfl rfl ?_ ?_
           ·intro k_ u w_ hk_ hl_ hJ hF K hK
            have h64 : u 64 = .pointer (some ⟨s0 + 1, 6, none⟩) := AK.facts_get hF 64 (by simp)
            have h63 : u 63 = .bool false := AK.facts_get hF 63 (by simp)
            clear hF
            simp only [h64, h63] at hK ⊢
            clear h64 h63
            have c_ := (HX3.out.up hJ).at 6 _ rfl
            go_simp
            exact hK.out _ _ (Below.refl _ _) (rfl) trivial
           refine AK.sc (lim := 0) (lo := 0) rfl rfl rfl rfl ?_ ?_
           ·intro k_ u w_ hk_ hl_ hJ hF K hK
            have h63 : u 63 = .bool false := AK.facts_get hF 63 (by simp)
            clear hF
            simp only [h63] at hK ⊢
            clear h63
            go_simp
            exact hK.out _ _ (Below.refl _ _) (rfl) trivial
           refine AK.sc (lim := 0) (lo := 0) rfl rfl rfl rfl ?_ ?_
           ·intro k_ u w_ hk_ hl_ hJ hF K hK
            have h63 : u 63 = .bool false := AK.facts_get hF 63 (by simp)
            clear hF
            simp only [h63] at hK ⊢
            clear h63
            go_simp
            exact hK.out _ _ (Below.refl _ _) (rfl) trivial
           refine AK.sc (lim := 0) (lo := 0) rfl rfl rfl rfl ?_ ?_
           ·intro k_ u w_ hk_ hl_ hJ hF K hK
            have h66 : u 66 = .slice (some ⟨bb, off, none⟩) n c := AK.facts_get hF 66 (by simp)
            have h67 : u 67 = .int .i64 (k : Int) := AK.facts_get hF 67 (by simp)
            have h63 : u 63 = .bool false := AK.facts_get hF 63 (by simp)
            clear hF
            simp only [h66, h67, h63] at hK ⊢
            clear h66 h67 h63
            go_simp
            exact hK.out _ _ (Below.refl _ _) (rfl) trivial
           refine AK.sc (lim := 0) (lo := 0) rfl rfl rfl rfl ?_ ?_
           ·intro k_ u w_ hk_ hl_ hJ hF K hK
            have h68 : u 68 = .pointer (some ⟨bb, off + k * 7, none⟩) := AK.facts_get hF 68 (by simp)
            have h63 : u 63 = .bool false := AK.facts_get hF 63 (by simp)
            clear hF
            simp only [h68, h63] at hK ⊢
            clear h68 h63
            go_simp
            exact hK.out _ _ (Below.refl _ _) (rfl) trivial
           refine AK.sc (lim := 0) (lo := 0) rfl rfl rfl rfl ?_ ?_
           ·intro k_ u w_ hk_ hl_ hJ hF K hK
            have h69 : u 69 = .pointer (some ⟨bb, off + k * 7 + 6, none⟩) := AK.facts_get hF 69 (by simp)
            have h63 : u 63 = .bool false := AK.facts_get hF 63 (by simp)
            clear hF
            simp only [h69, h63] at hK ⊢
            clear h69 h63
            have c_ := HY6.out _ hJ
            go_simp
            exact hK.out _ _ (Below.refl _ _) (rfl) trivial
           refine AK.sc (lim := 0) (lo := 0) rfl rfl rfl rfl ?_ ?_
           ·intro k_ u w_ hk_ hl_ hJ hF K hK
            have h65 : u 65 = .slice x.A x.n x.c := AK.facts_get hF 65 (by simp)
            have h70 : u 70 = .slice y.A y.n y.c := AK.facts_get hF 70 (by simp)
            have h63 : u 63 = .bool false := AK.facts_get hF 63 (by simp)
            clear hF
            simp only [h65, h70, h63] at hK ⊢
            clear h65 h70 h63
            go_simp
            refine (HOP.out _ (HXK.out.up hJ).hz (HYK.out.up hJ).hz).mono ?_
            rintro e w3 ⟨rfl, hb⟩
            exact hK.out _ _ hb (rfl) trivial
           refine AK.sc (lim := 0) (lo := 0) rfl rfl rfl rfl ?_ ?_
           ·intro k_ u w_ hk_ hl_ hJ hF K hK
            have h71 : u 71 = .bool false := AK.facts_get hF 71 (by simp)
            have h63 : u 63 = .bool false := AK.facts_get hF 63 (by simp)
            clear hF
            simp only [h71, h63] at hK ⊢
            clear h71 h63
            go_simp
            exact hK.out _ _ (Below.refl _ _) (rfl) trivial
           refine AK.sc (lim := 0) (lo := 0) rfl rfl rfl rfl ?_ ?_
           ·intro k_ u w_ hk_ hl_ hJ hF K hK
            have h63 : u 63 = .bool false := AK.facts_get hF 63 (by simp)
            have h72 : u 72 = .bool true := AK.facts_get hF 72 (by simp)
            clear hF
            simp only [h63, h72] at hK ⊢
            clear h63 h72
            go_simp
            exact hK.out _ _ (Below.refl _ _) (rfl) trivial
           refine AK.sc (lim := 0) (lo := 0) rfl rfl rfl rfl ?_ ?_
           ·intro k_ u w_ hk_ hl_ hJ hF K hK
            have h73 : u 73 = .bool true := AK.facts_get hF 73 (by simp)
            clear hF
            simp only [h73] at hK ⊢
            clear h73
            go_simp
            exact hK.out _ _ (Below.refl _ _) (rfl) trivial
           exact AK.StepsOk.nil
          ·intro u W9 hJ9 hF
           have h44 : u 44 = .bool true := AK.facts_get hF 44 (by simp [rpFO, AK.temps])
           clear hF
           simp only [h44]
           clear h44
           go_wp2_with fail
           go_ret
           exact ⟨by first | rfl | simp, (by have h9 := HB2.out.trans ((HB3.out.trans (hJ9.mono HB3.out.size)).mono HB2.out.size); first | exact h9 | (rw [← HS0.out]; exact h9))⟩
         ·rw [show rvE (Xs.map pe) p = 0 by rw [HRR.out]; simp [hy3, he, hd]]
          rw [if_pos rfl]
          by_cases hn2 : 2000 ≤ n
          ·have hnz : (2000 : Int) ≤ (n : Int) := by omega
           rw [if_pos hn2]
           clear he
           clear hd
           go_enter Tryz.func28, Tryz.ntmps28
           go_wp2_with (first
            | (clear HM1; refine wpList_load_is rfl 29 _ rfl (.pointer (some ⟨s0, 0, none⟩)) rfl GV HLG.out ?_)
            | (clear HM2; refine wpList_load_is rfl 46 _ rfl (.pointer (some ⟨s0 + 1, 0, none⟩)) rfl XV HLX.out ?_)
            | (go_at_call 59; refine (HCK.out _ HK2.out HX2.out).mono ?_; rintro e w3 ⟨rfl, hb⟩; have HB3 := Lib.hid hb; clear hb; have HX3 := Lib.hid (HXB.out.up HB3.out); have p0 := HX3.out.at 0 _ rfl; have p3 := HX3.out.at 3 _ rfl; have p4 := HX3.out.at 4 _ rfl; rw [hkd] at p3)
            | (go_at_call 21; first
              | (clear HM3; refine (HG1.out _ (HZ2.out.up HB3.out)).mono ?_; rintro e w4 ⟨rfl, rfl⟩)
              | (clear HM4; refine (HG2.out _ (HZ2.out.up HB3.out)).mono ?_; rintro e w4 ⟨rfl, rfl⟩; have q3 := HY3.out _ HB3.out; skip))
            | (go_at_call 49; refine (HRV.out _ (HZ2.out.up HB3.out)).mono ?_; rintro e w4 ⟨rfl, rfl⟩))
           have HY1_ := Lib.hid (fun W (h : Below w3.heap.size w3 W) => HY1.out W (HB3.out.trans (h.mono HB3.out.size)))
           have HY2_ := Lib.hid (fun W (h : Below w3.heap.size w3 W) => HY2.out W (HB3.out.trans (h.mono HB3.out.size)))
           have HY6_ := Lib.hid (fun W (h : Below w3.heap.size w3 W) => HY6.out W (HB3.out.trans (h.mono HB3.out.size)))
           have HXK_ := Lib.hid (HX2.out.up HB3.out)
           have HYK_ := Lib.hid (HYK.out.up HB3.out)
           clear HY1 HY2 HY6 HYK
           have HY1 := HY1_
           have HY2 := HY2_
           have HY6 := HY6_
           have HXK := HXK_
           have HYK := HYK_
           refine AK.region_facts (Rp := Below0) (Kp := Below0) (rpFO x y bb off n c k s0 true) (fun _ _ W => Below w3.heap.size w3 W) [[], [], [45, 46], [47], [48], [], [50], [49, 51], [52], [53], [53], [54, 55, 53], [56, 53], [57, 53], [53], [59, 53], [58, 60, 53], [53, 61], [62], [63], [64, 63], [63], [63], [66, 67, 63], [68, 63], [69, 63], [65, 70, 63], [71, 63], [63, 72], [73]] [] [[]] [0, 0, 0, 0, 0, 0, 0, 0, 0, 0, 0, 0, 0, 0, 0, 0, 0, 0, 0, 0, 0, 0, 0, 0, 0, 0, 0, 0, 0, 0] [0, 0, 0, 0, 0, 0, 0, 0, 0, 0, 0, 0, 0, 0, 0, 0, 0, 0, 0, 0, 0, 0, 0, 0, 0, 0, 0, 0, 0, 0] [] (fun u => by simp only [rpFO, AK.temps, List.map_cons, List.map_nil, fillL, List.setIfInBounds_toArray, List.set_cons_zero, List.set_cons_succ]; rfl) (by kernel_rfl) (by kernel_rfl) (fun _ _ h => h.size) (fun _ _ h => h) (fun _ _ _ _ hb h => h.trans (hb.mono h.size)) (dc_drew (Below.refl _ _)) ?_ ?_
           ·refine AK.sc (lim := 0) (lo := 0) rfl rfl rfl rfl ?_ ?_
            ·intro k_ u w_ hk_ hl_ hJ hF K hK
             clear hF
             go_simp
             exact hK.out _ _ (Below.refl _ _) (rfl) trivial
            refine AK.sc (lim := 0) (lo := 0) rfl rfl rfl rfl ?_ ?_
            ·intro k_ u w_ hk_ hl_ hJ hF K hK
             clear hF
             go_simp
             exact hK.out _ _ (Below.refl _ _) (rfl) trivial
            refine AK.sc (lim := 0) (lo := 0) rfl rfl rfl rfl ?_ ?_
            ·intro k_ u w_ hk_ hl_ hJ hF K hK
             have h45 : u 45 = .slice (some ⟨bb, off, none⟩) n c := AK.facts_get hF 45 (by simp)
             have h46 : u 46 = .int .i64 (k : Int) := AK.facts_get hF 46 (by simp)
             clear hF
             simp only [h45, h46] at hK ⊢
             clear h45 h46
             go_simp
             exact hK.out _ _ (Below.refl _ _) (rfl) trivial
            refine AK.sc (lim := 0) (lo := 0) rfl rfl rfl rfl ?_ ?_
            ·intro k_ u w_ hk_ hl_ hJ hF K hK
             have h47 : u 47 = .pointer (some ⟨bb, off + k * 7, none⟩) := AK.facts_get hF 47 (by simp)
             clear hF
             simp only [h47] at hK ⊢
             clear h47
             go_simp
             exact hK.out _ _ (Below.refl _ _) (rfl) trivial
            refine AK.sc (lim := 0) (lo := 0) rfl rfl rfl rfl ?_ ?_
            ·intro k_ u w_ hk_ hl_ hJ hF K hK
             have h48 : u 48 = .pointer (some ⟨bb, off + k * 7 + 1, none⟩) := AK.facts_get hF 48 (by simp)
             clear hF
             simp only [h48] at hK ⊢
             clear h48
             have c_ := HY1.out _ hJ
             go_simp
             exact hK.out _ _ (Below.refl _ _) (rfl) trivial
            refine AK.sc (lim := 0) (lo := 0) rfl rfl rfl rfl ?_ ?_
            ·intro k_ u w_ hk_ hl_ hJ hF K hK
             clear hF
             go_simp
             exact hK.out _ _ (Below.refl _ _) (rfl) trivial
            refine AK.sc (lim := 0) (lo := 0) rfl rfl rfl rfl ?_ ?_
            ·intro k_ u w_ hk_ hl_ hJ hF K hK
             have h50 : u 50 = .pointer (some ⟨s0 + 1, 1, none⟩) := AK.facts_get hF 50 (by simp)
             clear hF
             simp only [h50] at hK ⊢
             clear h50
             have c_ := (HX3.out.up hJ).at 1 _ rfl
             go_simp
             exact hK.out _ _ (Below.refl _ _) (rfl) trivial
            refine AK.sc (lim := 0) (lo := 0) rfl rfl rfl rfl ?_ ?_
            ·intro k_ u w_ hk_ hl_ hJ hF K hK
             have h49 : u 49 = .int .i64 y.ent := AK.facts_get hF 49 (by simp)
             have h51 : u 51 = .int .i64 x.ent := AK.facts_get hF 51 (by simp)
             clear hF
             simp only [h49, h51] at hK ⊢
             clear h49 h51
             have e_ := HE1.out
             go_simp
             exact hK.out _ _ (Below.refl _ _) (rfl) trivial
            refine AK.sc (lim := 0) (lo := 0) rfl rfl rfl rfl ?_ ?_
            ·intro k_ u w_ hk_ hl_ hJ hF K hK
             have h52 : u 52 = .bool false := AK.facts_get hF 52 (by simp)
             clear hF
             simp only [h52] at hK ⊢
             clear h52
             go_simp
             exact hK.out _ _ (Below.refl _ _) (rfl) trivial
            refine AK.sc (lim := 0) (lo := 0) rfl rfl rfl rfl ?_ ?_
            ·intro k_ u w_ hk_ hl_ hJ hF K hK
             have h53 : u 53 = .bool false := AK.facts_get hF 53 (by simp)
             clear hF
             simp only [h53] at hK ⊢
             clear h53
             go_simp
             exact hK.out _ _ (Below.refl _ _) (rfl) trivial
            refine AK.sc (lim := 0) (lo := 0) rfl rfl rfl rfl ?_ ?_
            ·intro k_ u w_ hk_ hl_ hJ hF K hK
             have h53 : u 53 = .bool false := AK.facts_get hF 53 (by simp)
             clear hF
             simp only [h53] at hK ⊢
             clear h53
             go_simp
             exact hK.out _ _ (Below.refl _ _) (rfl) trivial
            refine AK.sc (lim := 0) (lo := 0) rfl rfl rfl rfl ?_ ?_
            ·intro k_ u w_ hk_ hl_ hJ hF K hK
             have h54 : u 54 = .slice (some ⟨bb, off, none⟩) n c := AK.facts_get hF 54 (by simp)
             have h55 : u 55 = .int .i64 (k : Int) := AK.facts_get hF 55 (by simp)
             have h53 : u 53 = .bool false := AK.facts_get hF 53 (by simp)
             clear hF
             simp only [h54, h55, h53] at hK ⊢
             clear h54 h55 h53
             go_simp
             exact hK.out _ _ (Below.refl _ _) (rfl) trivial
            refine AK.sc (lim := 0) (lo := 0) rfl rfl rfl rfl ?_ ?_
            ·intro k_ u w_ hk_ hl_ hJ hF K hK
             have h56 : u 56 = .pointer (some ⟨bb, off + k * 7, none⟩) := AK.facts_get hF 56 (by simp)
             have h53 : u 53 = .bool false := AK.facts_get hF 53 (by simp)
             clear hF
             simp only [h56, h53] at hK ⊢
             clear h56 h53
             go_simp
             exact hK.out _ _ (Below.refl _ _) (rfl) trivial
            refine AK.sc (lim := 0) (lo := 0) rfl rfl rfl rfl ?_ ?_
            ·intro k_ u w_ hk_ hl_ hJ hF K hK
             have h57 : u 57 = .pointer (some ⟨bb, off + k * 7 + 2, none⟩) := AK.facts_get hF 57 (by simp)
             have h53 : u 53 = .bool false := AK.facts_get hF 53 (by simp)
             clear hF
             simp only [h57, h53] at hK ⊢
             clear h57 h53
             have c_ := HY2.out _ hJ
             go_simp
             exact hK.out _ _ (Below.refl _ _) (rfl) trivial
            refine AK.sc (lim := 0) (lo := 0) rfl rfl rfl rfl ?_ ?_
            ·intro k_ u w_ hk_ hl_ hJ hF K hK
             have h53 : u 53 = .bool false := AK.facts_get hF 53 (by simp)
             clear hF
             simp only [h53] at hK ⊢
             clear h53
             go_simp
             exact hK.out _ _ (Below.refl _ _) (rfl) trivial
            refine AK.sc (lim := 0) (lo := 0) rfl rfl rfl rfl ?_ ?_
            ·intro k_ u w_ hk_ hl_ hJ hF K hK
             have h59 : u 59 = .pointer (some ⟨s0 + 1, 2, none⟩) := AK.facts_get hF 59 (by simp)
             have h53 : u 53 = .bool false := AK.facts_get hF 53 (by simp)
             clear hF
             simp only [h59, h53] at hK ⊢
             clear h59 h53
             have c_ := (HX3.out.up hJ).at 2 _ rfl
             go_simp
             exact hK.out _ _ (Below.refl _ _) (rfl) trivial
            refine AK.sc (lim := 0) (lo := 0) rfl rfl rfl rfl ?_ ?_
            ·intro k_ u w_ hk_ hl_ hJ hF K hK
             have h58 : u 58 = .int .i64 y.day := AK.facts_get hF 58 (by simp)
             have h60 : u 60 = .int .i64 x.day := AK.facts_get hF 60 (by simp)
             have h53 : u 53 = .bool false := AK.facts_get hF 53 (by simp)
             clear hF
             simp only [h58, h60, h53] at hK ⊢
             clear h58 h60 h53
             go_simp
             exact hK.out _ _ (Below.refl _ _) (congrArg Value.bool (decide_eq_false (Int.not_lt.2 HE2.out))) trivial
            refine AK.sc (lim := 0) (lo := 0) rfl rfl rfl rfl ?_ ?_
            ·intro k_ u w_ hk_ hl_ hJ hF K hK
             have h53 : u 53 = .bool false := AK.facts_get hF 53 (by simp)
             have h61 : u 61 = .bool false := AK.facts_get hF 61 (by simp)
             clear hF
             simp only [h53, h61] at hK ⊢
             clear h53 h61
             go_simp
             exact hK.out _ _ (Below.refl _ _) (rfl) trivial
            refine AK.sc (lim := 0) (lo := 0) rfl rfl rfl rfl ?_ ?_
            ·intro k_ u w_ hk_ hl_ hJ hF K hK
             have h62 : u 62 = .bool false := AK.facts_get hF 62 (by simp)
             clear hF
             simp only [h62] at hK ⊢
             clear h62
             go_simp
             exact hK.out _ _ (Below.refl _ _) (rfl) trivial
            refine AK.sc (lim := 0) (lo := 0) rfl rfl rfl rfl ?_ ?_
            ·intro k_ u w_ hk_ hl_ hJ hF K hK
             have h63 : u 63 = .bool false := AK.facts_get hF 63 (by simp)
             clear hF
             simp only [h63] at hK ⊢
             clear h63
             go_simp
             exact hK.out _ _ (Below.refl _ _) (rfl) trivial
            refine AK.sc (lim := 0) (lo := 0) rfl rfl rfl rfl ?_ ?_
            ·intro k_ u w_ hk_ hl_ hJ hF K hK
             have h64 : u 64 = .pointer (some ⟨s0 + 1, 6, none⟩) := AK.facts_get hF 64 (by simp)
             have h63 : u 63 = .bool false := AK.facts_get hF 63 (by simp)
             clear hF
             simp only [h64, h63] at hK ⊢
             clear h64 h63
             have c_ := (HX3.out.up hJ).at 6 _ rfl
             go_simp
             exact hK.out _ _ (Below.refl _ _) (rfl) trivial
            refine AK.sc (lim := 0) (lo := 0) rfl rfl rfl rfl ?_ ?_
            ·intro k_ u w_ hk_ hl_ hJ hF K hK
             have h63 : u 63 = .bool false := AK.facts_get hF 63 (by simp)
             clear hF
             simp only [h63] at hK ⊢
             clear h63
             go_simp
             exact hK.out _ _ (Below.refl _ _) (rfl) trivial
            refine AK.sc (lim := 0) (lo := 0) rfl rfl rfl rfl ?_ ?_
            ·intro k_ u w_ hk_ hl_ hJ hF K hK
             have h63 : u 63 = .bool false := AK.facts_get hF 63 (by simp)
             clear hF
             simp only [h63] at hK ⊢
             clear h63
             go_simp
             exact hK.out _ _ (Below.refl _ _) (rfl) trivial
            refine AK.sc (lim := 0) (lo := 0) rfl rfl rfl rfl ?_ ?_
            ·intro k_ u w_ hk_ hl_ hJ hF K hK
             have h66 : u 66 = .slice (some ⟨bb, off, none⟩) n c := AK.facts_get hF 66 (by simp)
             have h67 : u 67 = .int .i64 (k : Int) := AK.facts_get hF 67 (by simp)
             have h63 : u 63 = .bool false := AK.facts_get hF 63 (by simp)
             clear hF
             simp only [h66, h67, h63] at hK ⊢
             clear h66 h67 h63
             go_simp
             exact hK.out _ _ (Below.refl _ _) (rfl) trivial
            refine AK.sc (lim := 0) (lo := 0) rfl rfl rfl rfl ?_ ?_
            ·intro k_ u w_ hk_ hl_ hJ hF K hK
             have h68 : u 68 = .pointer (some ⟨bb, off + k * 7, none⟩) := AK.facts_get hF 68 (by simp)
             have h63 : u 63 = .bool false := AK.facts_get hF 63 (by simp)
             clear hF
             simp only [h68, h63] at hK ⊢
             clear h68 h63
             go_simp
             exact hK.out _ _ (Below.refl _ _) (rfl) trivial
            refine AK.sc (lim := 0) (lo := 0) rfl rfl rfl rfl ?_ ?_
            ·intro k_ u w_ hk_ hl_ hJ hF K hK
             have h69 : u 69 = .pointer (some ⟨bb, off + k * 7 + 6, none⟩) := AK.facts_get hF 69 (by simp)
             have h63 : u 63 = .bool false := AK.facts_get hF 63 (by simp)
             clear hF
             simp only [h69, h63] at hK ⊢
             clear h69 h63
             have c_ := HY6.out _ hJ
             go_simp
             exact hK.out _ _ (Below.refl _ _) (rfl) trivial
            refine AK.sc (lim := 0) (lo := 0) rfl rfl rfl rfl ?_ ?_
            ·intro k_ u w_ hk_ hl_ hJ hF K hK
             have h65 : u 65 = .slice x.A x.n x.c := AK.facts_get hF 65 (by simp)
             have h70 : u 70 = .slice y.A y.n y.c := AK.facts_get hF 70 (by simp)
             have h63 : u 63 = .bool false := AK.facts_get hF 63 (by simp)
             clear hF
             simp only [h65, h70, h63] at hK ⊢
             clear h65 h70 h63
             go_simp
             refine (HOP.out _ (HXK.out.up hJ).hz (HYK.out.up hJ).hz).mono ?_
             rintro e w3 ⟨rfl, hb⟩
             exact hK.out _ _ hb (rfl) trivial
            refine AK.sc (lim := 0) (lo := 0) rfl rfl rfl rfl ?_ ?_
            ·intro k_ u w_ hk_ hl_ hJ hF K hK
             have h71 : u 71 = .bool true := AK.facts_get hF 71 (by simp)
             have h63 : u 63 = .bool false := AK.facts_get hF 63 (by simp)
             clear hF
             simp only [h71, h63] at hK ⊢
             clear h71 h63
             go_simp
             exact hK.out _ _ (Below.refl _ _) (rfl) trivial
            refine AK.sc (lim := 0) (lo := 0) rfl rfl rfl rfl ?_ ?_
            ·intro k_ u w_ hk_ hl_ hJ hF K hK
             have h63 : u 63 = .bool false := AK.facts_get hF 63 (by simp)
             have h72 : u 72 = .bool false := AK.facts_get hF 72 (by simp)
             clear hF
             simp only [h63, h72] at hK ⊢
             clear h63 h72
             go_simp
             exact hK.out _ _ (Below.refl _ _) (rfl) trivial
            refine AK.sc (lim := 0) (lo := 0) rfl rfl rfl rfl ?_ ?_
            ·intro k_ u w_ hk_ hl_ hJ hF K hK
             have h73 : u 73 = .bool false := AK.facts_get hF 73 (by simp)
             clear hF
             simp only [h73] at hK ⊢
             clear h73
             go_simp
             exact hK.out _ _ (Below.refl _ _) (rfl) trivial
            exact AK.StepsOk.nil
           ·intro u W9 hJ9 hF
            have h44 : u 44 = .bool false := AK.facts_get hF 44 (by simp [rpFO, AK.temps])
            clear hF
            simp only [h44]
            clear h44
            go_wp2_with fail
            go_ret
            exact ⟨by first | rfl | simp, (by have h9 := HB2.out.trans ((HB3.out.trans (hJ9.mono HB3.out.size)).mono HB2.out.size); first | exact h9 | (rw [← HS0.out]; exact h9))⟩
          ·have hnz : ¬ (2000 : Int) ≤ (n : Int) := by omega
           rw [if_neg hn2]
           clear he
           clear hd
           go_enter Tryz.func28, Tryz.ntmps28
           go_wp2_with (first
            | (clear HM1; refine wpList_load_is rfl 29 _ rfl (.pointer (some ⟨s0, 0, none⟩)) rfl GV HLG.out ?_)
            | (clear HM2; refine wpList_load_is rfl 46 _ rfl (.pointer (some ⟨s0 + 1, 0, none⟩)) rfl XV HLX.out ?_)
            | (go_at_call 59; refine (HCK.out _ HK2.out HX2.out).mono ?_; rintro e w3 ⟨rfl, hb⟩; have HB3 := Lib.hid hb; clear hb; have HX3 := Lib.hid (HXB.out.up HB3.out); have p0 := HX3.out.at 0 _ rfl; have p3 := HX3.out.at 3 _ rfl; have p4 := HX3.out.at 4 _ rfl; rw [hkd] at p3)
            | (go_at_call 21; first
              | (clear HM3; refine (HG1.out _ (HZ2.out.up HB3.out)).mono ?_; rintro e w4 ⟨rfl, rfl⟩)
              | (clear HM4; refine (HG2.out _ (HZ2.out.up HB3.out)).mono ?_; rintro e w4 ⟨rfl, rfl⟩; have q3 := HY3.out _ HB3.out; skip))
            | (go_at_call 49; refine (HRV.out _ (HZ2.out.up HB3.out)).mono ?_; rintro e w4 ⟨rfl, rfl⟩))
           have HY1_ := Lib.hid (fun W (h : Below w3.heap.size w3 W) => HY1.out W (HB3.out.trans (h.mono HB3.out.size)))
           have HY2_ := Lib.hid (fun W (h : Below w3.heap.size w3 W) => HY2.out W (HB3.out.trans (h.mono HB3.out.size)))
           have HY6_ := Lib.hid (fun W (h : Below w3.heap.size w3 W) => HY6.out W (HB3.out.trans (h.mono HB3.out.size)))
           have HXK_ := Lib.hid (HX2.out.up HB3.out)
           have HYK_ := Lib.hid (HYK.out.up HB3.out)
           clear HY1 HY2 HY6 HYK
           have HY1 := HY1_
           have HY2 := HY2_
           have HY6 := HY6_
           have HXK := HXK_
           have HYK := HYK_
           refine AK.region_facts (Rp := Below0) (Kp := Below0) (rpFO x y bb off n c k s0 true) (fun _ _ W => Below w3.heap.size w3 W) [[], [], [45, 46], [47], [48], [], [50], [49, 51], [52], [53], [53], [54, 55, 53], [56, 53], [57, 53], [53], [59, 53], [58, 60, 53], [53, 61], [62], [63], [64, 63], [63], [63], [66, 67, 63], [68, 63], [69, 63], [65, 70, 63], [71, 63], [63, 72], [73]] [] [[]] [0, 0, 0, 0, 0, 0, 0, 0, 0, 0, 0, 0, 0, 0, 0, 0, 0, 0, 0, 0, 0, 0, 0, 0, 0, 0, 0, 0, 0, 0] [0, 0, 0, 0, 0, 0, 0, 0, 0, 0, 0, 0, 0, 0, 0, 0, 0, 0, 0, 0, 0, 0, 0, 0, 0, 0, 0, 0, 0, 0] [] (fun u => by simp only [rpFO, AK.temps, List.map_cons, List.map_nil, fillL, List.setIfInBounds_toArray, List.set_cons_zero, List.set_cons_succ]; rfl) (by kernel_rfl) (by kernel_rfl) (fun _ _ h => h.size) (fun _ _ h => h) (fun _ _ _ _ hb h => h.trans (hb.mono h.size)) (dc_drew (Below.refl _ _)) ?_ ?_
           ·refine AK.sc (lim := 0) (lo := 0) rfl rfl rfl rfl ?_ ?_
            ·intro k_ u w_ hk_ hl_ hJ hF K hK
             clear hF
             go_simp
             exact hK.out _ _ (Below.refl _ _) (rfl) trivial
            refine AK.sc (lim := 0) (lo := 0) rfl rfl rfl rfl ?_ ?_
            ·intro k_ u w_ hk_ hl_ hJ hF K hK
             clear hF
             go_simp
             exact hK.out _ _ (Below.refl _ _) (rfl) trivial
            refine AK.sc (lim := 0) (lo := 0) rfl rfl rfl rfl ?_ ?_
            ·intro k_ u w_ hk_ hl_ hJ hF K hK
             have h45 : u 45 = .slice (some ⟨bb, off, none⟩) n c := AK.facts_get hF 45 (by simp)
             have h46 : u 46 = .int .i64 (k : Int) := AK.facts_get hF 46 (by simp)
             clear hF
             simp only [h45, h46] at hK ⊢
             clear h45 h46
             go_simp
             exact hK.out _ _ (Below.refl _ _) (rfl) trivial
            refine AK.sc (lim := 0) (lo := 0) rfl rfl rfl rfl ?_ ?_
            ·intro k_ u w_ hk_ hl_ hJ hF K hK
             have h47 : u 47 = .pointer (some ⟨bb, off + k * 7, none⟩) := AK.facts_get hF 47 (by simp)
             clear hF
             simp only [h47] at hK ⊢
             clear h47
             go_simp
             exact hK.out _ _ (Below.refl _ _) (rfl) trivial
            refine AK.sc (lim := 0) (lo := 0) rfl rfl rfl rfl ?_ ?_
            ·intro k_ u w_ hk_ hl_ hJ hF K hK
             have h48 : u 48 = .pointer (some ⟨bb, off + k * 7 + 1, none⟩) := AK.facts_get hF 48 (by simp)
             clear hF
             simp only [h48] at hK ⊢
             clear h48
             have c_ := HY1.out _ hJ
             go_simp
             exact hK.out _ _ (Below.refl _ _) (rfl) trivial
            refine AK.sc (lim := 0) (lo := 0) rfl rfl rfl rfl ?_ ?_
            ·intro k_ u w_ hk_ hl_ hJ hF K hK
             clear hF
             go_simp
             exact hK.out _ _ (Below.refl _ _) (rfl) trivial
            refine AK.sc (lim := 0) (lo := 0) rfl rfl rfl rfl ?_ ?_
            ·intro k_ u w_ hk_ hl_ hJ hF K hK
             have h50 : u 50 = .pointer (some ⟨s0 + 1, 1, none⟩) := AK.facts_get hF 50 (by simp)
             clear hF
             simp only [h50] at hK ⊢
             clear h50
             have c_ := (HX3.out.up hJ).at 1 _ rfl
             go_simp
             exact hK.out _ _ (Below.refl _ _) (rfl) trivial
            refine AK.sc (lim := 0) (lo := 0) rfl rfl rfl rfl ?_ ?_
            ·intro k_ u w_ hk_ hl_ hJ hF K hK
             have h49 : u 49 = .int .i64 y.ent := AK.facts_get hF 49 (by simp)
             have h51 : u 51 = .int .i64 x.ent := AK.facts_get hF 51 (by simp)
             clear hF
             simp only [h49, h51] at hK ⊢
             clear h49 h51
             have e_ := HE1.out
             go_simp
             exact hK.out _ _ (Below.refl _ _) (rfl) trivial
            refine AK.sc (lim := 0) (lo := 0) rfl rfl rfl rfl ?_ ?_
            ·intro k_ u w_ hk_ hl_ hJ hF K hK
             have h52 : u 52 = .bool false := AK.facts_get hF 52 (by simp)
             clear hF
             simp only [h52] at hK ⊢
             clear h52
             go_simp
             exact hK.out _ _ (Below.refl _ _) (rfl) trivial
            refine AK.sc (lim := 0) (lo := 0) rfl rfl rfl rfl ?_ ?_
            ·intro k_ u w_ hk_ hl_ hJ hF K hK
             have h53 : u 53 = .bool false := AK.facts_get hF 53 (by simp)
             clear hF
             simp only [h53] at hK ⊢
             clear h53
             go_simp
             exact hK.out _ _ (Below.refl _ _) (rfl) trivial
            refine AK.sc (lim := 0) (lo := 0) rfl rfl rfl rfl ?_ ?_
            ·intro k_ u w_ hk_ hl_ hJ hF K hK
             have h53 : u 53 = .bool false := AK.facts_get hF 53 (by simp)
             clear hF
             simp only [h53] at hK ⊢
             clear h53
             go_simp
             exact hK.out _ _ (Below.refl _ _) (rfl) trivial
            refine AK.sc (lim := 0) (lo := 0) rfl rfl rfl rfl ?_ ?_
            ·intro k_ u w_ hk_ hl_ hJ hF K hK
             have h54 : u 54 = .slice (some ⟨bb, off, none⟩) n c := AK.facts_get hF 54 (by simp)
             have h55 : u 55 = .int .i64 (k : Int) := AK.facts_get hF 55 (by simp)
             have h53 : u 53 = .bool false := AK.facts_get hF 53 (by simp)
             clear hF
             simp only [h54, h55, h53] at hK ⊢
             clear h54 h55 h53
             go_simp
             exact hK.out _ _ (Below.refl _ _) (rfl) trivial
            refine AK.sc (lim := 0) (lo := 0) rfl rfl rfl rfl ?_ ?_
            ·intro k_ u w_ hk_ hl_ hJ hF K hK
             have h56 : u 56 = .pointer (some ⟨bb, off + k * 7, none⟩) := AK.facts_get hF 56 (by simp)
             have h53 : u 53 = .bool false := AK.facts_get hF 53 (by simp)
             clear hF
             simp only [h56, h53] at hK ⊢
             clear h56 h53
             go_simp
             exact hK.out _ _ (Below.refl _ _) (rfl) trivial
            refine AK.sc (lim := 0) (lo := 0) rfl rfl rfl rfl ?_ ?_
            ·intro k_ u w_ hk_ hl_ hJ hF K hK
             have h57 : u 57 = .pointer (some ⟨bb, off + k * 7 + 2, none⟩) := AK.facts_get hF 57 (by simp)
             have h53 : u 53 = .bool false := AK.facts_get hF 53 (by simp)
             clear hF
             simp only [h57, h53] at hK ⊢
             clear h57 h53
             have c_ := HY2.out _ hJ
             go_simp
             exact hK.out _ _ (Below.refl _ _) (rfl) trivial
            refine AK.sc (lim := 0) (lo := 0) rfl rfl rfl rfl ?_ ?_
            ·intro k_ u w_ hk_ hl_ hJ hF K hK
             have h53 : u 53 = .bool false := AK.facts_get hF 53 (by simp)
             clear hF
             simp only [h53] at hK ⊢
             clear h53
             go_simp
             exact hK.out _ _ (Below.refl _ _) (rfl) trivial
            refine AK.sc (lim := 0) (lo := 0) rfl rfl rfl rfl ?_ ?_
            ·intro k_ u w_ hk_ hl_ hJ hF K hK
             have h59 : u 59 = .pointer (some ⟨s0 + 1, 2, none⟩) := AK.facts_get hF 59 (by simp)
             have h53 : u 53 = .bool false := AK.facts_get hF 53 (by simp)
             clear hF
             simp only [h59, h53] at hK ⊢
             clear h59 h53
             have c_ := (HX3.out.up hJ).at 2 _ rfl
             go_simp
             exact hK.out _ _ (Below.refl _ _) (rfl) trivial
            refine AK.sc (lim := 0) (lo := 0) rfl rfl rfl rfl ?_ ?_
            ·intro k_ u w_ hk_ hl_ hJ hF K hK
             have h58 : u 58 = .int .i64 y.day := AK.facts_get hF 58 (by simp)
             have h60 : u 60 = .int .i64 x.day := AK.facts_get hF 60 (by simp)
             have h53 : u 53 = .bool false := AK.facts_get hF 53 (by simp)
             clear hF
             simp only [h58, h60, h53] at hK ⊢
             clear h58 h60 h53
             go_simp
             exact hK.out _ _ (Below.refl _ _) (congrArg Value.bool (decide_eq_false (Int.not_lt.2 HE2.out))) trivial
            refine AK.sc (lim := 0) (lo := 0) rfl rfl rfl rfl ?_ ?_
            ·intro k_ u w_ hk_ hl_ hJ hF K hK
             have h53 : u 53 = .bool false := AK.facts_get hF 53 (by simp)
             have h61 : u 61 = .bool false := AK.facts_get hF 61 (by simp)
             clear hF
             simp only [h53, h61] at hK ⊢
             clear h53 h61
             go_simp
             exact hK.out _ _ (Below.refl _ _) (rfl) trivial
            refine AK.sc (lim := 0) (lo := 0) rfl rfl rfl rfl ?_ ?_
            ·intro k_ u w_ hk_ hl_ hJ hF K hK
             have h62 : u 62 = .bool false := AK.facts_get hF 62 (by simp)
             clear hF
             simp only [h62] at hK ⊢
             clear h62
             go_simp
             exact hK.out _ _ (Below.refl _ _) (rfl) trivial
            refine AK.sc (lim := 0) (lo := 0) rfl rfl rfl rfl ?_ ?_
            ·intro k_ u w_ hk_ hl_ hJ hF K hK
             have h63 : u 63 = .bool false := AK.facts_get hF 63 (by simp)
             clear hF
             simp only [h63] at hK ⊢
             clear h63
             go_simp
             exact hK.out _ _ (Below.refl _ _) (rfl) trivial
            refine AK.sc (lim := 0) (lo := 0) rfl rfl rfl rfl ?_ ?_
            ·intro k_ u w_ hk_ hl_ hJ hF K hK
             have h64 : u 64 = .pointer (some ⟨s0 + 1, 6, none⟩) := AK.facts_get hF 64 (by simp)
             have h63 : u 63 = .bool false := AK.facts_get hF 63 (by simp)
             clear hF
             simp only [h64, h63] at hK ⊢
             clear h64 h63
             have c_ := (HX3.out.up hJ).at 6 _ rfl
             go_simp
             exact hK.out _ _ (Below.refl _ _) (rfl) trivial
            refine AK.sc (lim := 0) (lo := 0) rfl rfl rfl rfl ?_ ?_
            ·intro k_ u w_ hk_ hl_ hJ hF K hK
             have h63 : u 63 = .bool false := AK.facts_get hF 63 (by simp)
             clear hF
             simp only [h63] at hK ⊢
             clear h63
             go_simp
             exact hK.out _ _ (Below.refl _ _) (rfl) trivial
            refine AK.sc (lim := 0) (lo := 0) rfl rfl rfl rfl ?_ ?_
            ·intro k_ u w_ hk_ hl_ hJ hF K hK
             have h63 : u 63 = .bool false := AK.facts_get hF 63 (by simp)
             clear hF
             simp only [h63] at hK ⊢
             clear h63
             go_simp
             exact hK.out _ _ (Below.refl _ _) (rfl) trivial
            refine AK.sc (lim := 0) (lo := 0) rfl rfl rfl rfl ?_ ?_
            ·intro k_ u w_ hk_ hl_ hJ hF K hK
             have h66 : u 66 = .slice (some ⟨bb, off, none⟩) n c := AK.facts_get hF 66 (by simp)
             have h67 : u 67 = .int .i64 (k : Int) := AK.facts_get hF 67 (by simp)
             have h63 : u 63 = .bool false := AK.facts_get hF 63 (by simp)
             clear hF
             simp only [h66, h67, h63] at hK ⊢
             clear h66 h67 h63
             go_simp
             exact hK.out _ _ (Below.refl _ _) (rfl) trivial
            refine AK.sc (lim := 0) (lo := 0) rfl rfl rfl rfl ?_ ?_
            ·intro k_ u w_ hk_ hl_ hJ hF K hK
             have h68 : u 68 = .pointer (some ⟨bb, off + k * 7, none⟩) := AK.facts_get hF 68 (by simp)
             have h63 : u 63 = .bool false := AK.facts_get hF 63 (by simp)
             clear hF
             simp only [h68, h63] at hK ⊢
             clear h68 h63
             go_simp
             exact hK.out _ _ (Below.refl _ _) (rfl) trivial
            refine AK.sc (lim := 0) (lo := 0) rfl rfl rfl rfl ?_ ?_
            ·intro k_ u w_ hk_ hl_ hJ hF K hK
             have h69 : u 69 = .pointer (some ⟨bb, off + k * 7 + 6, none⟩) := AK.facts_get hF 69 (by simp)
             have h63 : u 63 = .bool false := AK.facts_get hF 63 (by simp)
             clear hF
             simp only [h69, h63] at hK ⊢
             clear h69 h63
             have c_ := HY6.out _ hJ
             go_simp
             exact hK.out _ _ (Below.refl _ _) (rfl) trivial
            refine AK.sc (lim := 0) (lo := 0) rfl rfl rfl rfl ?_ ?_
            ·intro k_ u w_ hk_ hl_ hJ hF K hK
             have h65 : u 65 = .slice x.A x.n x.c := AK.facts_get hF 65 (by simp)
             have h70 : u 70 = .slice y.A y.n y.c := AK.facts_get hF 70 (by simp)
             have h63 : u 63 = .bool false := AK.facts_get hF 63 (by simp)
             clear hF
             simp only [h65, h70, h63] at hK ⊢
             clear h65 h70 h63
             go_simp
             refine (HOP.out _ (HXK.out.up hJ).hz (HYK.out.up hJ).hz).mono ?_
             rintro e w3 ⟨rfl, hb⟩
             exact hK.out _ _ hb (rfl) trivial
            refine AK.sc (lim := 0) (lo := 0) rfl rfl rfl rfl ?_ ?_
            ·intro k_ u w_ hk_ hl_ hJ hF K hK
             have h71 : u 71 = .bool true := AK.facts_get hF 71 (by simp)
             have h63 : u 63 = .bool false := AK.facts_get hF 63 (by simp)
             clear hF
             simp only [h71, h63] at hK ⊢
             clear h71 h63
             go_simp
             exact hK.out _ _ (Below.refl _ _) (rfl) trivial
            refine AK.sc (lim := 0) (lo := 0) rfl rfl rfl rfl ?_ ?_
            ·intro k_ u w_ hk_ hl_ hJ hF K hK
             have h63 : u 63 = .bool false := AK.facts_get hF 63 (by simp)
             have h72 : u 72 = .bool false := AK.facts_get hF 72 (by simp)
             clear hF
             simp only [h63, h72] at hK ⊢
             clear h63 h72
             go_simp
             exact hK.out _ _ (Below.refl _ _) (rfl) trivial
            refine AK.sc (lim := 0) (lo := 0) rfl rfl rfl rfl ?_ ?_
            ·intro k_ u w_ hk_ hl_ hJ hF K hK
             have h73 : u 73 = .bool false := AK.facts_get hF 73 (by simp)
             clear hF
             simp only [h73] at hK ⊢
             clear h73
             go_simp
             exact hK.out _ _ (Below.refl _ _) (rfl) trivial
            exact AK.StepsOk.nil
           ·intro u W9 hJ9 hF
            have h44 : u 44 = .bool false := AK.facts_get hF 44 (by simp [rpFO, AK.temps])
            clear hF
            simp only [h44]
            clear h44
            go_wp2_with fail
            go_ret
            exact ⟨by first | rfl | simp, (by have h9 := HB2.out.trans ((HB3.out.trans (hJ9.mono HB3.out.size)).mono HB2.out.size); first | exact h9 | (rw [← HS0.out]; exact h9))⟩
       ·rw [show rvE (Xs.map pe) p = 18 by rw [HRR.out]; simp [hy3, he]]
        rw [if_neg (by decide)]
        have HE1 : Hid ((y.ent != x.ent) = true) := Lib.hid (by simp [he])
        clear he
        go_enter Tryz.func28, Tryz.ntmps28
        go_wp2_with (first
         | (clear HM1; refine wpList_load_is rfl 29 _ rfl (.pointer (some ⟨s0, 0, none⟩)) rfl GV HLG.out ?_)
         | (clear HM2; refine wpList_load_is rfl 46 _ rfl (.pointer (some ⟨s0 + 1, 0, none⟩)) rfl XV HLX.out ?_)
         | (go_at_call 59; refine (HCK.out _ HK2.out HX2.out).mono ?_; rintro e w3 ⟨rfl, hb⟩; have HB3 := Lib.hid hb; clear hb; have HX3 := Lib.hid (HXB.out.up HB3.out); have p0 := HX3.out.at 0 _ rfl; have p3 := HX3.out.at 3 _ rfl; have p4 := HX3.out.at 4 _ rfl; rw [hkd] at p3)
         | (go_at_call 21; first
           | (clear HM3; refine (HG1.out _ (HZ2.out.up HB3.out)).mono ?_; rintro e w4 ⟨rfl, rfl⟩)
           | (clear HM4; refine (HG2.out _ (HZ2.out.up HB3.out)).mono ?_; rintro e w4 ⟨rfl, rfl⟩; have q3 := HY3.out _ HB3.out; skip))
         | (go_at_call 49; refine (HRV.out _ (HZ2.out.up HB3.out)).mono ?_; rintro e w4 ⟨rfl, rfl⟩))
        have HY1_ := Lib.hid (fun W (h : Below w3.heap.size w3 W) => HY1.out W (HB3.out.trans (h.mono HB3.out.size)))
        have HY2_ := Lib.hid (fun W (h : Below w3.heap.size w3 W) => HY2.out W (HB3.out.trans (h.mono HB3.out.size)))
        have HY6_ := Lib.hid (fun W (h : Below w3.heap.size w3 W) => HY6.out W (HB3.out.trans (h.mono HB3.out.size)))
        have HXK_ := Lib.hid (HX2.out.up HB3.out)
        have HYK_ := Lib.hid (HYK.out.up HB3.out)
        clear HY1 HY2 HY6 HYK
        have HY1 := HY1_
        have HY2 := HY2_
        have HY6 := HY6_
        have HXK := HXK_
        have HYK := HYK_
        refine AK.region_facts (Rp := Below0) (Kp := Below0) (rpFE x y bb off n c k s0 ob) (fun _ _ W => Below w3.heap.size w3 W) [[], [], [45, 46], [47], [48], [], [50], [49, 51], [52], [53], [53], [53], [53], [53], [53], [53], [53], [53, 61], [62], [63], [63], [63], [63], [63], [63], [63], [63], [63], [63, 72], [73]] [] [[]] [0, 0, 0, 0, 0, 0, 0, 0, 0, 0, 0, 0, 0, 0, 0, 0, 0, 0, 0, 0, 0, 0, 0, 0, 0, 0, 0, 0, 0, 0] [0, 0, 0, 0, 0, 0, 0, 0, 0, 0, 0, 0, 0, 0, 0, 0, 0, 0, 0, 0, 0, 0, 0, 0, 0, 0, 0, 0, 0, 0] [] (fun u => by simp only [rpFE, AK.temps, List.map_cons, List.map_nil, fillL, List.setIfInBounds_toArray, List.set_cons_zero, List.set_cons_succ]; rfl) (by kernel_rfl) (by kernel_rfl) (fun _ _ h => h.size) (fun _ _ h => h) (fun _ _ _ _ hb h => h.trans (hb.mono h.size)) (dc_drew (Below.refl _ _)) ?_ ?_
        ·refine AK.sc (lim := 0) (lo := 0) rfl rfl rfl rfl ?_ ?_
         ·intro k_ u w_ hk_ hl_ hJ hF K hK
          clear hF
          go_simp
          exact hK.out _ _ (Below.refl _ _) (rfl) trivial
         refine AK.sc (lim := 0) (lo := 0) rfl rfl rfl rfl ?_ ?_
         ·intro k_ u w_ hk_ hl_ hJ hF K hK
          clear hF
          go_simp
          exact hK.out _ _ (Below.refl _ _) (rfl) trivial
         refine AK.sc (lim := 0) (lo := 0) rfl rfl rfl rfl ?_ ?_
         ·intro k_ u w_ hk_ hl_ hJ hF K hK
          have h45 : u 45 = .slice (some ⟨bb, off, none⟩) n c := AK.facts_get hF 45 (by simp)
          have h46 : u 46 = .int .i64 (k : Int) := AK.facts_get hF 46 (by simp)
          clear hF
          simp only [h45, h46] at hK ⊢
          clear h45 h46
          go_simp
          exact hK.out _ _ (Below.refl _ _) (rfl) trivial
         refine AK.sc (lim := 0) (lo := 0) rfl rfl rfl rfl ?_ ?_
         ·intro k_ u w_ hk_ hl_ hJ hF K hK
          have h47 : u 47 = .pointer (some ⟨bb, off + k * 7, none⟩) := AK.facts_get hF 47 (by simp)
          clear hF
          simp only [h47] at hK ⊢
          clear h47
          go_simp
          exact hK.out _ _ (Below.refl _ _) (rfl) trivial
         refine AK.sc (lim := 0) (lo := 0) rfl rfl rfl rfl ?_ ?_
         ·intro k_ u w_ hk_ hl_ hJ hF K hK
          have h48 : u 48 = .pointer (some ⟨bb, off + k * 7 + 1, none⟩) := AK.facts_get hF 48 (by simp)
          clear hF
          simp only [h48] at hK ⊢
          clear h48
          have c_ := HY1.out _ hJ
          go_simp
          exact hK.out _ _ (Below.refl _ _) (rfl) trivial
         refine AK.sc (lim := 0) (lo := 0) rfl rfl rfl rfl ?_ ?_
         ·intro k_ u w_ hk_ hl_ hJ hF K hK
          clear hF
          go_simp
          exact hK.out _ _ (Below.refl _ _) (rfl) trivial
         refine AK.sc (lim := 0) (lo := 0) rfl rfl rfl rfl ?_ ?_
         ·intro k_ u w_ hk_ hl_ hJ hF K hK
          have h50 : u 50 = .pointer (some ⟨s0 + 1, 1, none⟩) := AK.facts_get hF 50 (by simp)
          clear hF
          simp only [h50] at hK ⊢
          clear h50
          have c_ := (HX3.out.up hJ).at 1 _ rfl
          go_simp
          exact hK.out _ _ (Below.refl _ _) (rfl) trivial
         refine AK.sc (lim := 0) (lo := 0) rfl rfl rfl rfl ?_ ?_
         ·intro k_ u w_ hk_ hl_ hJ hF K hK
          have h49 : u 49 = .int .i64 y.ent := AK.facts_get hF 49 (by simp)
          have h51 : u 51 = .int .i64 x.ent := AK.facts_get hF 51 (by simp)
          clear hF
          simp only [h49, h51] at hK ⊢
          clear h49 h51
          have e_ := HE1.out
          go_simp
          exact hK.out _ _ (Below.refl _ _) (rfl) trivial
         refine AK.sc (lim := 0) (lo := 0) rfl rfl rfl rfl ?_ ?_
         ·intro k_ u w_ hk_ hl_ hJ hF K hK
          have h52 : u 52 = .bool true := AK.facts_get hF 52 (by simp)
          clear hF
          simp only [h52] at hK ⊢
          clear h52
          go_simp
          exact hK.out _ _ (Below.refl _ _) (rfl) trivial
         refine AK.sc (lim := 0) (lo := 0) rfl rfl rfl rfl ?_ ?_
         ·intro k_ u w_ hk_ hl_ hJ hF K hK
          have h53 : u 53 = .bool true := AK.facts_get hF 53 (by simp)
          clear hF
          simp only [h53] at hK ⊢
          clear h53
          go_simp
          exact hK.out _ _ (Below.refl _ _) (rfl) trivial
         refine AK.sc (lim := 0) (lo := 0) rfl rfl rfl rfl ?_ ?_
         ·intro k_ u w_ hk_ hl_ hJ hF K hK
          have h53 : u 53 = .bool true := AK.facts_get hF 53 (by simp)
          clear hF
          simp only [h53] at hK ⊢
          clear h53
          go_simp
          exact hK.out _ _ (Below.refl _ _) (rfl) trivial
         refine AK.sc (lim := 0) (lo := 0) rfl rfl rfl rfl ?_ ?_
         ·intro k_ u w_ hk_ hl_ hJ hF K hK
          have h53 : u 53 = .bool true := AK.facts_get hF 53 (by simp)
          clear hF
          simp only [h53] at hK ⊢
          clear h53
          go_simp
          exact hK.out _ _ (Below.refl _ _) (rfl) trivial
         refine AK.sc (lim := 0) (lo := 0) rfl rfl rfl rfl ?_ ?_
         ·intro k_ u w_ hk_ hl_ hJ hF K hK
          have h53 : u 53 = .bool true := AK.facts_get hF 53 (by simp)
          clear hF
          simp only [h53] at hK ⊢
          clear h53
          go_simp
          exact hK.out _ _ (Below.refl _ _) (rfl) trivial
         refine AK.sc (lim := 0) (lo := 0) rfl rfl rfl rfl ?_ ?_
         ·intro k_ u w_ hk_ hl_ hJ hF K hK
          have h53 : u 53 = .bool true := AK.facts_get hF 53 (by simp)
          clear hF
          simp only [h53] at hK ⊢
          clear h53
          go_simp
          exact hK.out _ _ (Below.refl _ _) (rfl) trivial
         refine AK.sc (lim := 0) (lo := 0) rfl rfl rfl rfl ?_ ?_
         ·intro k_ u w_ hk_ hl_ hJ hF K hK
          have h53 : u 53 = .bool true := AK.facts_get hF 53 (by simp)
          clear hF
          simp only [h53] at hK ⊢
          clear h53
          go_simp
          exact hK.out _ _ (Below.refl _ _) (rfl) trivial
         refine AK.sc (lim := 0) (lo := 0) rfl rfl rfl rfl ?_ ?_
         ·intro k_ u w_ hk_ hl_ hJ hF K hK
          have h53 : u 53 = .bool true := AK.facts_get hF 53 (by simp)
          clear hF
          simp only [h53] at hK ⊢
          clear h53
          go_simp
          exact hK.out _ _ (Below.refl _ _) (rfl) trivial
         refine AK.sc (lim := 0) (lo := 0) rfl rfl rfl rfl ?_ ?_
         ·intro k_ u w_ hk_ hl_ hJ hF K hK
          have h53 : u 53 = .bool true := AK.facts_get hF 53 (by simp)
          clear hF
          simp only [h53] at hK ⊢
          clear h53
          go_simp
          exact hK.out _ _ (Below.refl _ _) (rfl) trivial
         refine AK.sc (lim := 0) (lo := 0) rfl rfl rfl rfl ?_ ?_
         ·intro k_ u w_ hk_ hl_ hJ hF K hK
          have h53 : u 53 = .bool true := AK.facts_get hF 53 (by simp)
          have h61 : u 61 = undef := AK.facts_get hF 61 (by simp)
          clear hF
          simp only [h53, h61] at hK ⊢
          clear h53 h61
          go_simp
          exact hK.out _ _ (Below.refl _ _) (rfl) trivial
         refine AK.sc (lim := 0) (lo := 0) rfl rfl rfl rfl ?_ ?_
         ·intro k_ u w_ hk_ hl_ hJ hF K hK
          have h62 : u 62 = .bool true := AK.facts_get hF 62 (by simp)
          clear hF
          simp only [h62] at hK ⊢
          clear h62
          go_simp
          exact hK.out _ _ (Below.refl _ _) (rfl) trivial
         refine AK.sc (lim := 0) (lo := 0) rfl rfl rfl rfl ?_ ?_
         ·intro k_ u w_ hk_ hl_ hJ hF K hK
          have h63 : u 63 = .bool true := AK.facts_get hF 63 (by simp)
          clear hF
          simp only [h63] at hK ⊢
          clear h63
          go_simp
          exact hK.out _ _ (Below.refl _ _) (rfl) trivial
         refine AK.sc (lim := 0) (lo := 0) rfl rfl rfl rfl ?_ ?_
         ·intro k_ u w_ hk_ hl_ hJ hF K hK
          have h63 : u 63 = .bool true := AK.facts_get hF 63 (by simp)
          clear hF
          simp only [h63] at hK ⊢
          clear h63
          go_simp
          exact hK.out _ _ (Below.refl _ _) (rfl) trivial
         refine AK.sc (lim := 0) (lo := 0) rfl rfl rfl rfl ?_ ?_
         ·intro k_ u w_ hk_ hl_ hJ hF K hK
          have h63 : u 63 = .bool true := AK.facts_get hF 63 (by simp)
          clear hF
          simp only [h63] at hK ⊢
          clear h63
          go_simp
          exact hK.out _ _ (Below.refl _ _) (rfl) trivial
         refine AK.sc (lim := 0) (lo := 0) rfl rfl rfl rfl ?_ ?_
         ·intro k_ u w_ hk_ hl_ hJ hF K hK
          have h63 : u 63 = .bool true := AK.facts_get hF 63 (by simp)
          clear hF
          simp only [h63] at hK ⊢
          clear h63
          go_simp
          exact hK.out _ _ (Below.refl _ _) (rfl) trivial
         refine AK.sc (lim := 0) (lo := 0) rfl rfl rfl rfl ?_ ?_
         ·intro k_ u w_ hk_ hl_ hJ hF K hK
          have h63 : u 63 = .bool true := AK.facts_get hF 63 (by simp)
          clear hF
          simp only [h63] at hK ⊢
          clear h63
          go_simp
          exact hK.out _ _ (Below.refl _ _) (rfl) trivial
         refine AK.sc (lim := 0) (lo := 0) rfl rfl rfl rfl ?_ ?_
         ·intro k_ u w_ hk_ hl_ hJ hF K hK
          have h63 : u 63 = .bool true := AK.facts_get hF 63 (by simp)
          clear hF
          simp only [h63] at hK ⊢
          clear h63
          go_simp
          exact hK.out _ _ (Below.refl _ _) (rfl) trivial
         refine AK.sc (lim := 0) (lo := 0) rfl rfl rfl rfl ?_ ?_
         ·intro k_ u w_ hk_ hl_ hJ hF K hK
          have h63 : u 63 = .bool true := AK.facts_get hF 63 (by simp)
          clear hF
          simp only [h63] at hK ⊢
          clear h63
          go_simp
          exact hK.out _ _ (Below.refl _ _) (rfl) trivial
         refine AK.sc (lim := 0) (lo := 0) rfl rfl rfl rfl ?_ ?_
         ·intro k_ u w_ hk_ hl_ hJ hF K hK
          have h63 : u 63 = .bool true := AK.facts_get hF 63 (by simp)
          clear hF
          simp only [h63] at hK ⊢
          clear h63
          go_simp
          exact hK.out _ _ (Below.refl _ _) (rfl) trivial
         refine AK.sc (lim := 0) (lo := 0) rfl rfl rfl rfl ?_ ?_
         ·intro k_ u w_ hk_ hl_ hJ hF K hK
          have h63 : u 63 = .bool true := AK.facts_get hF 63 (by simp)
          clear hF
          simp only [h63] at hK ⊢
          clear h63
          go_simp
          exact hK.out _ _ (Below.refl _ _) (rfl) trivial
         refine AK.sc (lim := 0) (lo := 0) rfl rfl rfl rfl ?_ ?_
         ·intro k_ u w_ hk_ hl_ hJ hF K hK
          have h63 : u 63 = .bool true := AK.facts_get hF 63 (by simp)
          have h72 : u 72 = undef := AK.facts_get hF 72 (by simp)
          clear hF
          simp only [h63, h72] at hK ⊢
          clear h63 h72
          go_simp
          exact hK.out _ _ (Below.refl _ _) (rfl) trivial
         refine AK.sc (lim := 0) (lo := 0) rfl rfl rfl rfl ?_ ?_
         ·intro k_ u w_ hk_ hl_ hJ hF K hK
          have h73 : u 73 = .bool true := AK.facts_get hF 73 (by simp)
          clear hF
          simp only [h73] at hK ⊢
          clear h73
          go_simp
          exact hK.out _ _ (Below.refl _ _) (rfl) trivial
         exact AK.StepsOk.nil
        ·intro u W9 hJ9 hF
         have h44 : u 44 = .bool true := AK.facts_get hF 44 (by simp [rpFE, AK.temps])
         clear hF
         simp only [h44]
         clear h44
         go_wp2_with fail
         go_ret
         exact ⟨by first | rfl | simp, (by have h9 := HB2.out.trans ((HB3.out.trans (hJ9.mono HB3.out.size)).mono HB2.out.size); first | exact h9 | (rw [← HS0.out]; exact h9))⟩
      ·have hk3q : (k3 != 0) = true := by simp [hk3]
       rw [show rvE (Xs.map pe) p = 7 by rw [HRR.out]; simp [hk3]]
       rw [if_neg (by decide)]
       go_enter Tryz.func28, Tryz.ntmps28
       go_wp2_with (first
        | (clear HM1; refine wpList_load_is rfl 29 _ rfl (.pointer (some ⟨s0, 0, none⟩)) rfl GV HLG.out ?_)
        | (clear HM2; refine wpList_load_is rfl 46 _ rfl (.pointer (some ⟨s0 + 1, 0, none⟩)) rfl XV HLX.out ?_)
        | (go_at_call 59; refine (HCK.out _ HK2.out HX2.out).mono ?_; rintro e w3 ⟨rfl, hb⟩; have HB3 := Lib.hid hb; clear hb; have HX3 := Lib.hid (HXB.out.up HB3.out); have p0 := HX3.out.at 0 _ rfl; have p3 := HX3.out.at 3 _ rfl; have p4 := HX3.out.at 4 _ rfl; rw [hkd] at p3)
        | (go_at_call 21; first
          | (clear HM3; refine (HG1.out _ (HZ2.out.up HB3.out)).mono ?_; rintro e w4 ⟨rfl, rfl⟩)
          | (clear HM4; refine (HG2.out _ (HZ2.out.up HB3.out)).mono ?_; rintro e w4 ⟨rfl, rfl⟩; have q3 := HY3.out _ HB3.out))
        | (go_at_call 49; refine (HRV.out _ (HZ2.out.up HB3.out)).mono ?_; rintro e w4 ⟨rfl, rfl⟩))
       go_ret
       exact ⟨by first | rfl | (simp), (by have h9 := HB2.out.trans (HB3.out.mono HB2.out.size); first | exact h9 | (rw [← HS0.out]; exact h9))⟩
   ·rw [show rvE (Xs.map pe) p = 0 by unfold rvE; rw [if_neg (by rw [HPK.out]; exact hkd)], if_pos rfl]
    have hkq : (x.kind == 3) = false := by simp [hkd]
    by_cases hn2 : 2000 ≤ n
    ·have hnz : (2000 : Int) ≤ (n : Int) := by omega
     rw [if_pos hn2]
     go_enter Tryz.func28, Tryz.ntmps28
     go_wp2_with (first
      | (clear HM1; refine wpList_load_is rfl 29 _ rfl (.pointer (some ⟨s0, 0, none⟩)) rfl GV HLG.out ?_)
      | (clear HM2; refine wpList_load_is rfl 46 _ rfl (.pointer (some ⟨s0 + 1, 0, none⟩)) rfl XV HLX.out ?_)
      | (go_at_call 59; refine (HCK.out _ HK2.out HX2.out).mono ?_; rintro e w3 ⟨rfl, hb⟩; have HB3 := Lib.hid hb; clear hb; have HX3 := Lib.hid (HXB.out.up HB3.out); have p0 := HX3.out.at 0 _ rfl; have p3 := HX3.out.at 3 _ rfl; have p4 := HX3.out.at 4 _ rfl; skip)
      | (go_at_call 21; first
        | (clear HM3; refine (HG1.out _ (HZ2.out.up HB3.out)).mono ?_; rintro e w4 ⟨rfl, rfl⟩)
        | (clear HM4; refine (HG2.out _ (HZ2.out.up HB3.out)).mono ?_; rintro e w4 ⟨rfl, rfl⟩; skip))
      | (go_at_call 49; refine (HRV.out _ (HZ2.out.up HB3.out)).mono ?_; rintro e w4 ⟨rfl, rfl⟩))
     go_ret
     exact ⟨by first | rfl | (simp), (by have h9 := HB2.out.trans (HB3.out.mono HB2.out.size); first | exact h9 | (rw [← HS0.out]; exact h9))⟩
    ·have hnz : ¬ (2000 : Int) ≤ (n : Int) := by omega
     rw [if_neg hn2]
     go_enter Tryz.func28, Tryz.ntmps28
     go_wp2_with (first
      | (clear HM1; refine wpList_load_is rfl 29 _ rfl (.pointer (some ⟨s0, 0, none⟩)) rfl GV HLG.out ?_)
      | (clear HM2; refine wpList_load_is rfl 46 _ rfl (.pointer (some ⟨s0 + 1, 0, none⟩)) rfl XV HLX.out ?_)
      | (go_at_call 59; refine (HCK.out _ HK2.out HX2.out).mono ?_; rintro e w3 ⟨rfl, hb⟩; have HB3 := Lib.hid hb; clear hb; have HX3 := Lib.hid (HXB.out.up HB3.out); have p0 := HX3.out.at 0 _ rfl; have p3 := HX3.out.at 3 _ rfl; have p4 := HX3.out.at 4 _ rfl; skip)
      | (go_at_call 21; first
        | (clear HM3; refine (HG1.out _ (HZ2.out.up HB3.out)).mono ?_; rintro e w4 ⟨rfl, rfl⟩)
        | (clear HM4; refine (HG2.out _ (HZ2.out.up HB3.out)).mono ?_; rintro e w4 ⟨rfl, rfl⟩; skip))
      | (go_at_call 49; refine (HRV.out _ (HZ2.out.up HB3.out)).mono ?_; rintro e w4 ⟨rfl, rfl⟩))
     go_ret
     exact ⟨by first | rfl | (simp), (by have h9 := HB2.out.trans (HB3.out.mono HB2.out.size); first | exact h9 | (rw [← HS0.out]; exact h9))⟩
  ·have h1' : (0 : Int) ≤ k1 := by omega
   rw [if_neg h1]
   have hf : ∀ a b : Int, fst4 0 9 a b = 9 := fun a b => rfl
   rw [hf]
   go_enter Tryz.func28, Tryz.ntmps28
   go_wp2_with (first
    | (clear HM1; refine wpList_load_is rfl 29 _ rfl (.pointer (some ⟨s0, 0, none⟩)) rfl GV HLG.out ?_)
    | (clear HM2; refine wpList_load_is rfl 46 _ rfl (.pointer (some ⟨s0 + 1, 0, none⟩)) rfl XV HLX.out ?_)
    | (go_at_call 59; refine (HCK.out _ HK2.out HX2.out).mono ?_; rintro e w3 ⟨rfl, hb⟩; have HB3 := Lib.hid hb; clear hb; have HX3 := Lib.hid (HXB.out.up HB3.out); have p0 := HX3.out.at 0 _ rfl; have p3 := HX3.out.at 3 _ rfl; have p4 := HX3.out.at 4 _ rfl; skip)
    | (go_at_call 21; first
      | (clear HM3; refine (HG1.out _ (HZ2.out.up HB3.out)).mono ?_; rintro e w4 ⟨rfl, rfl⟩)
      | (clear HM4; refine (HG2.out _ (HZ2.out.up HB3.out)).mono ?_; rintro e w4 ⟨rfl, rfl⟩; skip))
    | (go_at_call 49; refine (HRV.out _ (HZ2.out.up HB3.out)).mono ?_; rintro e w4 ⟨rfl, rfl⟩))
   go_ret
   exact ⟨by first | rfl | (simp), (by have h9 := HB2.out.trans (HB3.out.mono HB2.out.size); first | exact h9 | (rw [← HS0.out]; exact h9))⟩
 ·have hf : ∀ a b d : Int, fst4 cc a b d = cc := fun a b d => by unfold fst4; rw [if_neg hc]
  rw [hf]
  have hcq : (cc != 0) = true := by simp [hc]
  clear hf
  go_enter Tryz.func28, Tryz.ntmps28
  go_wp2_with (first
   | (clear HM1; refine wpList_load_is rfl 29 _ rfl (.pointer (some ⟨s0, 0, none⟩)) rfl GV HLG.out ?_)
   | (clear HM2; refine wpList_load_is rfl 46 _ rfl (.pointer (some ⟨s0 + 1, 0, none⟩)) rfl XV HLX.out ?_)
   | (go_at_call 59; refine (HCK.out _ HK2.out HX2.out).mono ?_; rintro e w3 ⟨rfl, hb⟩; have HB3 := Lib.hid hb; clear hb; have HX3 := Lib.hid (HXB.out.up HB3.out); have p0 := HX3.out.at 0 _ rfl; have p3 := HX3.out.at 3 _ rfl; have p4 := HX3.out.at 4 _ rfl; skip)
   | (go_at_call 21; first
     | (clear HM3; refine (HG1.out _ (HZ2.out.up HB3.out)).mono ?_; rintro e w4 ⟨rfl, rfl⟩)
     | (clear HM4; refine (HG2.out _ (HZ2.out.up HB3.out)).mono ?_; rintro e w4 ⟨rfl, rfl⟩; skip))
   | (go_at_call 49; refine (HRV.out _ (HZ2.out.up HB3.out)).mono ?_; rintro e w4 ⟨rfl, rfl⟩))
  go_ret
  exact ⟨by first | rfl | (simp), (by have h9 := HB2.out.trans (HB3.out.mono HB2.out.size); first | exact h9 | (rw [← HS0.out]; exact h9))⟩
theorem fnd_noPar (L : List Acc) (c : Int) : fnd (L.map noPar) c = (fnd L c).map noPar := by
 unfold fnd
 rw [List.find?_map]
 rfl
theorem getD_noPar (L : List Acc) (k : Nat) : (L.map noPar).getD k acc0 = noPar (L.getD k acc0) := by
 rw [List.getD_eq_getElem?_getD, List.getD_eq_getElem?_getD, List.getElem?_map]
 cases L[k]? <;> rfl
theorem lastC_noPar (L : List Acc) (k : Nat) : lastC (L.map noPar) k = lastC L k := by
 cases k with
 | zero => rfl
 | succ k => rw [lastC_succ, lastC_succ, getD_noPar]; rfl
theorem codesTo_noPar (L : List Acc) (k : Nat) : codesTo (L.map noPar) k = codesTo L k := by
 induction k with
 | zero => rfl
 | succ k ih => rw [codes_succ, codes_succ, ih, lastC_noPar, getD_noPar]; rfl
theorem lastC_nn {L : List Acc} : ∀ {k : Nat}, codesTo L k = true → 0 ≤ lastC L k ∧ ∀ i, i < k → 0 < (L.getD i acc0).code
 | 0, _ => ⟨Int.le_refl _, fun i h => by omega⟩
 | k + 1, h => by
  rw [codes_succ, Bool.and_eq_true, decide_eq_true_eq] at h
  obtain ⟨h1, h2⟩ := lastC_nn h.1
  have h3 := h.2
  refine ⟨by rw [lastC_succ]; omega, fun i hi => ?_⟩
  rcases Nat.lt_or_ge i k with h4 | h4
  ·exact h2 i h4
  ·obtain rfl : i = k := by omega
   omega
theorem fnd_zero {L : List Acc} (h : codesTo L L.length = true) : fnd L 0 = none := by
 cases h1 : fnd L 0 with
 | none => rfl
 | some a =>
  obtain ⟨h2, h3⟩ := fnd_some h1
  obtain ⟨i, hi, e⟩ := List.getElem_of_mem h2
  have h4 := (lastC_nn h).2 i hi
  rw [List.getD_eq_getElem?_getD, List.getElem?_eq_getElem hi] at h4
  simp only [Option.getD_some] at h4
  rw [e, h3] at h4
  omega
theorem vB_noPar {L : List Acc} {g : Bool} (h : vB L g = true) : vB (L.map noPar) g = true := by
 unfold vB at h ⊢
 simp only [Bool.and_eq_true, decide_eq_true_eq] at h ⊢
 obtain ⟨⟨⟨⟨h1, h2⟩, h3⟩, h4⟩, h5⟩ := h
 have h2' := h2
 unfold codesB at h2
 simp only [Bool.and_eq_true] at h2
 have hc : codesTo (L.map noPar) (L.map noPar).length = true := by rw [codesTo_noPar, List.length_map]; exact h2.1
 refine ⟨⟨⟨⟨by rw [List.length_map]; exact h1, ?_⟩, ?_⟩, ?_⟩, ?_⟩
 ·unfold codesB
  simp only [Bool.and_eq_true]
  exact ⟨hc, by rw [lastC_noPar, List.length_map]; exact h2.2⟩
 ·unfold kindsB at h3 ⊢
  rw [List.all_map]
  exact h3
 ·unfold parentsB
  rw [List.all_map]
  exact List.all_eq_true.2 fun a _ => by simp [parB, noPar]
 ·unfold topsB
  rw [List.all_map]
  refine List.all_eq_true.2 fun a ha => ?_
  show topB (L.map noPar) (noPar a) = true
  unfold topB
  rw [decide_eq_true_eq]
  have hpos : 0 < (L.map noPar).length := by rw [List.length_map]; exact List.length_pos_of_mem ha
  unfold climb
  cases hf : fnd (L.map noPar) (noPar a).code with
  | none => rw [climbN_none hf]; simp
  | some b =>
   rw [climbN_some hf]
   have hb : b.par = 0 := by
    rw [fnd_noPar] at hf
    cases h6 : fnd L (noPar a).code with
    | none => rw [h6] at hf; cases hf
    | some d => rw [h6] at hf; injection hf with hf; rw [← hf]; rfl
   rw [hb, climbN_none (fnd_zero hc)]
   rw [List.length_singleton]
   exact hpos
theorem fndA_noPar (L : List Acc) (c : Int) : fndA (L.map noPar) c = noPar (fndA L c) := by
 unfold fndA
 rw [fnd_noPar]
 cases fnd L c <;> rfl
theorem chaB_noPar {L : List Acc} (h : chaB L = true) : chaB (L.map noPar) = true := by
 unfold chaB at h ⊢
 rw [Bool.and_eq_true] at h ⊢
 refine ⟨vB_noPar h.1, ?_⟩
 rw [List.all_map]
 exact h.2
theorem allTo_same {p q : Nat → Bool} : ∀ {n : Nat}, (∀ i, i < n → p i = q i) → allTo p n = allTo q n
 | 0, _ => rfl
 | n + 1, h => by
  show (allTo p n && p n) = (allTo q n && q n)
  rw [allTo_same fun i hi => h i (by omega), h n (by omega)]
theorem rlsB_noPar (L : List Acc) (R : List Int) : rlsB (L.map noPar) R = rlsB L R := by
 unfold rlsB
 congr 1
 refine allTo_same fun i _ => ?_
 unfold chkR
 rw [fndA_noPar, fnd_noPar]
 cases fnd L (R.getD i 0) <;> rfl
theorem bar_at {P G : List Ent} (h : Bar P G) (i : Nat) (hi : i < G.length) : (P.getD i ent0).nm = (G.getD i ent0).nm ∧ (P.getD i ent0).cur = (G.getD i ent0).cur ∧ (P.getD i ent0).L = (G.getD i ent0).L.map noPar ∧ (P.getD i ent0).K = [] ∧ (P.getD i ent0).jt = (G.getD i ent0).jt := by
 have hl := h.len
 have h1 : (P.map strE)[i]? = (G.map fun e => strE (bareE e none 0))[i]? := by rw [show P.map strE = G.map fun e => strE (bareE e none 0) from h]
 rw [List.getElem?_map, List.getElem?_map, List.getElem?_eq_getElem hi, List.getElem?_eq_getElem (by omega)] at h1
 simp only [Option.map_some, Option.some.injEq] at h1
 rw [List.getD_eq_getElem?_getD, List.getD_eq_getElem?_getD, List.getElem?_eq_getElem hi, List.getElem?_eq_getElem (by omega : i < P.length)]
 simp only [Option.getD_some]
 unfold strE bareE at h1
 injection h1 with e1 e2 e3 e4 e5 e6 e7 e8 e9 e10 e11
 exact ⟨e1, e2, e10, e11, e9⟩
theorem ensP_bar {L : List Acc} {R : List Int} {P G : List Ent} (hc : vB (L.map noPar) true = true) (hb : Bar P G) (h : ensP L R G = true) : ensP (L.map noPar) R P = true := by
 unfold ensP at h ⊢
 simp only [Bool.and_eq_true, decide_eq_true_eq, Bool.not_eq_true'] at h ⊢
 obtain ⟨h1, h2, h3, h4⟩ := h
 have hl := hb.len
 refine ⟨by omega, by omega, by rw [(bar_at hb 0 (by omega)).2.2.2.2]; exact h3, ?_⟩
 rw [hl]
 rw [← h4]
 refine allTo_same fun i hi => ?_
 have h5 : rowP L R G i = true := by
  have h6 := allTo_le (k := i + 1) (by omega) h4
  have h7 : (allTo (rowP L R G) i && rowP L R G i) = true := h6
  rw [Bool.and_eq_true] at h7
  exact h7.2
 rw [h5]
 unfold rowP at h5 ⊢
 rw [Bool.and_eq_true] at h5 ⊢
 obtain ⟨b1, b2, b3, b4, b5⟩ := bar_at hb i hi
 refine ⟨?_, ?_⟩
 ·rw [← h5.1]
  unfold dsN
  exact allTo_same fun k hk => by rw [(bar_at hb k (by omega)).1, b1]
 ·have h8 := h5.2
  unfold enpB at h8 ⊢
  simp only [Bool.and_eq_true] at h8 ⊢
  rw [b1, b2, b3, b4]
  refine ⟨h8.1, h8.2.1, ?_, rfl⟩
  have h9 := h8.2.2.1
  unfold mvB at h9 ⊢
  simp only [Bool.and_eq_true] at h9 ⊢
  exact ⟨hc, vB_noPar h9.2.1, by decide, rfl, rfl⟩
theorem grpP_bare {g : Grp} {L : List Acc} {G : List Ent} {j : JD} (hb : BareD g L G j) (h : grpP g L G = true) : grpP j.g j.L j.G = true := by
 obtain ⟨A, c, E, d, e1, e2, e3⟩ := hb
 unfold grpP at h ⊢
 rw [e1, e2]
 simp only [Bool.and_eq_true] at h ⊢
 obtain ⟨h1, h2, h3, h4, h5⟩ := h
 have hc := chaB_noPar h3
 refine ⟨h1, h2, hc, ?_, ?_⟩
 ·rw [rlsB_noPar]; exact h4
 ·have hv := hc
  unfold chaB at hv
  rw [Bool.and_eq_true] at hv
  exact ensP_bar hv.1 e3 h5
theorem acB_noPar (L : List Acc) (X : List Lnk) : acB (L.map noPar) X = acB L X := by
 unfold acB
 congr 1
 funext l
 rw [fnd_noPar]
 cases fnd L l.frm <;> rfl
theorem chk_bare {g : Grp} {L : List Acc} {G : List Ent} {j : JD} (hb : BareD g L G j) (h : grpP g L G = true) (hlg : G.length = g.m) (x : Ety) (X : List Lnk) (hx : X.length = x.n) : chkN j.g x X j.L j.G = rchkN (shpB (grpR g L G) g x X) (acB (G.getD x.ent.toNat ent0).L X) (rtlN g x X) := by
 rw [← chk_eq g x X L G hx]
 have hv := grpP_bare hb h
 obtain ⟨A, c, E, d, e1, e2, e3⟩ := hb
 unfold chkN hdN
 rw [hv, h]
 rw [e1]
 show fst6 (if (true && (decide (1 ≤ x.id) && (entIn g x.ent && orgB x.kind x.of_))) = true then 0 else 1) (erB (txtB x.txt)) (erB (lsB g x.ent X)) (er17 (acB (j.G.getD x.ent.toNat ent0).L X)) (prE g.cy g.cm g.cp x.day) (blN X) = _
 cases hE : entIn g x.ent with
 | false => rw [if_neg (by simp)]; rfl
 | true =>
  have hi : x.ent.toNat < G.length := by
   unfold entIn at hE
   simp only [Bool.and_eq_true, decide_eq_true_eq] at hE
   omega
  rw [(bar_at e3 _ hi).2.2.1, acB_noPar]
end Go.Proofs.YthokdplikidhiaaGreat
