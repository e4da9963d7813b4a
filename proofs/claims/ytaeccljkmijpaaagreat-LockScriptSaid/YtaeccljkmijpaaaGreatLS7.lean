/- Contracts of the functions that the statements reach, part 7: what was proved of each, callees first. -/
import Derived.Shelf.SlGeneric
import Derived.Shelf.SlIter.Nil
import Derived.RangeFuncBound
import Derived.Sort.OwnSorted
import Derived.Lib.AppendIntMem
import Derived.BigQuiet
import Derived.Deep.RegionHeldLaw
import Derived.Test.YtaeccljkmijpaaaGreatLS6
namespace Go.Proofs.YtaeccljkmijpaaaGreat
open Go.RowKit Go.Maps Go.Sort Go.Shelf
def lkCelP (k : Int × Int) : List Value := [.int .i64 k.1, .int .i64 k.2]
theorem lkCells_two_new (w : World) (t : TypeId) (a b : Value) : ∀ (j : Nat) (u : Value), [a, b][j]? = some u → (w.alloc (.cells #[a, b] t)).cell? ((⟨w.heap.size, 0, none⟩ : Addr).add j) = some u := by
 intro j u hj
 match j, hj with
 | 0, hj =>
  simp at hj; subst hj
  unfold World.cell? Addr.add
  rw [if_pos rfl]
  dsimp only
  rw [heap_alloc_new]
  rfl
 | 1, hj =>
  simp at hj; subst hj
  unfold World.cell? Addr.add
  rw [if_neg (by decide)]
  dsimp only
  rw [heap_alloc_new]
  rfl
 | j + 2, hj => simp at hj
theorem lkInfoP : (Tryz.prog.info? 89).map (fun i => (i.zero, i.size, i.bytes)) = some (some (.agg #[.int .i64 0, .int .i64 0]), 2, 16) := by kernel_rfl
def lkCollP (D0 : DataW Value) (left : Lit → Bool) (ss : List (Int × Int)) : Prop := ss.Nodup ∧ ∀ k, k ∈ ss ↔ okK k ∧ Maps.has D0 (klit k) = true ∧ left (klit k) = false
section
variable {D0 : DataW Value} {left : Lit → Bool} {ss : List (Int × Int)}
theorem lkCollP.start (D0 : DataW Value) : lkCollP D0 (Maps.has D0) [] := ⟨List.nodup_nil, fun k => by cases Maps.has D0 (klit k) <;> simp⟩
theorem lkCollP.step (h : lkCollP D0 left ss) {x : Int × Int} (hx : okK x) {y : DataW Value} (hlk : left (klit x) = true) (hat : ∀ zd, D0.atKey (klit x) zd = y) : lkCollP D0 (fun z => left z && !z.sameKey (klit x)) (ss ++ [x]) := by
 have hhas : Maps.has D0 (klit x) = true := has_true_of_atKey hat
 have hno : x ∉ ss := fun hm => by
  have := ((h.2 x).1 hm).2.2
  rw [hlk] at this; cases this
 refine ⟨List.nodup_append.2 ⟨h.1, by simp, fun a ha b hb e => ?_⟩, fun q => ?_⟩
 ·rw [List.mem_singleton] at hb
  subst hb; subst e; exact hno ha
 ·rw [List.mem_append, List.mem_singleton, h.2 q]
  by_cases hq : q = x
  ·subst hq
   have : (klit q).sameKey (klit q) = true := WideAt.sameKey_self (lk_keyed.key (lk_key hx))
   simp [this, hhas, hx]
  ·constructor
   ·rintro (⟨h1, h2, h3⟩ | rfl)
    ·exact ⟨h1, h2, by simp [h3]⟩
    ·exact absurd rfl hq
   ·rintro ⟨h1, h2, h3⟩
    have hne : (klit q).sameKey (klit x) = false := by
     cases hs : (klit q).sameKey (klit x)
     ·rfl
     ·exact absurd (lk_inj h1 hx (WideAt.sameKey_eq hs)) hq
    simp only [hne] at h3
    exact .inl ⟨h1, h2, by simpa using h3⟩
end
set_option maxRecDepth 100000 in
set_option maxHeartbeats 1600000 in
theorem lkPkeys1_in (n : Nat) (hn : 1 ≤ n) (l Bm b nn : Nat) (D0 : DataW Value) (J : List (Int × Int) → World → Prop)
  (hY : ∀ pre x W, J pre W → pre.length < Maps.size D0 → YieldAt Fence.wide (n - 1) Tryz.prog l #[pairV x] W fun e W' => e = .returned (.bool true) ∧ J (pre ++ [x]) W' ∧ KeepsWalks W W')
  (W : World) (hJ : AbidesFrom W.heap.size J) (hm : W.cell? ⟨Bm, 0, none⟩ = some (.map (some b))) (hown : W.ownsMap Tryz.prog 89 heldP b nn D0) (h0 : J [] W) :
  CallsIn Fence.wide n Tryz.prog 115 #[.func (.yield l) #[] #[], .pointer (some ⟨Bm, 0, none⟩)] W fun e W' => (∃ v, e = .returned v) ∧ ∃ ss : List (Int × Int), lkCollP D0 (fun _ => false) ss ∧ J ss W' := by
 refine callsIn_of_wp Tryz.func115 rfl trivial ?_ rfl
 simp only [Tryz.ntmps115, List.size_toArray, List.length_cons, List.length_nil, Nat.reduceAdd, Nat.reduceSub, Array.replicate_succ, Array.replicate_zero, List.push_toArray, List.append_toArray, List.nil_append, List.cons_append]
 gi_wp2_with (first
  | (gi_at_range; refine wpListIn_range_own _ rfl _ 120 rfl 89 4 lk_keyed Tryz.underlying120 _ b nn _ rfl hown ?_; intro w0 hrg0 hg0 hs0)
  | gi_in)
 go_frame
 gi_loopw [3] (fun _ wr => ∃ (left : Lit → Bool) (cnt : Nat) (ss : List (Int × Int)), wr.ranges Tryz.prog 89 heldP b W.heap.size nn D0 left cnt ∧ ss.length + cnt ≤ Maps.size D0 ∧ lkCollP D0 left ss ∧ J ss wr ∧ W.heap.size ≤ wr.heap.size)
  (fun _ wr => wr.rangeLeft b W.heap.size)
 case atStart =>
  exact ⟨_, _, [], hrg0, by simp, lkCollP.start D0, hJ [] W w0 none h0 hg0 (fun r e => by cases e), by omega⟩
 case round =>
  obtain ⟨left, cnt, ss, hrg, hcs, hC, hJs, hsz⟩ := hrel
  gi_wp2_with (first
   | (gi_at_next; refine wpListIn_next_ranges _ rfl _ rfl 89 lk_keyed heldP pairV id (fun key kl hk => by obtain ⟨x, hx, _⟩ := lk_of_key hk; exact ⟨x, hx⟩) (fun v _ _ => ⟨v, rfl⟩) b W.heap.size nn _ _ _ rfl hrg ?_ ?_)
   | gi_in)
  ·intro hc0 hl0
   gi_wp2
   go_end0
   obtain rfl : left = fun _ => false := funext hl0
   exact ⟨⟨_, rfl⟩, ss, hC, hJs⟩
  ·intro x1 x2 c kl yd yp w2 cnt2 hkey hlk hv hv2 hat hrg2 hlt hg2 hs2 hen
   obtain ⟨x', ex, rfl, hok⟩ := lk_of_key hkey
   obtain rfl : (x1, x2) = x' := by
    simp only [pairV, Value.agg.injEq, Array.mk.injEq, List.cons.injEq, Value.int.injEq, true_and, and_true] at ex
    exact Prod.ext ex.1 ex.2
   have hJ2 : J ss w2 := hJ ss wr w2 (some W.heap.size) hJs hg2 (fun r e => by cases e; exact ⟨Nat.le_refl _, hrg.iter_walk⟩)
   obtain ⟨w3, hw3⟩ : ∃ w3, w2.alloc (.cells #[.int .i64 x1, .int .i64 x2] 89) = w3 := ⟨_, rfl⟩
   have hJ3 : J ss w3 := hJ ss w2 w3 none hJ2 (by rw [← hw3]; exact World.grownBy_alloc _ _ none) (fun r e => by cases e)
   have hp3 : P2 w3 w2.heap.size (x1, x2) := by rw [← hw3]; exact p2_new w2 _ (x1, x2)
   obtain ⟨d0, d1, -⟩ := hp3
   dsimp only at d0 d1
   have hrg3 := hrg2.of_walks (by rw [← hw3]; exact KeepsWalks.alloc _ _ : KeepsWalks w2 w3)
   have hs3 : w3.heap.size = w2.heap.size + 1 := by rw [← hw3]; simp
   obtain ⟨fn, tmps, assign, body, hy, hR⟩ := hY ss (x1, x2) w3 hJ3 (by omega)
   have HS2 := Lib.hid hs2
   clear hs2
   gi_wp2
   refine hR.mono ?_
   rintro e W3 ⟨rfl, hJ4, hk3⟩
   gi_wp2
   have hrg4 := hrg3.of_walks hk3
   go_roundw
   case rel => exact ⟨_, cnt2, ss ++ [(x1, x2)], hrg4, by simp; omega, hC.step hok hlk hat, hJ4, by have := hk3.size; have := HS2.out; omega⟩
   case measure => rw [hrg4.left_eq, hrg.left_eq]; exact hlt
theorem lkPkeys_gives (n : Nat) (hn : 1 ≤ n) (Bm b nn : Nat) (D0 : DataW Value) (w : World) (hBm : Bm < w.heap.size) (hm : w.cell? ⟨Bm, 0, none⟩ = some (.map (some b))) (hown : w.ownsMap Tryz.prog 89 heldP b nn D0) :
  SeqGives Fence.wide n Tryz.prog 115 #[.pointer (some ⟨Bm, 0, none⟩)] pairV (fun ss => lkCollP D0 (fun _ => false) ss) (Maps.size D0) w := fun l J W hW hJ hY h0 => by
 have hown' : W.ownsMap Tryz.prog 89 heldP b nn D0 := by
  have hbl := hown.lt
  obtain ⟨es, clock, hb, Ft, hs, hD⟩ := hown
  exact ⟨es, clock, (hW.block b hbl).trans hb, Ft, hs, hD⟩
 exact lkPkeys1_in n hn l Bm b nn D0 J hY W hJ ((hW.cell (p := ⟨Bm, 0, none⟩) hBm).trans hm) hown' h0

/-! What a round of the collecting loop does. -/
def lkEpAssign : Code := .region 2 #[{ dst := some 5, op := .alloc 89, type := 0, pos := "iter.go:51", after := #[], guard := none }, { dst := none, op := .store 89 (.tmp 5) (.tmp 7), type := 0, pos := "iter.go:51", after := #[{ on := 0, ground := .data }, { on := 0, ground := .phase }], guard := none }] false
def lkEpBody : Code := .block 1 (.region 3 #[{ dst := some 8, op := .load 82 (.tmp 2), type := 82, pos := "iter.go:52", after := #[], guard := none }, { dst := some 9, op := .load 89 (.tmp 5), type := 89, pos := "iter.go:52", after := #[], guard := none }, { dst := some 10, op := .buildSlice 82 1 #[(0, .tmp 9)], type := 82, pos := "iter.go:52", after := #[{ on := 1, ground := .data }], guard := none }, { dst := some 11, op := .call { callee := .builtin .append, args := #[.tmp 8, .tmp 10], argTypes := #[82, 82] }, type := 82, pos := "iter.go:52", after := #[{ on := 0, ground := .data }, { on := 2, ground := .data }], guard := none }, { dst := none, op := .store 82 (.tmp 2) (.tmp 11), type := 0, pos := "iter.go:52", after := #[{ on := 3, ground := .data }, { on := 3, ground := .chain }, { on := 0, ground := .phase }, { on := 1, ground := .phase }, { on := 2, ground := .phase }, { on := 3, ground := .phase }], guard := none }] false)
def lkEpRec (fn : FuncId) (sv : Value) (Bs D : Nat) (st : LoopState) (pend : Option Code) : Loop :=
 { state := st, pending := pend, fn, tmps := #[.slice none 0 0, sv, .pointer (some ⟨Bs, 0, none⟩), undef, .slice none 0 0, undef, sv, undef, undef, undef, undef, undef, undef], params := #[7], assign := lkEpAssign, body := lkEpBody, defers := D }
structure lkEpAt (w0 : World) (fn : FuncId) (sv : Value) (Bs l D : Nat) (ss : List (Int × Int)) (W : World) : Prop where
 box : ∃ v, W.heap[Bs]? = some (.cells #[v] 82 (0, 0)) ∧ W.ownsRow w0.heap.size 89 2 v ss.length (ss.flatMap lkCelP)
 L : W.heap[l]? = some (.loop (lkEpRec fn sv Bs D .ready none))
 K : W.heap[D]? = some (.deferred (some []))
 below : Below w0.heap.size w0 W
theorem lkEp_abides (w0 : World) (fn : FuncId) (sv : Value) (Bs l D B : Nat) (hB : w0.heap.size ≤ B) : AbidesFrom B (lkEpAt w0 fn sv Bs l D) := fun s W W' row h hg hrow => by
 have hrow' : ∀ r, row = some r → ∃ o : Obj, W.heap[r]? = some o ∧ o.isWalk = true := fun r e => (hrow r e).2
 obtain ⟨v, hv, hr⟩ := h.box
 exact ⟨⟨v, (grownBy_keeps hg hrow' hv rfl).trans hv, ownsRow_abides_a hr hg hrow'⟩, (grownBy_keeps hg hrow' h.L rfl).trans h.L, (grownBy_keeps hg hrow' h.K rfl).trans h.K,
  h.below.grown hg h.below.size (fun k e => Nat.le_trans hB (hrow k e).1)⟩
set_option maxRecDepth 100000 in
set_option maxHeartbeats 4000000 in
theorem lkEpYield (m : Nat) (w0 : World) (fn : FuncId) (sv : Value) (Bs l D : Nat) (hBl : Bs ≠ l) (hDl : D ≠ l) (hDB : D ≠ Bs) (h0B : w0.heap.size ≤ Bs) (h0l : w0.heap.size ≤ l)
    (N : Nat) (hN : N ≤ 1000000) (ss : List (Int × Int)) (x : Int × Int) (W : World) (h : lkEpAt w0 fn sv Bs l D ss W) (hlen : ss.length < N) :
    YieldAt Fence.wide m Tryz.prog l #[pairV x] W fun e W' => e = .returned (.bool true) ∧ lkEpAt w0 fn sv Bs l D (ss ++ [x]) W' ∧ KeepsWalks W W' := by
  have hne : ∀ {t : TypeId} {c d : Array Value} {o o' : Nat × Nat}, t ≠ 89 → Obj.cells c t o ≠ Obj.cells d 89 o' := fun ht e => ht (Obj.cells.inj e).2.1
  obtain ⟨i0, hi, hz0, hz1, hz2⟩ := info_parts lkInfoP
  obtain ⟨v, hv, hrow⟩ := h.box
  refine ⟨fn, #[.slice none 0 0, sv, .pointer (some ⟨Bs, 0, none⟩), undef, .slice none 0 0, undef, sv, pairV x, undef, undef, undef, undef, undef], lkEpAssign, lkEpBody, by simpa [lkEpRec] using run_yield (P := Tryz.prog) (args := #[pairV x]) h.L rfl, roundIn_of_wpIn trivial ?_⟩
  have hl : l < W.heap.size := (Array.getElem?_eq_some_iff.1 h.L).1
  have hBlt0 : Bs < W.heap.size := (Array.getElem?_eq_some_iff.1 hv).1
  have hDlt0 : D < W.heap.size := (Array.getElem?_eq_some_iff.1 h.K).1
  obtain ⟨B1, hB1⟩ : ∃ B1, W.heap.size = B1 := ⟨_, rfl⟩
  obtain ⟨W2, hW2⟩ : ∃ W2, W.alloc (.cells #[.int .i64 x.1, .int .i64 x.2] 89) = W2 := ⟨_, rfl⟩
  have hv2 : W2.heap[Bs]? = some (.cells #[v] 82 (0, 0)) := by rw [← hW2]; exact (Below.heap_alloc _ _ Bs hBlt0).trans hv
  have hK2 : W2.heap[D]? = some (.deferred (some [])) := by rw [← hW2]; exact (Below.heap_alloc _ _ D hDlt0).trans h.K
  have hL2 : W2.heap[l]? = some (.loop (lkEpRec fn sv Bs D .ready none)) := by rw [← hW2]; exact (Below.heap_alloc _ _ l hl).trans h.L
  have hrow2 : W2.ownsRow w0.heap.size 89 2 v ss.length (ss.flatMap lkCelP) := by rw [← hW2]; exact World.ownsRow.alloc hrow _
  have hb2 : Below w0.heap.size w0 W2 := by rw [← hW2]; exact h.below.alloc h.below.size _
  have hk2 : KeepsWalks W W2 := by rw [← hW2]; exact KeepsWalks.alloc _ _
  obtain ⟨d0, d1, hBn⟩ : P2 W2 B1 x := by rw [← hW2, ← hB1]; exact p2_new W _ x
  have hl2 : l < W2.heap.size := (Array.getElem?_eq_some_iff.1 hL2).1
  have hlB : l ≠ B1 := by omega
  have hbr := run_beginRound (P := Tryz.prog) hL2 rfl
  obtain ⟨W3, hW3⟩ : ∃ W3, W2.putObj l (.loop { lkEpRec fn sv Bs D .ready none with state := .busy }) = W3 := ⟨_, rfl⟩
  rw [hW3] at hbr
  have hg3 : W2.grownBy W3 (some l) := by rw [← hW3]; exact grownBy_putObj_a _ _ _
  have hv3 : W3.heap[Bs]? = some (.cells #[v] 82 (0, 0)) := by rw [← hW3]; exact (World.putObj_heap_other hBl).trans hv2
  have hK3 : W3.heap[D]? = some (.deferred (some [])) := by rw [← hW3]; exact (World.putObj_heap_other hDl).trans hK2
  have hL3 : W3.heap[l]? = some (.loop { lkEpRec fn sv Bs D .ready none with state := .busy }) := by rw [← hW3]; exact World.putObj_heap_same hl2
  have hrow3 : W3.ownsRow w0.heap.size 89 2 v ss.length (ss.flatMap lkCelP) := hrow2.kept hg3 (ownsRow_ne_a hrow2 hL2 (fun cur e => by cases e))
  have hb3 : Below w0.heap.size w0 W3 := hb2.grown hg3 hb2.size (fun k e => by cases e; exact h0l)
  have hk3 : KeepsWalks W W3 := by rw [← hW3]; exact hk2.trans (KeepsWalks.putObj _ hL2 rfl)
  replace d0 : W3.cell? ⟨B1, 0, none⟩ = some (.int .i64 x.1) := by rw [← d0]; exact World.cell?_of_block (hg3.block B1 hBn (fun e => hlB (by cases e; rfl)))
  replace d1 : W3.cell? ⟨B1, 1, none⟩ = some (.int .i64 x.2) := by rw [← d1]; exact World.cell?_of_block (hg3.block B1 hBn (fun e => hlB (by cases e; rfl)))
  have hBlt : Bs < W3.heap.size := (Array.getElem?_eq_some_iff.1 hv3).1
  have hl3 : l < W3.heap.size := (Array.getElem?_eq_some_iff.1 hL3).1
  have hDlt : D < W3.heap.size := (Array.getElem?_eq_some_iff.1 hK3).1
  obtain ⟨hc3, hf3⟩ := cell_of_box_a hv3
  have ne_of : ∀ {j : Nat} {o : Obj}, W3.heap[j]? = some o → (∀ cur, o ≠ .cells cur 89 (0, 0)) → some j ≠ v.ownBlock := fun hj hno => by
    rcases ownsRow_ne_a hrow3 hj hno with e | e
    · rw [e]; simp
    · exact fun e' => e e'.symm
  clear hv2 hK2 hL2 hrow2 hb2 hk2 hg3 hW3
  unfold lkEpAssign
  gi_wp2_with gi_round_op_a
  unfold lkEpBody
  gi_wp2_with (first
    | (gi_at_builtin; refine wpListIn_append_own _ rfl _ _ 82 rfl w0.heap.size 89 i0 (.agg #[.int .i64 0, .int .i64 0]) 2 16 Tryz.underlying82 hi hz0 hz1 hz2 rfl (by decide) _ _ _ rfl (World.ownsRow.alloc hrow3 _) ⟨W3.heap.size, 0, none⟩ 1 1 [.int .i64 x.1, .int .i64 x.2] rfl rfl (lkCells_two_new _ _ _ _) (by simp [Value.oneCell']) (by unfold maxLen; omega) (by omega) (by have := hb3.size; simp; omega) ?_; intro v' w5 hown' hg5 hnil5
       have hv5 : w5.heap[Bs]? = some (.cells #[v] 82 (0, 0)) := (hg5.block Bs (by simp; omega) (ne_of hv3 (fun cur => hne (by decide)))).trans ((Below.heap_alloc _ _ Bs hBlt).trans hv3)
       obtain ⟨hc5, hf5⟩ := cell_of_box_a hv5
       obtain ⟨g', cap', cur', rfl, hbase', hgb', hr1, hr2, hr3, hr4⟩ : ∃ g' cap' cur', v' = .slice (some ⟨g', 0, none⟩) (ss.length + 1) cap' ∧ w0.heap.size ≤ g' ∧ w5.heap[g']? = some (.cells cur' 89 (0, 0)) ∧ ss.length + 1 ≤ cap' ∧ cap' ≤ maxLen ∧ cur'.size = cap' * 2 ∧ cur'.toList.take ((ss.length + 1) * 2) = ss.flatMap lkCelP ++ [.int .i64 x.1, .int .i64 x.2] := by
         rcases hown'.2 with ⟨_, h0⟩ | h'
         · exact absurd h0 (by omega)
         · exact h'
       go_frame)
    | gi_round_op_a)
  have hg5' : (W3.alloc (.cells #[.int .i64 x.1, .int .i64 x.2] 89)).grownBy w5 v.ownBlock := hg5
  have hL5 : w5.heap[l]? = some (.loop { lkEpRec fn sv Bs D .ready none with state := .busy }) := (hg5'.block l (by simp; omega) (ne_of hL3 (fun cur e => by cases e))).trans ((Below.heap_alloc _ _ l hl3).trans hL3)
  have hK5 : w5.heap[D]? = some (.deferred (some [])) := (hg5'.block D (by simp; omega) (ne_of hK3 (fun cur e => by cases e))).trans ((Below.heap_alloc _ _ D hDlt).trans hK3)
  obtain ⟨w4, hw4⟩ : ∃ w4, w5.setCell ⟨Bs, 0, none⟩ (.slice (some ⟨g', 0, none⟩) (ss.length + 1) cap') = w4 := ⟨_, rfl⟩
  rw [hw4]
  have hg4 : w5.grownBy w4 (some Bs) := by rw [← hw4]; exact grownBy_setCell0_a _ _ _
  have hv4 : w4.heap[Bs]? = some (.cells #[.slice (some ⟨g', 0, none⟩) (ss.length + 1) cap'] 82 (0, 0)) := by rw [← hw4]; exact heap_setCell_box_a _ hv5
  have hL4 : w4.heap[l]? = some (.loop { lkEpRec fn sv Bs D .ready none with state := .busy }) := (hg4.block l (Array.getElem?_eq_some_iff.1 hL5).1 (fun e => hBl (by cases e; rfl))).trans hL5
  have hK4 : w4.heap[D]? = some (.deferred (some [])) := (hg4.block D (Array.getElem?_eq_some_iff.1 hK5).1 (fun e => hDB (by cases e; rfl))).trans hK5
  have hrow4 := hown'.kept hg4 (ownsRow_ne_a hown' hv5 (fun cur => hne (by decide)))
  have hl4 : l < w4.heap.size := (Array.getElem?_eq_some_iff.1 hL4).1
  have hb5 : Below w0.heap.size w0 w5 := (hb3.alloc hb3.size _).grown hg5' (by have := hb3.size; simp; omega) (fun k e => (World.ownsRow.lt hrow3 k e).1)
  have hb4 : Below w0.heap.size w0 w4 := hb5.grown hg4 hb5.size (fun k e => by cases e; exact h0B)
  have hk4 : KeepsWalks W w4 := ((hk3.trans (KeepsWalks.alloc _ _)).trans (KeepsWalks.of_grownBy hg5' (ownsRow_not_walk_a (World.ownsRow.alloc hrow3 _)))).trans (by rw [← hw4]; exact KeepsWalks.setCell _ _ _)
  clear hw4
  refine ⟨_, _, run_endRound none hL4, rfl, ⟨⟨_, (World.putObj_heap_other hBl).trans hv4, ?_⟩, World.putObj_heap_same hl4, (World.putObj_heap_other hDl).trans hK4, hb4.grown (grownBy_putObj_a _ _ _) hb4.size (fun k e => by cases e; exact h0l)⟩, hk4.trans (KeepsWalks.putObj _ hL4 rfl)⟩
  have := hrow4.kept (grownBy_putObj_a w4 l (.loop { { lkEpRec fn sv Bs D .ready none with state := .busy } with state := if (none : Option Code).isNone then .ready else .done, pending := none })) (ownsRow_ne_a hrow4 hL4 (fun cur e => by cases e))
  rw [List.length_append, List.flatMap_append]
  simpa [lkCelP] using this
open Go.RowKit Go.Maps Go.Sort Go.Shelf
def lkPairAt (w : World) (A : Option Addr) (L : List (Int × Int)) : Prop := 0 < L.length → ∃ b off, A = some ⟨b, off, none⟩ ∧ b < w.heap.size ∧ ∀ i, i < L.length → w.cell? ⟨b, off + i * 2, none⟩ = some (.int .i64 (L.getD i (0, 0)).1) ∧ w.cell? ⟨b, off + i * 2 + 1, none⟩ = some (.int .i64 (L.getD i (0, 0)).2)
set_option maxRecDepth 100000 in
set_option maxHeartbeats 4000000 in
theorem lkPAppendSeq (n : Nat) (hn : 2 ≤ n) (g : Nat) (lb : Array Value) (eg : ∀ args w, (callFunc g args).run Tryz.prog w = .ok (.enter g args) w)
    (S : List (Int × Int) → Prop) (N : Nat) (hN : N ≤ 1000000) (w : World) (hseq : SeqGives Fence.wide (n - 1) Tryz.prog g lb pairV S N w) :
    CallsIn Fence.wide n Tryz.prog 114 #[.slice none 0 0, .func (.func g) #[] lb] w fun e w' => ∃ (v : Value) (ss : List (Int × Int)), e = .returned v ∧ S ss ∧ w'.ownsRow w.heap.size 89 2 v ss.length (ss.flatMap lkCelP) ∧ Below w.heap.size w w' := by
  have h1 : 1 ≤ n := by omega
  refine callsIn_of_wp_marks Tryz.func114 rfl trivial ?_ rfl
  simp only [Tryz.ntmps114, List.size_toArray, List.length_cons, List.length_nil, Nat.reduceAdd, Nat.reduceSub, Array.replicate_succ, Array.replicate_zero, List.push_toArray, List.append_toArray, List.nil_append, List.cons_append]
  gi_wp2
  refine wpIn_rangeFunc ?_
  intro fn hfn
  obtain ⟨W0, hW0⟩ : ∃ W0, w.alloc (.cells #[.slice none 0 0] 82) = W0 := ⟨_, rfl⟩
  have hs0 : W0.heap.size = w.heap.size + 1 := by rw [← hW0]; simp
  have hv0 : W0.heap[w.heap.size]? = some (.cells #[.slice none 0 0] 82 (0, 0)) := by rw [← hW0]; exact World.alloc_heap_new w _
  have hb0 : Below w.heap.size w W0 := by rw [← hW0]; exact (Below.refl _ w).alloc (Nat.le_refl _) _
  rw [hW0]
  obtain ⟨W1, hW1⟩ : ∃ W1, (W0.alloc (.deferred (some []))).alloc (.loop (lkEpRec fn (.func (.func g) #[] lb) w.heap.size W0.heap.size .ready none)) = W1 := ⟨_, rfl⟩
  have hold : ∀ k, k < W0.heap.size → W1.heap[k]? = W0.heap[k]? := fun k hk => by
    rw [← hW1]; exact (Below.heap_alloc _ _ k (by simp; omega)).trans (Below.heap_alloc _ _ k hk)
  have hb1 : Below w.heap.size w W1 := by rw [← hW1]; exact (hb0.alloc hb0.size _).alloc (by have := hb0.size; simp; omega) _
  have hs1 : W1.heap.size = W0.heap.size + 2 := by rw [← hW1]; simp
  have hM : lkEpAt w fn (.func (.func g) #[] lb) w.heap.size (W0.heap.size + 1) W0.heap.size [] W1 :=
    ⟨⟨_, (hold w.heap.size (by omega)).trans hv0, ⟨rfl, .inl ⟨rfl, rfl⟩⟩⟩,
     by rw [← hW1]; have := World.alloc_heap_new (W0.alloc (.deferred (some []))) (.loop (lkEpRec fn (.func (.func g) #[] lb) w.heap.size W0.heap.size .ready none)); rwa [World.size_alloc] at this,
     by rw [← hW1]; exact (Below.heap_alloc _ _ _ (by simp)).trans (World.alloc_heap_new W0 _), hb1⟩
  refine ⟨W0.heap.size + 1, [{ target := .collected W0.heap.size, args := #[] }], W1, { target := .fn (.func g) lb, args := #[.func (.yield (W0.heap.size + 1)) #[] #[]] }, W1, g,
    #[.func (.yield (W0.heap.size + 1)) #[] #[]] ++ lb, W1, ?_, ?_, ?_, ?_, fun _ => h1, ?_⟩
  · rw [← hW1]; exact run_enterLoop_outer _ _ _ _ _
  · simp [resolve, go_sem]
  · intro f' hf'; trivial
  · simp [invoke, go_sem, eg]
  · refine (hseq (W0.heap.size + 1) (lkEpAt w fn (.func (.func g) #[] lb) w.heap.size (W0.heap.size + 1) W0.heap.size) W1 hb1 (lkEp_abides _ _ _ _ _ _ _ hb1.size)
      (fun pre x W hJ hl => lkEpYield (n - 1 - 1) w fn _ w.heap.size (W0.heap.size + 1) W0.heap.size (by omega) (by omega) (by omega) (Nat.le_refl _) (by omega) N hN pre x W hJ hl) hM).mono ?_
    rintro e W2 ⟨⟨v0, rfl⟩, ss, hS, h2⟩
    obtain ⟨v, hv, hrow⟩ := h2.box
    have hend := run_endLoop (P := Tryz.prog) h2.L (by simp [lkEpRec])
    obtain ⟨W3, hW3⟩ : ∃ W3, W2.putObj (W0.heap.size + 1) (.loop { lkEpRec fn (.func (.func g) #[] lb) w.heap.size W0.heap.size .ready none with state := .exhausted }) = W3 := ⟨_, rfl⟩
    rw [hW3] at hend
    have hg3 : W2.grownBy W3 (some (W0.heap.size + 1)) := by rw [← hW3]; exact grownBy_putObj_a _ _ _
    have hv3 : W3.heap[w.heap.size]? = some (.cells #[v] 82 (0, 0)) := by rw [← hW3]; exact (World.putObj_heap_other (by omega)).trans hv
    have hK3 : W3.heap[W0.heap.size]? = some (.deferred (some [])) := by rw [← hW3]; exact (World.putObj_heap_other (by omega)).trans h2.K
    have hrow3 := hrow.kept hg3 (ownsRow_ne_a hrow h2.L (fun cur e => by cases e))
    have hb3 : Below w.heap.size w W3 := h2.below.grown hg3 h2.below.size (fun k e => by cases e; omega)
    obtain ⟨hc3, hf3⟩ := cell_of_box_a hv3
    clear hW3
    refine ⟨none, W3, hend, ?_⟩
    gi_wp2
    rw [← hs0]
    refine ⟨by simp, .inl ⟨_, _, rfl, run_takeDeferred hK3, ?_⟩⟩
    exact ⟨_, results_tmp rfl _ _ _, v, ss, rfl, hS, hrow3.kept (grownBy_putObj_a _ _ _) (ownsRow_ne_a hrow3 hK3 (fun cur e => by cases e)), hb3.grown (grownBy_putObj_a _ _ _) hb3.size (fun k e => by cases e; omega)⟩
set_option maxHeartbeats 1000000 in
theorem lkPCollect (n : Nat) (hn : 3 ≤ n) (g : Nat) (lb : Array Value) (eg : ∀ args w, (callFunc g args).run Tryz.prog w = .ok (.enter g args) w)
  (S : List (Int × Int) → Prop) (N : Nat) (hN : N ≤ 1000000) (w : World) (hseq : SeqGives Fence.wide (n - 1 - 1) Tryz.prog g lb pairV S N w) :
  CallsIn Fence.wide n Tryz.prog 74 #[.func (.func g) #[] lb] w fun e w' => ∃ (v : Value) (ss : List (Int × Int)), e = .returned v ∧ S ss ∧ w'.ownsRow w.heap.size 89 2 v ss.length (ss.flatMap lkCelP) ∧ Below w.heap.size w w' := by
 refine callsIn_wide.2 ?_
 have hA := Lib.hid ((callsIn_wide (n := n - 1)).1 (lkPAppendSeq (n - 1) (by omega) g lb eg S N hN w hseq))
 clear hseq eg
 go_enter Tryz.func74, Tryz.ntmps74
 go_wp2_with (go_at_call 114; refine hA.out.mono ?_; rintro e w' ⟨v, ss, rfl, hS, hrow, hb⟩)
 go_ret
 exact ⟨v, ss, rfl, hS, hrow, hb⟩
theorem lkCelP_get : ∀ (L : List (Int × Int)) (i : Nat), i < L.length → (L.flatMap lkCelP)[i * 2]? = some (.int .i64 (L.getD i (0, 0)).1) ∧ (L.flatMap lkCelP)[i * 2 + 1]? = some (.int .i64 (L.getD i (0, 0)).2)
 | [], i, h => by simp at h
 | a :: L, 0, _ => by simp [lkCelP]
 | a :: L, i + 1, h => by
  have := lkCelP_get L i (by simpa using h)
  have e1 : (i + 1) * 2 = i * 2 + 1 + 1 := by omega
  rw [List.flatMap_cons, e1]
  simpa [lkCelP] using this
theorem lkHoldsP {w : World} {g : Nat} {cur : Array Value} {e : TypeId} {ss : List (Int × Int)} (hb : w.heap[g]? = some (.cells cur e (0, 0))) (ht : cur.toList.take (ss.length * 2) = ss.flatMap lkCelP) : HoldsK lkCelP 2 w g 0 ss.toArray := by
 intro j hj
 rw [size_flatK] at hj
 have hj' : j < ss.length * 2 := by simpa using hj
 refine ⟨?_, by simp [World.frozen?, hb]⟩
 rw [get_flatK _ _ _ _ hj, Nat.zero_add]
 have key : w.cell? ⟨g, j, none⟩ = (ss.flatMap lkCelP)[j]? := by
  rw [← ht, List.getElem?_take, if_pos hj']
  simp only [World.cell?, hb]
  simp
 rw [key]
 have hq : j / 2 < ss.length := by omega
 have hget : (ss.toArray)[j / 2]! = ss.getD (j / 2) (0, 0) := by
  rw [List.getD_eq_getElem?_getD, List.getElem?_eq_getElem hq]
  simp [hq]
 rw [hget]
 obtain ⟨k0, k1⟩ := lkCelP_get ss (j / 2) hq
 rcases Nat.mod_two_eq_zero_or_one j with h | h
 ·rw [h, show j = j / 2 * 2 by omega, k0, show j / 2 * 2 / 2 = j / 2 by omega]; rfl
 ·rw [h, show j = j / 2 * 2 + 1 by omega, k1, show (j / 2 * 2 + 1) / 2 = j / 2 by omega]; rfl
theorem lkPairs_of_holds {w : World} {g : Nat} {ss : List (Int × Int)} (h : HoldsK lkCelP 2 w g 0 ss.toArray) (hg : g < w.heap.size) : lkPairAt w (some ⟨g, 0, none⟩) ss := fun _ => by
 refine ⟨g, 0, rfl, hg, fun i hi => ?_⟩
 have hi' : i < ss.toArray.size := by simpa using hi
 have hget : (ss.toArray)[i]! = ss.getD i (0, 0) := by
  rw [List.getD_eq_getElem?_getD, List.getElem?_eq_getElem hi]
  simp [hi]
 have c0 := (h.cell hi' (c := 0) (by omega)).1
 have c1 := (h.cell hi' (c := 1) (by omega)).1
 rw [hget] at c0 c1
 exact ⟨c0, c1⟩
theorem lkSortK_below {α : Type} [Inhabited α] {enc : α → List Value} {k : Nat} {w : World} {blk off n : Nat} {d : Array α} {os : Array Obj} {B : Nat} (hB : B ≤ blk) (hs : B ≤ w.heap.size) : Below B w (sortWorldK enc k w blk off n d os) := by
 unfold sortWorldK putRowK
 have h1 : Below B w (putRow id (Sort.ahead w n) blk off (flatK enc k d)) := by
  refine ⟨rfl, rfl, rfl, by rw [size_putRow]; exact Nat.le_refl _, fun k hk => ?_⟩
  show (w.heap.modify blk _)[k]? = _
  rw [Array.getElem?_modify, if_neg (by omega)]
 exact h1.trans (Lib.below_grow B _ (by rw [size_putRow]; exact hs) 0 os)
theorem lkCmpLaysP (blk off size : Nat) (w : World) : CmpLays Tryz.prog 77 #[] lkCelP 2 cmK blk off size w := fun _ _ _ _ x y => lcmp_any x y _
def lkAscP (K : List (Int × Int)) : Prop := K.Pairwise ltK
theorem lkSort_ascP {ss : List (Int × Int)} (h : ss.Nodup) : lkAscP (ss.mergeSort fun x y => !ltOf cmK y x) := by
 have hp := List.mergeSort_perm ss fun x y => !ltOf cmK y x
 have h1 := List.pairwise_mergeSort (le := fun x y => !ltOf cmK y x) (fun a b c h1 h2 => by
  simp only [Bool.not_eq_true', ltOf_cmK, decide_eq_false_iff_not] at *
  unfold ltK at *; omega) (fun a b => by
  simp only [ltOf_cmK, Bool.or_eq_true, Bool.not_eq_true', decide_eq_false_iff_not]
  unfold ltK; omega) ss
 have h2 : (ss.mergeSort fun x y => !ltOf cmK y x).Nodup := hp.nodup_iff.2 h
 refine (List.Pairwise.and h1 h2).imp fun {a b} hab => ?_
 obtain ⟨h3, h4⟩ := hab
 simp only [Bool.not_eq_true', ltOf_cmK, decide_eq_false_iff_not] at h3
 rcases Decidable.em (ltK a b) with h5 | h5
 ·exact h5
 ·exact absurd (ltK_tri h5 h3) h4
def lyP : Lay (Int × Int) := ⟨lkCelP, 2, fun _ => rfl, fun a v hv => by simp [lkCelP] at hv; rcases hv with rfl | rfl <;> rfl, by decide⟩
theorem lkp_row {w : World} {A : Option Addr} {L : LkL} (h : lkPairAt w A L) : RowAt lyP w A L := by
 intro h0
 obtain ⟨b, off, e, hlt, hc⟩ := h h0
 refine ⟨b, off, e, hlt, fun j v hj => ?_⟩
 have hjl : j < L.length * 2 := by
  have := lyP.all_len L
  rw [show lyP.s = 2 from rfl] at this
  rw [← this]
  exact (List.getElem?_eq_some_iff.1 hj).1
 have hq : j / 2 < L.length := by omega
 rw [show lyP.all L = L.flatMap lkCelP from rfl] at hj
 obtain ⟨k0, k1⟩ := lkCelP_get L (j / 2) hq
 rcases Nat.mod_two_eq_zero_or_one j with h2 | h2
 ·have e1 : j = j / 2 * 2 := by omega
  rw [e1, k0] at hj
  injection hj with hj
  subst hj
  rw [e1]
  simpa using (hc (j / 2) hq).1
 ·have e1 : j = j / 2 * 2 + 1 := by omega
  rw [e1, k1] at hj
  injection hj with hj
  subst hj
  rw [e1, ← Nat.add_assoc]
  have e2 : (j / 2 * 2 + 1) / 2 = j / 2 := by omega
  simpa [e2] using (hc (j / 2) hq).2
set_option maxRecDepth 100000 in
theorem lkkeys_any (b : Nat) (w : World) : Calls Tryz.prog 75 #[.map (some b)] w fun e w' => e = .returned (.func (.func 115) #[] #[.pointer (some ⟨w.heap.size, 0, none⟩)]) ∧ w' = w.alloc (.cells #[.map (some b)] 120) := by
 go_enter Tryz.func75, Tryz.ntmps75
 go_wp2_with fail
 go_ret
 exact ⟨rfl, rfl⟩
set_option maxRecDepth 100000 in
set_option maxHeartbeats 4000000 in
theorem list_any (j : LD) (n : Nat) (K : LkL) (w : World) (hj : LK w j n K) (hn : n ≤ 1000000) :
  Calls Tryz.prog 42 #[j.p] w fun e w' => (∃ (A : Option Addr) (c : Nat), e = .returned (.slice A K.length c) ∧ RowAt lyP w' A K) ∧ Below w.heap.size w w' := by
 have c4 := hj.box.at 4 _ rfl
 have HASC : Hid (AscK K) := Lib.hid hj.good.asc
 have HKB := Lib.hid (fun W => lkkeys_any j.bm W)
 have h := hj.mp
 obtain ⟨f, hf⟩ : ∃ f : Int × Int → Bool, (fun q => decide (q ∈ K)) = f := ⟨_, rfl⟩
 rw [hf] at h
 have HF : Hid (∀ q, (f q = true) ↔ q ∈ K) := Lib.hid (fun q => by rw [← hf]; simp)
 obtain ⟨b, hb⟩ : ∃ b, j.bm = b := ⟨_, rfl⟩
 rw [hb] at c4 h HKB
 clear hj hb hf
 obtain ⟨D, hown, hD, hok⟩ := h
 have hbl := hown.lt
 have hszD : Maps.size D ≤ n := hown.size_le
 have hown1 : (w.alloc (.cells #[.map (some b)] 120)).ownsMap Tryz.prog 89 heldP b n D := hown.alloc _
 have hseq : SeqGives Fence.wide 2 Tryz.prog 115 #[.pointer (some ⟨w.heap.size, 0, none⟩)] pairV (fun ss => lkCollP D (fun _ => false) ss) (Maps.size D) (w.alloc (.cells #[.map (some b)] 120)) :=
  lkPkeys_gives 2 (by omega) w.heap.size b n D _ (by simp) (by simp) hown1
 have eg := enters_of Tryz.func115 (by kernel_rfl) rfl
 have ec := enters_of Tryz.func77 (by kernel_rfl) rfl
 have cC := (callsIn_wide (n := 4)).1 (lkPCollect 4 (by omega) _ _ eg _ _ (by omega : Maps.size D ≤ 1000000) _ hseq.bounded)
 have cS0 := fun W => AnyF.slices_SortFunc_none { Tryz.sortf76 with } none 0 (.func (.func 77) #[] #[]) W
 have cS := fun (blk cap : Nat) (d : Array (Int × Int)) (W : World) (hH : HoldsK lkCelP 2 W blk 0 d) (hb : blk < W.heap.size) (hs : d.size < 4611686018427387904) =>
  AnyQ.slices_SortFunc_total Tryz.sortf76 2 Tryz.isAgg89 Tryz.sizeOf89 lkCelP (fun _ => rfl) (fun x v hv => by simp [lkCelP] at hv; rcases hv with rfl | rfl <;> rfl) cmK cmK_swo 77 #[] blk 0 cap d W ec (lkCmpLaysP blk 0 d.size W) hH hb hs cmK_tot
 change ∀ W, Calls Tryz.prog 76 _ _ _ at cS0
 change ∀ (blk cap : Nat) (d : Array (Int × Int)) (W : World) (hH : HoldsK lkCelP 2 W blk 0 d) (hb : blk < W.heap.size) (hs : d.size < 4611686018427387904), Calls Tryz.prog 76 _ _ _ at cS
 have HD := Lib.hid hD
 have HOK := Lib.hid hok
 have HC := Lib.hid cC
 have HS0 := Lib.hid cS0
 have HS := Lib.hid cS
 have hB0 := Lib.hid (below_alloc_new (w := w) (.cells #[.map (some b)] 120))
 generalize hw1 : w.alloc (.cells #[.map (some b)] 120) = w1 at *
 have hs1 : w1.heap.size = w.heap.size + 1 := by rw [← hw1]; simp
 have HS1 := Lib.hid hs1
 have HW1 := Lib.hid hw1
 clear hD hok cC cS0 cS hown hown1 hseq hw1 hs1
 obtain ⟨s0, hs0⟩ : ∃ s0, w.heap.size = s0 := ⟨_, rfl⟩
 rw [hs0] at HC HS1 hB0
 have HSZ := Lib.hid hs0
 go_enter Tryz.func42, Tryz.ntmps42
 go_upto_region 4 with (first
  | (go_at_call 75; refine (HKB.out w).mono ?_; rintro e w9 ⟨rfl, hw9⟩; rw [HW1.out] at hw9; replace hw9 := hw9.symm; subst hw9)
  | (go_at_call 74; refine HC.out.mono ?_; rintro e w2 ⟨v, ss, rfl, ⟨hS, hlen⟩, hrow, hb2⟩))
 have hmem : ∀ k, k ∈ ss ↔ f k = true := fun k => by
  rw [hS.2 k]
  constructor
  ·rintro ⟨h1, h2, _⟩
   rw [← (HD.out k h1).1]; exact h2
  ·intro h1
   have h2 := HOK.out k h1
   exact ⟨h2, by rw [(HD.out k h2).1]; exact h1, rfl⟩
 have hle : ss.length ≤ n := Nat.le_trans hlen hszD
 have hB2 : Below s0 w w2 := hB0.out.trans (hb2.mono (by have := HS1.out; omega))
 have HM := Lib.hid hmem
 have HSS := Lib.hid hS
 have HLE := Lib.hid hle
 have HR := Lib.hid hrow
 have HB2 := Lib.hid hB2
 have hs0l : s0 ≤ w2.heap.size := by have := hb2.size; have := HS1.out; omega
 have HSL := Lib.hid hs0l
 have hbase := Lib.hid (show s0 ≤ w1.heap.size by have := HS1.out; omega)
 clear hmem hS hle hB2 hb2 hlen hs0l
 rcases hrow.2 with ⟨rfl, hz⟩ | ⟨gb, cap, cur, rfl, hbg, hgb, r1, r2, r3, r4⟩
 ·obtain rfl : ss = [] := List.eq_nil_of_length_eq_zero hz
  clear hrow
  go_wp2_with (go_at_call 76; refine (HS0.out _).mono ?_; rintro e w3 ⟨rfl, rfl⟩)
  go_ret
  have hK : K = [] := asck_ext HASC.out List.Pairwise.nil fun q => (HF.out q).symm.trans (HM.out q).symm
  subst hK
  exact ⟨⟨none, 0, by first | rfl | simp, RowAt.nil⟩, by first | exact HB2.out | (rw [HSZ.out]; exact HB2.out)⟩
 ·have hgl : gb < w2.heap.size := (Array.getElem?_eq_some_iff.1 hgb).1
  have hH := lkHoldsP hgb r4
  have hsz : ss.toArray.size < 4611686018427387904 := by have := HLE.out; simp; omega
  have hlen : (ss.toArray.size : Nat) = ss.length := by simp
  have c1 := HS.out gb cap ss.toArray w2 hH hgl hsz
  rw [hlen] at c1
  have HC1 := Lib.hid c1
  have HH := Lib.hid hH
  have HGL := Lib.hid hgl
  have HBG := Lib.hid hbg
  clear hrow c1 hsz hlen hH r1 r2 r3 r4 hgb hgl hbg
  go_wp2_with (go_at_call 76; refine HC1.out.mono ?_; rintro e w3 ⟨rfl, nn, os, rfl⟩)
  go_ret
  have hlm : (ss.mergeSort fun x y => !ltOf cmK y x).length = ss.length := List.length_mergeSort _
  have hhold : HoldsK lkCelP 2 (sortWorldK lkCelP 2 w2 gb 0 nn (ss.mergeSort fun x y => !ltOf cmK y x).toArray os) gb 0 (ss.mergeSort fun x y => !ltOf cmK y x).toArray := by
   unfold sortWorldK
   refine holdsK_grow lkCelP 2 _ os gb 0 _ (by unfold putRowK; rw [size_putRow]; exact HGL.out) ?_
   exact holdsK_putRowK lkCelP 2 _ gb 0 ss.toArray _ (holdsK_ahead lkCelP 2 w2 nn gb 0 _ HH.out) (by simp)
  have hsb : Below s0 w2 (sortWorldK lkCelP 2 w2 gb 0 nn (ss.mergeSort fun x y => !ltOf cmK y x).toArray os) := lkSortK_below (Nat.le_trans hbase.out HBG.out) HSL.out
  have hK : ss.mergeSort (fun x y => !ltOf cmK y x) = K := asck_ext (lkSort_ascP HSS.out.1) HASC.out fun k => by
   rw [(List.mergeSort_perm ss _).mem_iff, HM.out k, HF.out k]
  rw [hK] at hhold hsb hlm ⊢
  refine ⟨⟨some ⟨gb, 0, none⟩, cap, by first | (rw [hlm]; rfl) | (rw [hlm]; simp), lkp_row (lkPairs_of_holds hhold (Nat.lt_of_lt_of_le HGL.out ?_))⟩, ?_⟩
  ·unfold sortWorldK putRowK
   have h1 := (Lib.below_grow 0 (putRow id (Sort.ahead w2 nn) gb 0 (flatK lkCelP 2 K.toArray)) (Nat.zero_le _) 0 os).size
   rw [size_putRow] at h1
   exact h1
  ·have h9 := HB2.out.trans hsb
   first | exact h9 | (rw [HSZ.out]; exact h9)
open Go.RowKit Go.Maps
theorem infoRk : (Tryz.prog.info? 124).map (fun i => (i.zero, i.size, i.bytes)) = some (some (.agg #[.int .i64 0, .int .i64 0]), 2, 16) := by kernel_rfl
def RkQ (B : Nat) (K : LkL) (e : Ending) (w' : World) : Prop := ∃ A c, e = .returned (.slice A K.length c) ∧ OwnR lyP 124 w' B (.slice A K.length c) K
set_option maxRecDepth 100000 in
set_option maxHeartbeats 3200000 in
theorem from_any (A : Option Addr) (c : Nat) (K : LkL) (w : World) (hz : RowAt lyP w A K) (hl : K.length ≤ 1000) : Calls Tryz.prog 41 #[.slice A K.length c] w fun e w' => RkQ w.heap.size K e w' ∧ Below w.heap.size w w' := by
 obtain ⟨i0, hi, hz1, hz2, hz3⟩ := info_parts infoRk
 obtain ⟨n, hn⟩ : ∃ n, K.length = n := ⟨_, rfl⟩
 obtain ⟨B0, hB0⟩ : ∃ B0, w.heap.size = B0 := ⟨_, rfl⟩
 have HB0 := Lib.hid hB0
 have HN := Lib.hid hn
 have HZ := Lib.hid hz
 rw [hn] at hl
 have hQ : ∀ e w', RkQ w.heap.size K e w' = ∃ A c, e = .returned (.slice A n c) ∧ OwnR lyP 124 w' B0 (.slice A n c) K := fun e w' => by unfold RkQ; rw [hn, hB0]
 simp only [hQ]
 rw [hn]
 clear hn hz hB0 hQ
 go_enter Tryz.func41, Tryz.ntmps41
 go_wp2_with fail
 go_loopg [3, 8] n (fun kx s3 s8 wr => ∃ (k : Nat), s8 = .int .i64 k ∧ k ≤ n ∧ n - k ≤ kx ∧ Hid (OwnR lyP 124 wr B0 s3 (K.take k)) ∧ Hid (Below B0 w wr))
 case atStart => exact ⟨0, rfl, by omega, by omega, Lib.hid OwnR.nil, Lib.hid (Below.refl _ _)⟩
 case round =>
  obtain ⟨k, rfl, hk, hkx, HO, HB⟩ := hrel
  by_cases hlt : k < n
  ·have hltz : (k : Int) < (n : Int) := by omega
   obtain ⟨q, hq⟩ : ∃ q, K[k]? = some q := ⟨_, List.getElem?_eq_getElem (by rw [HN.out]; exact hlt)⟩
   obtain ⟨bb, off, hA, hbl, hrg⟩ := (HZ.out.up (HB.out.mono (Nat.le_of_eq HB0.out))).at hq
   subst hA
   have HLY : Hid ((Instr.loadAt 89 (.pointer (some ⟨bb, off + k * 2, none⟩))).run Tryz.prog wr = .ok (pairV q) wr) := Lib.hid (run_loadAt_mid wr bb (off + k * 2) 89 (lkCelP q) _ (fun jj v hv => hrg jj v hv) Tryz.underlying89 rfl (by kernel_rfl))
   have HTK : Hid (K.take (k + 1) = K.take k ++ [q]) := Lib.hid (by rw [List.take_add_one, hq]; rfl)
   have HLN : Hid ((K.take k).length ≤ 1000) := Lib.hid (by have := List.length_take_le k K; omega)
   obtain ⟨sr, hsr⟩ : ∃ sr, wr.heap.size = sr := ⟨_, rfl⟩
   have HSR := Lib.hid hsr
   have HN0 : True := trivial
   clear hq hbl hrg
   go_upto_region 5 with (first
    | (clear HN0; refine wpList_load_is rfl 89 _ rfl (.pointer (some ⟨bb, off + k * 2, none⟩)) rfl (pairV q) HLY.out ?_)
    | (refine wpList_store_wh rfl 89 _ _ rfl sr (by first | rfl | (rw [← HSR.out]; rfl)) 89 [.int .i64 0, .int .i64 0] (lkCelP q) rfl (by rw [← HSR.out]; exact Wh.new wr 89 [.int .i64 0, .int .i64 0]) rfl (by kernel_rfl) (by kernel_rfl) ?_; intro w6 hr6 ho6 hz6; have HR6 := Lib.hid hr6.out; have hb6 : Below wr.heap.size wr w6 := only_new (by rw [HSR.out]; exact ho6.out); have HB6 := Lib.hid (HB.out.trans (hb6.mono (by have := HB.out.size; have := HB0.out; omega))); have HO6 := Lib.hid (HO.out.up hb6); clear hr6 ho6 hz6 hb6))
   have HLS : Hid ((Instr.loadAt 89 (.pointer (some ⟨sr, 0, none⟩))).run Tryz.prog w6 = .ok (pairV q) w6) := Lib.hid (HR6.out.rg.load 0 89 (lkCelP q) rfl _ Tryz.underlying89 rfl (by kernel_rfl))
   have hx8 : Below w6.heap.size w6 (w6.alloc (.cells #[.int .i64 q.1, .int .i64 q.2] 124)) := below_alloc_new _
   have HX8 := Lib.hid hx8
   have HR8 : Hid (RowAt lyP (w6.alloc (.cells #[.int .i64 q.1, .int .i64 q.2] 124)) (some ⟨w6.heap.size, 0, none⟩) [q]) := Lib.hid (row_one (R := lyP) (x := q) (Wh.new w6 124 (lkCelP q)))
   have HA8 := Lib.hid (HO6.out.up hx8)
   have HN1 : True := trivial
   clear hx8
   go_wp2_with (first
    | (clear HN1; refine wpList_load_is rfl 89 _ rfl (.pointer (some ⟨sr, 0, none⟩)) rfl (pairV q) HLS.out ?_)
    | (at_builtin; refine wpList_app_row (R := lyP) rfl (.tmp 12) (.tmp 14) 67 rfl i0 _ 16 Tryz.underlying67 hi hz1 hz2 hz3 (by omega) rfl rfl HA8.out (some ⟨w6.heap.size, 0, none⟩) 1 1 [q] rfl rfl HR8.out (by have := HLN.out; simp; omega) (by have := HB6.out.size; have := HX8.out.size; have := HB0.out; omega) ?_; intro v9 w9 hr9 hg9 hn9; have HR9 := Lib.hid hr9.out; have HG9 := Lib.hid hg9.out; clear hr9 hg9 hn9))
   have HB9 : Hid (Below B0 w w9) := Lib.hid ((HB6.out.trans (HX8.out.mono (by have := HB6.out.size; have := HB0.out; omega))).trans ((Only.grown (S := fun k => _ = some k) HG9.out fun k hk => hk).below (fun k hk => (HA8.out.lt hk).1) (by have := HB6.out.size; have := HX8.out.size; have := HB0.out; omega)))
   go_roundg (n - (k + 1))
   case measure => omega
   case rel => exact ⟨k + 1, by go_num, by omega, by omega, Lib.hid (by rw [HTK.out]; exact HR9.out), HB9⟩
  ·obtain rfl : n = k := by omega
   have hltz : ¬ (n : Int) < (n : Int) := by omega
   have hT : K.take n = K := List.take_of_length_le (by rw [HN.out]; exact Nat.le_refl _)
   rw [hT] at HO
   obtain ⟨A9, c9, e9, -, -⟩ := HO.out.reads
   rw [HN.out] at e9
   subst e9
   clear hT
   go_wp2_with fail
   go_ret
   exact ⟨⟨A9, c9, rfl, HO.out⟩, by first | exact HB.out | (rw [HB0.out]; exact HB.out)⟩
def idxL (K : LkL) (x : Int × Int) : Nat := K.findIdx fun a => decide (a = x)
def getL (K : LkL) (x : Int × Int) : Int := if idxL K x < K.length then (idxL K x : Int) else -1
theorem idxL_is {K : LkL} {x : Int × Int} {k : Nat} (h : K[k]? = some x) (h1 : ∀ i, i < k → K[i]? ≠ some x) : getL K x = k := by
 have hk : k < K.length := (List.getElem?_eq_some_iff.1 h).1
 have h2 : idxL K x = k := by
  unfold idxL
  rw [List.findIdx_eq hk]
  refine ⟨by rw [List.getElem?_eq_getElem hk] at h; injection h with h; simpa using h, fun j hj => ?_⟩
  have := h1 j hj
  rw [List.getElem?_eq_getElem (by omega)] at this
  simpa using this
 unfold getL
 rw [h2, if_pos hk]
theorem idxL_no {K : LkL} {x : Int × Int} (h : ∀ i, i < K.length → K[i]? ≠ some x) : getL K x = -1 := by
 unfold getL
 rw [if_neg]
 intro h1
 have h2 : K.findIdx (fun a => decide (a = x)) < K.length := h1
 have h3 := List.findIdx_getElem (p := fun a : Int × Int => decide (a = x)) (xs := K) (w := h2)
 exact h _ h2 (by rw [List.getElem?_eq_getElem h2]; exact congrArg some (of_decide_eq_true h3))
theorem getL_mem {K : LkL} {x : Int × Int} : (0 ≤ getL K x ↔ x ∈ K) ∧ (x ∈ K → K[(getL K x).toNat]? = some x) := by
 unfold getL
 by_cases h : idxL K x < K.length
 ·have h2 : K.findIdx (fun a => decide (a = x)) < K.length := h
  have h3 := of_decide_eq_true (List.findIdx_getElem (p := fun a : Int × Int => decide (a = x)) (xs := K) (w := h2))
  rw [if_pos h]
  refine ⟨⟨fun _ => by rw [← h3]; exact List.getElem_mem _, fun _ => by omega⟩, fun _ => ?_⟩
  show K[idxL K x]? = some x
  rw [List.getElem?_eq_getElem h]
  exact congrArg some h3
 ·rw [if_neg h]
  have hno : x ∉ K := fun hm => h (List.findIdx_lt_length_of_exists ⟨x, hm, by simp⟩)
  exact ⟨⟨fun h => by omega, fun h => absurd h hno⟩, fun h => absurd h hno⟩
set_option maxRecDepth 100000 in
set_option maxHeartbeats 3200000 in
theorem rkidx_any (A : Option Addr) (c : Nat) (K : LkL) (x : Int × Int) (w : World) (hz : RowAt lyP w A K) (hl : K.length ≤ 1000) : Calls Tryz.prog 72 #[.slice A K.length c, .agg #[.int .i64 x.1, .int .i64 x.2]] w fun e w' => e = .returned (.int .i64 (getL K x)) ∧ Below w.heap.size w w' := by
 obtain ⟨n, hn⟩ : ∃ n, K.length = n := ⟨_, rfl⟩
 obtain ⟨s0, hs0⟩ : ∃ s0, w.heap.size = s0 := ⟨_, rfl⟩
 obtain ⟨x1, x2⟩ := x
 obtain ⟨w2, hw2⟩ : ∃ w2, w.alloc (.cells #[.int .i64 x1, .int .i64 x2] 124) = w2 := ⟨_, rfl⟩
 have HXB : Hid (Wh 124 w2 s0 [.int .i64 x1, .int .i64 x2]) := Lib.hid (by rw [← hw2, ← hs0]; exact Wh.new w 124 [.int .i64 x1, .int .i64 x2])
 have HB2 : Hid (Below w.heap.size w w2) := Lib.hid (by rw [← hw2]; exact below_alloc_new _)
 have HN := Lib.hid hn
 have HZ := Lib.hid (hz.up HB2.out)
 have HS0 := Lib.hid hs0
 rw [hn] at hl ⊢
 dsimp only
 clear hn hz
 go_enter Tryz.func72, Tryz.ntmps72
 go_wp2_with fail
 go_loopg [5] n (fun kx s5 wr => ∃ (k : Nat), s5 = .int .i64 k ∧ k ≤ n ∧ n - k ≤ kx ∧ Hid (∀ i, i < k → K[i]? ≠ some (x1, x2)) ∧ Hid (Below w2.heap.size w2 wr))
 case atStart => exact ⟨0, rfl, by omega, by omega, Lib.hid (fun i h => absurd h (by omega)), Lib.hid (Below.refl _ _)⟩
 case round =>
  obtain ⟨k, rfl, hk, hkx, HNO, HB⟩ := hrel
  by_cases hlt : k < n
  ·have hltz : (k : Int) < (n : Int) := by omega
   obtain ⟨q, hq⟩ : ∃ q, K[k]? = some q := ⟨_, List.getElem?_eq_getElem (by rw [HN.out]; exact hlt)⟩
   obtain ⟨q1, q2⟩ := q
   obtain ⟨bb, off, hA, hbl, hrg⟩ := (HZ.out.up HB.out).at hq
   subst hA
   have p0 : wr.cell? ⟨bb, off + k * 2, none⟩ = some (.int .i64 q1) := hrg 0 _ rfl
   have p1 : wr.cell? ⟨bb, off + k * 2 + 1, none⟩ = some (.int .i64 q2) := hrg 1 _ rfl
   have hx := HXB.out.up HB.out
   have y0 := hx.at 0 _ rfl
   have y1 := hx.at 1 _ rfl
   have HQ := Lib.hid hq
   clear hq hrg hbl hx
   by_cases he : q1 = x1 ∧ q2 = x2
   ·have he1 : (q1 == x1) = true := by simp [he.1]
    have he2 : (q2 == x2) = true := by simp [he.2]
    have HG : Hid (getL K (x1, x2) = k) := Lib.hid (idxL_is (by rw [HQ.out, he.1, he.2]) HNO.out)
    clear he
    go_wp2_with fail
    go_quiet (fail)
    have hB9 := below_drewN HB.out nq
    generalize World.drewN _ nq = W1 at *
    go_wp2_with fail
    go_ret
    exact ⟨by rw [HG.out]; rfl, by have h9 := HB2.out.trans (hB9.mono HB2.out.size); first | exact h9 | (rw [← HS0.out]; exact h9)⟩
   ·have HNO2 : Hid (∀ i, i < k + 1 → K[i]? ≠ some (x1, x2)) := Lib.hid (fun i hi h => by
     rcases Nat.lt_or_ge i k with h1 | h1
     ·exact HNO.out i h1 h
     ·obtain rfl : i = k := by omega
      rw [HQ.out] at h
      injection h with h
      injection h with h1 h2
      exact he ⟨h1, h2⟩)
    by_cases h1 : q1 = x1
    ·have he1 : (q1 == x1) = true := by simp [h1]
     have he2 : (q2 == x2) = false := by
      have h2 : ¬ q2 = x2 := fun h2 => he ⟨h1, h2⟩
      simp [h2]
     clear he h1
     go_wp2_with fail
     go_quiet (fail)
     have HB9 := Lib.hid (below_drewN HB.out nq)
     generalize World.drewN _ nq = W1 at *
     go_wp2_with fail
     go_roundg (n - (k + 1))
     case measure => omega
     case rel => exact ⟨k + 1, by go_num, by omega, by omega, HNO2, HB9⟩
    ·have he1 : (q1 == x1) = false := by simp [h1]
     clear he h1
     go_wp2_with fail
     go_quiet (fail)
     have HB9 := Lib.hid (below_drewN HB.out nq)
     generalize World.drewN _ nq = W1 at *
     go_wp2_with fail
     go_roundg (n - (k + 1))
     case measure => omega
     case rel => exact ⟨k + 1, by go_num, by omega, by omega, HNO2, HB9⟩
  ·obtain rfl : n = k := by omega
   have hltz : ¬ (n : Int) < (n : Int) := by omega
   have HG : Hid (getL K (x1, x2) = -1) := Lib.hid (idxL_no (by rw [HN.out]; exact HNO.out))
   go_wp2_with fail
   go_ret
   exact ⟨by rw [HG.out]; rfl, by have h9 := HB2.out.trans (HB.out.mono HB2.out.size); first | exact h9 | (rw [← HS0.out]; exact h9)⟩
theorem takes_eq {K M : LkL} {k : Nat} {q r : Int × Int} (h : K.take k = M.take k) (hq : K[k]? = some q) (hr : M[k]? = some r) : (q = r → K.take (k + 1) = M.take (k + 1)) ∧ (q ≠ r → K ≠ M) := by
 refine ⟨fun e => by rw [List.take_add_one, List.take_add_one, hq, hr, h, e], fun e e2 => ?_⟩
 subst e2
 rw [hq] at hr
 injection hr with hr
 exact e hr
set_option maxRecDepth 100000 in
set_option maxHeartbeats 3200000 in
theorem same13_any (A B : Option Addr) (c d : Nat) (K M : LkL) (w : World) (hz : RowAt lyP w A K) (hy : RowAt lyP w B M) (hl : K.length ≤ 1000) (hl2 : M.length ≤ 1000) : Calls Tryz.prog 40 #[.slice A K.length c, .slice B M.length d] w fun e w' => e = .returned (.bool (decide (K = M))) ∧ Below w.heap.size w w' := by
 obtain ⟨n, hn⟩ : ∃ n, K.length = n := ⟨_, rfl⟩
 obtain ⟨m, hm⟩ : ∃ m, M.length = m := ⟨_, rfl⟩
 have HN := Lib.hid hn
 have HM := Lib.hid hm
 have HZ := Lib.hid hz
 have HY := Lib.hid hy
 rw [hn] at hl ⊢
 rw [hm] at hl2 ⊢
 clear hn hm hz hy
 by_cases hnm : n = m
 ·subst hnm
  have hne : ((n : Int) != (n : Int)) = false := by simp
  obtain ⟨r, hr⟩ : ∃ r, decide (K = M) = r := ⟨_, rfl⟩
  have HR := Lib.hid hr
  rw [hr]
  clear hr
  go_enter Tryz.func40, Tryz.ntmps40
  go_wp2_with fail
  go_loopg [5] n (fun kx s5 wr => ∃ (k : Nat), s5 = .int .i64 k ∧ k ≤ n ∧ n - k ≤ kx ∧ Hid (K.take k = M.take k) ∧ Hid (Below w.heap.size w wr))
  case atStart => exact ⟨0, rfl, by omega, by omega, Lib.hid rfl, Lib.hid (Below.refl _ _)⟩
  case round =>
   obtain ⟨k, rfl, hk, hkx, HT, HB⟩ := hrel
   by_cases hlt : k < n
   ·have hltz : (k : Int) < (n : Int) := by omega
    obtain ⟨q, hq⟩ : ∃ q, K[k]? = some q := ⟨_, List.getElem?_eq_getElem (by rw [HN.out]; exact hlt)⟩
    obtain ⟨p, hp⟩ : ∃ p, M[k]? = some p := ⟨_, List.getElem?_eq_getElem (by rw [HM.out]; exact hlt)⟩
    obtain ⟨t1, t2⟩ := takes_eq HT.out hq hp
    obtain ⟨q1, q2⟩ := q
    obtain ⟨p1, p2⟩ := p
    obtain ⟨bb, off, hA, hbl, hrg⟩ := (HZ.out.up HB.out).at hq
    obtain ⟨bc, ofc, hB, hbl2, hrg2⟩ := (HY.out.up HB.out).at hp
    subst hA hB
    have e0 : wr.cell? ⟨bb, off + k * 2, none⟩ = some (.int .i64 q1) := hrg 0 _ rfl
    have e1 : wr.cell? ⟨bb, off + k * 2 + 1, none⟩ = some (.int .i64 q2) := hrg 1 _ rfl
    have f0 : wr.cell? ⟨bc, ofc + k * 2, none⟩ = some (.int .i64 p1) := hrg2 0 _ rfl
    have f1 : wr.cell? ⟨bc, ofc + k * 2 + 1, none⟩ = some (.int .i64 p2) := hrg2 1 _ rfl
    clear hq hp hrg hrg2 hbl hbl2
    by_cases he : q1 = p1 ∧ q2 = p2
    ·have HT2 := Lib.hid (t1 (by rw [he.1, he.2]))
     have he1 : (q1 == p1) = true := by simp [he.1]
     have he2 : (q2 == p2) = true := by simp [he.2]
     clear t1 t2 he
     go_wp2_with fail
     go_quiet (fail)
     have HB9 := Lib.hid (below_drewN HB.out nq)
     generalize World.drewN _ nq = W1 at *
     go_wp2_with fail
     go_roundg (n - (k + 1))
     case measure => omega
     case rel => exact ⟨k + 1, by go_num, by omega, by omega, HT2, HB9⟩
    ·have HF : Hid (r = false) := Lib.hid (by rw [← HR.out]; exact decide_eq_false (t2 fun e => he ⟨congrArg Prod.fst e, congrArg Prod.snd e⟩))
     clear t1 t2
     by_cases h1 : q1 = p1
     ·have he1 : (q1 == p1) = true := by simp [h1]
      have he2 : (q2 == p2) = false := by
       have h2 : ¬ q2 = p2 := fun h2 => he ⟨h1, h2⟩
       simp [h2]
      clear he h1
      go_wp2_with fail
      go_quiet (fail)
      have HB9 := Lib.hid (below_drewN HB.out nq)
      generalize World.drewN _ nq = W1 at *
      go_wp2_with fail
      go_ret
      exact ⟨by rw [HF.out]; rfl, HB9.out⟩
     ·have he1 : (q1 == p1) = false := by simp [h1]
      clear he h1
      go_wp2_with fail
      go_quiet (fail)
      have HB9 := Lib.hid (below_drewN HB.out nq)
      generalize World.drewN _ nq = W1 at *
      go_wp2_with fail
      go_ret
      exact ⟨by rw [HF.out]; rfl, HB9.out⟩
   ·obtain rfl : n = k := by omega
    have hltz : ¬ (n : Int) < (n : Int) := by omega
    have HF : Hid (r = true) := Lib.hid (by
     rw [← HR.out]
     have := HT.out
     rw [List.take_of_length_le (Nat.le_of_eq HN.out), List.take_of_length_le (Nat.le_of_eq HM.out)] at this
     exact decide_eq_true this)
    go_wp2_with fail
    go_ret
    exact ⟨by rw [HF.out]; rfl, HB.out⟩
 ·have hne : ((n : Int) != (m : Int)) = true := by simp; omega
  rw [decide_eq_false (fun e => hnm (by rw [← HN.out, ← HM.out, e]))]
  go_enter Tryz.func40, Tryz.ntmps40
  go_wp2_with fail
  go_ret
  exact ⟨rfl, Below.refl _ _⟩
open Go.RowKit
def fewR (e : Ent) : Bool := decide (e.n ≤ 40) && (decide (e.m ≤ 60) && !decide ((60 : Int) < wrap64 ((e.nm.size : Int) + (e.cur.size : Int))))
def few10 (g : Grp) (G : List Ent) : Bool := allTo (fun i => fewR (G.getD i ent0)) G.length && (decide (g.n ≤ 60) && (decide (g.m ≤ 14) && decide ((g.cur.size : Int) ≤ 20)))
theorem few_sm {g : Grp} {G : List Ent} (h : few10 g G = true) : Sm g G := by
 unfold few10 at h
 simp only [Bool.and_eq_true, decide_eq_true_eq] at h
 obtain ⟨h1, h2, h3, -⟩ := h
 refine ⟨h2, h3, fun e he => ?_⟩
 obtain ⟨i, hi, rfl⟩ := mem_getD_acc (d := ent0) he
 have h4 := allTo_is.1 h1 i hi
 unfold fewR at h4
 simp only [Bool.and_eq_true, decide_eq_true_eq] at h4
 exact ⟨by omega, h4.2.1⟩
set_option maxRecDepth 20000 in
set_option maxHeartbeats 1600000 in
theorem rfew10_is (g : Grp) (G : List Ent) (w : World) (he : EntsAt w g.E G) (lg : G.length = g.m) (hmx : g.m ≤ 9223372036854775807) :
  Calls Tryz.prog 28 #[grpV g] w fun e w' => e = .returned (.bool (few10 g G)) ∧ Below w.heap.size w w' := by
 have hB := below_alloc_new (w := w) (.cells #[.string g.cur, .int .i64 g.cy, .int .i64 g.cm, .int .i64 g.cp, .slice g.A g.n g.c, .int .i64 g.r0, .int .i64 g.r1, .int .i64 g.r2, .int .i64 g.r3, .int .i64 g.r4, .int .i64 g.r5, .int .i64 g.r6, .int .i64 g.r7, .int .i64 g.r8, .int .i64 g.r9, .int .i64 g.r10, .int .i64 g.r11, .int .i64 g.r12, .int .i64 g.r13, .int .i64 g.r14, .slice g.E g.m g.d] 29)
 have hG := gb_new w 29 g
 have hv : few10 g G = (allTo (fun i => fewR (G.getD i ent0)) G.length && (decide (g.n ≤ 60) && (decide (g.m ≤ 14) && decide ((g.cur.size : Int) ≤ 20)))) := rfl
 rw [lg] at hv
 generalize few10 g G = r at *
 obtain ⟨P, hP⟩ : ∃ P : Nat → Bool, (fun i => fewR (G.getD i ent0)) = P := ⟨_, rfl⟩
 have hpk : ∀ k, P k = fewR (G.getD k ent0) := fun k => by rw [← hP]
 rw [hP] at hv
 have HV := Lib.hid hv
 have HPK := Lib.hid hpk
 clear hv hpk hP
 obtain ⟨s0, hs0⟩ : ∃ s0, w.heap.size = s0 := ⟨_, rfl⟩
 rw [hs0] at hB hG ⊢
 have HM := Lib.hid lg
 have HZ := Lib.hid he
 have HS0 := Lib.hid hs0
 have HG := Lib.hid hG
 clear he lg hG
 go_enter Tryz.func28, Tryz.ntmps28
 go_wp2_with fail
 clear hs0
 go_loopg [3] g.m (fun kx s3 wr => ∃ k : Nat, s3 = .int .i64 k ∧ k ≤ g.m ∧ g.m - k ≤ kx ∧ Hid (allTo P k = true) ∧ Hid (GB wr s0 g) ∧ Below s0 w wr)
 case atStart => exact ⟨0, rfl, by omega, by omega, Lib.hid rfl, HG, hB⟩
 case round =>
  clear hB HG
  obtain ⟨k, rfl, hk, hkx, HN, HG, hB⟩ := hrel
  have c20 := HG.out.c20
  have hsz : s0 ≤ wr.heap.size := by have := hB.size; have := HS0.out; omega
  by_cases hlt : k < g.m
  ·have hltz : (k : Int) < (g.m : Int) := by omega
   obtain ⟨b, off, eE, hbw, hcs⟩ := ent_at HZ.out (k := k) (by rw [HM.out]; omega)
   obtain ⟨c0, c1, c2, c3, c4⟩ := hcs.up hB (by have := HS0.out; omega)
   have hno : P k = false → r = false := fun h => by rw [HV.out, allTo_no hlt h]; rfl
   have hnx : P k = true → Hid (allTo P (k + 1) = true) := fun h => Lib.hid (by show (allTo P k && P k) = true; rw [HN.out, h]; rfl)
   have hpk := HPK.out k
   obtain ⟨x, hx⟩ : ∃ x, G.getD k ent0 = x := ⟨_, rfl⟩
   rw [hx] at c0 c1 c2 c3 c4 hpk
   have hfr : fewR x = (decide (x.n ≤ 40) && (decide (x.m ≤ 60) && !decide ((60 : Int) < wrap64 ((x.nm.size : Int) + (x.cur.size : Int))))) := rfl
   rw [hfr] at hpk
   generalize P k = pk at *
   obtain ⟨z0, z1, z2, z3, z4, zlt⟩ := eb_new wr 119 x.nm x.cur x.A x.n x.c x.B x.m x.d x.jt
   have hB1 : Below s0 w (wr.alloc (.cells #[.string x.nm, .string x.cur, .slice x.A x.n x.c, .slice x.B x.m x.d, .bool x.jt] 119)) := hB.alloc hsz _
   have HG1 := Lib.hid (HG.out.up (below_alloc_new (w := wr) (.cells #[.string x.nm, .string x.cur, .slice x.A x.n x.c, .slice x.B x.m x.d, .bool x.jt] 119)))
   clear hcs hx HN HG hfr
   rcases Nat.lt_or_ge 40 x.n with h1 | h1
   ·have e1 : decide ((40 : Int) < (x.n : Int)) = true := decide_eq_true (by omega)
    have HR := Lib.hid (hno (by rw [hpk, decide_eq_false (show ¬ x.n ≤ 40 by omega)]; rfl))
    clear hnx h1 hno hpk
    go_wp2_with fail
    go_ret
    exact ⟨by rw [HR.out]; rfl, hB1⟩
   have e1 : decide ((40 : Int) < (x.n : Int)) = false := decide_eq_false (by omega)
   rcases Nat.lt_or_ge 60 x.m with h2 | h2
   ·have e2 : decide ((60 : Int) < (x.m : Int)) = true := decide_eq_true (by omega)
    have HR := Lib.hid (hno (by rw [hpk, decide_eq_false (show ¬ x.m ≤ 60 by omega)]; simp))
    clear hnx h1 h2 hno hpk
    go_wp2_with fail
    go_ret
    exact ⟨by rw [HR.out]; rfl, hB1⟩
   have e2 : decide ((60 : Int) < (x.m : Int)) = false := decide_eq_false (by omega)
   rw [decide_eq_true h1, decide_eq_true h2] at hpk
   clear h1 h2
   cases e3 : decide ((60 : Int) < wrap64 ((x.nm.size : Int) + (x.cur.size : Int)))
   ·have HN2 := hnx (by rw [hpk, e3]; rfl)
    clear hnx hno hpk
    go_wp2_with fail
    go_roundg (g.m - (k + 1))
    case measure => omega
    case rel => exact ⟨k + 1, by go_num, by omega, by omega, HN2, HG1, hB1⟩
   ·have HR := Lib.hid (hno (by rw [hpk, e3]; rfl))
    clear hnx hno hpk
    go_wp2_with fail
    go_ret
    exact ⟨by rw [HR.out]; rfl, hB1⟩
  ·have hke : k = g.m := by omega
   have hltz : ¬ (k : Int) < (g.m : Int) := by omega
   have hv2 := HV.out
   rw [← hke, HN.out, Bool.true_and] at hv2
   have hm9 : decide (k ≤ 14) = decide (g.m ≤ 14) := by rw [hke]
   have c4 := HG.out.c4
   have c0 := HG.out.c0
   clear hke
   rcases Nat.lt_or_ge 60 g.n with h1 | h1
   ·have e1 : decide ((g.n : Int) ≤ 60) = false := decide_eq_false (by omega)
    have HR : Hid (r = false) := Lib.hid (by rw [hv2, decide_eq_false (show ¬ g.n ≤ 60 by omega)]; rfl)
    clear h1 hv2
    go_wp2_with fail
    go_ret
    exact ⟨by rw [HR.out]; rfl, hB⟩
   have e1 : decide ((g.n : Int) ≤ 60) = true := decide_eq_true (by omega)
   rcases Nat.lt_or_ge 14 g.m with h2 | h2
   ·have e2 : decide ((g.m : Int) ≤ 14) = false := decide_eq_false (by omega)
    have HR : Hid (r = false) := Lib.hid (by rw [hv2, hm9, decide_eq_false (show ¬ g.m ≤ 14 by omega)]; simp)
    clear h1 h2 hv2 hm9
    go_wp2_with fail
    go_ret
    exact ⟨by rw [HR.out]; rfl, hB⟩
   have e2 : decide ((g.m : Int) ≤ 14) = true := decide_eq_true (by omega)
   have HR : Hid (r = decide ((g.cur.size : Int) ≤ 20)) := Lib.hid (by rw [hv2, hm9, decide_eq_true h1, decide_eq_true h2]; rfl)
   clear h1 h2 hv2 hm9
   go_wp2_with fail
   go_ret
   exact ⟨by rw [HR.out]; rfl, hB⟩
theorem insL_len {K : LkL} {x : Int × Int} : (insL K x).length = K.length + 1 := by
 have h := congrArg List.length (List.takeWhile_append_dropWhile (p := fun a => decide (ltK a x)) (l := K))
 unfold insL
 rw [List.length_append] at h
 rw [List.length_append, List.length_cons]
 omega
theorem stpsL_len (n k : Int) (S : List Stp) : (stpsL n k S).length ≤ S.length := by
 unfold stpsL
 have : ∀ (S : List Stp) (K : LkL), (S.foldl (stpL n k) K).length ≤ K.length + S.length := by
  intro S
  induction S with
  | nil => intro K; exact Nat.le_refl _
  | cons s S ih =>
   intro K
   have h1 := ih (stpL n k K s)
   have h2 : (stpL n k K s).length ≤ K.length + 1 := by
    unfold stpL
    split
    ·unfold remL delL
     split
     ·have := List.length_filter_le (fun a => !decide (a = s.k)) K; omega
     ·omega
    ·unfold addL
     split
     ·rw [insL_len]; exact Nat.le_refl _
     ·omega
   rw [List.foldl_cons, List.length_cons]
   omega
 have h := this S []
 simpa using h
section
variable {w w' : World} {B : Nat} {v u v' : Value} {L M L' : List Stp}
end
theorem rk_row {B : Nat} {K : LkL} {e : Ending} {w' : World} (h : RkQ B K e w') : ∃ A c, e = .returned (.slice A K.length c) ∧ RowAt lyP w' A K := by
 obtain ⟨A, c, he, ho⟩ := h
 obtain ⟨A', c', e1, hr, -⟩ := ho.reads
 injection e1 with e1 _ _
 exact ⟨A, c, he, by rw [e1]; exact hr⟩
open Go.RowKit
theorem results_cell2 {P : Program} {fn : Func} {p u : Tmp} {ty : TypeId} (h : fn.results = #[.cell p ty, .tmp u]) (tmps : Array Value) (w : World) (b : Nat) (cs : List Value) (d : TypeDesc) (v : Value)
  (hp : tmps.getD p undef = .pointer (some ⟨b, 0, none⟩)) (hv : tmps.getD u undef = v) (hc : w.rangeAt b 0 cs) (hu : P.underlying ty = some d) (hd : d.isRow = true) (hi : (P.info? ty).map (·.size) = some cs.length) :
  (results fn tmps).run P w = .ok (.tuple #[.agg cs.toArray, v]) w := by
 have hp' : tmps[p]?.getD undef = .pointer (some ⟨b, 0, none⟩) := by simpa using hp
 have hv' : tmps[u]?.getD undef = v := by simpa using hv
 rw [results_cell_tmp h]
 simp [hp', hv', asAddr, run_loadVar_mid w b 0 ty cs d hc hu hd hi]
open Go.RowKit Go.Maps
abbrev rlC (g : Grp) (v : Value) : List Value := grpC g ++ [v]
abbrev rlV (g : Grp) (v : Value) : Value := .agg (rlC g v).toArray
def gr0 : Grp := ⟨⟨#[]⟩, 0, 0, 0, none, 0, 0, 0, 0, 0, 0, 0, 0, 0, 0, 0, 0, 0, 0, 0, 0, 0, none, 0, 0⟩
theorem rl_zero (w : World) : (Instr.build 69 #[]).run Tryz.prog w = .ok (rlV gr0 (.slice none 0 0)) w := run_build w 69 _ _ (by kernel_rfl)
theorem rl_build (g : Grp) (w : World) : (Instr.build 69 #[(0, grpV g)]).run Tryz.prog w = .ok (rlV g (.slice none 0 0)) w := run_build w 69 _ _ (by kernel_rfl)
set_option maxRecDepth 100000 in
set_option maxHeartbeats 3200000 in
theorem rlocked13_any (g : Grp) (A : Option Addr) (c : Nat) (K : LkL) (e p : Int) (w : World) (hz : RowAt lyP w A K) (hl : K.length ≤ 1000) : Calls Tryz.prog 35 #[rlV g (.slice A K.length c), .int .i64 e, .int .i64 p] w fun r w' => r = .returned (.bool (decide ((e, p) ∈ K))) ∧ Below w.heap.size w w' := by
 obtain ⟨n, hn⟩ : ∃ n, K.length = n := ⟨_, rfl⟩
 obtain ⟨s0, hs0⟩ : ∃ s0, w.heap.size = s0 := ⟨_, rfl⟩
 rw [hn] at hl ⊢
 obtain ⟨ls, hls⟩ : ∃ ls, (rlC g (.slice A n c)).toArray = ls := ⟨_, rfl⟩
 rw [show rlV g (.slice A n c) = .agg ls by rw [← hls]]
 obtain ⟨w2, hw2⟩ : ∃ w2, w.alloc (.cells ls 69) = w2 := ⟨_, rfl⟩
 have HXB : Hid (Wh 69 w2 s0 (rlC g (.slice A n c))) := Lib.hid (by rw [← hw2, ← hls, ← hs0]; exact Wh.new w _ _)
 have HB2 : Hid (Below w.heap.size w w2) := Lib.hid (by rw [← hw2]; exact below_alloc_new _)
 have HN := Lib.hid hn
 have HZ := Lib.hid (hz.up HB2.out)
 have HS0 := Lib.hid hs0
 clear hz hls
 have HIX := Lib.hid (rkidx_any A c K (e, p) w2 HZ.out (by rw [hn]; exact hl))
 have hgm := (getL_mem (K := K) (x := (e, p))).1
 rw [hn] at HIX
 have hdec : decide (getL K (e, p) ≥ 0) = decide ((e, p) ∈ K) := decide_eq_decide.2 hgm
 generalize getL K (e, p) = G at *
 rw [← hdec]
 have c21 := HXB.out.at 21 _ rfl
 clear hn hgm hdec
 go_enter Tryz.func35, Tryz.ntmps35
 go_wp2_with (go_at_call 72; refine HIX.out.mono ?_; rintro r w3 ⟨rfl, hb⟩; have HB3 := Lib.hid hb; clear hb)
 go_ret
 exact ⟨rfl, by have h9 := HB2.out.trans (HB3.out.mono HB2.out.size); first | exact h9 | (rw [← HS0.out]; exact h9)⟩
def luF (s0 bb off n c k : Nat) (g : Grp) (q2 : Int) : List (Nat × AK.Fact (Below0)) := [(25, AK.Fact.is (.pointer (some ⟨s0, 0, none⟩))), (26, AK.Fact.is (.pointer (some ⟨s0, 1, none⟩))), (27, AK.Fact.is (calV g.cy g.cm g.cp)), (28, AK.Fact.is (.pointer (some ⟨s0, 21, none⟩))), (29, AK.Fact.is (.slice (some ⟨bb, off, none⟩) n c)), (30, AK.Fact.is (.int .i64 (k : Int))), (31, AK.Fact.is (.pointer (some ⟨bb, off + k * 2, none⟩))), (32, AK.Fact.is (.pointer (some ⟨bb, off + k * 2 + 1, none⟩))), (33, AK.Fact.is (.int .i64 q2)), (34, AK.Fact.is (.tuple #[.int .i64 (pdL g.cy g.cm g.cp q2), .int .i64 (clE g.cy g.cm g.cp q2)])), (24, AK.Fact.is (.tuple #[.int .i64 (pdL g.cy g.cm g.cp q2), .int .i64 (clE g.cy g.cm g.cp q2)])), (35, AK.Fact.is (.int .i64 (pdL g.cy g.cm g.cp q2))), (36, AK.Fact.is (.int .i64 (clE g.cy g.cm g.cp q2))), (6, AK.Fact.is (.int .i64 (pdL g.cy g.cm g.cp q2)))]
set_option maxRecDepth 100000 in
set_option maxHeartbeats 6400000 in
theorem runtil13_any (g : Grp) (A : Option Addr) (c : Nat) (K : LkL) (e : Int) (m : Int) (w : World) (hz : RowAt lyP w A K) (hl : K.length ≤ 1000) (hg : GoodL m g.cp K) : Calls Tryz.prog 37 #[rlV g (.slice A K.length c), .int .i64 e] w fun r w' => r = .returned (.tuple #[.int .i64 (untD g.cy g.cm g.cp K e), .bool (untB K e)]) ∧ Below w.heap.size w w' := by
 obtain ⟨n, hn⟩ : ∃ n, K.length = n := ⟨_, rfl⟩
 obtain ⟨s0, hs0⟩ : ∃ s0, w.heap.size = s0 := ⟨_, rfl⟩
 rw [hn] at hl ⊢
 obtain ⟨ls, hls⟩ : ∃ ls, (rlC g (.slice A n c)).toArray = ls := ⟨_, rfl⟩
 rw [show rlV g (.slice A n c) = .agg ls by rw [← hls]]
 obtain ⟨w2, hw2⟩ : ∃ w2, w.alloc (.cells ls 69) = w2 := ⟨_, rfl⟩
 have HXB : Hid (Wh 69 w2 s0 (rlC g (.slice A n c))) := Lib.hid (by rw [← hw2, ← hls, ← hs0]; exact Wh.new w _ _)
 have HB2 : Hid (Below w.heap.size w w2) := Lib.hid (by rw [← hw2]; exact below_alloc_new _)
 have HN := Lib.hid hn
 have HZ := Lib.hid (hz.up HB2.out)
 have HS0 := Lib.hid hs0
 clear hz hls
 have HGD := Lib.hid hg
 have c21 := HXB.out.at 21 _ rfl
 clear hn hg c21
 go_enter Tryz.func37, Tryz.ntmps37
 go_wp2_with fail
 go_loopg [6, 7, 8] n (fun kx s6 s7 s8 wr => ∃ (k : Nat), s8 = .int .i64 (k : Int) ∧ s6 = .int .i64 (untD g.cy g.cm g.cp (K.take k) e) ∧ s7 = .bool (untB (K.take k) e) ∧ k ≤ n ∧ n - k ≤ kx ∧ Hid (Below w2.heap.size w2 wr))
 case atStart => exact ⟨0, rfl, rfl, rfl, by omega, by omega, Lib.hid (Below.refl _ _)⟩
 case round =>
  obtain ⟨k, rfl, rfl, rfl, hk, hkx, HB⟩ := hrel
  have c21 := (HXB.out.up HB.out).at 21 _ rfl
  by_cases hlt : k < n
  ·have hltz : (k : Int) < (n : Int) := by omega
   obtain ⟨q, hq⟩ : ∃ q, K[k]? = some q := ⟨_, List.getElem?_eq_getElem (by rw [HN.out]; exact hlt)⟩
   obtain ⟨q1, q2⟩ := q
   obtain ⟨bb, off, hA, hbl, hrg⟩ := HZ.out.at hq
   subst hA
   have HLZ : Hid ((k : Int) < (n : Int)) := Lib.hid hltz
   have HTK : Hid (K.take (k + 1) = K.take k ++ [(q1, q2)]) := Lib.hid (by rw [List.take_add_one, hq]; rfl)
   have HQC : Hid (∀ W, Below w2.heap.size w2 W → W.cell? ⟨bb, off + k * 2 + 1, none⟩ = some (.int .i64 q2)) := Lib.hid (fun W hW => (hW.cell (p := ⟨bb, off + k * 2 + 1, none⟩) hbl).trans (hrg 1 _ rfl))
   have p0 : wr.cell? ⟨bb, off + k * 2, none⟩ = some (.int .i64 q1) := (HB.out.cell (p := ⟨bb, off + k * 2, none⟩) hbl).trans (hrg 0 _ rfl)
   have HT : Hid (AscK (K.take k ++ [(q1, q2)]) ∧ ∀ x ∈ K.take k ++ [(q1, q2)], 0 ≤ x.2) := Lib.hid (by
    rw [← HTK.out]
    exact ⟨HGD.out.asc.sublist (List.take_sublist _ _), fun x hx => HGD.out.pos x (List.mem_of_mem_take hx)⟩)
   clear hq hrg hbl
   by_cases he : q1 = e
   ·have he1 : (q1 == e) = true := by simp [he]
    have HU : Hid (untD g.cy g.cm g.cp (K.take (k + 1)) e = pdL g.cy g.cm g.cp q2 ∧ untB (K.take (k + 1)) e = true) := Lib.hid (by
     have h1 := untM_asc HT.out.1 HT.out.2
     have h2 := HT.out.2 (q1, q2) (by simp)
     rw [← HTK.out] at h1
     subst he
     unfold untD untB
     have h3 : untM (K.take (k + 1)) q1 = q2 := h1
     rw [h3]
     exact ⟨if_pos h2, decide_eq_true h2⟩)
    clear he
    go_upto_region 6 with fail
    refine AK.region_facts (Rp := Below0) (Kp := Below0) (luF s0 bb off n c k g q2) (fun _ _ W => Below w2.heap.size w2 W) [[], [25], [26], [], [28], [], [29, 30], [31], [32], [27, 33], [34], [24], [24], [35]] [] [[]] [0, 0, 0, 0, 0, 0, 0, 0, 0, 0, 0, 0, 0, 0] [0, 0, 0, 0, 0, 0, 0, 0, 0, 0, 0, 0, 0, 0] [] (fun u => by simp only [luF, AK.temps, List.map_cons, List.map_nil, fillL, List.setIfInBounds_toArray, List.set_cons_zero, List.set_cons_succ]; rfl) (by kernel_rfl) (by kernel_rfl) (fun _ _ h => h.size) (fun _ _ h => h) (fun _ _ _ _ hb h => h.trans (hb.mono h.size)) (dc_drew HB.out) ?_ ?_
    ·refine AK.sc (lim := 0) (lo := 0) rfl rfl rfl rfl ?_ ?_
     ·intro k_ u w_ hk_ hl_ hJ hF K hK
      clear hF
      go_simp
      exact hK.out _ _ (Below.refl _ _) (rfl) trivial
     refine AK.sc (lim := 0) (lo := 0) rfl rfl rfl rfl ?_ ?_
     ·intro k_ u w_ hk_ hl_ hJ hF K hK
      have h25 : u 25 = .pointer (some ⟨s0, 0, none⟩) := AK.facts_get hF 25 (by simp)
      clear hF
      simp only [h25] at hK ⊢
      clear h25
      go_simp
      exact hK.out _ _ (Below.refl _ _) (rfl) trivial
     refine AK.sc (lim := 0) (lo := 0) rfl rfl rfl rfl ?_ ?_
     ·intro k_ u w_ hk_ hl_ hJ hF K hK
      have h26 : u 26 = .pointer (some ⟨s0, 1, none⟩) := AK.facts_get hF 26 (by simp)
      clear hF
      simp only [h26] at hK ⊢
      clear h26
      have c1_ := (HXB.out.up hJ).at 1 _ rfl
      have c2_ := (HXB.out.up hJ).at 2 _ rfl
      have c3_ := (HXB.out.up hJ).at 3 _ rfl
      go_simp
      exact hK.out _ _ (Below.refl _ _) (rfl) trivial
     refine AK.sc (lim := 0) (lo := 0) rfl rfl rfl rfl ?_ ?_
     ·intro k_ u w_ hk_ hl_ hJ hF K hK
      clear hF
      go_simp
      exact hK.out _ _ (Below.refl _ _) (rfl) trivial
     refine AK.sc (lim := 0) (lo := 0) rfl rfl rfl rfl ?_ ?_
     ·intro k_ u w_ hk_ hl_ hJ hF K hK
      have h28 : u 28 = .pointer (some ⟨s0, 21, none⟩) := AK.facts_get hF 28 (by simp)
      clear hF
      simp only [h28] at hK ⊢
      clear h28
      have c_ := (HXB.out.up hJ).at 21 _ rfl
      go_simp
      exact hK.out _ _ (Below.refl _ _) (rfl) trivial
     refine AK.sc (lim := 0) (lo := 0) rfl rfl rfl rfl ?_ ?_
     ·intro k_ u w_ hk_ hl_ hJ hF K hK
      clear hF
      go_simp
      exact hK.out _ _ (Below.refl _ _) (rfl) trivial
     refine AK.sc (lim := 0) (lo := 0) rfl rfl rfl rfl ?_ ?_
     ·intro k_ u w_ hk_ hl_ hJ hF K hK
      have h29 : u 29 = .slice (some ⟨bb, off, none⟩) n c := AK.facts_get hF 29 (by simp)
      have h30 : u 30 = .int .i64 (k : Int) := AK.facts_get hF 30 (by simp)
      clear hF
      simp only [h29, h30] at hK ⊢
      clear h29 h30
      have hlz_ := HLZ.out
      go_simp
      exact hK.out _ _ (Below.refl _ _) (rfl) trivial
     refine AK.sc (lim := 0) (lo := 0) rfl rfl rfl rfl ?_ ?_
     ·intro k_ u w_ hk_ hl_ hJ hF K hK
      have h31 : u 31 = .pointer (some ⟨bb, off + k * 2, none⟩) := AK.facts_get hF 31 (by simp)
      clear hF
      simp only [h31] at hK ⊢
      clear h31
      go_simp
      exact hK.out _ _ (Below.refl _ _) (rfl) trivial
     refine AK.sc (lim := 0) (lo := 0) rfl rfl rfl rfl ?_ ?_
     ·intro k_ u w_ hk_ hl_ hJ hF K hK
      have h32 : u 32 = .pointer (some ⟨bb, off + k * 2 + 1, none⟩) := AK.facts_get hF 32 (by simp)
      clear hF
      simp only [h32] at hK ⊢
      clear h32
      have c_ := HQC.out _ hJ
      go_simp
      exact hK.out _ _ (Below.refl _ _) (rfl) trivial
     refine AK.sc (lim := 0) (lo := 0) rfl rfl rfl rfl ?_ ?_
     ·intro k_ u w_ hk_ hl_ hJ hF K hK
      have h27 : u 27 = calV g.cy g.cm g.cp := AK.facts_get hF 27 (by simp)
      have h33 : u 33 = .int .i64 q2 := AK.facts_get hF 33 (by simp)
      clear hF
      simp only [h27, h33] at hK ⊢
      clear h27 h33
      go_simp
      refine (rlast7_any g.cy g.cm g.cp q2 _).mono ?_
      rintro e w6 ⟨rfl, hb6⟩
      exact hK.out _ _ hb6 rfl trivial
     refine AK.sc (lim := 0) (lo := 0) rfl rfl rfl rfl ?_ ?_
     ·intro k_ u w_ hk_ hl_ hJ hF K hK
      have h34 : u 34 = .tuple #[.int .i64 (pdL g.cy g.cm g.cp q2), .int .i64 (clE g.cy g.cm g.cp q2)] := AK.facts_get hF 34 (by simp)
      clear hF
      simp only [h34] at hK ⊢
      clear h34
      go_simp
      exact hK.out _ _ (Below.refl _ _) (rfl) trivial
     refine AK.sc (lim := 0) (lo := 0) rfl rfl rfl rfl ?_ ?_
     ·intro k_ u w_ hk_ hl_ hJ hF K hK
      have h24 : u 24 = .tuple #[.int .i64 (pdL g.cy g.cm g.cp q2), .int .i64 (clE g.cy g.cm g.cp q2)] := AK.facts_get hF 24 (by simp)
      clear hF
      simp only [h24] at hK ⊢
      clear h24
      go_simp
      exact hK.out _ _ (Below.refl _ _) (rfl) trivial
     refine AK.sc (lim := 0) (lo := 0) rfl rfl rfl rfl ?_ ?_
     ·intro k_ u w_ hk_ hl_ hJ hF K hK
      have h24 : u 24 = .tuple #[.int .i64 (pdL g.cy g.cm g.cp q2), .int .i64 (clE g.cy g.cm g.cp q2)] := AK.facts_get hF 24 (by simp)
      clear hF
      simp only [h24] at hK ⊢
      clear h24
      go_simp
      exact hK.out _ _ (Below.refl _ _) (rfl) trivial
     refine AK.sc (lim := 0) (lo := 0) rfl rfl rfl rfl ?_ ?_
     ·intro k_ u w_ hk_ hl_ hJ hF K hK
      have h35 : u 35 = .int .i64 (pdL g.cy g.cm g.cp q2) := AK.facts_get hF 35 (by simp)
      clear hF
      simp only [h35] at hK ⊢
      clear h35
      go_simp
      exact hK.out _ _ (Below.refl _ _) (rfl) trivial
     exact AK.StepsOk.nil
    ·intro u W9 hJ9 hF
     have h6 : u 6 = .int .i64 (pdL g.cy g.cm g.cp q2) := AK.facts_get hF 6 (by simp [luF, AK.temps])
     clear hF
     simp only [h6]
     have HB9 := Lib.hid hJ9
     clear h6 hJ9
     go_wp2_with fail
     go_roundg (n - (k + 1))
     case measure => omega
     case rel => exact ⟨k + 1, by go_num, by rw [HU.out.1], by rw [HU.out.2], by omega, by omega, HB9⟩
   ·have he1 : (q1 == e) = false := by simp [he]
    have HU : Hid (untD g.cy g.cm g.cp (K.take (k + 1)) e = untD g.cy g.cm g.cp (K.take k) e ∧ untB (K.take (k + 1)) e = untB (K.take k) e) := Lib.hid (by
     have h1 := untM_skip (K := K.take k) (a := (q1, q2)) he
     rw [← HTK.out] at h1
     unfold untD untB
     rw [h1]
     exact ⟨rfl, rfl⟩)
    clear he
    go_wp2_with fail
    go_roundg (n - (k + 1))
    case measure => omega
    case rel => exact ⟨k + 1, by go_num, by rw [HU.out.1], by rw [HU.out.2], by omega, by omega, HB⟩
  ·obtain rfl : n = k := by omega
   have hltz : ¬ (n : Int) < (n : Int) := by omega
   have hT : K.take n = K := List.take_of_length_le (by rw [HN.out]; exact Nat.le_refl _)
   rw [hT]
   clear hT
   go_wp2_with fail
   go_ret2
   exact ⟨rfl, by have h9 := HB2.out.trans (HB.out.mono HB2.out.size); first | exact h9 | (rw [← HS0.out]; exact h9)⟩
set_option maxRecDepth 100000 in
set_option maxHeartbeats 6400000 in
theorem rcheck13_any (g : Grp) (A : Option Addr) (c : Nat) (K : LkL) (x : Ety) (w : World) (hz : RowAt lyP w A K) (hl : K.length ≤ 1000) (hg : GoodL (g.m : Int) g.cp K) : Calls Tryz.prog 39 #[rlV g (.slice A K.length c), etyV x] w fun r w' => r = .returned (.int .i64 (chkL (g.m : Int) g.cy g.cm g.cp K x.ent x.day)) ∧ Below w.heap.size w w' := by
 obtain ⟨LV, hLV⟩ : ∃ LV, LV = rlV g (.slice A K.length c) := ⟨_, rfl⟩
 have HUT := Lib.hid (fun W (h : RowAt lyP W A K) => runtil13_any g A c K x.ent (g.m : Int) W h hl hg)
 rw [← hLV] at HUT
 obtain ⟨n, hn⟩ : ∃ n, K.length = n := ⟨_, rfl⟩
 obtain ⟨s0, hs0⟩ : ∃ s0, w.heap.size = s0 := ⟨_, rfl⟩
 rw [hn] at hl ⊢
 obtain ⟨ls, hls⟩ : ∃ ls, (rlC g (.slice A n c)).toArray = ls := ⟨_, rfl⟩
 rw [show rlV g (.slice A n c) = .agg ls by rw [← hls]]
 obtain ⟨xs, hxs⟩ : ∃ xs, (etyC x).toArray = xs := ⟨_, rfl⟩
 have hxV : etyV x = .agg xs := by rw [etyV_is, hxs]
 rw [hxV]
 obtain ⟨w2, hw2⟩ : ∃ w2, (w.alloc (.cells ls 69)).alloc (.cells xs 46) = w2 := ⟨_, rfl⟩
 have HXB : Hid (Wh 69 w2 s0 (rlC g (.slice A n c))) := Lib.hid (by rw [← hw2, ← hls, ← hs0]; exact (Wh.new w _ _).up (below_alloc_new _))
 have HYB : Hid (Wh 46 w2 (s0 + 1) (etyC x)) := Lib.hid (by
  rw [← hw2, ← hxs, ← hs0]
  have h9 := Wh.new (w.alloc (.cells ls 69)) 46 (etyC x)
  rw [World.size_alloc] at h9
  exact h9)
 have HB2 : Hid (Below w.heap.size w w2) := Lib.hid (by rw [← hw2]; exact below_new (below_alloc_new _) _)
 have HZ := Lib.hid (hz.up HB2.out)
 have HS0 := Lib.hid hs0
 have HU := Lib.hid (HUT.out _ HZ.out)
 have HLL : Hid ((Instr.loadAt 69 (.pointer (some ⟨s0, 0, none⟩))).run Tryz.prog w2 = .ok LV w2) := Lib.hid (by rw [hLV, hn]; exact HXB.out.rg.load 0 69 (rlC g (.slice A n c)) rfl _ Tryz.underlying69 rfl (by kernel_rfl))
 have c20 := HXB.out.at 20 _ rfl
 have p1 := HYB.out.at 1 _ rfl
 clear hz hls hxs hxV hLV hn HUT
 have HM1 : True := trivial
 by_cases h1 : 0 ≤ x.ent ∧ x.ent < (g.m : Int)
 ·have hE : chkL (g.m : Int) g.cy g.cm g.cp K x.ent x.day = if untB K x.ent = true ∧ x.day ≤ untD g.cy g.cm g.cp K x.ent then 12 else 0 := by unfold chkL; rw [if_pos h1]
  rw [hE]
  have hd1 : decide (x.ent < 0) = false := decide_eq_false (by omega)
  have hd3 : decide (x.ent ≥ (g.m : Int)) = false := decide_eq_false (by omega)
  have hd4 : decide ((g.m : Int) ≤ x.ent) = false := decide_eq_false (by omega)
  clear h1 hE
  generalize untD g.cy g.cm g.cp K x.ent = D at *
  generalize untB K x.ent = b at *
  cases b
  ·rw [show (if (false = true ∧ x.day ≤ D) then (12 : Int) else 0) = 0 from if_neg (fun h => by cases h.1)]
   go_enter Tryz.func39, Tryz.ntmps39
   go_wp2_with (first
    | (clear HM1; refine wpList_load_is rfl 69 _ rfl (.pointer (some ⟨s0, 0, none⟩)) rfl LV HLL.out ?_)
    | (go_at_call 37; refine HU.out.mono ?_; rintro r w4 ⟨rfl, hb⟩; have HB4 := Lib.hid hb; have p2 := (HYB.out.up hb).at 2 _ rfl; clear hb))
   go_ret
   exact ⟨rfl, by have h9 := HB2.out.trans (HB4.out.mono HB2.out.size); first | exact h9 | (rw [← HS0.out]; exact h9)⟩
  ·by_cases h2 : x.day ≤ D
   ·have hd2 : decide (x.day ≤ D) = true := decide_eq_true h2
    rw [if_pos ⟨rfl, h2⟩]
    go_enter Tryz.func39, Tryz.ntmps39
    go_wp2_with (first
     | (clear HM1; refine wpList_load_is rfl 69 _ rfl (.pointer (some ⟨s0, 0, none⟩)) rfl LV HLL.out ?_)
     | (go_at_call 37; refine HU.out.mono ?_; rintro r w4 ⟨rfl, hb⟩; have HB4 := Lib.hid hb; have p2 := (HYB.out.up hb).at 2 _ rfl; clear hb))
    go_ret
    exact ⟨rfl, by have h9 := HB2.out.trans (HB4.out.mono HB2.out.size); first | exact h9 | (rw [← HS0.out]; exact h9)⟩
   ·have hd2 : decide (x.day ≤ D) = false := decide_eq_false h2
    rw [if_neg (fun h => h2 h.2)]
    go_enter Tryz.func39, Tryz.ntmps39
    go_wp2_with (first
     | (clear HM1; refine wpList_load_is rfl 69 _ rfl (.pointer (some ⟨s0, 0, none⟩)) rfl LV HLL.out ?_)
     | (go_at_call 37; refine HU.out.mono ?_; rintro r w4 ⟨rfl, hb⟩; have HB4 := Lib.hid hb; have p2 := (HYB.out.up hb).at 2 _ rfl; clear hb))
    go_ret
    exact ⟨rfl, by have h9 := HB2.out.trans (HB4.out.mono HB2.out.size); first | exact h9 | (rw [← HS0.out]; exact h9)⟩
 ·have hE : chkL (g.m : Int) g.cy g.cm g.cp K x.ent x.day = 1 := by unfold chkL; rw [if_neg h1]
  rw [hE]
  by_cases h0 : x.ent < 0
  ·have hd1 : decide (x.ent < 0) = true := decide_eq_true h0
   clear h1 hE h0
   go_enter Tryz.func39, Tryz.ntmps39
   go_wp2_with fail
   go_ret
   exact ⟨rfl, by have h9 := HB2.out; first | exact h9 | (rw [← HS0.out]; exact h9)⟩
  ·have hd1 : decide (x.ent < 0) = false := decide_eq_false h0
   have hd3 : decide (x.ent ≥ (g.m : Int)) = true := decide_eq_true (by omega)
   have hd4 : decide ((g.m : Int) ≤ x.ent) = true := decide_eq_true (by omega)
   clear h1 hE h0
   go_enter Tryz.func39, Tryz.ntmps39
   go_wp2_with fail
   go_ret
   exact ⟨rfl, by have h9 := HB2.out; first | exact h9 | (rw [← HS0.out]; exact h9)⟩
set_option maxRecDepth 100000 in
set_option maxHeartbeats 6400000 in
theorem rnew13_any (g : Grp) (L : List Acc) (G : List Ent) (w : World) (hk : GrK w g L G) (hs : Sm g G) (hw : GrW g L G) : Calls Tryz.prog 30 #[grpV g] w fun e w' => e = .returned (.tuple #[rlV (if grpR g L G = true then g else gr0) (.slice none 0 0), .int .i64 (if grpR g L G = true then 0 else 1)]) ∧ Below w.heap.size w w' := by
 have HV := Lib.hid (fun W (h : GrK W g L G) => rvalid10_any g L G W h hs hw)
 obtain ⟨GV, hGV⟩ : ∃ GV, GV = grpV g := ⟨_, rfl⟩
 rw [← hGV] at HV
 obtain ⟨gs, hgs⟩ : ∃ gs, (grpC g).toArray = gs := ⟨_, rfl⟩
 rw [show grpV g = .agg gs by rw [grpV_is, hgs]]
 obtain ⟨s0, hs0⟩ : ∃ s0, w.heap.size = s0 := ⟨_, rfl⟩
 obtain ⟨w2, hw2⟩ : ∃ w2, (w.alloc (.cells gs 29)).alloc (.cells #[.string ⟨#[]⟩, .int .i64 0, .int .i64 0, .int .i64 0, .slice none 0 0, .int .i64 0, .int .i64 0, .int .i64 0, .int .i64 0, .int .i64 0, .int .i64 0, .int .i64 0, .int .i64 0, .int .i64 0, .int .i64 0, .int .i64 0, .int .i64 0, .int .i64 0, .int .i64 0, .int .i64 0, .slice none 0 0, .slice none 0 0] 69) = w2 := ⟨_, rfl⟩
 have HGB : Hid (Wh 29 w2 s0 (grpC g)) := Lib.hid (by rw [← hw2, ← hgs, ← hs0]; exact (Wh.new w _ _).up (below_alloc_new _))
 have HRB : Hid (Wh 69 w2 (s0 + 1) (rlC gr0 (.slice none 0 0))) := Lib.hid (by
  rw [← hw2, ← hs0]
  have h9 := Wh.new (w.alloc (.cells gs 29)) 69 (rlC gr0 (.slice none 0 0))
  rw [World.size_alloc] at h9
  exact h9)
 have HB2 : Hid (Below w.heap.size w w2) := Lib.hid (by rw [← hw2]; exact below_new (below_alloc_new _) _)
 have HS2 : Hid (w2.heap.size = s0 + 2) := Lib.hid (by rw [← hw2, ← hs0]; simp)
 have HK2 := Lib.hid (hk.up HB2.out)
 have HS0 := Lib.hid hs0
 have HLG : Hid (∀ w9, Below w2.heap.size w2 w9 → (Instr.loadAt 29 (.pointer (some ⟨s0, 0, none⟩))).run Tryz.prog w9 = .ok GV w9) := Lib.hid (fun w9 h9 => by rw [hGV, grpV_is]; exact (HGB.out.up h9).rg.load 0 29 (grpC g) rfl _ Tryz.underlying29 rfl (by kernel_rfl))
 have HBW : Hid (∀ W W', Below w2.heap.size w2 W → Only (fun k => k = s0 + 1) W W' → Below w.heap.size w W') := Lib.hid (fun W W' h1 h2 => HB2.out.trans ((h1.mono (by rw [HS2.out, hs0]; omega)).trans (h2.below (fun i hi => (by have h9 : i = s0 + 1 := hi; omega)) (by have := h1.size; have := HS2.out; omega))))
 clear hk hs hw hgs
 cases hq : grpR g L G
 ·rw [hq] at HV
  rw [if_neg (by simp), if_neg (by simp)]
  clear hq hGV
  have HM1 : True := trivial
  go_enter Tryz.func30, Tryz.ntmps30
  go_wp2_with (first
   | (clear HM1; refine wpList_load_is rfl 29 _ rfl (.pointer (some ⟨s0, 0, none⟩)) rfl GV (HLG.out _ (Below.refl _ _)) ?_)
   | (go_at_call 43; refine (HV.out _ HK2.out).mono ?_; rintro e w3 ⟨rfl, hb⟩; have HB3 := Lib.hid hb; clear hb)
   | (refine wpList_build_is rfl 69 _ rfl [] rfl (rlV gr0 (.slice none 0 0)) (rl_zero _) ?_)
   | (refine wpList_store_wh rfl 69 _ _ rfl (s0 + 1) rfl 69 (rlC gr0 (.slice none 0 0)) (rlC gr0 (.slice none 0 0)) rfl (HRB.out.up HB3.out) rfl (by kernel_rfl) (by kernel_rfl) ?_; intro W8 hr8 ho8 hz8))
  exact bodyPost_ret (v := .tuple #[rlV gr0 (.slice none 0 0), .int .i64 1]) (results_cell2 Tryz.results30 _ _ (s0 + 1) (rlC gr0 (.slice none 0 0)) _ _ rfl rfl hr8.out.range Tryz.underlying69 rfl (by kernel_rfl)) rfl ⟨rfl, HBW.out _ _ HB3.out ho8.out⟩
 ·rw [hq] at HV
  rw [if_pos rfl, if_pos rfl]
  clear hq
  have HRG : Hid (∀ W, (Instr.build 69 #[(0, GV)]).run Tryz.prog W = .ok (rlV g (.slice none 0 0)) W) := Lib.hid (fun W => by rw [hGV]; exact rl_build g W)
  clear hGV
  have HM1 : True := trivial
  have HM2 : True := trivial
  go_enter Tryz.func30, Tryz.ntmps30
  go_wp2_with (first
   | (clear HM1; refine wpList_load_is rfl 29 _ rfl (.pointer (some ⟨s0, 0, none⟩)) rfl GV (HLG.out _ (Below.refl _ _)) ?_)
   | (go_at_call 43; refine (HV.out _ HK2.out).mono ?_; rintro e w3 ⟨rfl, hb⟩; have HB3 := Lib.hid hb; clear hb)
   | (clear HM2; refine wpList_load_is rfl 29 _ rfl (.pointer (some ⟨s0, 0, none⟩)) rfl GV (HLG.out _ HB3.out) ?_)
   | (refine wpList_build_is rfl 69 _ rfl [(0, GV)] rfl (rlV g (.slice none 0 0)) (HRG.out _) ?_)
   | (refine wpList_store_wh rfl 69 _ _ rfl (s0 + 1) rfl 69 (rlC gr0 (.slice none 0 0)) (rlC g (.slice none 0 0)) rfl (HRB.out.up HB3.out) rfl (by kernel_rfl) (by kernel_rfl) ?_; intro W8 hr8 ho8 hz8))
  exact bodyPost_ret (v := .tuple #[rlV g (.slice none 0 0), .int .i64 0]) (results_cell2 Tryz.results30 _ _ (s0 + 1) (rlC g (.slice none 0 0)) _ _ rfl rfl hr8.out.range Tryz.underlying69 rfl (by kernel_rfl)) rfl ⟨rfl, HBW.out _ _ HB3.out ho8.out⟩
open Go Go.RowKit
def TwoK (s : Nat) (e : TypeId) (w w' : World) : Prop := w.heap.size ≤ w'.heap.size ∧ ∀ (g : Nat) (cs : Array Value), w.heap[g]? = some (Obj.cells cs e) → cs.size = s → w'.heap[g]? = w.heap[g]?
theorem TwoK.refl (s : Nat) (e : TypeId) (w : World) : TwoK s e w w := ⟨Nat.le_refl _, fun _ _ _ _ => rfl⟩
theorem TwoK.of {s : Nat} {e : TypeId} {w w' : World} (h : Below w.heap.size w w') : TwoK s e w w' := ⟨h.size, fun g cs hg _ => h.block g (by
 rcases Nat.lt_or_ge g w.heap.size with h1 | h1
 ·exact h1
 ·rw [Array.getElem?_eq_none h1] at hg; cases hg)⟩
def NoSl (v : Value) : Prop := ∀ A n, v = .slice A n 1 → n = 1
section
variable {α : Type} {R : Lay α} {w : World} {L : List α} {e : TypeId} {base : Nat} {v : Value}
theorem wp_app_two {P : Program} {o : Oper} {a : Act} {K : Act → World → Prop} {Q : Exit → Act → World → Prop} (s x : Operand) (t : TypeId)
  (ho : o.op = .call { callee := .builtin .append, args := #[s, x], argTypes := #[t, t] })
  (i : TypeInfo) (z : Value) (bytes : Nat) (ht : P.underlying t = some (.slice e)) (hi : P.info? e = some i) (hz : i.zero = some z) (hsize : i.size = R.s) (hby : i.bytes = bytes) (hb8 : bytes ≤ 1000) (hzs : z.cells.size = R.s)
  (hs : a.eval s = v) (hown : OwnR R e w base v L) (hns : NoSl v) (X : Option Addr) (m c : Nat) (M : List α) (hm : M.length = m) (hx : a.eval x = .slice X m c) (hX : RowAt R w X M)
  (hlen : L.length + m ≤ 100000000) (hbase : base ≤ w.heap.size)
  (h : ∀ v' w', Hid (OwnR R e w' base v' (L ++ M)) → Hid (w.grownBy w' v.ownBlock) → Hid (v'.ownBlock = v.ownBlock ∨ v'.ownBlock = some w.heap.size) → Hid (NoSl v' ∧ TwoK R.s e w w') → K (a.put o.dst v') w') : Oper.wp P o a w K Q := by
 subst hm
 have hbb : (L.length + M.length) * bytes ≤ (L.length + M.length) * 1000 := Nat.mul_le_mul_left _ hb8
 rcases Nat.eq_zero_or_pos M.length with h0 | h0
 ·obtain rfl : M = [] := List.eq_nil_of_length_eq_zero h0
  have hrun : (Builtin.append_ #[t, t] o.type #[v, .slice X 0 c]).run P w = .ok v w := by
   rcases hown.2 with ⟨rfl, h9⟩ | ⟨g, cap, cur, rfl, hb, hg, hn, hcap, hcs, hcur⟩
   ·cases X <;> simp [Builtin.append_, run_underlying ht, sizeOf, typeInfo, hi, Builtin.lenOf, Builtin.firstCells, loadCells, loadCellsFrom]
   ·cases X <;> simp [Builtin.append_, run_underlying ht, sizeOf, typeInfo, hi, Builtin.lenOf, Builtin.firstCells, storeCells, loadCells, loadCellsFrom, hn]
  unfold Oper.wp
  simp [execOp, ho, resolve, invoke, builtin, hs, hx, hrun, Result.andThen]
  exact h v w (Lib.hid (by simpa using hown)) (Lib.hid ⟨rfl, rfl, rfl, Nat.le_refl _, fun _ _ _ => rfl⟩) (Lib.hid (.inl rfl)) (Lib.hid ⟨hns, TwoK.refl _ _ _⟩)
 ·obtain ⟨b, off, rfl, hlt, hc⟩ := hX h0
  have hnews : ∀ (j : Nat) (u : Value), (R.all M)[j]? = some u → w.cell? ((⟨b, off, none⟩ : Addr).add j) = some u := fun j u hj => by
   have hadd : (⟨b, off, none⟩ : Addr).add j = ⟨b, off + j, none⟩ := by unfold Addr.add; split <;> simp_all
   rw [hadd]
   exact hc j u hj
  obtain ⟨v', w', hr, h2, h3, h4, h5⟩ := run_append_own_at (P := P) w base t o.type e i z R.s bytes ht hi hz hsize hby hzs R.pos v L.length (R.all L) hown ⟨b, off, none⟩ M.length c (R.all M) (R.all_len M)
   hnews (R.all_one M) (by unfold maxLen; omega) (by omega) hbase
  have h6 : NoSl v' ∧ TwoK R.s e w w' := by
   have hkeep : ∀ (W : World) (ob : Obj), W.heap.size = w.heap.size → (∀ g : Nat, W.heap[g]? = w.heap[g]?) → TwoK R.s e w (W.alloc ob) := fun W ob h7 h8 => ⟨by rw [World.size_alloc, h7]; omega, fun g cs hg _ => by
    have hgl : g < W.heap.size := by
     rcases Nat.lt_or_ge g w.heap.size with h1 | h1
     ·rw [h7]; exact h1
     ·rw [Array.getElem?_eq_none h1] at hg; cases hg
    exact (Below.heap_alloc W ob g hgl).trans (h8 g)⟩
   rcases hown.2 with ⟨rfl, h9⟩ | ⟨g, cap, cur, rfl, hbg, hg, hn, hcap, hcs, hcur⟩
   ·have hr2 := run_append_nil (P := P) w t o.type e i z ht hi hz ⟨b, off, none⟩ M.length c (R.all M) (by rw [hsize]; exact R.all_len M) hnews (by omega) (by omega) (by rw [hby]; have h20 := Nat.mul_le_mul_left M.length hb8; omega)
    have h10 := hr.symm.trans hr2
    injection h10 with h11 h12
    subst h11 h12
    refine ⟨fun A n hE => ?_, hkeep w.drew _ rfl fun _ => rfl⟩
    injection hE with _ e1 e2
    have := grownCap_ge w M.length 0 e
    omega
   ·by_cases hroom : L.length + M.length ≤ cap
    ·have hfit : L.length * i.size + (R.all M).length ≤ cur.size := by rw [R.all_len, hcs, hsize, ← Nat.add_mul]; exact Nat.mul_le_mul_right _ hroom
     have hr2 := run_append_room (P := P) w t o.type e i ht hi g L.length cap cur hg ⟨b, off, none⟩ M.length c (R.all M) (by rw [hsize]; exact R.all_len M) hnews (R.all_one M) hroom hfit
     have h10 := hr.symm.trans hr2
     injection h10 with h11 h12
     subst h11 h12
     refine ⟨fun A n hE => ?_, h3.size, fun k cs hk hks => ?_⟩
     ·injection hE with _ e1 e2
      omega
     ·by_cases hkg : k = g
      ·subst hkg
       rw [hg] at hk
       injection hk with hk
       injection hk with hk _
       subst hk
       rw [hks] at hcs
       have hc1 : cap = 1 := by
        rcases Nat.lt_or_ge cap 1 with h7 | h7
        ·obtain rfl : cap = 0 := by omega
         have := R.pos
         simp at hcs; omega
        ·rcases Nat.lt_or_ge 1 cap with h8 | h8
         ·have h9 : 2 * R.s ≤ cap * R.s := Nat.mul_le_mul_right _ h8
          have := R.pos
          omega
         ·omega
       subst hc1
       have := hns _ _ rfl
       omega
      ·exact setRow_other w g k _ hkg
    ·have hr2 := run_append_grow (P := P) w t o.type e i z ht hi hz ⟨g, 0, none⟩ L.length cap (R.all L) (by rw [hsize]; exact R.all_len L) (fun j u hj => World.ownsRow.cells hown rfl j u hj) ⟨b, off, none⟩ M.length c (R.all M) (by rw [hsize]; exact R.all_len M) hnews (by omega) (by omega) (by rw [hby]; exact growslice_fits (by omega) (by omega))
     have h10 := hr.symm.trans hr2
     injection h10 with h11 h12
     subst h11 h12
     refine ⟨fun A n hE => ?_, hkeep w.drew _ rfl fun _ => rfl⟩
     injection hE with _ e1 e2
     have := grownCap_ge w (L.length + M.length) cap e
     omega
  unfold Oper.wp execOp
  simp only [ho, resolve, invoke, builtin, Sem.run_bind, Sem.run_pure, Result.andThen_ok, List.map_toArray, List.map_cons, List.map_nil, hs, hx, hr]
  refine h v' w' (Lib.hid ?_) (Lib.hid h3) (Lib.hid h5) (Lib.hid h6)
  unfold OwnR
  rw [List.length_append, R.all_append]
  exact h2
theorem all_take (R : Lay α) (M : List α) (k : Nat) (hk : k ≤ M.length) : R.all (M.take k) = (R.all M).take (k * R.s) := by
 have h1 := R.all_append (M.take k) (M.drop k)
 rw [List.take_append_drop] at h1
 rw [h1, List.take_left' (by rw [R.all_len, List.length_take]; congr 1; omega)]
theorem all_drop (R : Lay α) (M : List α) (k : Nat) (hk : k ≤ M.length) : R.all (M.drop k) = (R.all M).drop (k * R.s) := by
 have h1 := R.all_append (M.take k) (M.drop k)
 rw [List.take_append_drop] at h1
 rw [h1, List.drop_left' (by rw [R.all_len, List.length_take]; congr 1; omega)]
theorem addr_add (b off k : Nat) : (⟨b, off, none⟩ : Addr).add k = ⟨b, off + k, none⟩ := by unfold Addr.add; split <;> simp_all
theorem row_take {W : World} {A : Option Addr} {M : List α} (k c : Nat) (h : RowAt R W A M) (hk : k ≤ M.length) : RowAt R W (if c = 0 then A else A.map (·.add (0 * R.s))) (M.take k) := by
 intro h0
 rw [List.length_take] at h0
 obtain ⟨b, off, e, hlt, hr⟩ := h (by omega)
 subst e
 refine ⟨b, off, ?_, hlt, fun j v hj => ?_⟩
 ·split
  ·rfl
  ·simp [addr_add]
 ·rw [all_take R M k hk, List.getElem?_take] at hj
  split at hj
  ·exact hr j v hj
  ·cases hj
theorem row_drop {W : World} {A : Option Addr} {M : List α} (k c : Nat) (h : RowAt R W A M) (hk : k ≤ M.length) (hc : M.length ≤ c) : RowAt R W (if c = k then A else A.map (·.add (k * R.s))) (M.drop k) := by
 intro h0
 rw [List.length_drop] at h0
 obtain ⟨b, off, e, hlt, hr⟩ := h (by omega)
 subst e
 rw [if_neg (by omega)]
 refine ⟨b, off + k * R.s, by simp [addr_add], hlt, fun j v hj => ?_⟩
 rw [all_drop R M k hk, List.getElem?_drop] at hj
 have h1 := hr (k * R.s + j) v hj
 rw [show off + (k * R.s + j) = off + k * R.s + j by omega] at h1
 exact h1
theorem wp_slc_h {P : Program} {o : Oper} {a : Act} {K : Act → World → Prop} {Q : Exit → Act → World → Prop} (t : TypeId) (x y : Operand) (hop : o.op = .slice t x none (some y) none) (ht : P.underlying t = some (.slice (P.elem t))) (i : TypeInfo) (hi : P.info? (P.elem t) = some i) (hsz : i.size = R.s)
  (A : Option Addr) (n c k : Nat) (M : List α) (hm : M.length = n) (hx : a.eval x = .slice A n c) (hy : a.eval y = .int .i64 (k : Int)) (hk : k ≤ n) (hc : n ≤ c)
  (h : ∀ A2 c2, (∀ W, RowAt R W A M → RowAt R W A2 (M.take k)) → K (a.put o.dst (.slice A2 k c2)) w) : Oper.wp P o a w K Q := by
 have hr := run_slice_h (P := P) (w := w) t A n c ht .i64 (k : Int) (by omega) (by omega)
 have hz : (sizeOf (P.elem t)).run P w = .ok R.s w := by simp [sizeOf, typeInfo, hi, hsz]
 unfold Oper.wp execOp
 simp only [hop, hx, hy, Option.map_some, Option.map_none, run_sliceAt_slice w t _ _ _ _ ht, hr, hz, Sem.run_bind, Sem.run_pure, Result.andThen_ok, sliced, Int.toNat_natCast, Nat.sub_zero]
 exact h _ _ fun W hW => row_take k c hW (by omega)
theorem wp_slc_l {P : Program} {o : Oper} {a : Act} {K : Act → World → Prop} {Q : Exit → Act → World → Prop} (t : TypeId) (x y : Operand) (hop : o.op = .slice t x (some y) none none) (ht : P.underlying t = some (.slice (P.elem t))) (i : TypeInfo) (hi : P.info? (P.elem t) = some i) (hsz : i.size = R.s)
  (A : Option Addr) (n c k : Nat) (M : List α) (hm : M.length = n) (hx : a.eval x = .slice A n c) (hy : a.eval y = .int .i64 (k : Int)) (hk : k ≤ n) (hc : n ≤ c)
  (h : ∀ A2 c2, (∀ W, RowAt R W A M → RowAt R W A2 (M.drop k)) → K (a.put o.dst (.slice A2 (n - k) c2)) w) : Oper.wp P o a w K Q := by
 have hr := run_slice_l (P := P) (w := w) t A n c ht .i64 (k : Int) (by omega) (by omega)
 have hz : (sizeOf (P.elem t)).run P w = .ok R.s w := by simp [sizeOf, typeInfo, hi, hsz]
 unfold Oper.wp execOp
 simp only [hop, hx, hy, Option.map_some, Option.map_none, run_sliceAt_slice w t _ _ _ _ ht, hr, hz, Sem.run_bind, Sem.run_pure, Result.andThen_ok, sliced, Int.toNat_natCast]
 exact h _ _ fun W hW => row_drop k c hW (by omega) (by omega)
theorem NoSl.empty (A : Option Addr) : NoSl (.slice A 0 0) := fun _ _ h => by injection h with _ _ h; cases h
end
open Go.RowKit Go.Maps
def RlQ (g : Grp) (A0 : Option Addr) (B : Nat) (K : LkL) (er : Int) (r : Ending) (w' : World) : Prop := ∃ A c, r = .returned (.tuple #[rlV g (.slice A K.length c), .int .i64 er]) ∧ K.length ≤ c ∧ RowAt lyP w' A K ∧ (A = A0 ∨ ∀ b o, A = some ⟨b, o, none⟩ → B ≤ b)
structure RJ (g : Grp) (w : World) (s0 : Nat) (u : Value) (W : World) : Prop where
 box : Wh 69 W s0 (rlC g u)
 out : Wh 69 W (s0 + 1) (rlC gr0 (.slice none 0 0))
 low : Below s0 w W
 sz : s0 + 2 ≤ W.heap.size
def RmJ (g : Grp) (w : World) (s0 : Nat) (S : Value) (N : Nat) (M : Nat → LkL) (k : Nat) (l : List Value) (W : World) : Prop :=
 (k ≤ N → RJ g w s0 S W) ∧ ∀ v, l = [v] → (OwnR lyP 124 W (s0 + 2) v (M k) ∧ NoSl v) ∧ (N < k → RJ g w s0 v W)
abbrev TwoR : World → World → Prop := TwoK 2 124
section
variable {g : Grp} {w W W' : World} {s0 : Nat} {S v v' : Value} {N k : Nat} {M : Nat → LkL} {l : List Value}
theorem RJ.up (h : RJ g w s0 v W) (hb : Below W.heap.size W W') : RJ g w s0 v W' := ⟨h.box.up hb, h.out.up hb, h.low.trans (hb.mono (by have := h.sz; omega)), Nat.le_trans h.sz hb.size⟩
theorem RmJ.st (hb : Below W.heap.size W W') (h : RmJ g w s0 S N M k l W) : RmJ g w s0 S N M k l W' :=
 ⟨fun hk => (h.1 hk).up hb, fun v hv => ⟨⟨(h.2 v hv).1.1.up hb, (h.2 v hv).1.2⟩, fun hk => ((h.2 v hv).2 hk).up hb⟩⟩
theorem RmJ.new (h : RmJ g w s0 S N M 0 l W) (h1 : M 1 = []) (hN : 1 ≤ N) : RmJ g w s0 S N M 1 [.slice (some ⟨W.heap.size, 0, none⟩) 0 0] (W.alloc (.cells #[] 124)) :=
 ⟨fun _ => (h.1 (Nat.zero_le _)).up (below_alloc_new _), fun v hv => by
  cases hv
  refine ⟨⟨?_, NoSl.empty _⟩, fun hk => by omega⟩
  rw [h1]
  exact OwnR.empty (h.1 (Nat.zero_le _)).sz⟩
theorem RmJ.app (h : RmJ g w s0 S N M k [v] W) (hk : k + 1 ≤ N) (ho : OwnR lyP 124 W' (s0 + 2) v' (M (k + 1))) (hg : W.grownBy W' v.ownBlock) (hn : NoSl v') : RmJ g w s0 S N M (k + 1) [v'] W' := by
 have hj := h.1 (by omega)
 have hon : Only (fun i => s0 + 2 ≤ i) W W' := Only.grown hg fun i hi => ((h.2 v rfl).1.1.lt hi).1
 refine ⟨fun _ => ⟨hj.box.only hon (by omega), hj.out.only hon (by omega), hj.low.trans (hon.below (fun i hi => (by have h9 : s0 + 2 ≤ i := hi; omega)) (by have := hj.sz; omega)), Nat.le_trans hj.sz hon.size⟩, fun u hu => ?_⟩
 cases hu
 exact ⟨⟨ho, hn⟩, fun hk2 => by omega⟩
theorem RmJ.put {A : Option Addr} {n c : Nat} (hv : v = .slice A n c) (h : RmJ g w s0 S N M N [v] W) (hM : M (N + 1) = M N) : RmJ g w s0 S N M (N + 1) [v] (W.setCell ⟨s0, 21, none⟩ (.slice A n c)) ∧ TwoR W (W.setCell ⟨s0, 21, none⟩ (.slice A n c)) := by
 subst hv
 have hj := h.1 (Nat.le_refl _)
 have hs : ∀ i, i ≠ s0 → (W.setCell ⟨s0, 21, none⟩ (.slice A n c)).heap[i]? = W.heap[i]? := fun i hi => Below.heap_setCell W ⟨s0, 21, none⟩ _ i hi
 refine ⟨⟨fun hk => by omega, fun u hu => ?_⟩, Nat.le_of_eq (World.size_setCell _ _ _).symm, fun i cs hi _ => hs i fun e => ?_⟩
 ·cases hu
  refine ⟨⟨?_, (h.2 _ rfl).1.2⟩, fun _ => ⟨hj.box.set 21 _, hj.out.same (hs _ (by omega)), Below.setCell (p := ⟨s0, 21, none⟩) hj.low (Nat.le_refl _) _, by rw [World.size_setCell]; exact hj.sz⟩⟩
  rw [hM]
  exact (h.2 _ rfl).1.1.blk fun i hi => hs i (by have := ((h.2 _ rfl).1.1.lt hi).1; omega)
 ·rw [e, hj.box.blk] at hi
  injection hi with hi
  injection hi with _ hi _
  exact absurd hi (by decide)
end
def prP (K M : LkL) (A : Option Addr) (m : Nat) (v : Value) : Prop := ∃ A2 c2, v = .slice A2 m c2 ∧ ∀ W, RowAt lyP W A K → RowAt lyP W A2 M
def prF (K M : LkL) (A : Option Addr) (m : Nat) : AK.Fact TwoR := ⟨fun v _ => prP K M A m v, fun _ _ _ _ h => h⟩
theorem own_le {α : Type} {R : Lay α} {e : TypeId} {w : World} {B : Nat} {A : Option Addr} {n c : Nat} {L : List α} (h : OwnR R e w B (.slice A n c) L) : L.length ≤ c := by
 obtain ⟨h1, h2⟩ := h
 rcases h2 with ⟨e1, h0⟩ | ⟨g, cap, cur, e1, _, _, hn, _⟩
 ·omega
 ·injection e1 with _ _ e3
  omega
def rmM (KL : LkL) (k k1 : Nat) : Nat → LkL
 | 0 => []
 | 1 => []
 | 2 => KL.take k
 | _ => KL.take k ++ KL.drop k1
def rmF (s0 n c k k1 : Nat) (A : Option Addr) (KL : LkL) : List (Nat × AK.Fact (TwoR)) := [(18, AK.Fact.triv), (19, AK.Fact.is (.pointer (some ⟨s0, 21, none⟩))), (20, AK.Fact.is (.slice A n c)), (21, AK.Fact.is (.int .i64 (k : Int))), (22, prF KL (KL.take k) A k), (23, AK.Fact.triv), (24, AK.Fact.is (.pointer (some ⟨s0, 21, none⟩))), (25, AK.Fact.is (.slice A n c)), (26, AK.Fact.is (.int .i64 (k : Int))), (27, AK.Fact.is (.int .i64 (k1 : Int))), (28, prF KL (KL.drop k1) A (n - k1)), (29, AK.Fact.triv), (30, AK.Fact.is (.pointer (some ⟨s0, 21, none⟩)))]
theorem rj_low {g : Grp} {w W W' : World} {s0 : Nat} {u : Value} (h : RJ g w s0 u W) (ho : Only (fun i => i = s0 + 1) W W') : Below s0 w W' := h.low.trans (ho.below (fun i hi => (by have h9 : i = s0 + 1 := hi; omega)) (by have := h.sz; omega))
set_option maxRecDepth 100000 in
set_option maxHeartbeats 12800000 in
theorem rrem13_any (g : Grp) (A : Option Addr) (c : Nat) (KL : LkL) (e p : Int) (w : World) (hz : RowAt lyP w A KL) (hl : KL.length ≤ 1000) (hcc : KL.length ≤ c) (hg : AscK KL) : Calls Tryz.prog 31 #[rlV g (.slice A KL.length c), .int .i64 e, .int .i64 p] w fun r w' => RlQ g A w.heap.size (remL KL (e, p)) (remE KL (e, p)) r w' ∧ Below w.heap.size w w' := by
 obtain ⟨n, hn⟩ : ∃ n, KL.length = n := ⟨_, rfl⟩
 obtain ⟨s0, hs0⟩ : ∃ s0, w.heap.size = s0 := ⟨_, rfl⟩
 have HCC : Hid (n ≤ c) := Lib.hid (by rw [← hn]; exact hcc)
 rw [hn] at hl ⊢
 obtain ⟨ls, hls⟩ : ∃ ls, (rlC g (.slice A n c)).toArray = ls := ⟨_, rfl⟩
 rw [show rlV g (.slice A n c) = .agg ls by rw [← hls]]
 obtain ⟨w2, hw2⟩ : ∃ w2, (w.alloc (.cells ls 69)).alloc (.cells #[.string ⟨#[]⟩, .int .i64 0, .int .i64 0, .int .i64 0, .slice none 0 0, .int .i64 0, .int .i64 0, .int .i64 0, .int .i64 0, .int .i64 0, .int .i64 0, .int .i64 0, .int .i64 0, .int .i64 0, .int .i64 0, .int .i64 0, .int .i64 0, .int .i64 0, .int .i64 0, .int .i64 0, .slice none 0 0, .slice none 0 0] 69) = w2 := ⟨_, rfl⟩
 have HXB : Wh 69 w2 s0 (rlC g (.slice A n c)) := by rw [← hw2, ← hls, ← hs0]; exact (Wh.new w _ _).up (below_alloc_new _)
 have HYB : Wh 69 w2 (s0 + 1) (rlC gr0 (.slice none 0 0)) := by
  rw [← hw2, ← hs0]
  have h9 := Wh.new (w.alloc (.cells ls 69)) 69 (rlC gr0 (.slice none 0 0))
  rw [World.size_alloc] at h9
  exact h9
 have HB2 : Hid (Below w.heap.size w w2) := Lib.hid (by rw [← hw2]; exact below_new (below_alloc_new _) _)
 have HJ2 : Hid (RJ g w s0 (.slice A n c) w2) := Lib.hid ⟨HXB, HYB, hs0 ▸ HB2.out, by rw [← hw2, ← hs0]; simp⟩
 have HN := Lib.hid hn
 have HZ := Lib.hid hz
 have HS0 := Lib.hid hs0
 have HLS := Lib.hid hls
 have HLN : Hid (n ≤ 1000) := Lib.hid hl
 have HIX := Lib.hid (rkidx_any A c KL (e, p) w2 (hz.up HB2.out) (by rw [hn]; exact hl))
 rw [hn] at HIX
 have HLD : Hid (∀ W u, RJ g w s0 u W → (Instr.loadAt 69 (.pointer (some ⟨s0, 0, none⟩))).run Tryz.prog W = .ok (rlV g u) W) := Lib.hid (fun W u h => h.box.rg.load 0 69 (rlC g u) rfl _ Tryz.underlying69 rfl (by kernel_rfl))
 have c21 := HXB.at 21 _ rfl
 obtain ⟨hm1, hm2⟩ := getL_mem (K := KL) (x := (e, p))
 generalize getL KL (e, p) = G at *
 clear hn hz hls HXB HYB
 by_cases hx : (e, p) ∈ KL
 ·have hG : 0 ≤ G := hm1.2 hx
  obtain ⟨k, rfl⟩ : ∃ k : Nat, G = (k : Int) := ⟨G.toNat, by omega⟩
  have hk := hm2 hx
  rw [Int.toNat_natCast] at hk
  have hkn : k < n := by rw [← HN.out]; exact (List.getElem?_eq_some_iff.1 hk).1
  have HLT := Lib.hid hkn
  have HDL0 : Hid (KL.take k ++ KL.drop (k + 1) = remL KL (e, p) ∧ remE KL (e, p) = 0) := Lib.hid (by
   have h1 : remE KL (e, p) = 0 := remE_zero.2 hx
   refine ⟨?_, h1⟩
   unfold remL
   rw [if_pos h1, del_at hg k hk])
  have hd1 : decide ((k : Int) < 0) = false := decide_eq_false (by omega)
  obtain ⟨k1, hk1⟩ : ∃ k1, k + 1 = k1 := ⟨_, rfl⟩
  have HK1 := Lib.hid hk1
  have HKE : Hid (IntKind.i64.wrap ((k : Int) + 1) = (k1 : Int)) := Lib.hid (by rw [IntKind.wrap_i64]; omega)
  have HML : Hid (∀ i, (rmM KL k k1 i).length ≤ n) := Lib.hid (fun i => by
   unfold rmM
   split
   ·simp
   ·simp
   ·rw [List.length_take, HN.out]; omega
   ·rw [List.length_append, List.length_take, List.length_drop, HN.out]; omega)
  have HTL : Hid ((KL.take k).length = k) := Lib.hid (by rw [List.length_take]; have := HN.out; omega)
  have HDL : Hid ((KL.drop k1).length = n - k1) := Lib.hid (by rw [List.length_drop]; have := HN.out; omega)
  obtain ⟨i0, hi, hz1, hz2, hz3⟩ := info_parts infoRk
  clear hm1 hm2 hg hx hG hk hk1 hkn
  go_enter Tryz.func31, Tryz.ntmps31
  go_upto_region 4 with (go_at_call 72; refine HIX.out.mono ?_; rintro r w3 ⟨rfl, hb⟩; have HJ3 := Lib.hid (HJ2.out.up hb); clear hb)
  have HJ0 : Hid (RmJ g w s0 (.slice A n c) 3 (rmM KL k k1) 0 [] w3.drew) := Lib.hid ⟨fun _ => HJ3.out.up (dc_drew (Below.refl _ _)), fun v hv => by cases hv⟩
  refine AK.region_facts (Rp := Below0) (Kp := TwoR) (rmF s0 n c k k1 A KL) (RmJ g w s0 (.slice A n c) 3 (rmM KL k k1)) [[], [], [19], [], [20, 21], [18, 22], [], [24], [], [26], [25, 27], [23, 28], [], [30, 29]] [0, 5, 11, 13] [[], [18], [23], [29], [29]] [4, 4, 1, 4, 4, 4, 4, 2, 4, 4, 4, 4, 4, 4] [0, 0, 0, 0, 0, 0, 0, 0, 0, 0, 0, 0, 0, 0] [] (fun u => by simp only [rmF, AK.temps, List.map_cons, List.map_nil, fillL, List.setIfInBounds_toArray, List.set_cons_zero, List.set_cons_succ]; rfl) (by kernel_rfl) (by kernel_rfl) (fun _ _ h => h.1) (fun _ _ h => TwoK.of h) (fun _ _ _ _ hb h => h.st hb) (HJ0.out) ?_ ?_
  ·refine AK.ss rfl rfl ?_ ?_
   ·intro u w_ hJ hA_ hF K hK
    clear hF
    go_simp
    exact hK.out _ _ (hJ.new rfl (by omega)) (TwoK.of (below_alloc_new _)) trivial
   refine AK.sc (lim := 4) (lo := 0) rfl rfl rfl rfl ?_ ?_
   ·intro k_ u w_ hk_ hl_ hJ hF K hK
    clear hF
    go_simp
    exact hK.out _ _ (Below.refl _ _) (rfl) trivial
   refine AK.sc (lim := 1) (lo := 0) rfl rfl rfl rfl ?_ ?_
   ·intro k_ u w_ hk_ hl_ hJ hF K hK
    have h19 : u 19 = .pointer (some ⟨s0, 21, none⟩) := AK.facts_get hF 19 (by simp)
    clear hF
    simp only [h19] at hK ⊢
    clear h19
    have c_ := (hJ.1 (by omega)).box.at 21 _ rfl
    go_simp
    exact hK.out _ _ (Below.refl _ _) (rfl) trivial
   refine AK.sc (lim := 4) (lo := 0) rfl rfl rfl rfl ?_ ?_
   ·intro k_ u w_ hk_ hl_ hJ hF K hK
    clear hF
    go_simp
    exact hK.out _ _ (Below.refl _ _) (rfl) trivial
   refine AK.sc (lim := 4) (lo := 0) rfl rfl rfl rfl ?_ ?_
   ·intro k_ u w_ hk_ hl_ hJ hF K hK
    have h20 : u 20 = .slice A n c := AK.facts_get hF 20 (by simp)
    have h21 : u 21 = .int .i64 (k : Int) := AK.facts_get hF 21 (by simp)
    clear hF
    simp only [h20, h21] at hK ⊢
    clear h20 h21
    refine wp_slc_h (R := lyP) 67 _ _ rfl Tryz.underlying67 i0 hi hz2 A n c k KL HN.out rfl rfl (by have := HLT.out; omega) HCC.out ?_
    intro A2 c2 hr2
    exact hK.out _ _ (Below.refl _ _) ⟨A2, c2, rfl, hr2⟩ trivial
   refine AK.ss rfl rfl ?_ ?_
   ·intro u w_ hJ hA_ hF K hK
    have h22 : prP KL (KL.take k) A k (u 22) := AK.facts_get hF 22 (by simp)
    clear hF
    obtain ⟨A_, c_, e_, hr_⟩ := h22
    have ho_ := (hJ.2 _ rfl).1
    simp only [e_] at hK ⊢
    clear e_
    have hz_ := hr_ _ (HZ.out.up ((hJ.1 (by omega)).low.mono (Nat.le_of_eq HS0.out)))
    refine wp_app_two (R := lyP) (.tmp 18) (.tmp 22) 67 rfl i0 _ 16 Tryz.underlying67 hi hz1 hz2 hz3 (by omega) rfl rfl ho_.1 ho_.2 A_ _ c_ (KL.take k) (HTL.out) rfl hz_ (by have h7 := HML.out (0 + 1); have := HLN.out; have := HLT.out; omega) (hJ.1 (by omega)).sz ?_
    intro v' w' ho' hg' hb' hn'
    exact hK.out _ _ (hJ.app (by omega) (by first | exact ho'.out | (have h9 := ho'.out; simpa using h9)) hg'.out hn'.out.1) (hn'.out.2) trivial
   refine AK.sc (lim := 4) (lo := 0) rfl rfl rfl rfl ?_ ?_
   ·intro k_ u w_ hk_ hl_ hJ hF K hK
    clear hF
    go_simp
    exact hK.out _ _ (Below.refl _ _) (rfl) trivial
   refine AK.sc (lim := 2) (lo := 0) rfl rfl rfl rfl ?_ ?_
   ·intro k_ u w_ hk_ hl_ hJ hF K hK
    have h24 : u 24 = .pointer (some ⟨s0, 21, none⟩) := AK.facts_get hF 24 (by simp)
    clear hF
    simp only [h24] at hK ⊢
    clear h24
    have c_ := (hJ.1 (by omega)).box.at 21 _ rfl
    go_simp
    exact hK.out _ _ (Below.refl _ _) (rfl) trivial
   refine AK.sc (lim := 4) (lo := 0) rfl rfl rfl rfl ?_ ?_
   ·intro k_ u w_ hk_ hl_ hJ hF K hK
    clear hF
    go_simp
    exact hK.out _ _ (Below.refl _ _) (rfl) trivial
   refine AK.sc (lim := 4) (lo := 0) rfl rfl rfl rfl ?_ ?_
   ·intro k_ u w_ hk_ hl_ hJ hF K hK
    have h26 : u 26 = .int .i64 (k : Int) := AK.facts_get hF 26 (by simp)
    clear hF
    simp only [h26] at hK ⊢
    clear h26
    have e9_ := HKE.out
    go_simp
    exact hK.out _ _ (Below.refl _ _) (rfl) trivial
   refine AK.sc (lim := 4) (lo := 0) rfl rfl rfl rfl ?_ ?_
   ·intro k_ u w_ hk_ hl_ hJ hF K hK
    have h25 : u 25 = .slice A n c := AK.facts_get hF 25 (by simp)
    have h27 : u 27 = .int .i64 (k1 : Int) := AK.facts_get hF 27 (by simp)
    clear hF
    simp only [h25, h27] at hK ⊢
    clear h25 h27
    refine wp_slc_l (R := lyP) 67 _ _ rfl Tryz.underlying67 i0 hi hz2 A n c k1 KL HN.out rfl rfl (by have := HLT.out; have := HK1.out; omega) HCC.out ?_
    intro A2 c2 hr2
    exact hK.out _ _ (Below.refl _ _) ⟨A2, c2, rfl, hr2⟩ trivial
   refine AK.ss rfl rfl ?_ ?_
   ·intro u w_ hJ hA_ hF K hK
    have h28 : prP KL (KL.drop k1) A (n - k1) (u 28) := AK.facts_get hF 28 (by simp)
    clear hF
    obtain ⟨A_, c_, e_, hr_⟩ := h28
    have ho_ := (hJ.2 _ rfl).1
    simp only [e_] at hK ⊢
    clear e_
    have hz_ := hr_ _ (HZ.out.up ((hJ.1 (by omega)).low.mono (Nat.le_of_eq HS0.out)))
    refine wp_app_two (R := lyP) (.tmp 23) (.tmp 28) 67 rfl i0 _ 16 Tryz.underlying67 hi hz1 hz2 hz3 (by omega) rfl rfl ho_.1 ho_.2 A_ _ c_ (KL.drop k1) (HDL.out) rfl hz_ (by have h7 := HML.out (0 + 1 + 1); have := HLN.out; have := HLT.out; omega) (hJ.1 (by omega)).sz ?_
    intro v' w' ho' hg' hb' hn'
    exact hK.out _ _ (hJ.app (by omega) (by first | exact ho'.out | (have h9 := ho'.out; simpa using h9)) hg'.out hn'.out.1) (hn'.out.2) trivial
   refine AK.sc (lim := 4) (lo := 0) rfl rfl rfl rfl ?_ ?_
   ·intro k_ u w_ hk_ hl_ hJ hF K hK
    clear hF
    go_simp
    exact hK.out _ _ (Below.refl _ _) (rfl) trivial
   refine AK.ss rfl rfl ?_ ?_
   ·intro u w_ hJ hA_ hF K hK
    have h30 : u 30 = .pointer (some ⟨s0, 21, none⟩) := AK.facts_get hF 30 (by simp)
    clear hF
    simp only [h30] at hK ⊢
    clear h30
    have hJ9 : RmJ g w s0 (.slice A n c) 3 (rmM KL k k1) 3 [u 29] w_ := hJ
    clear hJ
    obtain ⟨A9, c9, h29, hq9, -⟩ := (hJ9.2 _ rfl).1.1.reads
    have hbx := (hJ9.1 (by omega)).box
    have c_ := hbx.at 21 _ rfl
    have y_ := hbx.frozen 21
    clear hq9 hbx
    obtain ⟨n9, hn9⟩ : ∃ n9, (rmM KL k k1 3).length = n9 := ⟨_, rfl⟩
    rw [hn9] at h29
    simp only [h29] at hK ⊢
    clear hn9
    obtain ⟨k9, t9⟩ := RmJ.put h29 hJ9 rfl
    clear hJ9 h29
    go_simp
    exact hK.out undef _ k9 t9 trivial
   exact AK.StepsOk.nil
  ·intro u W9 hJ9 hF
   clear hF
   have hj9 : RmJ g w s0 (.slice A n c) 3 (rmM KL k k1) 4 [u 29] W9 := hJ9
   have h9 := hj9.2 _ rfl
   obtain ⟨A9, c9, e9, hr9, -⟩ := h9.1.1.reads
   have hd9 : rmM KL k k1 4 = remL KL (e, p) := by rw [← HDL0.out.1, HK1.out]; rfl
   rw [hd9] at e9 hr9
   obtain ⟨n9, hn9⟩ : ∃ n9, (remL KL (e, p)).length = n9 := ⟨_, rfl⟩
   rw [hn9] at e9
   have hj10 := h9.2 (by omega)
   have hc9 := h9.1.1
   rw [hd9, e9] at hc9
   rw [e9] at hj10
   have HJ9 := Lib.hid hj10
   have HR9 := Lib.hid hr9
   have HC9 := Lib.hid (own_le hc9)
   have HO9 := Lib.hid hc9
   have HN9 := Lib.hid hn9
   simp only [e9]
   clear h9 hr9 hc9 hJ9 e9 hj9 hj10 hd9 hn9
   have HM1 : True := trivial
   go_wp2_with (first
    | (clear HM1; refine wpList_load_is rfl 69 _ rfl (.pointer (some ⟨s0, 0, none⟩)) rfl (rlV g (.slice A9 n9 c9)) (HLD.out _ _ HJ9.out) ?_)
    | (refine wpList_store_wh rfl 69 _ _ rfl (s0 + 1) rfl 69 (rlC gr0 (.slice none 0 0)) (rlC g (.slice A9 n9 c9)) rfl HJ9.out.out rfl (by kernel_rfl) (by kernel_rfl) ?_; intro W8 hr8 ho8 hz8))
   refine bodyPost_ret (v := .tuple #[rlV g (.slice A9 n9 c9), .int .i64 0]) (results_cell2 Tryz.results31 _ _ (s0 + 1) (rlC g (.slice A9 n9 c9)) _ _ rfl rfl hr8.out.range Tryz.underlying69 rfl (by kernel_rfl)) rfl ?_
   have hb9 := rj_low HJ9.out ho8.out
   refine ⟨⟨A9, c9, by rw [HN9.out, HDL0.out.2], HC9.out, ?_, .inr fun b o hb => ?_⟩, by first | exact hb9 | (rw [HS0.out]; exact hb9)⟩
   ·obtain ⟨A8, c8, e8, hr9, -⟩ := (HO9.out.blk fun i hi => ho8.out.blk i (HO9.out.lt hi).2 (fun e => by have h9 : i = s0 + 1 := e; have := (HO9.out.lt hi).1; omega)).reads
    injection e8 with e8 _ _
    rw [e8]
    exact hr9
   ·obtain ⟨A8, c8, e8, -, hf9⟩ := HO9.out.reads
    injection e8 with e8 _ _
    have h11 := (HO9.out.lt (hf9 b o (by rw [← e8]; exact hb)).1).1
    rw [HS0.out]
    omega
 ·have hG : G < 0 := by
   rcases Int.lt_or_le G 0 with h | h
   ·exact h
   ·exact absurd (hm1.1 h) hx
  have hd1 : decide (G < 0) = true := decide_eq_true hG
  have HE0 : Hid (remL KL (e, p) = KL ∧ remE KL (e, p) = 8) := Lib.hid (by
   have h1 : remE KL (e, p) = 8 := by unfold remE; rw [if_neg hx]
   refine ⟨?_, h1⟩
   unfold remL
   rw [h1, if_neg (by omega)])
  have HM1 : True := trivial
  clear hm1 hm2 hg hx hG
  go_enter Tryz.func31, Tryz.ntmps31
  go_wp2_with (first
   | (go_at_call 72; refine HIX.out.mono ?_; rintro r w3 ⟨rfl, hb⟩; have HJ3 := Lib.hid (HJ2.out.up hb); clear hb)
   | (clear HM1; refine wpList_load_is rfl 69 _ rfl (.pointer (some ⟨s0, 0, none⟩)) rfl (rlV g (.slice A n c)) (HLD.out _ _ HJ3.out) ?_)
   | (refine wpList_store_wh rfl 69 _ _ rfl (s0 + 1) rfl 69 (rlC gr0 (.slice none 0 0)) (rlC g (.slice A n c)) rfl HJ3.out.out rfl (by kernel_rfl) (by kernel_rfl) ?_; intro W8 hr8 ho8 hz8))
  refine bodyPost_ret (v := .tuple #[rlV g (.slice A n c), .int .i64 8]) (results_cell2 Tryz.results31 _ _ (s0 + 1) (rlC g (.slice A n c)) _ _ rfl rfl hr8.out.range Tryz.underlying69 rfl (by kernel_rfl)) rfl ?_
  rw [HE0.out.1, HE0.out.2]
  have h9 := rj_low HJ3.out ho8.out
  rw [← HS0.out] at h9
  exact ⟨⟨A, c, by rw [HN.out], by rw [HN.out]; exact HCC.out, HZ.out.up h9, .inl rfl⟩, by first | exact h9 | (rw [← HS0.out]; exact h9)⟩
end Go.Proofs.YtaeccljkmijpaaaGreat
