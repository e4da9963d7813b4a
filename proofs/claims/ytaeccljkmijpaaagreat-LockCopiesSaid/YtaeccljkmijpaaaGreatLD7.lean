/- Contracts of the functions that the statements reach, part 7: what was proved of each, callees first. -/
import Derived.Shelf.SlGeneric
import Derived.Shelf.SlIter.Nil
import Derived.RangeFuncBound
import Derived.Sort.OwnSorted
import Derived.Lib.AppendIntMem
import Derived.Test.YtaeccljkmijpaaaGreatLD6
namespace Go.Proofs.YtaeccljkmijpaaaGreat
open Go.RowKit Go.Maps Go.Sort Go.Shelf
def lkCelP (k : Int × Int) : List Value := [.int .i64 k.1, .int .i64 k.2]
theorem lkCells_two_new (w : World) (t : TypeId) (a b : Value) : ∀ (j : Nat) (u : Value), [a, b][j]? = some u → (w.alloc (.cells #[a, b] t)).cell? ((⟨w.heap.size, 0, none⟩ : Addr).add j) = some u := by
 intro j u hj
 match j, hj with
 | 0, hj =>
  simp at hj; subst hj
  unfold World.cell? Addr.add
  rw [if_pos rfl]
  dsimp only
  rw [heap_alloc_new]
  rfl
 | 1, hj =>
  simp at hj; subst hj
  unfold World.cell? Addr.add
  rw [if_neg (by decide)]
  dsimp only
  rw [heap_alloc_new]
  rfl
 | j + 2, hj => simp at hj
theorem lkInfoP : (Tryz.prog.info? 89).map (fun i => (i.zero, i.size, i.bytes)) = some (some (.agg #[.int .i64 0, .int .i64 0]), 2, 16) := by kernel_rfl
def lkCollP (D0 : DataW Value) (left : Lit → Bool) (ss : List (Int × Int)) : Prop := ss.Nodup ∧ ∀ k, k ∈ ss ↔ okK k ∧ Maps.has D0 (klit k) = true ∧ left (klit k) = false
section
variable {D0 : DataW Value} {left : Lit → Bool} {ss : List (Int × Int)}
theorem lkCollP.start (D0 : DataW Value) : lkCollP D0 (Maps.has D0) [] := ⟨List.nodup_nil, fun k => by cases Maps.has D0 (klit k) <;> simp⟩
theorem lkCollP.step (h : lkCollP D0 left ss) {x : Int × Int} (hx : okK x) {y : DataW Value} (hlk : left (klit x) = true) (hat : ∀ zd, D0.atKey (klit x) zd = y) : lkCollP D0 (fun z => left z && !z.sameKey (klit x)) (ss ++ [x]) := by
 have hhas : Maps.has D0 (klit x) = true := has_true_of_atKey hat
 have hno : x ∉ ss := fun hm => by
  have := ((h.2 x).1 hm).2.2
  rw [hlk] at this; cases this
 refine ⟨List.nodup_append.2 ⟨h.1, by simp, fun a ha b hb e => ?_⟩, fun q => ?_⟩
 ·rw [List.mem_singleton] at hb
  subst hb; subst e; exact hno ha
 ·rw [List.mem_append, List.mem_singleton, h.2 q]
  by_cases hq : q = x
  ·subst hq
   have : (klit q).sameKey (klit q) = true := WideAt.sameKey_self (lk_keyed.key (lk_key hx))
   simp [this, hhas, hx]
  ·constructor
   ·rintro (⟨h1, h2, h3⟩ | rfl)
    ·exact ⟨h1, h2, by simp [h3]⟩
    ·exact absurd rfl hq
   ·rintro ⟨h1, h2, h3⟩
    have hne : (klit q).sameKey (klit x) = false := by
     cases hs : (klit q).sameKey (klit x)
     ·rfl
     ·exact absurd (lk_inj h1 hx (WideAt.sameKey_eq hs)) hq
    simp only [hne] at h3
    exact .inl ⟨h1, h2, by simpa using h3⟩
end
set_option maxRecDepth 100000 in
set_option maxHeartbeats 1600000 in
theorem lkPkeys1_in (n : Nat) (hn : 1 ≤ n) (l Bm b nn : Nat) (D0 : DataW Value) (J : List (Int × Int) → World → Prop)
  (hY : ∀ pre x W, J pre W → pre.length < Maps.size D0 → YieldAt Fence.wide (n - 1) Tryz.prog l #[pairV x] W fun e W' => e = .returned (.bool true) ∧ J (pre ++ [x]) W' ∧ KeepsWalks W W')
  (W : World) (hJ : AbidesFrom W.heap.size J) (hm : W.cell? ⟨Bm, 0, none⟩ = some (.map (some b))) (hown : W.ownsMap Tryz.prog 89 heldP b nn D0) (h0 : J [] W) :
  CallsIn Fence.wide n Tryz.prog 115 #[.func (.yield l) #[] #[], .pointer (some ⟨Bm, 0, none⟩)] W fun e W' => (∃ v, e = .returned v) ∧ ∃ ss : List (Int × Int), lkCollP D0 (fun _ => false) ss ∧ J ss W' := by
 refine callsIn_of_wp Tryz.func115 rfl trivial ?_ rfl
 simp only [Tryz.ntmps115, List.size_toArray, List.length_cons, List.length_nil, Nat.reduceAdd, Nat.reduceSub, Array.replicate_succ, Array.replicate_zero, List.push_toArray, List.append_toArray, List.nil_append, List.cons_append]
 gi_wp2_with (first
  | (gi_at_range; refine wpListIn_range_own _ rfl _ 120 rfl 89 4 lk_keyed Tryz.underlying120 _ b nn _ rfl hown ?_; intro w0 hrg0 hg0 hs0)
  | gi_in)
 go_frame
 gi_loopw [3] (fun _ wr => ∃ (left : Lit → Bool) (cnt : Nat) (ss : List (Int × Int)), wr.ranges Tryz.prog 89 heldP b W.heap.size nn D0 left cnt ∧ ss.length + cnt ≤ Maps.size D0 ∧ lkCollP D0 left ss ∧ J ss wr ∧ W.heap.size ≤ wr.heap.size)
  (fun _ wr => wr.rangeLeft b W.heap.size)
 case atStart =>
  exact ⟨_, _, [], hrg0, by simp, lkCollP.start D0, hJ [] W w0 none h0 hg0 (fun r e => by cases e), by omega⟩
 case round =>
  obtain ⟨left, cnt, ss, hrg, hcs, hC, hJs, hsz⟩ := hrel
  gi_wp2_with (first
   | (gi_at_next; refine wpListIn_next_ranges _ rfl _ rfl 89 lk_keyed heldP pairV id (fun key kl hk => by obtain ⟨x, hx, _⟩ := lk_of_key hk; exact ⟨x, hx⟩) (fun v _ _ => ⟨v, rfl⟩) b W.heap.size nn _ _ _ rfl hrg ?_ ?_)
   | gi_in)
  ·intro hc0 hl0
   gi_wp2
   go_end0
   obtain rfl : left = fun _ => false := funext hl0
   exact ⟨⟨_, rfl⟩, ss, hC, hJs⟩
  ·intro x1 x2 c kl yd yp w2 cnt2 hkey hlk hv hv2 hat hrg2 hlt hg2 hs2 hen
   obtain ⟨x', ex, rfl, hok⟩ := lk_of_key hkey
   obtain rfl : (x1, x2) = x' := by
    simp only [pairV, Value.agg.injEq, Array.mk.injEq, List.cons.injEq, Value.int.injEq, true_and, and_true] at ex
    exact Prod.ext ex.1 ex.2
   have hJ2 : J ss w2 := hJ ss wr w2 (some W.heap.size) hJs hg2 (fun r e => by cases e; exact ⟨Nat.le_refl _, hrg.iter_walk⟩)
   obtain ⟨w3, hw3⟩ : ∃ w3, w2.alloc (.cells #[.int .i64 x1, .int .i64 x2] 89) = w3 := ⟨_, rfl⟩
   have hJ3 : J ss w3 := hJ ss w2 w3 none hJ2 (by rw [← hw3]; exact World.grownBy_alloc _ _ none) (fun r e => by cases e)
   have hp3 : P2 w3 w2.heap.size (x1, x2) := by rw [← hw3]; exact p2_new w2 _ (x1, x2)
   obtain ⟨d0, d1, -⟩ := hp3
   dsimp only at d0 d1
   have hrg3 := hrg2.of_walks (by rw [← hw3]; exact KeepsWalks.alloc _ _ : KeepsWalks w2 w3)
   have hs3 : w3.heap.size = w2.heap.size + 1 := by rw [← hw3]; simp
   obtain ⟨fn, tmps, assign, body, hy, hR⟩ := hY ss (x1, x2) w3 hJ3 (by omega)
   have HS2 := Lib.hid hs2
   clear hs2
   gi_wp2
   refine hR.mono ?_
   rintro e W3 ⟨rfl, hJ4, hk3⟩
   gi_wp2
   have hrg4 := hrg3.of_walks hk3
   go_roundw
   case rel => exact ⟨_, cnt2, ss ++ [(x1, x2)], hrg4, by simp; omega, hC.step hok hlk hat, hJ4, by have := hk3.size; have := HS2.out; omega⟩
   case measure => rw [hrg4.left_eq, hrg.left_eq]; exact hlt
theorem lkPkeys_gives (n : Nat) (hn : 1 ≤ n) (Bm b nn : Nat) (D0 : DataW Value) (w : World) (hBm : Bm < w.heap.size) (hm : w.cell? ⟨Bm, 0, none⟩ = some (.map (some b))) (hown : w.ownsMap Tryz.prog 89 heldP b nn D0) :
  SeqGives Fence.wide n Tryz.prog 115 #[.pointer (some ⟨Bm, 0, none⟩)] pairV (fun ss => lkCollP D0 (fun _ => false) ss) (Maps.size D0) w := fun l J W hW hJ hY h0 => by
 have hown' : W.ownsMap Tryz.prog 89 heldP b nn D0 := by
  have hbl := hown.lt
  obtain ⟨es, clock, hb, Ft, hs, hD⟩ := hown
  exact ⟨es, clock, (hW.block b hbl).trans hb, Ft, hs, hD⟩
 exact lkPkeys1_in n hn l Bm b nn D0 J hY W hJ ((hW.cell (p := ⟨Bm, 0, none⟩) hBm).trans hm) hown' h0

/-! What a round of the collecting loop does. -/
def lkEpAssign : Code := .region 2 #[{ dst := some 5, op := .alloc 89, type := 0, pos := "iter.go:51", after := #[], guard := none }, { dst := none, op := .store 89 (.tmp 5) (.tmp 7), type := 0, pos := "iter.go:51", after := #[{ on := 0, ground := .data }, { on := 0, ground := .phase }], guard := none }] false
def lkEpBody : Code := .block 1 (.region 3 #[{ dst := some 8, op := .load 82 (.tmp 2), type := 82, pos := "iter.go:52", after := #[], guard := none }, { dst := some 9, op := .load 89 (.tmp 5), type := 89, pos := "iter.go:52", after := #[], guard := none }, { dst := some 10, op := .buildSlice 82 1 #[(0, .tmp 9)], type := 82, pos := "iter.go:52", after := #[{ on := 1, ground := .data }], guard := none }, { dst := some 11, op := .call { callee := .builtin .append, args := #[.tmp 8, .tmp 10], argTypes := #[82, 82] }, type := 82, pos := "iter.go:52", after := #[{ on := 0, ground := .data }, { on := 2, ground := .data }], guard := none }, { dst := none, op := .store 82 (.tmp 2) (.tmp 11), type := 0, pos := "iter.go:52", after := #[{ on := 3, ground := .data }, { on := 3, ground := .chain }, { on := 0, ground := .phase }, { on := 1, ground := .phase }, { on := 2, ground := .phase }, { on := 3, ground := .phase }], guard := none }] false)
def lkEpRec (fn : FuncId) (sv : Value) (Bs D : Nat) (st : LoopState) (pend : Option Code) : Loop :=
 { state := st, pending := pend, fn, tmps := #[.slice none 0 0, sv, .pointer (some ⟨Bs, 0, none⟩), undef, .slice none 0 0, undef, sv, undef, undef, undef, undef, undef, undef], params := #[7], assign := lkEpAssign, body := lkEpBody, defers := D }
structure lkEpAt (w0 : World) (fn : FuncId) (sv : Value) (Bs l D : Nat) (ss : List (Int × Int)) (W : World) : Prop where
 box : ∃ v, W.heap[Bs]? = some (.cells #[v] 82 (0, 0)) ∧ W.ownsRow w0.heap.size 89 2 v ss.length (ss.flatMap lkCelP)
 L : W.heap[l]? = some (.loop (lkEpRec fn sv Bs D .ready none))
 K : W.heap[D]? = some (.deferred (some []))
 below : Below w0.heap.size w0 W
theorem lkEp_abides (w0 : World) (fn : FuncId) (sv : Value) (Bs l D B : Nat) (hB : w0.heap.size ≤ B) : AbidesFrom B (lkEpAt w0 fn sv Bs l D) := fun s W W' row h hg hrow => by
 have hrow' : ∀ r, row = some r → ∃ o : Obj, W.heap[r]? = some o ∧ o.isWalk = true := fun r e => (hrow r e).2
 obtain ⟨v, hv, hr⟩ := h.box
 exact ⟨⟨v, (grownBy_keeps hg hrow' hv rfl).trans hv, ownsRow_abides_a hr hg hrow'⟩, (grownBy_keeps hg hrow' h.L rfl).trans h.L, (grownBy_keeps hg hrow' h.K rfl).trans h.K,
  h.below.grown hg h.below.size (fun k e => Nat.le_trans hB (hrow k e).1)⟩
set_option maxRecDepth 100000 in
set_option maxHeartbeats 4000000 in
theorem lkEpYield (m : Nat) (w0 : World) (fn : FuncId) (sv : Value) (Bs l D : Nat) (hBl : Bs ≠ l) (hDl : D ≠ l) (hDB : D ≠ Bs) (h0B : w0.heap.size ≤ Bs) (h0l : w0.heap.size ≤ l)
    (N : Nat) (hN : N ≤ 1000000) (ss : List (Int × Int)) (x : Int × Int) (W : World) (h : lkEpAt w0 fn sv Bs l D ss W) (hlen : ss.length < N) :
    YieldAt Fence.wide m Tryz.prog l #[pairV x] W fun e W' => e = .returned (.bool true) ∧ lkEpAt w0 fn sv Bs l D (ss ++ [x]) W' ∧ KeepsWalks W W' := by
  have hne : ∀ {t : TypeId} {c d : Array Value} {o o' : Nat × Nat}, t ≠ 89 → Obj.cells c t o ≠ Obj.cells d 89 o' := fun ht e => ht (Obj.cells.inj e).2.1
  obtain ⟨i0, hi, hz0, hz1, hz2⟩ := info_parts lkInfoP
  obtain ⟨v, hv, hrow⟩ := h.box
  refine ⟨fn, #[.slice none 0 0, sv, .pointer (some ⟨Bs, 0, none⟩), undef, .slice none 0 0, undef, sv, pairV x, undef, undef, undef, undef, undef], lkEpAssign, lkEpBody, by simpa [lkEpRec] using run_yield (P := Tryz.prog) (args := #[pairV x]) h.L rfl, roundIn_of_wpIn trivial ?_⟩
  have hl : l < W.heap.size := (Array.getElem?_eq_some_iff.1 h.L).1
  have hBlt0 : Bs < W.heap.size := (Array.getElem?_eq_some_iff.1 hv).1
  have hDlt0 : D < W.heap.size := (Array.getElem?_eq_some_iff.1 h.K).1
  obtain ⟨B1, hB1⟩ : ∃ B1, W.heap.size = B1 := ⟨_, rfl⟩
  obtain ⟨W2, hW2⟩ : ∃ W2, W.alloc (.cells #[.int .i64 x.1, .int .i64 x.2] 89) = W2 := ⟨_, rfl⟩
  have hv2 : W2.heap[Bs]? = some (.cells #[v] 82 (0, 0)) := by rw [← hW2]; exact (Below.heap_alloc _ _ Bs hBlt0).trans hv
  have hK2 : W2.heap[D]? = some (.deferred (some [])) := by rw [← hW2]; exact (Below.heap_alloc _ _ D hDlt0).trans h.K
  have hL2 : W2.heap[l]? = some (.loop (lkEpRec fn sv Bs D .ready none)) := by rw [← hW2]; exact (Below.heap_alloc _ _ l hl).trans h.L
  have hrow2 : W2.ownsRow w0.heap.size 89 2 v ss.length (ss.flatMap lkCelP) := by rw [← hW2]; exact World.ownsRow.alloc hrow _
  have hb2 : Below w0.heap.size w0 W2 := by rw [← hW2]; exact h.below.alloc h.below.size _
  have hk2 : KeepsWalks W W2 := by rw [← hW2]; exact KeepsWalks.alloc _ _
  obtain ⟨d0, d1, hBn⟩ : P2 W2 B1 x := by rw [← hW2, ← hB1]; exact p2_new W _ x
  have hl2 : l < W2.heap.size := (Array.getElem?_eq_some_iff.1 hL2).1
  have hlB : l ≠ B1 := by omega
  have hbr := run_beginRound (P := Tryz.prog) hL2 rfl
  obtain ⟨W3, hW3⟩ : ∃ W3, W2.putObj l (.loop { lkEpRec fn sv Bs D .ready none with state := .busy }) = W3 := ⟨_, rfl⟩
  rw [hW3] at hbr
  have hg3 : W2.grownBy W3 (some l) := by rw [← hW3]; exact grownBy_putObj_a _ _ _
  have hv3 : W3.heap[Bs]? = some (.cells #[v] 82 (0, 0)) := by rw [← hW3]; exact (World.putObj_heap_other hBl).trans hv2
  have hK3 : W3.heap[D]? = some (.deferred (some [])) := by rw [← hW3]; exact (World.putObj_heap_other hDl).trans hK2
  have hL3 : W3.heap[l]? = some (.loop { lkEpRec fn sv Bs D .ready none with state := .busy }) := by rw [← hW3]; exact World.putObj_heap_same hl2
  have hrow3 : W3.ownsRow w0.heap.size 89 2 v ss.length (ss.flatMap lkCelP) := hrow2.kept hg3 (ownsRow_ne_a hrow2 hL2 (fun cur e => by cases e))
  have hb3 : Below w0.heap.size w0 W3 := hb2.grown hg3 hb2.size (fun k e => by cases e; exact h0l)
  have hk3 : KeepsWalks W W3 := by rw [← hW3]; exact hk2.trans (KeepsWalks.putObj _ hL2 rfl)
  replace d0 : W3.cell? ⟨B1, 0, none⟩ = some (.int .i64 x.1) := by rw [← d0]; exact World.cell?_of_block (hg3.block B1 hBn (fun e => hlB (by cases e; rfl)))
  replace d1 : W3.cell? ⟨B1, 1, none⟩ = some (.int .i64 x.2) := by rw [← d1]; exact World.cell?_of_block (hg3.block B1 hBn (fun e => hlB (by cases e; rfl)))
  have hBlt : Bs < W3.heap.size := (Array.getElem?_eq_some_iff.1 hv3).1
  have hl3 : l < W3.heap.size := (Array.getElem?_eq_some_iff.1 hL3).1
  have hDlt : D < W3.heap.size := (Array.getElem?_eq_some_iff.1 hK3).1
  obtain ⟨hc3, hf3⟩ := cell_of_box_a hv3
  have ne_of : ∀ {j : Nat} {o : Obj}, W3.heap[j]? = some o → (∀ cur, o ≠ .cells cur 89 (0, 0)) → some j ≠ v.ownBlock := fun hj hno => by
    rcases ownsRow_ne_a hrow3 hj hno with e | e
    · rw [e]; simp
    · exact fun e' => e e'.symm
  clear hv2 hK2 hL2 hrow2 hb2 hk2 hg3 hW3
  unfold lkEpAssign
  gi_wp2_with gi_round_op_a
  unfold lkEpBody
  gi_wp2_with (first
    | (gi_at_builtin; refine wpListIn_append_own _ rfl _ _ 82 rfl w0.heap.size 89 i0 (.agg #[.int .i64 0, .int .i64 0]) 2 16 Tryz.underlying82 hi hz0 hz1 hz2 rfl (by decide) _ _ _ rfl (World.ownsRow.alloc hrow3 _) ⟨W3.heap.size, 0, none⟩ 1 1 [.int .i64 x.1, .int .i64 x.2] rfl rfl (lkCells_two_new _ _ _ _) (by simp [Value.oneCell']) (by unfold maxLen; omega) (by omega) (by have := hb3.size; simp; omega) ?_; intro v' w5 hown' hg5 hnil5
       have hv5 : w5.heap[Bs]? = some (.cells #[v] 82 (0, 0)) := (hg5.block Bs (by simp; omega) (ne_of hv3 (fun cur => hne (by decide)))).trans ((Below.heap_alloc _ _ Bs hBlt).trans hv3)
       obtain ⟨hc5, hf5⟩ := cell_of_box_a hv5
       obtain ⟨g', cap', cur', rfl, hbase', hgb', hr1, hr2, hr3, hr4⟩ : ∃ g' cap' cur', v' = .slice (some ⟨g', 0, none⟩) (ss.length + 1) cap' ∧ w0.heap.size ≤ g' ∧ w5.heap[g']? = some (.cells cur' 89 (0, 0)) ∧ ss.length + 1 ≤ cap' ∧ cap' ≤ maxLen ∧ cur'.size = cap' * 2 ∧ cur'.toList.take ((ss.length + 1) * 2) = ss.flatMap lkCelP ++ [.int .i64 x.1, .int .i64 x.2] := by
         rcases hown'.2 with ⟨_, h0⟩ | h'
         · exact absurd h0 (by omega)
         · exact h'
       go_frame)
    | gi_round_op_a)
  have hg5' : (W3.alloc (.cells #[.int .i64 x.1, .int .i64 x.2] 89)).grownBy w5 v.ownBlock := hg5
  have hL5 : w5.heap[l]? = some (.loop { lkEpRec fn sv Bs D .ready none with state := .busy }) := (hg5'.block l (by simp; omega) (ne_of hL3 (fun cur e => by cases e))).trans ((Below.heap_alloc _ _ l hl3).trans hL3)
  have hK5 : w5.heap[D]? = some (.deferred (some [])) := (hg5'.block D (by simp; omega) (ne_of hK3 (fun cur e => by cases e))).trans ((Below.heap_alloc _ _ D hDlt).trans hK3)
  obtain ⟨w4, hw4⟩ : ∃ w4, w5.setCell ⟨Bs, 0, none⟩ (.slice (some ⟨g', 0, none⟩) (ss.length + 1) cap') = w4 := ⟨_, rfl⟩
  rw [hw4]
  have hg4 : w5.grownBy w4 (some Bs) := by rw [← hw4]; exact grownBy_setCell0_a _ _ _
  have hv4 : w4.heap[Bs]? = some (.cells #[.slice (some ⟨g', 0, none⟩) (ss.length + 1) cap'] 82 (0, 0)) := by rw [← hw4]; exact heap_setCell_box_a _ hv5
  have hL4 : w4.heap[l]? = some (.loop { lkEpRec fn sv Bs D .ready none with state := .busy }) := (hg4.block l (Array.getElem?_eq_some_iff.1 hL5).1 (fun e => hBl (by cases e; rfl))).trans hL5
  have hK4 : w4.heap[D]? = some (.deferred (some [])) := (hg4.block D (Array.getElem?_eq_some_iff.1 hK5).1 (fun e => hDB (by cases e; rfl))).trans hK5
  have hrow4 := hown'.kept hg4 (ownsRow_ne_a hown' hv5 (fun cur => hne (by decide)))
  have hl4 : l < w4.heap.size := (Array.getElem?_eq_some_iff.1 hL4).1
  have hb5 : Below w0.heap.size w0 w5 := (hb3.alloc hb3.size _).grown hg5' (by have := hb3.size; simp; omega) (fun k e => (World.ownsRow.lt hrow3 k e).1)
  have hb4 : Below w0.heap.size w0 w4 := hb5.grown hg4 hb5.size (fun k e => by cases e; exact h0B)
  have hk4 : KeepsWalks W w4 := ((hk3.trans (KeepsWalks.alloc _ _)).trans (KeepsWalks.of_grownBy hg5' (ownsRow_not_walk_a (World.ownsRow.alloc hrow3 _)))).trans (by rw [← hw4]; exact KeepsWalks.setCell _ _ _)
  clear hw4
  refine ⟨_, _, run_endRound none hL4, rfl, ⟨⟨_, (World.putObj_heap_other hBl).trans hv4, ?_⟩, World.putObj_heap_same hl4, (World.putObj_heap_other hDl).trans hK4, hb4.grown (grownBy_putObj_a _ _ _) hb4.size (fun k e => by cases e; exact h0l)⟩, hk4.trans (KeepsWalks.putObj _ hL4 rfl)⟩
  have := hrow4.kept (grownBy_putObj_a w4 l (.loop { { lkEpRec fn sv Bs D .ready none with state := .busy } with state := if (none : Option Code).isNone then .ready else .done, pending := none })) (ownsRow_ne_a hrow4 hL4 (fun cur e => by cases e))
  rw [List.length_append, List.flatMap_append]
  simpa [lkCelP] using this
open Go.RowKit Go.Maps Go.Sort Go.Shelf
def lkPairAt (w : World) (A : Option Addr) (L : List (Int × Int)) : Prop := 0 < L.length → ∃ b off, A = some ⟨b, off, none⟩ ∧ b < w.heap.size ∧ ∀ i, i < L.length → w.cell? ⟨b, off + i * 2, none⟩ = some (.int .i64 (L.getD i (0, 0)).1) ∧ w.cell? ⟨b, off + i * 2 + 1, none⟩ = some (.int .i64 (L.getD i (0, 0)).2)
set_option maxRecDepth 100000 in
set_option maxHeartbeats 4000000 in
theorem lkPAppendSeq (n : Nat) (hn : 2 ≤ n) (g : Nat) (lb : Array Value) (eg : ∀ args w, (callFunc g args).run Tryz.prog w = .ok (.enter g args) w)
    (S : List (Int × Int) → Prop) (N : Nat) (hN : N ≤ 1000000) (w : World) (hseq : SeqGives Fence.wide (n - 1) Tryz.prog g lb pairV S N w) :
    CallsIn Fence.wide n Tryz.prog 114 #[.slice none 0 0, .func (.func g) #[] lb] w fun e w' => ∃ (v : Value) (ss : List (Int × Int)), e = .returned v ∧ S ss ∧ w'.ownsRow w.heap.size 89 2 v ss.length (ss.flatMap lkCelP) ∧ Below w.heap.size w w' := by
  have h1 : 1 ≤ n := by omega
  refine callsIn_of_wp_marks Tryz.func114 rfl trivial ?_ rfl
  simp only [Tryz.ntmps114, List.size_toArray, List.length_cons, List.length_nil, Nat.reduceAdd, Nat.reduceSub, Array.replicate_succ, Array.replicate_zero, List.push_toArray, List.append_toArray, List.nil_append, List.cons_append]
  gi_wp2
  refine wpIn_rangeFunc ?_
  intro fn hfn
  obtain ⟨W0, hW0⟩ : ∃ W0, w.alloc (.cells #[.slice none 0 0] 82) = W0 := ⟨_, rfl⟩
  have hs0 : W0.heap.size = w.heap.size + 1 := by rw [← hW0]; simp
  have hv0 : W0.heap[w.heap.size]? = some (.cells #[.slice none 0 0] 82 (0, 0)) := by rw [← hW0]; exact World.alloc_heap_new w _
  have hb0 : Below w.heap.size w W0 := by rw [← hW0]; exact (Below.refl _ w).alloc (Nat.le_refl _) _
  rw [hW0]
  obtain ⟨W1, hW1⟩ : ∃ W1, (W0.alloc (.deferred (some []))).alloc (.loop (lkEpRec fn (.func (.func g) #[] lb) w.heap.size W0.heap.size .ready none)) = W1 := ⟨_, rfl⟩
  have hold : ∀ k, k < W0.heap.size → W1.heap[k]? = W0.heap[k]? := fun k hk => by
    rw [← hW1]; exact (Below.heap_alloc _ _ k (by simp; omega)).trans (Below.heap_alloc _ _ k hk)
  have hb1 : Below w.heap.size w W1 := by rw [← hW1]; exact (hb0.alloc hb0.size _).alloc (by have := hb0.size; simp; omega) _
  have hs1 : W1.heap.size = W0.heap.size + 2 := by rw [← hW1]; simp
  have hM : lkEpAt w fn (.func (.func g) #[] lb) w.heap.size (W0.heap.size + 1) W0.heap.size [] W1 :=
    ⟨⟨_, (hold w.heap.size (by omega)).trans hv0, ⟨rfl, .inl ⟨rfl, rfl⟩⟩⟩,
     by rw [← hW1]; have := World.alloc_heap_new (W0.alloc (.deferred (some []))) (.loop (lkEpRec fn (.func (.func g) #[] lb) w.heap.size W0.heap.size .ready none)); rwa [World.size_alloc] at this,
     by rw [← hW1]; exact (Below.heap_alloc _ _ _ (by simp)).trans (World.alloc_heap_new W0 _), hb1⟩
  refine ⟨W0.heap.size + 1, [{ target := .collected W0.heap.size, args := #[] }], W1, { target := .fn (.func g) lb, args := #[.func (.yield (W0.heap.size + 1)) #[] #[]] }, W1, g,
    #[.func (.yield (W0.heap.size + 1)) #[] #[]] ++ lb, W1, ?_, ?_, ?_, ?_, fun _ => h1, ?_⟩
  · rw [← hW1]; exact run_enterLoop_outer _ _ _ _ _
  · simp [resolve, go_sem]
  · intro f' hf'; trivial
  · simp [invoke, go_sem, eg]
  · refine (hseq (W0.heap.size + 1) (lkEpAt w fn (.func (.func g) #[] lb) w.heap.size (W0.heap.size + 1) W0.heap.size) W1 hb1 (lkEp_abides _ _ _ _ _ _ _ hb1.size)
      (fun pre x W hJ hl => lkEpYield (n - 1 - 1) w fn _ w.heap.size (W0.heap.size + 1) W0.heap.size (by omega) (by omega) (by omega) (Nat.le_refl _) (by omega) N hN pre x W hJ hl) hM).mono ?_
    rintro e W2 ⟨⟨v0, rfl⟩, ss, hS, h2⟩
    obtain ⟨v, hv, hrow⟩ := h2.box
    have hend := run_endLoop (P := Tryz.prog) h2.L (by simp [lkEpRec])
    obtain ⟨W3, hW3⟩ : ∃ W3, W2.putObj (W0.heap.size + 1) (.loop { lkEpRec fn (.func (.func g) #[] lb) w.heap.size W0.heap.size .ready none with state := .exhausted }) = W3 := ⟨_, rfl⟩
    rw [hW3] at hend
    have hg3 : W2.grownBy W3 (some (W0.heap.size + 1)) := by rw [← hW3]; exact grownBy_putObj_a _ _ _
    have hv3 : W3.heap[w.heap.size]? = some (.cells #[v] 82 (0, 0)) := by rw [← hW3]; exact (World.putObj_heap_other (by omega)).trans hv
    have hK3 : W3.heap[W0.heap.size]? = some (.deferred (some [])) := by rw [← hW3]; exact (World.putObj_heap_other (by omega)).trans h2.K
    have hrow3 := hrow.kept hg3 (ownsRow_ne_a hrow h2.L (fun cur e => by cases e))
    have hb3 : Below w.heap.size w W3 := h2.below.grown hg3 h2.below.size (fun k e => by cases e; omega)
    obtain ⟨hc3, hf3⟩ := cell_of_box_a hv3
    clear hW3
    refine ⟨none, W3, hend, ?_⟩
    gi_wp2
    rw [← hs0]
    refine ⟨by simp, .inl ⟨_, _, rfl, run_takeDeferred hK3, ?_⟩⟩
    exact ⟨_, results_tmp rfl _ _ _, v, ss, rfl, hS, hrow3.kept (grownBy_putObj_a _ _ _) (ownsRow_ne_a hrow3 hK3 (fun cur e => by cases e)), hb3.grown (grownBy_putObj_a _ _ _) hb3.size (fun k e => by cases e; omega)⟩
set_option maxHeartbeats 1000000 in
theorem lkPCollect (n : Nat) (hn : 3 ≤ n) (g : Nat) (lb : Array Value) (eg : ∀ args w, (callFunc g args).run Tryz.prog w = .ok (.enter g args) w)
  (S : List (Int × Int) → Prop) (N : Nat) (hN : N ≤ 1000000) (w : World) (hseq : SeqGives Fence.wide (n - 1 - 1) Tryz.prog g lb pairV S N w) :
  CallsIn Fence.wide n Tryz.prog 74 #[.func (.func g) #[] lb] w fun e w' => ∃ (v : Value) (ss : List (Int × Int)), e = .returned v ∧ S ss ∧ w'.ownsRow w.heap.size 89 2 v ss.length (ss.flatMap lkCelP) ∧ Below w.heap.size w w' := by
 refine callsIn_wide.2 ?_
 have hA := Lib.hid ((callsIn_wide (n := n - 1)).1 (lkPAppendSeq (n - 1) (by omega) g lb eg S N hN w hseq))
 clear hseq eg
 go_enter Tryz.func74, Tryz.ntmps74
 go_wp2_with (go_at_call 114; refine hA.out.mono ?_; rintro e w' ⟨v, ss, rfl, hS, hrow, hb⟩)
 go_ret
 exact ⟨v, ss, rfl, hS, hrow, hb⟩
theorem lkCelP_get : ∀ (L : List (Int × Int)) (i : Nat), i < L.length → (L.flatMap lkCelP)[i * 2]? = some (.int .i64 (L.getD i (0, 0)).1) ∧ (L.flatMap lkCelP)[i * 2 + 1]? = some (.int .i64 (L.getD i (0, 0)).2)
 | [], i, h => by simp at h
 | a :: L, 0, _ => by simp [lkCelP]
 | a :: L, i + 1, h => by
  have := lkCelP_get L i (by simpa using h)
  have e1 : (i + 1) * 2 = i * 2 + 1 + 1 := by omega
  rw [List.flatMap_cons, e1]
  simpa [lkCelP] using this
theorem lkHoldsP {w : World} {g : Nat} {cur : Array Value} {e : TypeId} {ss : List (Int × Int)} (hb : w.heap[g]? = some (.cells cur e (0, 0))) (ht : cur.toList.take (ss.length * 2) = ss.flatMap lkCelP) : HoldsK lkCelP 2 w g 0 ss.toArray := by
 intro j hj
 rw [size_flatK] at hj
 have hj' : j < ss.length * 2 := by simpa using hj
 refine ⟨?_, by simp [World.frozen?, hb]⟩
 rw [get_flatK _ _ _ _ hj, Nat.zero_add]
 have key : w.cell? ⟨g, j, none⟩ = (ss.flatMap lkCelP)[j]? := by
  rw [← ht, List.getElem?_take, if_pos hj']
  simp only [World.cell?, hb]
  simp
 rw [key]
 have hq : j / 2 < ss.length := by omega
 have hget : (ss.toArray)[j / 2]! = ss.getD (j / 2) (0, 0) := by
  rw [List.getD_eq_getElem?_getD, List.getElem?_eq_getElem hq]
  simp [hq]
 rw [hget]
 obtain ⟨k0, k1⟩ := lkCelP_get ss (j / 2) hq
 rcases Nat.mod_two_eq_zero_or_one j with h | h
 ·rw [h, show j = j / 2 * 2 by omega, k0, show j / 2 * 2 / 2 = j / 2 by omega]; rfl
 ·rw [h, show j = j / 2 * 2 + 1 by omega, k1, show (j / 2 * 2 + 1) / 2 = j / 2 by omega]; rfl
theorem lkPairs_of_holds {w : World} {g : Nat} {ss : List (Int × Int)} (h : HoldsK lkCelP 2 w g 0 ss.toArray) (hg : g < w.heap.size) : lkPairAt w (some ⟨g, 0, none⟩) ss := fun _ => by
 refine ⟨g, 0, rfl, hg, fun i hi => ?_⟩
 have hi' : i < ss.toArray.size := by simpa using hi
 have hget : (ss.toArray)[i]! = ss.getD i (0, 0) := by
  rw [List.getD_eq_getElem?_getD, List.getElem?_eq_getElem hi]
  simp [hi]
 have c0 := (h.cell hi' (c := 0) (by omega)).1
 have c1 := (h.cell hi' (c := 1) (by omega)).1
 rw [hget] at c0 c1
 exact ⟨c0, c1⟩
theorem lkSortK_below {α : Type} [Inhabited α] {enc : α → List Value} {k : Nat} {w : World} {blk off n : Nat} {d : Array α} {os : Array Obj} {B : Nat} (hB : B ≤ blk) (hs : B ≤ w.heap.size) : Below B w (sortWorldK enc k w blk off n d os) := by
 unfold sortWorldK putRowK
 have h1 : Below B w (putRow id (Sort.ahead w n) blk off (flatK enc k d)) := by
  refine ⟨rfl, rfl, rfl, by rw [size_putRow]; exact Nat.le_refl _, fun k hk => ?_⟩
  show (w.heap.modify blk _)[k]? = _
  rw [Array.getElem?_modify, if_neg (by omega)]
 exact h1.trans (Lib.below_grow B _ (by rw [size_putRow]; exact hs) 0 os)
theorem lkCmpLaysP (blk off size : Nat) (w : World) : CmpLays Tryz.prog 77 #[] lkCelP 2 cmK blk off size w := fun _ _ _ _ x y => lcmp_any x y _
def lkAscP (K : List (Int × Int)) : Prop := K.Pairwise ltK
theorem lkSort_ascP {ss : List (Int × Int)} (h : ss.Nodup) : lkAscP (ss.mergeSort fun x y => !ltOf cmK y x) := by
 have hp := List.mergeSort_perm ss fun x y => !ltOf cmK y x
 have h1 := List.pairwise_mergeSort (le := fun x y => !ltOf cmK y x) (fun a b c h1 h2 => by
  simp only [Bool.not_eq_true', ltOf_cmK, decide_eq_false_iff_not] at *
  unfold ltK at *; omega) (fun a b => by
  simp only [ltOf_cmK, Bool.or_eq_true, Bool.not_eq_true', decide_eq_false_iff_not]
  unfold ltK; omega) ss
 have h2 : (ss.mergeSort fun x y => !ltOf cmK y x).Nodup := hp.nodup_iff.2 h
 refine (List.Pairwise.and h1 h2).imp fun {a b} hab => ?_
 obtain ⟨h3, h4⟩ := hab
 simp only [Bool.not_eq_true', ltOf_cmK, decide_eq_false_iff_not] at h3
 rcases Decidable.em (ltK a b) with h5 | h5
 ·exact h5
 ·exact absurd (ltK_tri h5 h3) h4
def lyP : Lay (Int × Int) := ⟨lkCelP, 2, fun _ => rfl, fun a v hv => by simp [lkCelP] at hv; rcases hv with rfl | rfl <;> rfl, by decide⟩
theorem lkp_row {w : World} {A : Option Addr} {L : LkL} (h : lkPairAt w A L) : RowAt lyP w A L := by
 intro h0
 obtain ⟨b, off, e, hlt, hc⟩ := h h0
 refine ⟨b, off, e, hlt, fun j v hj => ?_⟩
 have hjl : j < L.length * 2 := by
  have := lyP.all_len L
  rw [show lyP.s = 2 from rfl] at this
  rw [← this]
  exact (List.getElem?_eq_some_iff.1 hj).1
 have hq : j / 2 < L.length := by omega
 rw [show lyP.all L = L.flatMap lkCelP from rfl] at hj
 obtain ⟨k0, k1⟩ := lkCelP_get L (j / 2) hq
 rcases Nat.mod_two_eq_zero_or_one j with h2 | h2
 ·have e1 : j = j / 2 * 2 := by omega
  rw [e1, k0] at hj
  injection hj with hj
  subst hj
  rw [e1]
  simpa using (hc (j / 2) hq).1
 ·have e1 : j = j / 2 * 2 + 1 := by omega
  rw [e1, k1] at hj
  injection hj with hj
  subst hj
  rw [e1, ← Nat.add_assoc]
  have e2 : (j / 2 * 2 + 1) / 2 = j / 2 := by omega
  simpa [e2] using (hc (j / 2) hq).2
set_option maxRecDepth 100000 in
theorem lkkeys_any (b : Nat) (w : World) : Calls Tryz.prog 75 #[.map (some b)] w fun e w' => e = .returned (.func (.func 115) #[] #[.pointer (some ⟨w.heap.size, 0, none⟩)]) ∧ w' = w.alloc (.cells #[.map (some b)] 120) := by
 go_enter Tryz.func75, Tryz.ntmps75
 go_wp2_with fail
 go_ret
 exact ⟨rfl, rfl⟩
set_option maxRecDepth 100000 in
set_option maxHeartbeats 4000000 in
theorem list_any (j : LD) (n : Nat) (K : LkL) (w : World) (hj : LK w j n K) (hn : n ≤ 1000000) :
  Calls Tryz.prog 42 #[j.p] w fun e w' => (∃ (A : Option Addr) (c : Nat), e = .returned (.slice A K.length c) ∧ RowAt lyP w' A K) ∧ Below w.heap.size w w' := by
 have c4 := hj.box.at 4 _ rfl
 have HASC : Hid (AscK K) := Lib.hid hj.good.asc
 have HKB := Lib.hid (fun W => lkkeys_any j.bm W)
 have h := hj.mp
 obtain ⟨f, hf⟩ : ∃ f : Int × Int → Bool, (fun q => decide (q ∈ K)) = f := ⟨_, rfl⟩
 rw [hf] at h
 have HF : Hid (∀ q, (f q = true) ↔ q ∈ K) := Lib.hid (fun q => by rw [← hf]; simp)
 obtain ⟨b, hb⟩ : ∃ b, j.bm = b := ⟨_, rfl⟩
 rw [hb] at c4 h HKB
 clear hj hb hf
 obtain ⟨D, hown, hD, hok⟩ := h
 have hbl := hown.lt
 have hszD : Maps.size D ≤ n := hown.size_le
 have hown1 : (w.alloc (.cells #[.map (some b)] 120)).ownsMap Tryz.prog 89 heldP b n D := hown.alloc _
 have hseq : SeqGives Fence.wide 2 Tryz.prog 115 #[.pointer (some ⟨w.heap.size, 0, none⟩)] pairV (fun ss => lkCollP D (fun _ => false) ss) (Maps.size D) (w.alloc (.cells #[.map (some b)] 120)) :=
  lkPkeys_gives 2 (by omega) w.heap.size b n D _ (by simp) (by simp) hown1
 have eg := enters_of Tryz.func115 (by kernel_rfl) rfl
 have ec := enters_of Tryz.func77 (by kernel_rfl) rfl
 have cC := (callsIn_wide (n := 4)).1 (lkPCollect 4 (by omega) _ _ eg _ _ (by omega : Maps.size D ≤ 1000000) _ hseq.bounded)
 have cS0 := fun W => AnyF.slices_SortFunc_none { Tryz.sortf76 with } none 0 (.func (.func 77) #[] #[]) W
 have cS := fun (blk cap : Nat) (d : Array (Int × Int)) (W : World) (hH : HoldsK lkCelP 2 W blk 0 d) (hb : blk < W.heap.size) (hs : d.size < 4611686018427387904) =>
  AnyQ.slices_SortFunc_total Tryz.sortf76 2 Tryz.isAgg89 Tryz.sizeOf89 lkCelP (fun _ => rfl) (fun x v hv => by simp [lkCelP] at hv; rcases hv with rfl | rfl <;> rfl) cmK cmK_swo 77 #[] blk 0 cap d W ec (lkCmpLaysP blk 0 d.size W) hH hb hs cmK_tot
 change ∀ W, Calls Tryz.prog 76 _ _ _ at cS0
 change ∀ (blk cap : Nat) (d : Array (Int × Int)) (W : World) (hH : HoldsK lkCelP 2 W blk 0 d) (hb : blk < W.heap.size) (hs : d.size < 4611686018427387904), Calls Tryz.prog 76 _ _ _ at cS
 have HD := Lib.hid hD
 have HOK := Lib.hid hok
 have HC := Lib.hid cC
 have HS0 := Lib.hid cS0
 have HS := Lib.hid cS
 have hB0 := Lib.hid (below_alloc_new (w := w) (.cells #[.map (some b)] 120))
 generalize hw1 : w.alloc (.cells #[.map (some b)] 120) = w1 at *
 have hs1 : w1.heap.size = w.heap.size + 1 := by rw [← hw1]; simp
 have HS1 := Lib.hid hs1
 have HW1 := Lib.hid hw1
 clear hD hok cC cS0 cS hown hown1 hseq hw1 hs1
 obtain ⟨s0, hs0⟩ : ∃ s0, w.heap.size = s0 := ⟨_, rfl⟩
 rw [hs0] at HC HS1 hB0
 have HSZ := Lib.hid hs0
 go_enter Tryz.func42, Tryz.ntmps42
 go_upto_region 4 with (first
  | (go_at_call 75; refine (HKB.out w).mono ?_; rintro e w9 ⟨rfl, hw9⟩; rw [HW1.out] at hw9; replace hw9 := hw9.symm; subst hw9)
  | (go_at_call 74; refine HC.out.mono ?_; rintro e w2 ⟨v, ss, rfl, ⟨hS, hlen⟩, hrow, hb2⟩))
 have hmem : ∀ k, k ∈ ss ↔ f k = true := fun k => by
  rw [hS.2 k]
  constructor
  ·rintro ⟨h1, h2, _⟩
   rw [← (HD.out k h1).1]; exact h2
  ·intro h1
   have h2 := HOK.out k h1
   exact ⟨h2, by rw [(HD.out k h2).1]; exact h1, rfl⟩
 have hle : ss.length ≤ n := Nat.le_trans hlen hszD
 have hB2 : Below s0 w w2 := hB0.out.trans (hb2.mono (by have := HS1.out; omega))
 have HM := Lib.hid hmem
 have HSS := Lib.hid hS
 have HLE := Lib.hid hle
 have HR := Lib.hid hrow
 have HB2 := Lib.hid hB2
 have hs0l : s0 ≤ w2.heap.size := by have := hb2.size; have := HS1.out; omega
 have HSL := Lib.hid hs0l
 have hbase := Lib.hid (show s0 ≤ w1.heap.size by have := HS1.out; omega)
 clear hmem hS hle hB2 hb2 hlen hs0l
 rcases hrow.2 with ⟨rfl, hz⟩ | ⟨gb, cap, cur, rfl, hbg, hgb, r1, r2, r3, r4⟩
 ·obtain rfl : ss = [] := List.eq_nil_of_length_eq_zero hz
  clear hrow
  go_wp2_with (go_at_call 76; refine (HS0.out _).mono ?_; rintro e w3 ⟨rfl, rfl⟩)
  go_ret
  have hK : K = [] := asck_ext HASC.out List.Pairwise.nil fun q => (HF.out q).symm.trans (HM.out q).symm
  subst hK
  exact ⟨⟨none, 0, by first | rfl | simp, RowAt.nil⟩, by first | exact HB2.out | (rw [HSZ.out]; exact HB2.out)⟩
 ·have hgl : gb < w2.heap.size := (Array.getElem?_eq_some_iff.1 hgb).1
  have hH := lkHoldsP hgb r4
  have hsz : ss.toArray.size < 4611686018427387904 := by have := HLE.out; simp; omega
  have hlen : (ss.toArray.size : Nat) = ss.length := by simp
  have c1 := HS.out gb cap ss.toArray w2 hH hgl hsz
  rw [hlen] at c1
  have HC1 := Lib.hid c1
  have HH := Lib.hid hH
  have HGL := Lib.hid hgl
  have HBG := Lib.hid hbg
  clear hrow c1 hsz hlen hH r1 r2 r3 r4 hgb hgl hbg
  go_wp2_with (go_at_call 76; refine HC1.out.mono ?_; rintro e w3 ⟨rfl, nn, os, rfl⟩)
  go_ret
  have hlm : (ss.mergeSort fun x y => !ltOf cmK y x).length = ss.length := List.length_mergeSort _
  have hhold : HoldsK lkCelP 2 (sortWorldK lkCelP 2 w2 gb 0 nn (ss.mergeSort fun x y => !ltOf cmK y x).toArray os) gb 0 (ss.mergeSort fun x y => !ltOf cmK y x).toArray := by
   unfold sortWorldK
   refine holdsK_grow lkCelP 2 _ os gb 0 _ (by unfold putRowK; rw [size_putRow]; exact HGL.out) ?_
   exact holdsK_putRowK lkCelP 2 _ gb 0 ss.toArray _ (holdsK_ahead lkCelP 2 w2 nn gb 0 _ HH.out) (by simp)
  have hsb : Below s0 w2 (sortWorldK lkCelP 2 w2 gb 0 nn (ss.mergeSort fun x y => !ltOf cmK y x).toArray os) := lkSortK_below (Nat.le_trans hbase.out HBG.out) HSL.out
  have hK : ss.mergeSort (fun x y => !ltOf cmK y x) = K := asck_ext (lkSort_ascP HSS.out.1) HASC.out fun k => by
   rw [(List.mergeSort_perm ss _).mem_iff, HM.out k, HF.out k]
  rw [hK] at hhold hsb hlm ⊢
  refine ⟨⟨some ⟨gb, 0, none⟩, cap, by first | (rw [hlm]; rfl) | (rw [hlm]; simp), lkp_row (lkPairs_of_holds hhold (Nat.lt_of_lt_of_le HGL.out ?_))⟩, ?_⟩
  ·unfold sortWorldK putRowK
   have h1 := (Lib.below_grow 0 (putRow id (Sort.ahead w2 nn) gb 0 (flatK lkCelP 2 K.toArray)) (Nat.zero_le _) 0 os).size
   rw [size_putRow] at h1
   exact h1
  ·have h9 := HB2.out.trans hsb
   first | exact h9 | (rw [HSZ.out]; exact h9)
open Go.RowKit
def fewR (e : Ent) : Bool := decide (e.n ≤ 40) && (decide (e.m ≤ 60) && !decide ((60 : Int) < wrap64 ((e.nm.size : Int) + (e.cur.size : Int))))
def few10 (g : Grp) (G : List Ent) : Bool := allTo (fun i => fewR (G.getD i ent0)) G.length && (decide (g.n ≤ 60) && (decide (g.m ≤ 14) && decide ((g.cur.size : Int) ≤ 20)))
theorem few_sm {g : Grp} {G : List Ent} (h : few10 g G = true) : Sm g G := by
 unfold few10 at h
 simp only [Bool.and_eq_true, decide_eq_true_eq] at h
 obtain ⟨h1, h2, h3, -⟩ := h
 refine ⟨h2, h3, fun e he => ?_⟩
 obtain ⟨i, hi, rfl⟩ := mem_getD_acc (d := ent0) he
 have h4 := allTo_is.1 h1 i hi
 unfold fewR at h4
 simp only [Bool.and_eq_true, decide_eq_true_eq] at h4
 exact ⟨by omega, h4.2.1⟩
set_option maxRecDepth 20000 in
set_option maxHeartbeats 1600000 in
theorem rfew10_is (g : Grp) (G : List Ent) (w : World) (he : EntsAt w g.E G) (lg : G.length = g.m) (hmx : g.m ≤ 9223372036854775807) :
  Calls Tryz.prog 28 #[grpV g] w fun e w' => e = .returned (.bool (few10 g G)) ∧ Below w.heap.size w w' := by
 have hB := below_alloc_new (w := w) (.cells #[.string g.cur, .int .i64 g.cy, .int .i64 g.cm, .int .i64 g.cp, .slice g.A g.n g.c, .int .i64 g.r0, .int .i64 g.r1, .int .i64 g.r2, .int .i64 g.r3, .int .i64 g.r4, .int .i64 g.r5, .int .i64 g.r6, .int .i64 g.r7, .int .i64 g.r8, .int .i64 g.r9, .int .i64 g.r10, .int .i64 g.r11, .int .i64 g.r12, .int .i64 g.r13, .int .i64 g.r14, .slice g.E g.m g.d] 29)
 have hG := gb_new w 29 g
 have hv : few10 g G = (allTo (fun i => fewR (G.getD i ent0)) G.length && (decide (g.n ≤ 60) && (decide (g.m ≤ 14) && decide ((g.cur.size : Int) ≤ 20)))) := rfl
 rw [lg] at hv
 generalize few10 g G = r at *
 obtain ⟨P, hP⟩ : ∃ P : Nat → Bool, (fun i => fewR (G.getD i ent0)) = P := ⟨_, rfl⟩
 have hpk : ∀ k, P k = fewR (G.getD k ent0) := fun k => by rw [← hP]
 rw [hP] at hv
 have HV := Lib.hid hv
 have HPK := Lib.hid hpk
 clear hv hpk hP
 obtain ⟨s0, hs0⟩ : ∃ s0, w.heap.size = s0 := ⟨_, rfl⟩
 rw [hs0] at hB hG ⊢
 have HM := Lib.hid lg
 have HZ := Lib.hid he
 have HS0 := Lib.hid hs0
 have HG := Lib.hid hG
 clear he lg hG
 go_enter Tryz.func28, Tryz.ntmps28
 go_wp2_with fail
 clear hs0
 go_loopg [3] g.m (fun kx s3 wr => ∃ k : Nat, s3 = .int .i64 k ∧ k ≤ g.m ∧ g.m - k ≤ kx ∧ Hid (allTo P k = true) ∧ Hid (GB wr s0 g) ∧ Below s0 w wr)
 case atStart => exact ⟨0, rfl, by omega, by omega, Lib.hid rfl, HG, hB⟩
 case round =>
  clear hB HG
  obtain ⟨k, rfl, hk, hkx, HN, HG, hB⟩ := hrel
  have c20 := HG.out.c20
  have hsz : s0 ≤ wr.heap.size := by have := hB.size; have := HS0.out; omega
  by_cases hlt : k < g.m
  ·have hltz : (k : Int) < (g.m : Int) := by omega
   obtain ⟨b, off, eE, hbw, hcs⟩ := ent_at HZ.out (k := k) (by rw [HM.out]; omega)
   obtain ⟨c0, c1, c2, c3, c4⟩ := hcs.up hB (by have := HS0.out; omega)
   have hno : P k = false → r = false := fun h => by rw [HV.out, allTo_no hlt h]; rfl
   have hnx : P k = true → Hid (allTo P (k + 1) = true) := fun h => Lib.hid (by show (allTo P k && P k) = true; rw [HN.out, h]; rfl)
   have hpk := HPK.out k
   obtain ⟨x, hx⟩ : ∃ x, G.getD k ent0 = x := ⟨_, rfl⟩
   rw [hx] at c0 c1 c2 c3 c4 hpk
   have hfr : fewR x = (decide (x.n ≤ 40) && (decide (x.m ≤ 60) && !decide ((60 : Int) < wrap64 ((x.nm.size : Int) + (x.cur.size : Int))))) := rfl
   rw [hfr] at hpk
   generalize P k = pk at *
   obtain ⟨z0, z1, z2, z3, z4, zlt⟩ := eb_new wr 119 x.nm x.cur x.A x.n x.c x.B x.m x.d x.jt
   have hB1 : Below s0 w (wr.alloc (.cells #[.string x.nm, .string x.cur, .slice x.A x.n x.c, .slice x.B x.m x.d, .bool x.jt] 119)) := hB.alloc hsz _
   have HG1 := Lib.hid (HG.out.up (below_alloc_new (w := wr) (.cells #[.string x.nm, .string x.cur, .slice x.A x.n x.c, .slice x.B x.m x.d, .bool x.jt] 119)))
   clear hcs hx HN HG hfr
   rcases Nat.lt_or_ge 40 x.n with h1 | h1
   ·have e1 : decide ((40 : Int) < (x.n : Int)) = true := decide_eq_true (by omega)
    have HR := Lib.hid (hno (by rw [hpk, decide_eq_false (show ¬ x.n ≤ 40 by omega)]; rfl))
    clear hnx h1 hno hpk
    go_wp2_with fail
    go_ret
    exact ⟨by rw [HR.out]; rfl, hB1⟩
   have e1 : decide ((40 : Int) < (x.n : Int)) = false := decide_eq_false (by omega)
   rcases Nat.lt_or_ge 60 x.m with h2 | h2
   ·have e2 : decide ((60 : Int) < (x.m : Int)) = true := decide_eq_true (by omega)
    have HR := Lib.hid (hno (by rw [hpk, decide_eq_false (show ¬ x.m ≤ 60 by omega)]; simp))
    clear hnx h1 h2 hno hpk
    go_wp2_with fail
    go_ret
    exact ⟨by rw [HR.out]; rfl, hB1⟩
   have e2 : decide ((60 : Int) < (x.m : Int)) = false := decide_eq_false (by omega)
   rw [decide_eq_true h1, decide_eq_true h2] at hpk
   clear h1 h2
   cases e3 : decide ((60 : Int) < wrap64 ((x.nm.size : Int) + (x.cur.size : Int)))
   ·have HN2 := hnx (by rw [hpk, e3]; rfl)
    clear hnx hno hpk
    go_wp2_with fail
    go_roundg (g.m - (k + 1))
    case measure => omega
    case rel => exact ⟨k + 1, by go_num, by omega, by omega, HN2, HG1, hB1⟩
   ·have HR := Lib.hid (hno (by rw [hpk, e3]; rfl))
    clear hnx hno hpk
    go_wp2_with fail
    go_ret
    exact ⟨by rw [HR.out]; rfl, hB1⟩
  ·have hke : k = g.m := by omega
   have hltz : ¬ (k : Int) < (g.m : Int) := by omega
   have hv2 := HV.out
   rw [← hke, HN.out, Bool.true_and] at hv2
   have hm9 : decide (k ≤ 14) = decide (g.m ≤ 14) := by rw [hke]
   have c4 := HG.out.c4
   have c0 := HG.out.c0
   clear hke
   rcases Nat.lt_or_ge 60 g.n with h1 | h1
   ·have e1 : decide ((g.n : Int) ≤ 60) = false := decide_eq_false (by omega)
    have HR : Hid (r = false) := Lib.hid (by rw [hv2, decide_eq_false (show ¬ g.n ≤ 60 by omega)]; rfl)
    clear h1 hv2
    go_wp2_with fail
    go_ret
    exact ⟨by rw [HR.out]; rfl, hB⟩
   have e1 : decide ((g.n : Int) ≤ 60) = true := decide_eq_true (by omega)
   rcases Nat.lt_or_ge 14 g.m with h2 | h2
   ·have e2 : decide ((g.m : Int) ≤ 14) = false := decide_eq_false (by omega)
    have HR : Hid (r = false) := Lib.hid (by rw [hv2, hm9, decide_eq_false (show ¬ g.m ≤ 14 by omega)]; simp)
    clear h1 h2 hv2 hm9
    go_wp2_with fail
    go_ret
    exact ⟨by rw [HR.out]; rfl, hB⟩
   have e2 : decide ((g.m : Int) ≤ 14) = true := decide_eq_true (by omega)
   have HR : Hid (r = decide ((g.cur.size : Int) ≤ 20)) := Lib.hid (by rw [hv2, hm9, decide_eq_true h1, decide_eq_true h2]; rfl)
   clear h1 h2 hv2 hm9
   go_wp2_with fail
   go_ret
   exact ⟨by rw [HR.out]; rfl, hB⟩
open Go.RowKit Go.Maps
theorem insL_len {K : LkL} {x : Int × Int} : (insL K x).length = K.length + 1 := by
 have h := congrArg List.length (List.takeWhile_append_dropWhile (p := fun a => decide (ltK a x)) (l := K))
 unfold insL
 rw [List.length_append] at h
 rw [List.length_append, List.length_cons]
 omega
theorem stpsL_len (n k : Int) (S : List Stp) : (stpsL n k S).length ≤ S.length := by
 unfold stpsL
 have : ∀ (S : List Stp) (K : LkL), (S.foldl (stpL n k) K).length ≤ K.length + S.length := by
  intro S
  induction S with
  | nil => intro K; exact Nat.le_refl _
  | cons s S ih =>
   intro K
   have h1 := ih (stpL n k K s)
   have h2 : (stpL n k K s).length ≤ K.length + 1 := by
    unfold stpL
    split
    ·unfold remL delL
     split
     ·have := List.length_filter_le (fun a => !decide (a = s.k)) K; omega
     ·omega
    ·unfold addL
     split
     ·rw [insL_len]; exact Nat.le_refl _
     ·omega
   rw [List.foldl_cons, List.length_cons]
   omega
 have h := this S []
 simpa using h
theorem chk_day {n y m k : Int} {K : LkL} {e d : Int} (he : 0 ≤ e ∧ e < n) : chkL n y m k K e d = if 0 ≤ untM K e ∧ d ≤ pdL y m k (untM K e) then 12 else 0 := by
 unfold chkL untB untD
 rw [if_pos he]
 by_cases h : 0 ≤ untM K e
 ·simp [h]
 ·simp [h]
set_option maxRecDepth 100000 in
set_option maxHeartbeats 12800000 in
theorem law_lkunt (g : Grp) (L : List Acc) (G : List Ent) (A : Option Addr) (n c : Nat) (S : List Stp) (x : Int) (w : World) (bx : -9223372036854775808 ≤ x ∧ x ≤ 9223372036854775807) (hk : GrK w g L G) (hw : GrW g L G) (hmx : g.m ≤ 9223372036854775807) (hn : S.length = n) (hnm : n ≤ 9223372036854775807) (hS : RowAt lyS w A S) (hok : ∀ s ∈ S, okStp s)  :
  Calls Tryz.prog 9 #[grpV g, .slice A n c, .int .i64 x] w fun e w' => e = .returned (.bool true) ∧ Below w.heap.size w w' := by
 have HAW := Lib.hid lkawake_any
 have HFW := Lib.hid (fun W (h : EntsAt W g.E G) => rfew10_is g G W h hk.lg hmx)
 have HRV := Lib.hid (fun (hs : Sm g G) W (h : GrK W g L G) => rvalid10_any g L G W h hs hw)
 have HGW := Lib.hid hw
 obtain ⟨s0, hs0⟩ : ∃ s0, w.heap.size = s0 := ⟨_, rfl⟩
 obtain ⟨w2, hw2⟩ : ∃ w2, w.alloc (.cells #[.string g.cur, .int .i64 g.cy, .int .i64 g.cm, .int .i64 g.cp, .slice g.A g.n g.c, .int .i64 g.r0, .int .i64 g.r1, .int .i64 g.r2, .int .i64 g.r3, .int .i64 g.r4, .int .i64 g.r5, .int .i64 g.r6, .int .i64 g.r7, .int .i64 g.r8, .int .i64 g.r9, .int .i64 g.r10, .int .i64 g.r11, .int .i64 g.r12, .int .i64 g.r13, .int .i64 g.r14, .slice g.E g.m g.d] 29) = w2 := ⟨_, rfl⟩
 have HGB : Hid (Wh 29 w2 s0 (grpC g)) := Lib.hid (by rw [← hw2, ← hs0]; exact Wh.new w 29 (grpC g))
 have HB2 : Hid (Below w.heap.size w w2) := Lib.hid (by rw [← hw2]; exact below_alloc_new _)
 have HKC := Lib.hid (hk.up HB2.out)
 have HSC := Lib.hid (hS.up HB2.out)
 have HOK := Lib.hid hok
 have HS0 := Lib.hid hs0
 have HNL := Lib.hid hn
 have HBC := Lib.hid (Below.refl w2.heap.size w2)
 obtain ⟨GV, hGV⟩ : ∃ GV, GV = grpV g := ⟨_, rfl⟩
 have HLG : Hid (∀ w9, Below w2.heap.size w2 w9 → (Instr.loadAt 29 (.pointer (some ⟨s0, 0, none⟩))).run Tryz.prog w9 = .ok GV w9) := Lib.hid (fun w9 h9 => by rw [hGV, grpV_is]; exact (HGB.out.up h9).rg.load 0 29 (grpC g) rfl _ Tryz.underlying29 rfl (by kernel_rfl))
 rw [← hGV] at HFW HRV
 have HGV := Lib.hid hGV
 have HLG9 := Lib.hid hk.lg
 clear hk hGV hw hS hok hn hmx
 have HM1 : True := trivial
 have HM2 : True := trivial
 have HM3 : True := trivial
 have HM4 : True := trivial
 have HM5 : True := trivial
 have HM6 : True := trivial
 cases hf : few10 g G
 ·rw [hf] at HFW
  clear hf
  go_enter Tryz.func9, Tryz.ntmps9
  go_wp2_with (first
   | (go_at_call 27; refine (HAW.out _).mono ?_; rintro e w3 ⟨rfl, hb⟩; have hB3 := Lib.hid (HBC.out.trans (hb.mono HBC.out.size)); clear hb HBC; have HBC := hB3; clear hB3)
   | (clear HM1; refine wpList_load_if (by rfl) 29 _ rfl (.pointer (some ⟨s0, 0, none⟩)) rfl GV (HLG.out _ HBC.out) ?_)
   | (go_at_call 28; refine (HFW.out _ (HKC.out.up HBC.out).he).mono ?_; rintro e w3 ⟨rfl, hb⟩; have hB3 := Lib.hid (HBC.out.trans (hb.mono HBC.out.size)); clear hb HBC; have HBC := hB3; clear hB3))
  go_ret
  exact ⟨by first | rfl | simp, (by have h9 := HB2.out.trans (HBC.out.mono HB2.out.size); first | exact h9 | (rw [← HS0.out]; exact h9))⟩
 ·rw [hf] at HFW
  have HSM := Lib.hid (few_sm hf)
  clear hf
  by_cases hl : n ≤ 30
  ·have hlz : decide ((n : Int) > 30) = false := decide_eq_false (by omega)
   have hly : decide ((30 : Int) < (n : Int)) = false := decide_eq_false (by omega)
   cases hv : grpR g L G
   ·rw [hv] at HRV
    clear hv
    go_enter Tryz.func9, Tryz.ntmps9
    go_wp2_with (first
     | (go_at_call 27; refine (HAW.out _).mono ?_; rintro e w3 ⟨rfl, hb⟩; have hB3 := Lib.hid (HBC.out.trans (hb.mono HBC.out.size)); clear hb HBC; have HBC := hB3; clear hB3)
     | (clear HM1; refine wpList_load_if (by rfl) 29 _ rfl (.pointer (some ⟨s0, 0, none⟩)) rfl GV (HLG.out _ HBC.out) ?_)
     | (go_at_call 28; refine (HFW.out _ (HKC.out.up HBC.out).he).mono ?_; rintro e w3 ⟨rfl, hb⟩; have hB3 := Lib.hid (HBC.out.trans (hb.mono HBC.out.size)); clear hb HBC; have HBC := hB3; clear hB3)
     | (clear HM2; refine wpList_load_if (by rfl) 29 _ rfl (.pointer (some ⟨s0, 0, none⟩)) rfl GV (HLG.out _ HBC.out) ?_)
     | (go_at_call 43; refine (HRV.out HSM.out _ (HKC.out.up HBC.out)).mono ?_; rintro e w3 ⟨rfl, hb⟩; have hB3 := Lib.hid (HBC.out.trans (hb.mono HBC.out.size)); clear hb HBC; have HBC := hB3; clear hB3))
    go_ret
    exact ⟨by first | rfl | simp, (by have h9 := HB2.out.trans (HBC.out.mono HB2.out.size); first | exact h9 | (rw [← HS0.out]; exact h9))⟩
   ·rw [hv] at HRV
    have HV : Hid (grpP g L G = true) := Lib.hid ((grp_eq g L G).trans hv)
    have HL30 := Lib.hid hl
    clear hv
    by_cases hx1 : 0 ≤ x
    ·have hxd : decide (x < 0) = false := decide_eq_false (by omega)
     have hlg := HLG9.out
     by_cases hx2 : x < (g.m : Int)
     ·have hxe : decide (x ≥ (g.m : Int)) = false := decide_eq_false (by omega)
      have hxf : decide ((g.m : Int) ≤ x) = false := decide_eq_false (by omega)
      have HXI : Hid (0 ≤ x ∧ x < (g.m : Int)) := Lib.hid ⟨hx1, hx2⟩
      have HFL := Lib.hid (fun W (h : GrK W g L G) (h2 : RowAt lyS W A S) => by have h9 := filled_any g L G A c S W h HSM.out HGW.out HV.out h2 HOK.out (by rw [HNL.out]; omega); rw [HNL.out, ← HGV.out] at h9; exact h9)
      obtain ⟨K, hK⟩ : ∃ K, stpsL (g.m : Int) g.cp S = K := ⟨_, rfl⟩
      have HKG : Hid (GoodL (g.m : Int) g.cp K) := Lib.hid (by rw [← hK]; exact stpsL_good _ _ _)
      have HKE := Lib.hid hK
      clear hx1 hx2 hK
      go_enter Tryz.func9, Tryz.ntmps9
      go_wp2_with (first
       | (go_at_call 27; refine (HAW.out _).mono ?_; rintro e w3 ⟨rfl, hb⟩; have hB3 := Lib.hid (HBC.out.trans (hb.mono HBC.out.size)); clear hb HBC; have HBC := hB3; clear hB3)
       | (clear HM1; refine wpList_load_if (by rfl) 29 _ rfl (.pointer (some ⟨s0, 0, none⟩)) rfl GV (HLG.out _ HBC.out) ?_)
       | (go_at_call 28; refine (HFW.out _ (HKC.out.up HBC.out).he).mono ?_; rintro e w3 ⟨rfl, hb⟩; have hB3 := Lib.hid (HBC.out.trans (hb.mono HBC.out.size)); clear hb HBC; have HBC := hB3; clear hB3)
       | (clear HM2; refine wpList_load_if (by rfl) 29 _ rfl (.pointer (some ⟨s0, 0, none⟩)) rfl GV (HLG.out _ HBC.out) ?_)
       | (go_at_call 43; refine (HRV.out HSM.out _ (HKC.out.up HBC.out)).mono ?_; rintro e w3 ⟨rfl, hb⟩; have c20 := ((HGB.out.up HBC.out).up hb).at 20 _ rfl; have hB3 := Lib.hid (HBC.out.trans (hb.mono HBC.out.size)); clear hb HBC; have HBC := hB3; clear hB3)
       | (clear HM3; refine wpList_load_is rfl 29 _ rfl (.pointer (some ⟨s0, 0, none⟩)) rfl GV (HLG.out _ HBC.out) ?_)
       | (go_at_call 44; refine (HFL.out _ (HKC.out.up HBC.out) (HSC.out.up HBC.out)).mono ?_; rintro e w4 ⟨⟨j1, rfl, hq1, hj1, hb1, hm1⟩, hb⟩; rw [HNL.out, HKE.out] at hj1; have HQ1 := Lib.hid hq1; have HJ1 := Lib.hid hj1; clear hq1 hj1 hb1 hm1; have hB3 := Lib.hid (HBC.out.trans (hb.mono HBC.out.size)); clear hb HBC; have HBC := hB3; clear hB3)
       | (go_at_call 42; refine (list_any j1 n _ _ HJ1.out (by have := HL30.out; omega)).mono ?_; rintro e w5 ⟨⟨A5, c5, rfl, hr5⟩, hb⟩; have HR5 := Lib.hid hr5; have HJ2 := Lib.hid (HJ1.out.up hb); clear hr5; have hB3 := Lib.hid (HBC.out.trans (hb.mono HBC.out.size)); clear hb HBC; have HBC := hB3; clear hB3))
      obtain ⟨m, hm⟩ : ∃ m, K.length = m := ⟨_, rfl⟩
      rw [hm]
      have HML := Lib.hid hm
      have hm30 : m ≤ 30 := by rw [← HML.out, ← HKE.out]; have := stpsL_len (g.m : Int) g.cp S; rw [HNL.out] at this; have := HL30.out; omega
      clear hm
      go_loopg [8, 52] m (fun kx s8 s52 wr => ∃ (k : Nat), s52 = .int .i64 k ∧ k ≤ m ∧ m - k ≤ kx ∧ s8 = .int .i64 (untM (K.take k) x) ∧ Hid (Below w5.heap.size w5 wr))
      case atStart => exact ⟨0, rfl, by omega, by omega, rfl, Lib.hid (Below.refl _ _)⟩
      case round =>
       obtain ⟨k, rfl, hk, hkx, rfl, HB⟩ := hrel
       by_cases hlt : k < m
       ·have hltz : (k : Int) < (m : Int) := by omega
        obtain ⟨q, hq⟩ : ∃ q, K[k]? = some q := ⟨_, List.getElem?_eq_getElem (by rw [HML.out]; exact hlt)⟩
        obtain ⟨q1, q2⟩ := q
        obtain ⟨bb, off, hA, hbl, hrg⟩ := (HR5.out.up HB.out).at hq
        subst hA
        have HLY : Hid ((Instr.loadAt 89 (.pointer (some ⟨bb, off + k * 2, none⟩))).run Tryz.prog wr = .ok (.agg #[.int .i64 q1, .int .i64 q2]) wr) := Lib.hid (run_loadAt_mid wr bb (off + k * 2) 89 [.int .i64 q1, .int .i64 q2] _ (fun jj v hv => hrg jj v hv) Tryz.underlying89 rfl (by kernel_rfl))
        have HTK : Hid (K.take (k + 1) = K.take k ++ [(q1, q2)]) := Lib.hid (by rw [List.take_add_one, hq]; rfl)
        have HP : Hid (0 ≤ q2) := Lib.hid (HKG.out.pos (q1, q2) (List.mem_of_getElem? hq))
        have HG1 := Lib.hid (untM_ge (K.take k) x)
        obtain ⟨sr, hsr⟩ : ∃ sr, wr.heap.size = sr := ⟨_, rfl⟩
        have HSR := Lib.hid hsr
        have HN0 : True := trivial
        clear hq hbl hrg
        go_upto_region 10 with (first
         | (clear HN0; refine wpList_load_is rfl 89 _ rfl (.pointer (some ⟨bb, off + k * 2, none⟩)) rfl (.agg #[.int .i64 q1, .int .i64 q2]) HLY.out ?_)
         | (refine wpList_store_wh rfl 89 _ _ rfl sr (by first | rfl | (rw [← HSR.out]; rfl)) 89 [.int .i64 0, .int .i64 0] [.int .i64 q1, .int .i64 q2] rfl (by rw [← HSR.out]; exact Wh.new wr 89 [.int .i64 0, .int .i64 0]) rfl (by kernel_rfl) (by kernel_rfl) ?_; intro w6 hr6 ho6 hz6; have HR6 := Lib.hid hr6.out; have hb6 : Below wr.heap.size wr w6 := only_new (by rw [HSR.out]; exact ho6.out); have HB6 := Lib.hid (HB.out.trans (hb6.mono HB.out.size)); clear hr6 ho6 hz6 hb6))
        have y0 := HR6.out.at 0 _ rfl
        have y1 := HR6.out.at 1 _ rfl
        obtain ⟨U, hU⟩ : ∃ U, untM (K.take k) x = U := ⟨_, rfl⟩
        rw [hU] at HG1
        have HU := Lib.hid hU
        rw [hU]
        clear hU
        by_cases he : q1 = x
        ·have he1 : (q1 == x) = true := by simp [he]
         have HUE : Hid (untM (K.take (k + 1)) x = max U q2) := Lib.hid (by rw [HTK.out, untM_snoc, if_pos he, HU.out]; have := HP.out; have := HG1.out; omega)
         clear he
         go_wp2_with fail
         go_roundg (m - (k + 1))
         case measure => omega
         case rel => exact ⟨k + 1, by go_num, by omega, by omega, by rw [HUE.out], HB6⟩
        ·have he1 : (q1 == x) = false := by simp [he]
         have HUE : Hid (untM (K.take (k + 1)) x = U) := Lib.hid (by rw [HTK.out, untM_skip he, HU.out])
         clear he
         go_wp2_with fail
         go_roundg (m - (k + 1))
         case measure => omega
         case rel => exact ⟨k + 1, by go_num, by omega, by omega, by rw [HUE.out], HB6⟩
       ·obtain rfl : m = k := by omega
        have hltz : ¬ (m : Int) < (m : Int) := by omega
        have hT : K.take m = K := List.take_of_length_le (by rw [HML.out]; exact Nat.le_refl _)
        rw [hT]
        have hx : (Lit.int .i64 x).wf = true := WalkArith.wf_i64 bx
        have HX := Lib.hid hx
        have HBR : Hid (Below w2.heap.size w2 wr) := Lib.hid (HBC.out.trans (HB.out.mono HBC.out.size))
        have HJ3 := Lib.hid (HJ2.out.up HB.out)
        obtain ⟨a1, a2, a3, a4⟩ := HQ1.out
        have HC1 : Hid (∀ d W, LK W j1 n K → Calls Tryz.prog 38 #[.pointer (some ⟨j1.b, 0, none⟩), etyV (etyD x d)] W fun r w' => r = .returned (.int .i64 (if 0 ≤ untM K x ∧ d ≤ pdL g.cy g.cm g.cp (untM K x) then 12 else 0)) ∧ Below W.heap.size W w') := Lib.hid (fun d W h => by have h9 := check_any (etyD x d) h HX.out; rw [a1, a2, a3, a4] at h9; rw [← chk_day HXI.out]; exact h9)
        have HUN : Hid (∀ W, LK W j1 n K → Calls Tryz.prog 36 #[.pointer (some ⟨j1.b, 0, none⟩), .int .i64 x] W fun r w' => r = .returned (.tuple #[.int .i64 (if 0 ≤ untM K x then pdL g.cy g.cm g.cp (untM K x) else 0), .bool (decide (0 ≤ untM K x))]) ∧ Below W.heap.size W w') := Lib.hid (fun W h => by have h9 := until_any x h HX.out; rw [a2, a3, a4] at h9; exact h9)
        have hsp := untM_spec (K := K) x HKG.out.pos
        have hCL : clV g.cy g.cm g.cp = true := grpP_lk HV.out
        have HLS : Hid (0 ≤ untM K x → ∀ W, Calls Tryz.prog 47 #[calV g.cy g.cm g.cp, .int .i64 (untM K x)] W fun e w' => e = .returned (.tuple #[.int .i64 (pdL g.cy g.cm g.cp (untM K x)), .int .i64 0]) ∧ Below W.heap.size W w') := Lib.hid (fun h W => by
         have h9 := clast7_any g.cy g.cm g.cp (untM K x) W
         rcases hsp with ⟨h1, _⟩ | ⟨_, h1, _⟩
         ·omega
         ·have h2 := (inL_iff.1 (HKG.out.inr _ h1)).2
          rw [clE_in hCL h2] at h9
          exact h9)
        have HDB := Lib.hid (cl_small (y := g.cy) (m := g.cm) (k := g.cp) (p := untM K x))
        clear HBC hT hx a1 a2 a3 a4 hsp hCL HJ1 HJ2
        have HBC := HBR
        clear HBR
        generalize untM K x = U at *
        generalize pdL g.cy g.cm g.cp U = D at *
        have HMa : True := trivial
        have HMb : True := trivial
        by_cases hU : 0 ≤ U
        ·have hU1 : decide (U < 0) = false := decide_eq_false (by omega)
         have HLS1 := Lib.hid (HLS.out hU)
         have hwD : IntKind.i64.wrap (D + 1) = D + 1 := by rw [IntKind.wrap_i64]; have := HDB.out; omega
         have HC2 := Lib.hid (HC1.out D)
         have HC3 := Lib.hid (HC1.out (D + 1))
         rw [if_pos ⟨hU, Int.le_refl D⟩] at HC2
         rw [if_neg (fun h => by omega)] at HC3
         rw [if_pos hU, decide_eq_true hU] at HUN
         clear hU HLS HC1
         obtain ⟨D2, hD2⟩ : ∃ D2, D + 1 = D2 := ⟨_, rfl⟩
         rw [hD2] at HC3
         replace hwD : IntKind.i64.wrap (D + 1) = D2 := by rw [hwD, hD2]
         have HD2 := Lib.hid hD2
         clear hD2
         go_upto_region 17 with (first
          | (go_at_call 36; refine (HUN.out _ HJ3.out).mono ?_; rintro e w7 ⟨rfl, hb⟩; have HJ4 := Lib.hid (HJ3.out.up hb); have hB3 := Lib.hid (HBC.out.trans (hb.mono HBC.out.size)); clear hb HBC; have HBC := hB3; clear hB3; have c1 := (HGB.out.up HBC.out).at 1 _ rfl; have c2 := (HGB.out.up HBC.out).at 2 _ rfl; have c3 := (HGB.out.up HBC.out).at 3 _ rfl)
          | (go_at_call 47; refine (HLS1.out _).mono ?_; rintro e w8 ⟨rfl, hb⟩; have HJ5 := Lib.hid (HJ4.out.up hb); have hB3 := Lib.hid (HBC.out.trans (hb.mono HBC.out.size)); clear hb HBC; have HBC := hB3; clear hB3))
         go_wp2_with (first
          | (clear HMa; refine wpList_build_if (by rfl) 46 _ rfl [(1, .int .i64 x), (2, .int .i64 D)] rfl (etyV (etyD x D)) (etyD_build _ _ _) ?_)
          | (go_at_call 38; first
           | (clear HMb; refine (HC2.out _ HJ5.out).mono ?_; rintro e w9 ⟨rfl, hb⟩; have HJ6 := Lib.hid (HJ5.out.up hb); have hB3 := Lib.hid (HBC.out.trans (hb.mono HBC.out.size)); clear hb HBC; have HBC := hB3; clear hB3)
           | (refine (HC3.out _ HJ6.out).mono ?_; rintro e w9 ⟨rfl, hb⟩; have hB3 := Lib.hid (HBC.out.trans (hb.mono HBC.out.size)); clear hb HBC; have HBC := hB3; clear hB3))
          | (refine wpList_build_if (by rfl) 46 _ rfl [(1, .int .i64 x), (2, .int .i64 D2)] (by first | rfl | simp [HD2.out]) (etyV (etyD x D2)) (etyD_build _ _ _) ?_))
         go_ret
         exact ⟨by first | rfl | simp, (by have h9 := HB2.out.trans (HBC.out.mono HB2.out.size); first | exact h9 | (rw [← HS0.out]; exact h9))⟩
        ·have hU1 : decide (U < 0) = true := decide_eq_true (by omega)
         have HC2 := Lib.hid (HC1.out 0)
         rw [if_neg (fun h => hU h.1)] at HC2
         rw [if_neg hU, decide_eq_false hU] at HUN
         clear hU HLS HC1
         go_wp2_with (first
          | (go_at_call 36; refine (HUN.out _ HJ3.out).mono ?_; rintro e w7 ⟨rfl, hb⟩; have HJ4 := Lib.hid (HJ3.out.up hb); have hB3 := Lib.hid (HBC.out.trans (hb.mono HBC.out.size)); clear hb HBC; have HBC := hB3; clear hB3)
          | (clear HMa; refine wpList_build_if (by rfl) 46 _ rfl [(1, .int .i64 x)] rfl (etyV (etyD x 0)) (run_build _ 46 _ _ (by kernel_rfl)) ?_)
          | (go_at_call 38; refine (HC2.out _ HJ4.out).mono ?_; rintro e w9 ⟨rfl, hb⟩; have hB3 := Lib.hid (HBC.out.trans (hb.mono HBC.out.size)); clear hb HBC; have HBC := hB3; clear hB3))
         go_ret
         exact ⟨by first | rfl | simp, (by have h9 := HB2.out.trans (HBC.out.mono HB2.out.size); first | exact h9 | (rw [← HS0.out]; exact h9))⟩
     ·have hxe : decide (x ≥ (g.m : Int)) = true := decide_eq_true (by omega)
      have hxf : decide ((g.m : Int) ≤ x) = true := decide_eq_true (by omega)
      clear hx1 hx2
      go_enter Tryz.func9, Tryz.ntmps9
      go_wp2_with (first
       | (go_at_call 27; refine (HAW.out _).mono ?_; rintro e w3 ⟨rfl, hb⟩; have hB3 := Lib.hid (HBC.out.trans (hb.mono HBC.out.size)); clear hb HBC; have HBC := hB3; clear hB3)
       | (clear HM1; refine wpList_load_if (by rfl) 29 _ rfl (.pointer (some ⟨s0, 0, none⟩)) rfl GV (HLG.out _ HBC.out) ?_)
       | (go_at_call 28; refine (HFW.out _ (HKC.out.up HBC.out).he).mono ?_; rintro e w3 ⟨rfl, hb⟩; have hB3 := Lib.hid (HBC.out.trans (hb.mono HBC.out.size)); clear hb HBC; have HBC := hB3; clear hB3)
       | (clear HM2; refine wpList_load_if (by rfl) 29 _ rfl (.pointer (some ⟨s0, 0, none⟩)) rfl GV (HLG.out _ HBC.out) ?_)
       | (go_at_call 43; refine (HRV.out HSM.out _ (HKC.out.up HBC.out)).mono ?_; rintro e w3 ⟨rfl, hb⟩; have c20 := ((HGB.out.up HBC.out).up hb).at 20 _ rfl; have hB3 := Lib.hid (HBC.out.trans (hb.mono HBC.out.size)); clear hb HBC; have HBC := hB3; clear hB3))
      go_ret
      exact ⟨by first | rfl | simp, (by have h9 := HB2.out.trans (HBC.out.mono HB2.out.size); first | exact h9 | (rw [← HS0.out]; exact h9))⟩
    ·have hxd : decide (x < 0) = true := decide_eq_true (by omega)
     have hlg := HLG9.out
     clear hx1
     go_enter Tryz.func9, Tryz.ntmps9
     go_wp2_with (first
      | (go_at_call 27; refine (HAW.out _).mono ?_; rintro e w3 ⟨rfl, hb⟩; have hB3 := Lib.hid (HBC.out.trans (hb.mono HBC.out.size)); clear hb HBC; have HBC := hB3; clear hB3)
      | (clear HM1; refine wpList_load_if (by rfl) 29 _ rfl (.pointer (some ⟨s0, 0, none⟩)) rfl GV (HLG.out _ HBC.out) ?_)
      | (go_at_call 28; refine (HFW.out _ (HKC.out.up HBC.out).he).mono ?_; rintro e w3 ⟨rfl, hb⟩; have hB3 := Lib.hid (HBC.out.trans (hb.mono HBC.out.size)); clear hb HBC; have HBC := hB3; clear hB3)
      | (clear HM2; refine wpList_load_if (by rfl) 29 _ rfl (.pointer (some ⟨s0, 0, none⟩)) rfl GV (HLG.out _ HBC.out) ?_)
      | (go_at_call 43; refine (HRV.out HSM.out _ (HKC.out.up HBC.out)).mono ?_; rintro e w3 ⟨rfl, hb⟩; have c20 := ((HGB.out.up HBC.out).up hb).at 20 _ rfl; have hB3 := Lib.hid (HBC.out.trans (hb.mono HBC.out.size)); clear hb HBC; have HBC := hB3; clear hB3))
     go_ret
     exact ⟨by first | rfl | simp, (by have h9 := HB2.out.trans (HBC.out.mono HB2.out.size); first | exact h9 | (rw [← HS0.out]; exact h9))⟩
  ·have hlz : decide ((n : Int) > 30) = true := decide_eq_true (by omega)
   have hly : decide ((30 : Int) < (n : Int)) = true := decide_eq_true (by omega)
   clear hl
   go_enter Tryz.func9, Tryz.ntmps9
   go_wp2_with (first
    | (go_at_call 27; refine (HAW.out _).mono ?_; rintro e w3 ⟨rfl, hb⟩; have hB3 := Lib.hid (HBC.out.trans (hb.mono HBC.out.size)); clear hb HBC; have HBC := hB3; clear hB3)
    | (clear HM1; refine wpList_load_if (by rfl) 29 _ rfl (.pointer (some ⟨s0, 0, none⟩)) rfl GV (HLG.out _ HBC.out) ?_)
    | (go_at_call 28; refine (HFW.out _ (HKC.out.up HBC.out).he).mono ?_; rintro e w3 ⟨rfl, hb⟩; have hB3 := Lib.hid (HBC.out.trans (hb.mono HBC.out.size)); clear hb HBC; have HBC := hB3; clear hB3))
   go_ret
   exact ⟨by first | rfl | simp, (by have h9 := HB2.out.trans (HBC.out.mono HB2.out.size); first | exact h9 | (rw [← HS0.out]; exact h9))⟩
open Go.ChangeShapes Go.WideShapes Go.ChangeAt Go.WideMaps Go.WideElems Go.RowKit Go.Deep Go.Joins
section
variable {H : Type} {enc : TypeId × Value → H} {P : Program} {W : World}
theorem open_nums {E I : TypeId} {fs : Array Field} {fuel : Nat} {cs : List Value} {x : DataW H × List MemPlace} (hE : P.underlying E = some (.struct fs))
  (hone : oneCellFields P fs = true) (hty : (fs.toList.all fun f => f.type == I) = true) (hI : P.underlying I = some (.int .i64))
  (hl : cs.length = fs.size) (h2 : DataW.trod enc P W 0 (fun _ => true) true fuel E cs = some x) :
  ∀ j, j < fs.size → ∃ z : Int, cs[j]? = some (.int .i64 z) ∧ (Lit.int .i64 z).wf = true := by
 intro j hj
 obtain ⟨xs, n', -, -, -, hxl, hff⟩ := DataW.trod_struct hE h2
 have hfj : fs[j]? = some fs[j] := Array.getElem?_eq_getElem hj
 obtain ⟨ho, hk1⟩ := hone_of hone j _ hfj
 have ht : fs[j].type = I := by
  have := List.all_eq_true.1 hty fs[j] (by simp)
  simpa using this
 have hxj : xs[j]? = some (xs[j]'(by omega)) := List.getElem?_eq_getElem (by omega)
 have h3 := hff j _ hfj
 rw [ho, hk1, ht, hxj] at h3
 obtain ⟨z, hz, -, hw⟩ := DataW.trod_int hI h3
 refine ⟨z, ?_, hw⟩
 have h5 : (cs.drop j).take 1 = [cs[j]'(by omega)] := by
  rw [List.drop_eq_getElem_cons (by omega)]; rfl
 rw [h5] at hz
 rw [List.getElem?_eq_getElem (by omega)]
 injection hz with hz
 rw [hz]
end
theorem cells21 {cs : List Value} (h : cs.length = 21) : ∃ c0 c1 c2 c3 c4 c5 c6 c7 c8 c9 c10 c11 c12 c13 c14 c15 c16 c17 c18 c19 c20, cs = [c0, c1, c2, c3, c4, c5, c6, c7, c8, c9, c10, c11, c12, c13, c14, c15, c16, c17, c18, c19, c20] := by
 match cs, h with
 | [c0, c1, c2, c3, c4, c5, c6, c7, c8, c9, c10, c11, c12, c13, c14, c15, c16, c17, c18, c19, c20], _ => exact ⟨c0, c1, c2, c3, c4, c5, c6, c7, c8, c9, c10, c11, c12, c13, c14, c15, c16, c17, c18, c19, c20, rfl⟩
section
variable {H : Type} {enc : TypeId × Value → H} {W : World}
set_option maxRecDepth 100000 in
theorem open_igrp {b0 : Nat} {v : Value} {d : DataW H} {p : List MemPlace} (hval : Value.okWide Tryz.prog W .any b0 29 v) (h : DataW.Trod enc Tryz.prog W 0 (fun _ => true) true 29 v d p) :
  ∃ g L G, v = grpV g ∧ GrK W g L G ∧ GrW g L G ∧ g.m ≤ 9223372036854775807 := by
 obtain ⟨cs, rfl, hsz⟩ := okWide_struct Tryz.underlying29 hval
 obtain ⟨fuel, hf⟩ := h
 have hcs : (Value.agg cs).cells.toList = cs.toList := by simp [Value.cells]
 rw [hcs] at hf
 obtain ⟨xs, n', -, -, hlen, hxl, hff⟩ := DataW.trod_struct Tryz.underlying29 hf
 have hC : Tryz.prog.cellsOf 29 = 21 := by kernel_rfl
 rw [hC] at hlen
 obtain ⟨c0, c1, c2, c3, c4, c5, c6, c7, c8, c9, c10, c11, c12, c13, c14, c15, c16, c17, c18, c19, c20, e21⟩ := cells21 hlen
 have k9 : Tryz.prog.cellsOf 9 = 1 := by kernel_rfl
 have kc : Tryz.prog.cellsOf 23 = 3 := by kernel_rfl
 have ka : Tryz.prog.cellsOf 24 = 1 := by kernel_rfl
 have kr : Tryz.prog.cellsOf 26 = 15 := by kernel_rfl
 have ke : Tryz.prog.cellsOf 27 = 1 := by kernel_rfl
 have hxl' : xs.length = 5 := hxl
 have hget : ∀ i, i < 5 → ∃ y, xs[i]? = some y := fun i hi => ⟨_, List.getElem?_eq_getElem (by omega)⟩
 have h0 : DataW.trod enc Tryz.prog W 0 (fun _ => true) true n' 9 ((cs.toList.drop 0).take (Tryz.prog.cellsOf 9)) = xs[0]? := hff 0 _ rfl
 have h1 : DataW.trod enc Tryz.prog W 0 (fun _ => true) true n' 23 ((cs.toList.drop 1).take (Tryz.prog.cellsOf 23)) = xs[1]? := hff 1 _ rfl
 have h2 : DataW.trod enc Tryz.prog W 0 (fun _ => true) true n' 24 ((cs.toList.drop 4).take (Tryz.prog.cellsOf 24)) = xs[2]? := hff 2 _ rfl
 have h3 : DataW.trod enc Tryz.prog W 0 (fun _ => true) true n' 26 ((cs.toList.drop 5).take (Tryz.prog.cellsOf 26)) = xs[3]? := hff 3 _ rfl
 have h4 : DataW.trod enc Tryz.prog W 0 (fun _ => true) true n' 27 ((cs.toList.drop 20).take (Tryz.prog.cellsOf 27)) = xs[4]? := hff 4 _ rfl
 obtain ⟨y0, e0⟩ := hget 0 (by omega)
 obtain ⟨y1, e1⟩ := hget 1 (by omega)
 obtain ⟨y2, e2⟩ := hget 2 (by omega)
 obtain ⟨y3, e3⟩ := hget 3 (by omega)
 obtain ⟨y4, e4⟩ := hget 4 (by omega)
 rw [e0, k9, e21] at h0
 rw [e1, kc, e21] at h1
 rw [e2, ka, e21] at h2
 rw [e3, kr, e21] at h3
 rw [e4, ke, e21] at h4
 have n1 := open_nums (cs := [c1, c2, c3]) Tryz.underlying23 (by kernel_rfl) (by kernel_rfl) Tryz.underlying3 rfl h1
 have n3 := open_nums (cs := [c5, c6, c7, c8, c9, c10, c11, c12, c13, c14, c15, c16, c17, c18, c19]) Tryz.underlying26 (by kernel_rfl) (by kernel_rfl) Tryz.underlying3 rfl h3
 obtain ⟨cur, q0, -, bc⟩ := DataW.trod_string Tryz.underlying9 h0
 obtain ⟨A, n, c, L, q4, ln, -, hz, wa⟩ := open_waccs Tryz.underlying24 Tryz.underlying151 (by kernel_rfl) (by kernel_rfl) (by kernel_rfl) Tryz.underlying3 h2
 obtain ⟨X, m, cap, G, q20, lg, hmx, he, hk, hb⟩ := open_entsC Tryz.underlying27 h4
 obtain ⟨z1, p1, -⟩ := n1 0 (by decide)
 obtain ⟨z2, p2, -⟩ := n1 1 (by decide)
 obtain ⟨z3, p3, -⟩ := n1 2 (by decide)
 obtain ⟨r0, s0, w0⟩ := n3 0 (by decide)
 obtain ⟨r1, s1, w1⟩ := n3 1 (by decide)
 obtain ⟨r2, s2, w2⟩ := n3 2 (by decide)
 obtain ⟨r3, s3, w3⟩ := n3 3 (by decide)
 obtain ⟨r4, s4, w4⟩ := n3 4 (by decide)
 obtain ⟨r5, s5, w5⟩ := n3 5 (by decide)
 obtain ⟨r6, s6, w6⟩ := n3 6 (by decide)
 obtain ⟨r7, s7, w7⟩ := n3 7 (by decide)
 obtain ⟨r8, s8, w8⟩ := n3 8 (by decide)
 obtain ⟨r9, s9, w9⟩ := n3 9 (by decide)
 obtain ⟨r10, s10, w10⟩ := n3 10 (by decide)
 obtain ⟨r11, s11, w11⟩ := n3 11 (by decide)
 obtain ⟨r12, s12, w12⟩ := n3 12 (by decide)
 obtain ⟨r13, s13, w13⟩ := n3 13 (by decide)
 obtain ⟨r14, s14, w14⟩ := n3 14 (by decide)
 have a0 : c0 = .string cur := by simpa using q0
 have a4 : c4 = .slice A n c := by simpa using q4
 have a20 : c20 = .slice X m cap := by simpa using q20
 have b1 : c1 = .int .i64 z1 := by simpa using p1
 have b2 : c2 = .int .i64 z2 := by simpa using p2
 have b3 : c3 = .int .i64 z3 := by simpa using p3
 have t0 : c5 = .int .i64 r0 := by simpa using s0
 have t1 : c6 = .int .i64 r1 := by simpa using s1
 have t2 : c7 = .int .i64 r2 := by simpa using s2
 have t3 : c8 = .int .i64 r3 := by simpa using s3
 have t4 : c9 = .int .i64 r4 := by simpa using s4
 have t5 : c10 = .int .i64 r5 := by simpa using s5
 have t6 : c11 = .int .i64 r6 := by simpa using s6
 have t7 : c12 = .int .i64 r7 := by simpa using s7
 have t8 : c13 = .int .i64 r8 := by simpa using s8
 have t9 : c14 = .int .i64 r9 := by simpa using s9
 have t10 : c15 = .int .i64 r10 := by simpa using s10
 have t11 : c16 = .int .i64 r11 := by simpa using s11
 have t12 : c17 = .int .i64 r12 := by simpa using s12
 have t13 : c18 = .int .i64 r13 := by simpa using s13
 have t14 : c19 = .int .i64 r14 := by simpa using s14
 subst a0 a4 a20 b1 b2 b3 t0 t1 t2 t3 t4 t5 t6 t7 t8 t9 t10 t11 t12 t13 t14
 refine ⟨⟨cur, z1, z2, z3, A, n, c, r0, r1, r2, r3, r4, r5, r6, r7, r8, r9, r10, r11, r12, r13, r14, X, m, cap⟩, L, G, ?_, ⟨ln, lg, hz, he, hk⟩, ⟨bc, fun x hx => ?_, hb⟩, hmx⟩
 ·rw [← Array.toArray_toList (xs := cs), e21]
 ·simp only [Grp.R, List.mem_cons, List.mem_nil_iff, or_false] at hx
  rcases hx with rfl | rfl | rfl | rfl | rfl | rfl | rfl | rfl | rfl | rfl | rfl | rfl | rfl | rfl | rfl
  ·exact w0
  ·exact w1
  ·exact w2
  ·exact w3
  ·exact w4
  ·exact w5
  ·exact w6
  ·exact w7
  ·exact w8
  ·exact w9
  ·exact w10
  ·exact w11
  ·exact w12
  ·exact w13
  ·exact w14
end
open Go.ChangeShapes Go.WideShapes Go.ChangeAt Go.WideMaps Go.WideElems Go.RowKit Go.Deep Go.Joins
theorem list_of_all {α : Type} {S : Nat → α → Prop} : ∀ n : Nat, (∀ k, k < n → ∃ a, S k a) → ∃ L : List α, L.length = n ∧ ∀ k, k < n → ∃ a, L[k]? = some a ∧ S k a
 | 0, _ => ⟨[], rfl, fun k h => absurd h (by omega)⟩
 | n + 1, h => by
  obtain ⟨L, hl, hL⟩ := list_of_all n fun k hk => h k (by omega)
  obtain ⟨a, ha⟩ := h n (by omega)
  refine ⟨L ++ [a], by simp [hl], fun k hk => ?_⟩
  rcases Nat.lt_or_ge k n with h1 | h1
  ·obtain ⟨b, hb, hs⟩ := hL k h1
   exact ⟨b, by rw [List.getElem?_append_left (by omega)]; exact hb, hs⟩
  ·obtain rfl : k = n := by omega
   exact ⟨a, by rw [List.getElem?_append_right (by omega), hl]; simp, ha⟩
section
variable {H : Type} {enc : TypeId × Value → H} {P : Program} {W : World}
theorem open_rowsG {α : Type} (R : Lay α) {T E : TypeId} {fuel : Nat} {cs : List Value} {x : DataW H × List MemPlace} (hT : P.underlying T = some (.slice E)) (hC : P.cellsOf E = R.s) (q : α → Prop)
  (hread : ∀ fuel cs x, DataW.trod enc P W 0 (fun _ => true) true fuel E cs = some x → ∃ a, cs = R.cel a ∧ q a)
  (hf : DataW.trod enc P W 0 (fun _ => true) true fuel T cs = some x) :
  ∃ A len cap L, cs = [.slice A len cap] ∧ L.length = len ∧ len ≤ 9223372036854775807 ∧ RowAt R W A L ∧ ∀ a ∈ L, q a := by
 rcases open_slice hT hf with ⟨hcs, -⟩ | ⟨a, len, cap, m, n, D, Pl, hcs, -, hl, hm, hmm, -, hx⟩
 ·exact ⟨none, 0, 0, [], hcs, rfl, by omega, RowAt.nil, fun a ha => by cases ha⟩
 ·simp only [if_true] at hmm
  subst hmm
  unfold maxLen at hm
  have key : ∀ k, k < len → ∃ y : α, (∀ j v, (R.cel y)[j]? = some v → W.cell? (a.add (k * R.s + j)) = some v) ∧ q y := by
   intro k hk
   obtain ⟨cs', h1, h2⟩ := hx k (by omega)
   rw [hC] at h1
   obtain ⟨_, hlen, hcell⟩ := World.cells?_some h1
   obtain ⟨y, rfl, hq⟩ := hread _ _ _ h2
   refine ⟨y, fun j v hj => ?_, hq⟩
   have hjl : j < (R.cel y).length := (List.getElem?_eq_some_iff.1 hj).1
   have h4 := hcell j (by rw [R.len] at hjl; omega)
   rw [add_add] at h4
   rw [h4, hj]
  obtain ⟨L, hLl, hL⟩ := list_of_all len key
  obtain ⟨b, off, spot⟩ := a
  refine ⟨_, len, _, L, hcs, hLl, by omega, fun h0 => ?_, fun y hy => ?_⟩
  ·rw [hLl] at h0
   obtain ⟨y0, hy0, hc0, -⟩ := hL 0 h0
   have hz0 := hc0 0 _ (List.getElem?_eq_getElem (by rw [R.len]; exact R.pos))
   have hspot : spot = none := by simpa [Addr.add] using World.cell?_spot hz0
   subst hspot
   have hlt : b < W.heap.size := by
    rcases Nat.lt_or_ge b W.heap.size with hlt | hge
    ·exact hlt
    ·unfold World.cell? at hz0
     rw [show (Addr.add ⟨b, off, none⟩ (0 * R.s + 0)).block = b from by rw [block_add], Array.getElem?_eq_none hge] at hz0
     simp at hz0
   refine ⟨b, off, rfl, hlt, fun j v hj => ?_⟩
   have hjl : j < len * R.s := by
    rw [← hLl, ← R.all_len]
    exact (List.getElem?_eq_some_iff.1 hj).1
   have hs := R.pos
   have hi : j / R.s < len := Nat.div_lt_of_lt_mul (by rw [Nat.mul_comm]; exact hjl)
   obtain ⟨y, hy, hc, -⟩ := hL (j / R.s) hi
   have hr : j % R.s < R.s := Nat.mod_lt _ hs
   have he : j / R.s * R.s + j % R.s = j := by rw [Nat.mul_comm]; exact Nat.div_add_mod _ _
   have h5 := hc (j % R.s) v (by rw [← R.get L (j / R.s) y hy _ hr, he]; exact hj)
   rw [he, Go.WideShapes.add_plain] at h5
   exact h5
  ·obtain ⟨k, hk⟩ := List.getElem?_of_mem hy
   have hkl : k < len := by rw [← hLl]; exact (List.getElem?_eq_some_iff.1 hk).1
   obtain ⟨z, hz, -, hq⟩ := hL k hkl
   rw [hk] at hz
   injection hz with hz
   subst hz
   exact hq
end
theorem cells3R {cs : List Value} (h : cs.length = 3) : ∃ c0 c1 c2, cs = [c0, c1, c2] := by
 match cs, h with
 | [c0, c1, c2], _ => exact ⟨c0, c1, c2, rfl⟩
section
variable {H : Type} {enc : TypeId × Value → H} {W : World}
set_option maxRecDepth 100000 in
theorem open_stpC {fuel : Nat} {cs : List Value} {x : DataW H × List MemPlace} (hf : DataW.trod enc Tryz.prog W 0 (fun _ => true) true fuel 73 cs = some x) : ∃ a : Stp, cs = stpC a ∧ okStp a := by
 obtain ⟨xs, n', -, -, hlen, hxl, hff⟩ := DataW.trod_struct Tryz.underlying73 hf
 have hC : Tryz.prog.cellsOf 73 = 3 := by kernel_rfl
 rw [hC] at hlen
 obtain ⟨c0, c1, c2, e7⟩ := cells3R hlen
 have hxl' : xs.length = 3 := hxl
 have hget : ∀ i, i < 3 → ∃ y, xs[i]? = some y := fun i hi => ⟨_, List.getElem?_eq_getElem (by omega)⟩
 have kb : Tryz.prog.cellsOf 4 = 1 := by kernel_rfl
 have ki : Tryz.prog.cellsOf 3 = 1 := by kernel_rfl
 have h0 : DataW.trod enc Tryz.prog W 0 (fun _ => true) true n' 3 ((cs.drop 0).take (Tryz.prog.cellsOf 3)) = xs[0]? := hff 0 _ rfl
 obtain ⟨y0, e0⟩ := hget 0 (by omega)
 rw [e0, ki, e7] at h0
 have h1 : DataW.trod enc Tryz.prog W 0 (fun _ => true) true n' 3 ((cs.drop 1).take (Tryz.prog.cellsOf 3)) = xs[1]? := hff 1 _ rfl
 obtain ⟨y1, e1⟩ := hget 1 (by omega)
 rw [e1, ki, e7] at h1
 have h2 : DataW.trod enc Tryz.prog W 0 (fun _ => true) true n' 4 ((cs.drop 2).take (Tryz.prog.cellsOf 4)) = xs[2]? := hff 2 _ rfl
 obtain ⟨y2, e2⟩ := hget 2 (by omega)
 rw [e2, kb, e7] at h2
 obtain ⟨z0, q0, -, w0⟩ := DataW.trod_int Tryz.underlying3 h0
 have a0 : c0 = .int .i64 z0 := by simpa using q0
 obtain ⟨z1, q1, -, w1⟩ := DataW.trod_int Tryz.underlying3 h1
 have a1 : c1 = .int .i64 z1 := by simpa using q1
 obtain ⟨z2, q2, -⟩ := DataW.trod_bool Tryz.underlying4 h2
 have a2 : c2 = .bool z2 := by simpa using q2
 subst a0 a1 a2
 exact ⟨⟨z0, z1, z2⟩, e7, w0, w1⟩
set_option maxRecDepth 100000 in
theorem open_istp {b0 : Nat} {v : Value} {d : DataW H} {p : List MemPlace} (hval : Value.okWide Tryz.prog W .any b0 73 v) (h : DataW.Trod enc Tryz.prog W 0 (fun _ => true) true 73 v d p) :
  ∃ a : Stp, v = stpV a ∧ okStp a := by
 obtain ⟨cs, rfl, hsz⟩ := okWide_struct Tryz.underlying73 hval
 obtain ⟨fuel, hf⟩ := h
 have hcs : (Value.agg cs).cells.toList = cs.toList := by simp [Value.cells]
 rw [hcs] at hf
 obtain ⟨a, ha, hq⟩ := open_stpC hf
 exact ⟨a, by rw [← Array.toArray_toList (xs := cs), ha]; rfl, hq⟩
set_option maxRecDepth 100000 in
theorem open_istps {b0 : Nat} {v : Value} {d : DataW H} {p : List MemPlace} (hval : Value.okWide Tryz.prog W .any b0 62 v) (h : DataW.Trod enc Tryz.prog W 0 (fun _ => true) true 62 v d p) :
  ∃ A len c S, v = .slice A len c ∧ S.length = len ∧ len ≤ 9223372036854775807 ∧ RowAt lyS W A S ∧ ∀ s ∈ S, okStp s := by
 obtain ⟨a0, len, cap, rfl⟩ := okWide_slice Tryz.underlying62 hval
 obtain ⟨fuel, hf⟩ := h
 obtain ⟨A, len', c, S, hcs, hl, hm, hr, hq⟩ := open_rowsG lyS Tryz.underlying62 (by kernel_rfl) okStp (fun _ _ _ h => open_stpC h) hf
 simp [Value.cells] at hcs
 obtain ⟨rfl, rfl, rfl⟩ := hcs
 exact ⟨_, _, _, S, rfl, hl, hm, hr, hq⟩
end
section
variable {H : Type} {enc : TypeId × Value → H} {P : Program} {w : World} {r : Reach} {b0 base : Nat} {t e : TypeId} {k : IntKind} {spare : Nat → Bool} {held : Bool} {v : Value} {d : DataW H} {ps : List MemPlace}
end
end Go.Proofs.YtaeccljkmijpaaaGreat
