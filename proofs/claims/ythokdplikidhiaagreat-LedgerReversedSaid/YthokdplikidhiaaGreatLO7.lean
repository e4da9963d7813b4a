/- Contracts of the functions that the statements reach, part 7: what was proved of each, callees first. -/
import Derived.Shelf.SlGeneric
import Derived.Test.YthokdplikidhiaaGreatLO6
namespace Go.Proofs.YthokdplikidhiaaGreat
open Go.RowKit Go.Shelf
theorem lndV_is (q : LnD) : lndV q = .agg (lndC q).toArray := rfl
set_option maxRecDepth 100000 in
theorem lbal1_any (q : LnD) (b1 : Nat) (a : Int) (W : World) (h1 : Wh 3 W b1 [.int .i64 a]) : Calls Tryz.prog 96 #[lndV q, .pointer (some ⟨b1, 0, none⟩)] W fun r W' => r = .returned (.bool (lcB a q)) ∧ Below W.heap.size W W' := by
 obtain ⟨xs, hxs⟩ : ∃ xs, (lndC q).toArray = xs := ⟨_, rfl⟩
 rw [lndV_is, hxs]
 obtain ⟨s0, hs0⟩ : ∃ s0, W.heap.size = s0 := ⟨_, rfl⟩
 obtain ⟨w2, hw2⟩ : ∃ w2, W.alloc (.cells xs 112) = w2 := ⟨_, rfl⟩
 have HXB : Wh 112 w2 s0 (lndC q) := by rw [← hw2, ← hs0, ← hxs]; exact Wh.new W _ _
 have HB2 : Hid (Below W.heap.size W w2) := Lib.hid (by rw [← hw2]; exact below_alloc_new _)
 have HS0 := Lib.hid hs0
 have p0 := HXB.at 0 _ rfl
 have p1 := HXB.at 1 _ rfl
 have p3 := HXB.at 3 _ rfl
 have k1 := (h1.up HB2.out).at 0 _ rfl
 clear hxs HXB h1
 unfold lcB
 by_cases he : q.1.frm = a
 ·have e1 : (q.1.frm == a) = true := by simp [he]
  rw [decide_eq_true he]
  clear he
  go_enter Tryz.func96, Tryz.ntmps96
  go_wp2_with fail
  go_ret
  exact ⟨by first | rfl | simp, by have h9 := HB2.out; first | exact h9 | (rw [← HS0.out]; exact h9)⟩
 ·have e1 : (q.1.frm == a) = false := by simp [he]
  rw [decide_eq_false he]
  clear he
  go_enter Tryz.func96, Tryz.ntmps96
  go_wp2_with fail
  go_ret
  exact ⟨by first | rfl | simp, by have h9 := HB2.out; first | exact h9 | (rw [← HS0.out]; exact h9)⟩
def lnuV (b1 b2 b3 : Nat) : Value := .func (.func 99) #[] #[.pointer (some ⟨b1, 0, none⟩), .pointer (some ⟨b2, 0, none⟩), .pointer (some ⟨b3, 0, none⟩)]
def LnuQ (A : Option Addr) (n c : Nat) (e hi : Int) (r : Ending) (W : World) : Prop := ∃ b1 b2 b3, r = .returned (lnuV b1 b2 b3) ∧ Wh 30 W b1 [.slice A n c] ∧ Wh 3 W b2 [.int .i64 e] ∧ Wh 3 W b3 [.int .i64 hi]
set_option maxRecDepth 100000 in
theorem lnu_any (A : Option Addr) (n c : Nat) (e hi : Int) (w : World) : Calls Tryz.prog 67 #[.slice A n c, .int .i64 e, .int .i64 hi] w fun r w' => LnuQ A n c e hi r w' ∧ Below w.heap.size w w' := by
 have H1 := Wh.new w 30 [.slice A n c]
 have H2 := Wh.new (w.alloc (.cells #[.slice A n c] 30)) 3 [.int .i64 e]
 have H3 := Wh.new ((w.alloc (.cells #[.slice A n c] 30)).alloc (.cells #[.int .i64 e] 3)) 3 [.int .i64 hi]
 simp only [World.size_alloc] at H2 H3
 have HB := below_new (below_new (below_alloc_new (w := w) (.cells #[.slice A n c] 30)) (.cells #[.int .i64 e] 3)) (.cells #[.int .i64 hi] 3)
 have HQ : Hid (∀ r, r = .returned (lnuV w.heap.size (w.heap.size + 1) (w.heap.size + 1 + 1)) → LnuQ A n c e hi r (((w.alloc (.cells #[.slice A n c] 30)).alloc (.cells #[.int .i64 e] 3)).alloc (.cells #[.int .i64 hi] 3))) := Lib.hid (fun r h => ⟨_, _, _, h, (H1.up (below_alloc_new _)).up (below_alloc_new _), H2.up (below_alloc_new _), H3⟩)
 have HB9 := Lib.hid HB
 clear H1 H2 H3 HB
 go_enter Tryz.func67, Tryz.ntmps67
 go_wp2_with fail
 go_ret
 exact ⟨HQ.out _ rfl, HB9.out⟩
set_option maxRecDepth 100000 in
set_option maxHeartbeats 3200000 in
theorem lbal_any (A : Option Addr) (c : Nat) (Xs : List Etl) (e a hi : Int) (w : World) (hz : RowAt lyX w A (Xs.map (·.1))) (hzs : EtysK w Xs) (hzn : ∀ p ∈ Xs, p.2.length ≤ 1000) (hl : Xs.length ≤ 100000) :
  Calls Tryz.prog 63 #[.slice A Xs.length c, .int .i64 e, .int .i64 a, .int .i64 hi] w fun r w' => r = .returned (.int .i64 (wr (balS Xs e a hi))) ∧ Below w.heap.size w w' := by
 obtain ⟨s0, hs0⟩ : ∃ s0, w.heap.size = s0 := ⟨_, rfl⟩
 obtain ⟨w2, hw2⟩ : ∃ w2, w.alloc (.cells #[.int .i64 a] 3) = w2 := ⟨_, rfl⟩
 have HAB : Hid (Wh 3 w2 s0 [.int .i64 a]) := Lib.hid (by rw [← hw2, ← hs0]; exact Wh.new w _ _)
 have HB2 : Hid (Below w.heap.size w w2) := Lib.hid (by rw [← hw2]; exact below_alloc_new _)
 have HSU : Hid (∀ W b1 b2 b3, Below w2.heap.size w2 W → Wh 30 W b1 [.slice A Xs.length c] → Wh 3 W b2 [.int .i64 e] → Wh 3 W b3 [.int .i64 hi] → Calls Tryz.prog 68 #[lnuV b1 b2 b3, .func (.func 96) #[] #[.pointer (some ⟨s0, 0, none⟩)]] W fun r w' => r = .returned (.int .i64 (wrap64 (balS Xs e a hi))) ∧ Below W.heap.size W w') := Lib.hid (fun W b1 b2 b3 hb h1 h2 h3 =>
  lsum_any 96 #[.pointer (some ⟨s0, 0, none⟩)] (enters_of Tryz.func96 (by kernel_rfl) rfl) (lcB a) b1 b2 b3 A c Xs e hi W (fun W2 q h => lbal1_any q s0 a W2 ((HAB.out.up hb).up h)) h1 h2 h3 ((hz.up HB2.out).up hb) ((hzs.up HB2.out).up hb) hzn hl)
 obtain ⟨n, hn⟩ : ∃ n, Xs.length = n := ⟨_, rfl⟩
 rw [hn] at HSU ⊢
 have HLU := Lib.hid (fun W => lnu_any A n c e hi W)
 have HS0 := Lib.hid hs0
 obtain ⟨BV, hBV⟩ : ∃ BV, wrap64 (balS Xs e a hi) = BV := ⟨_, rfl⟩
 rw [hBV] at HSU
 rw [show wr (balS Xs e a hi) = BV from hBV]
 clear hz hzs hzn hl hn hBV
 go_enter Tryz.func63, Tryz.ntmps63
 go_wp2_with (first
  | (go_at_call 67; refine (HLU.out _).mono ?_; rintro r w3 ⟨⟨b1, b2, b3, rfl, k1, k2, k3⟩, hb⟩; have HK1 := Lib.hid k1; have HK2 := Lib.hid k2; have HK3 := Lib.hid k3; have HB3 := Lib.hid hb; clear k1 k2 k3 hb)
  | (go_at_call 68; refine (HSU.out _ _ _ _ HB3.out HK1.out HK2.out HK3.out).mono ?_; rintro r w4 ⟨rfl, hb⟩; have HB4 := Lib.hid (HB3.out.trans (hb.mono HB3.out.size)); clear hb))
 go_ret
 exact ⟨rfl, by have h9 := HB2.out.trans (HB4.out.mono HB2.out.size); first | exact h9 | (rw [← HS0.out]; exact h9)⟩
open Go.RowKit
def getE (Es : List PE) (id : Int) : Option PE := Es.find? fun e => decide (e.id = id)
theorem idx_get : ∀ (Es : List PE) (id : Int), Es[idxP Es id]? = getE Es id
 | [], _ => rfl
 | e :: Es, id => by
  have ih := idx_get Es id
  unfold idxP getE at ih ⊢
  by_cases h : e.id = id
  ·rw [List.findIdx_cons, List.find?_cons]; simp [h]
  ·rw [List.findIdx_cons, List.find?_cons]; simp [h]; exact ih
theorem idx_lt (Es : List PE) (id : Int) : idxP Es id < Es.length ↔ (getE Es id).isSome = true := by
 rw [← idx_get]
 constructor
 ·intro h; rw [List.getElem?_eq_getElem h]; rfl
 ·intro h
  obtain ⟨e, he⟩ := Option.isSome_iff_exists.1 h
  exact (List.getElem?_eq_some_iff.1 he).1
theorem getE_app (Es Fs : List PE) (id : Int) : getE (Es ++ Fs) id = (getE Es id).or (getE Fs id) := by unfold getE; rw [List.find?_append]
theorem getE_one (x : PE) (id : Int) : getE [x] id = if x.id = id then some x else none := by
 unfold getE
 rw [List.find?_cons]
 by_cases h : x.id = id <;> simp [h]
theorem revO_app (Es Fs : List PE) (id : Int) : revO (Es ++ Fs) id = (revO Es id).or (revO Fs id) := by unfold revO; rw [List.find?_append]
theorem revO_one (x : PE) (id : Int) : revO [x] id = if isRv id x = true then some x else none := by
 unfold revO
 rw [List.find?_cons]
 by_cases h : isRv id x = true <;> simp [h]
theorem getE_mem {Es : List PE} {id : Int} {e : PE} (h : getE Es id = some e) : e ∈ Es ∧ e.id = id := by
 unfold getE at h
 exact ⟨List.mem_of_find?_eq_some h, by simpa using List.find?_some h⟩
theorem getE_none {Es : List PE} {id : Int} (h : getE Es id = none) : ∀ e ∈ Es, e.id ≠ id := by
 unfold getE at h
 rw [List.find?_eq_none] at h
 intro e he h2
 exact h e he (by simp [h2])
def PosE (Es : List PE) : Prop := ∀ e ∈ Es, 1 ≤ e.id
theorem rev_ne {Es : List PE} (h : PosE Es) (id : Int) : revP Es id ≠ 0 ↔ (revO Es id).isSome = true := by
 unfold revP
 cases hr : revO Es id with
 | none => simp
 | some e =>
  have := h e (List.mem_of_find?_eq_some hr)
  simp
  omega
def RvOk (Es : List PE) (x : PE) : Prop := x.kind = 3 → ∃ e, getE Es x.of_ = some e ∧ e.kind ≠ 3 ∧ revO Es x.of_ = none ∧ e.ent = x.ent ∧ ¬ x.day < e.day ∧ oppB x.ls e.ls = true
theorem rvE_ok {Es : List PE} (hp : PosE Es) (x : PE) : rvE Es x = 0 ↔ RvOk Es x := by
 unfold rvE RvOk
 by_cases hk : x.kind = 3
 ·rw [if_pos hk, idx_get]
  cases hg : getE Es x.of_ with
  | none => simp [hk]
  | some e =>
   have hr := rev_ne hp x.of_
   simp only [hk, true_implies]
   by_cases h1 : e.kind = 3
   ·simp [h1]
   ·by_cases h2 : revP Es x.of_ = 0
    ·have h3 : revO Es x.of_ = none := by
      cases h4 : revO Es x.of_ with
      | none => rfl
      | some y => exact absurd h2 (hr.2 (by rw [h4]; rfl))
     by_cases h5 : e.ent = x.ent <;> by_cases h6 : x.day < e.day <;> by_cases h7 : oppB x.ls e.ls = true <;> first | (simp [h1, h2, h3, h5, h6, h7]; done) | (simp [h1, h2, h3, h5, h6, h7]; omega)
    ·have h3 : revO Es x.of_ ≠ none := fun h4 => by
      have := hr.1 h2
      rw [h4] at this; cases this
     simp [h1, h2, h3]
 ·rw [if_neg hk]; simp [hk]
theorem post_ok {c : Int} {Es : List PE} (hp : PosE Es) (x : PE) : postE c Es x = 0 ↔ c = 0 ∧ getE Es x.id = none ∧ RvOk Es x ∧ Es.length < 2000 := by
 have h9 : idxP Es x.id < Es.length ↔ getE Es x.id ≠ none := by rw [idx_lt]; cases getE Es x.id <;> simp
 constructor
 ·intro h
  obtain ⟨h0, h1, h2, h3⟩ := fst4_zero h
  refine ⟨h0, ?_, (rvE_ok hp x).1 h2, ?_⟩
  ·cases h4 : getE Es x.id with
   | none => rfl
   | some e => rw [if_pos (h9.2 (by rw [h4]; simp))] at h1; cases h1
  ·rcases Nat.lt_or_ge Es.length 2000 with h5 | h5
   ·exact h5
   ·rw [if_pos h5] at h3; cases h3
 ·rintro ⟨h0, h1, h2, h3⟩
  unfold postE fst4
  rw [if_pos h0, if_neg (fun h4 => h9.1 h4 h1), if_pos rfl, (rvE_ok hp x).2 h2, if_pos rfl, if_neg (by omega)]
def pst (ck : Etl → Int) (Xs : List Etl) (i : Nat) : Int := match Xs[i]? with | some p => postE (ck p) ((Xs.take i).map pe) (pe p) | none => 0
def vldB (ck : Etl → Int) (Xs : List Etl) : Bool := allTo (fun i => decide (pst ck Xs i = 0)) Xs.length
theorem vldB_is {ck : Etl → Int} {Xs : List Etl} : vldB ck Xs = true ↔ ∀ i, i < Xs.length → pst ck Xs i = 0 := by
 unfold vldB
 rw [allTo_is]
 simp
theorem pst_app {ck : Etl → Int} {X Y : List Etl} {i : Nat} (h : i < X.length) : pst ck (X ++ Y) i = pst ck X i := by
 unfold pst
 rw [List.getElem?_append_left h, List.take_append_of_le_length (Nat.le_of_lt h)]
theorem pst_last (ck : Etl → Int) (X : List Etl) (p : Etl) : pst ck (X ++ [p]) X.length = postE (ck p) (X.map pe) (pe p) := by
 unfold pst
 rw [List.getElem?_append_right (Nat.le_refl _), Nat.sub_self, List.take_left' rfl]
 rfl
theorem vld_snoc {ck : Etl → Int} {X : List Etl} {p : Etl} : vldB ck (X ++ [p]) = true ↔ vldB ck X = true ∧ postE (ck p) (X.map pe) (pe p) = 0 := by
 rw [vldB_is, vldB_is]
 constructor
 ·intro h
  exact ⟨fun i hi => by rw [← pst_app (Y := [p]) hi]; exact h i (by simp; omega), by rw [← pst_last]; exact h _ (by simp)⟩
 ·rintro ⟨h1, h2⟩ i hi
  rw [List.length_append, List.length_singleton] at hi
  rcases Nat.lt_or_ge i X.length with h3 | h3
  ·rw [pst_app h3]; exact h1 i h3
  ·obtain rfl : i = X.length := by omega
   rw [pst_last]; exact h2
theorem vld_pre {ck : Etl → Int} {X Y : List Etl} (h : vldB ck (X ++ Y) = true) : vldB ck X = true := by
 rw [vldB_is] at h ⊢
 exact fun i hi => by rw [← pst_app (Y := Y) hi]; exact h i (by rw [List.length_append]; omega)
theorem vld_ck {ck : Etl → Int} {Xs : List Etl} (h : vldB ck Xs = true) : ∀ p ∈ Xs, ck p = 0 := by
 intro p hp
 obtain ⟨i, hi, rfl⟩ := List.getElem_of_mem hp
 have h1 := vldB_is.1 h i hi
 unfold pst at h1
 rw [List.getElem?_eq_getElem hi] at h1
 exact (fst4_zero h1).1
theorem vld_pos {ck : Etl → Int} (hck : ∀ p, ck p = 0 → 1 ≤ p.1.id) {Xs : List Etl} (h : vldB ck Xs = true) : PosE (Xs.map pe) := by
 intro e he
 obtain ⟨p, hp, rfl⟩ := List.mem_map.1 he
 exact hck p (vld_ck h p hp)
structure LkS (Es Fs : List PE) : Prop where
 g : ∀ id, getE Es id = getE Fs id
 r : ∀ id, revO Es id = revO Fs id
 l : Es.length = Fs.length
theorem LkS.snoc {Es Fs : List PE} (h : LkS Es Fs) (x : PE) : LkS (Es ++ [x]) (Fs ++ [x]) :=
 ⟨fun id => by rw [getE_app, getE_app, h.g], fun id => by rw [revO_app, revO_app, h.r], by rw [List.length_append, List.length_append, h.l]⟩
theorem LkS.post {Es Fs : List PE} (h : LkS Es Fs) (hp : PosE Es) (hq : PosE Fs) {c : Int} {x : PE} (h0 : postE c Es x = 0) : postE c Fs x = 0 := by
 rw [post_ok hq]
 rw [post_ok hp] at h0
 obtain ⟨a, b, d, e⟩ := h0
 refine ⟨a, by rw [← h.g]; exact b, fun hk => ?_, by rw [← h.l]; exact e⟩
 obtain ⟨y, y1, y2, y3, y4⟩ := d hk
 exact ⟨y, by rw [← h.g]; exact y1, y2, by rw [← h.r]; exact y3, y4⟩
theorem vld_more {ck : Etl → Int} (hck : ∀ p, ck p = 0 → 1 ≤ p.1.id) {A B : List Etl} (hs : LkS (A.map pe) (B.map pe)) (hB : vldB ck B = true) : ∀ (n : Nat) (Y : List Etl), Y.length = n → vldB ck (A ++ Y) = true → vldB ck (B ++ Y) = true ∧ LkS ((A ++ Y).map pe) ((B ++ Y).map pe)
 | 0, Y, hn, _ => by
  obtain rfl : Y = [] := List.eq_nil_of_length_eq_zero hn
  rw [List.append_nil, List.append_nil]
  exact ⟨hB, hs⟩
 | n + 1, Y, hn, h => by
  have hY : Y ≠ [] := fun e => by rw [e] at hn; cases hn
  obtain ⟨Z, p, rfl⟩ : ∃ Z p, Y = Z ++ [p] := ⟨Y.dropLast, Y.getLast hY, (List.dropLast_concat_getLast hY).symm⟩
  rw [← List.append_assoc] at h ⊢
  rw [← List.append_assoc]
  obtain ⟨h1, h2⟩ := vld_snoc.1 h
  obtain ⟨h3, h4⟩ := vld_more hck hs hB n Z (by rw [List.length_append] at hn; simpa using hn) h1
  refine ⟨vld_snoc.2 ⟨h3, h4.post (vld_pos hck h1) (vld_pos hck h3) h2⟩, ?_⟩
  have h5 := h4.snoc (pe p)
  simpa only [List.map_append, List.map_cons, List.map_nil] using h5
theorem vld_swap {ck : Etl → Int} (hck : ∀ p, ck p = 0 → 1 ≤ p.1.id) {X Y : List Etl} {p q : Etl} (h : vldB ck (X ++ p :: q :: Y) = true) (hpq : ¬ (q.1.kind = 3 ∧ q.1.of_ = p.1.id)) : vldB ck (X ++ q :: p :: Y) = true := by
 have e1 : X ++ p :: q :: Y = (X ++ [p] ++ [q]) ++ Y := by simp
 have e2 : X ++ q :: p :: Y = (X ++ [q] ++ [p]) ++ Y := by simp
 rw [e1] at h
 rw [e2]
 have h0 := vld_pre h
 obtain ⟨h1, h2⟩ := vld_snoc.1 h0
 obtain ⟨h3, h4⟩ := vld_snoc.1 h1
 have hpX := vld_pos hck h3
 have hpP := vld_pos hck h1
 rw [post_ok hpX] at h4
 rw [post_ok hpP] at h2
 obtain ⟨a1, a2, a3, a4⟩ := h4
 obtain ⟨b1, b2, b3, b4⟩ := h2
 rw [List.map_append, getE_app, Option.or_eq_none_iff] at b2
 have hne : (pe p).id ≠ (pe q).id := getE_none b2.2 _ (by simp)
 have hrq : ∀ id, ¬ (isRv id (pe p) = true ∧ isRv id (pe q) = true) := by
  rintro id ⟨r1, r2⟩
  unfold isRv at r1 r2
  simp only [Bool.and_eq_true, decide_eq_true_eq] at r1 r2
  obtain ⟨y, -, -, y3, -⟩ := b3 r2.1
  rw [List.map_append, revO_app, Option.or_eq_none_iff] at y3
  have y4 := y3.2
  rw [List.map_cons, List.map_nil, revO_one] at y4
  rw [if_pos (by unfold isRv; simp [r1.1, r1.2, r2.2])] at y4
  cases y4
 have c1 : vldB ck (X ++ [q]) = true := vld_snoc.2 ⟨h3, by
  rw [post_ok hpX]
  refine ⟨b1, b2.1, fun hk => ?_, a4⟩
  obtain ⟨y, y1, y2, y3, y4⟩ := b3 hk
  rw [List.map_append, getE_app] at y1
  rw [List.map_append, revO_app, Option.or_eq_none_iff] at y3
  refine ⟨y, ?_, y2, y3.1, y4⟩
  cases hg : getE (X.map pe) (pe q).of_ with
  | some z => rw [hg] at y1; exact y1
  | none =>
   rw [hg, Option.none_or, List.map_cons, List.map_nil, getE_one, if_neg (fun e => hpq ⟨hk, e.symm⟩)] at y1
   cases y1⟩
 have hpQ := vld_pos hck c1
 have c2 : vldB ck (X ++ [q] ++ [p]) = true := vld_snoc.2 ⟨c1, by
  rw [post_ok hpQ, List.map_append]
  refine ⟨a1, ?_, fun hk => ?_, by rw [List.length_append]; rw [List.map_append, List.length_append] at b4; simpa using b4⟩
  ·rw [getE_app, a2, Option.none_or, List.map_cons, List.map_nil, getE_one, if_neg (fun e => hne e.symm)]
  ·obtain ⟨y, y1, y2, y3, y4⟩ := a3 hk
   refine ⟨y, by rw [getE_app, y1]; rfl, y2, ?_, y4⟩
   rw [revO_app, y3, Option.none_or, List.map_cons, List.map_nil, revO_one, if_neg]
   intro hr
   exact hrq _ ⟨by unfold isRv; simp [hk], hr⟩⟩
 refine (vld_more hck ⟨fun id => ?_, fun id => ?_, ?_⟩ c2 Y.length Y rfl h).1
 ·simp only [List.map_append, List.map_cons, List.map_nil, getE_app, getE_one, Option.or_assoc]
  congr 1
  by_cases g1 : (pe p).id = id <;> by_cases g2 : (pe q).id = id <;> simp [g1, g2]
  exact absurd (g1.trans g2.symm) hne
 ·simp only [List.map_append, List.map_cons, List.map_nil, revO_app, revO_one, Option.or_assoc]
  congr 1
  by_cases g1 : isRv id (pe p) = true <;> by_cases g2 : isRv id (pe q) = true <;> simp [g1, g2]
  exact absurd ⟨g1, g2⟩ (hrq id)
 ·simp
theorem fnd_noPar (L : List Acc) (c : Int) : fnd (L.map noPar) c = (fnd L c).map noPar := by
 unfold fnd
 rw [List.find?_map]
 rfl
theorem getD_noPar (L : List Acc) (k : Nat) : (L.map noPar).getD k acc0 = noPar (L.getD k acc0) := by
 rw [List.getD_eq_getElem?_getD, List.getD_eq_getElem?_getD, List.getElem?_map]
 cases L[k]? <;> rfl
theorem lastC_noPar (L : List Acc) (k : Nat) : lastC (L.map noPar) k = lastC L k := by
 cases k with
 | zero => rfl
 | succ k => rw [lastC_succ, lastC_succ, getD_noPar]; rfl
theorem codesTo_noPar (L : List Acc) (k : Nat) : codesTo (L.map noPar) k = codesTo L k := by
 induction k with
 | zero => rfl
 | succ k ih => rw [codes_succ, codes_succ, ih, lastC_noPar, getD_noPar]; rfl
theorem lastC_nn {L : List Acc} : ∀ {k : Nat}, codesTo L k = true → 0 ≤ lastC L k ∧ ∀ i, i < k → 0 < (L.getD i acc0).code
 | 0, _ => ⟨Int.le_refl _, fun i h => by omega⟩
 | k + 1, h => by
  rw [codes_succ, Bool.and_eq_true, decide_eq_true_eq] at h
  obtain ⟨h1, h2⟩ := lastC_nn h.1
  have h3 := h.2
  refine ⟨by rw [lastC_succ]; omega, fun i hi => ?_⟩
  rcases Nat.lt_or_ge i k with h4 | h4
  ·exact h2 i h4
  ·obtain rfl : i = k := by omega
   omega
theorem fnd_zero {L : List Acc} (h : codesTo L L.length = true) : fnd L 0 = none := by
 cases h1 : fnd L 0 with
 | none => rfl
 | some a =>
  obtain ⟨h2, h3⟩ := fnd_some h1
  obtain ⟨i, hi, e⟩ := List.getElem_of_mem h2
  have h4 := (lastC_nn h).2 i hi
  rw [List.getD_eq_getElem?_getD, List.getElem?_eq_getElem hi] at h4
  simp only [Option.getD_some] at h4
  rw [e, h3] at h4
  omega
theorem vB_noPar {L : List Acc} {g : Bool} (h : vB L g = true) : vB (L.map noPar) g = true := by
 unfold vB at h ⊢
 simp only [Bool.and_eq_true, decide_eq_true_eq] at h ⊢
 obtain ⟨⟨⟨⟨h1, h2⟩, h3⟩, h4⟩, h5⟩ := h
 have h2' := h2
 unfold codesB at h2
 simp only [Bool.and_eq_true] at h2
 have hc : codesTo (L.map noPar) (L.map noPar).length = true := by rw [codesTo_noPar, List.length_map]; exact h2.1
 refine ⟨⟨⟨⟨by rw [List.length_map]; exact h1, ?_⟩, ?_⟩, ?_⟩, ?_⟩
 ·unfold codesB
  simp only [Bool.and_eq_true]
  exact ⟨hc, by rw [lastC_noPar, List.length_map]; exact h2.2⟩
 ·unfold kindsB at h3 ⊢
  rw [List.all_map]
  exact h3
 ·unfold parentsB
  rw [List.all_map]
  exact List.all_eq_true.2 fun a _ => by simp [parB, noPar]
 ·unfold topsB
  rw [List.all_map]
  refine List.all_eq_true.2 fun a ha => ?_
  show topB (L.map noPar) (noPar a) = true
  unfold topB
  rw [decide_eq_true_eq]
  have hpos : 0 < (L.map noPar).length := by rw [List.length_map]; exact List.length_pos_of_mem ha
  unfold climb
  cases hf : fnd (L.map noPar) (noPar a).code with
  | none => rw [climbN_none hf]; simp
  | some b =>
   rw [climbN_some hf]
   have hb : b.par = 0 := by
    rw [fnd_noPar] at hf
    cases h6 : fnd L (noPar a).code with
    | none => rw [h6] at hf; cases hf
    | some d => rw [h6] at hf; injection hf with hf; rw [← hf]; rfl
   rw [hb, climbN_none (fnd_zero hc)]
   rw [List.length_singleton]
   exact hpos
theorem fndA_noPar (L : List Acc) (c : Int) : fndA (L.map noPar) c = noPar (fndA L c) := by
 unfold fndA
 rw [fnd_noPar]
 cases fnd L c <;> rfl
theorem chaB_noPar {L : List Acc} (h : chaB L = true) : chaB (L.map noPar) = true := by
 unfold chaB at h ⊢
 rw [Bool.and_eq_true] at h ⊢
 refine ⟨vB_noPar h.1, ?_⟩
 rw [List.all_map]
 exact h.2
theorem allTo_same {p q : Nat → Bool} : ∀ {n : Nat}, (∀ i, i < n → p i = q i) → allTo p n = allTo q n
 | 0, _ => rfl
 | n + 1, h => by
  show (allTo p n && p n) = (allTo q n && q n)
  rw [allTo_same fun i hi => h i (by omega), h n (by omega)]
theorem rlsB_noPar (L : List Acc) (R : List Int) : rlsB (L.map noPar) R = rlsB L R := by
 unfold rlsB
 congr 1
 refine allTo_same fun i _ => ?_
 unfold chkR
 rw [fndA_noPar, fnd_noPar]
 cases fnd L (R.getD i 0) <;> rfl
theorem bar_at {P G : List Ent} (h : Bar P G) (i : Nat) (hi : i < G.length) : (P.getD i ent0).nm = (G.getD i ent0).nm ∧ (P.getD i ent0).cur = (G.getD i ent0).cur ∧ (P.getD i ent0).L = (G.getD i ent0).L.map noPar ∧ (P.getD i ent0).K = [] ∧ (P.getD i ent0).jt = (G.getD i ent0).jt := by
 have hl := h.len
 have h1 : (P.map strE)[i]? = (G.map fun e => strE (bareE e none 0))[i]? := by rw [show P.map strE = G.map fun e => strE (bareE e none 0) from h]
 rw [List.getElem?_map, List.getElem?_map, List.getElem?_eq_getElem hi, List.getElem?_eq_getElem (by omega)] at h1
 simp only [Option.map_some, Option.some.injEq] at h1
 rw [List.getD_eq_getElem?_getD, List.getD_eq_getElem?_getD, List.getElem?_eq_getElem hi, List.getElem?_eq_getElem (by omega : i < P.length)]
 simp only [Option.getD_some]
 unfold strE bareE at h1
 injection h1 with e1 e2 e3 e4 e5 e6 e7 e8 e9 e10 e11
 exact ⟨e1, e2, e10, e11, e9⟩
theorem ensP_bar {L : List Acc} {R : List Int} {P G : List Ent} (hc : vB (L.map noPar) true = true) (hb : Bar P G) (h : ensP L R G = true) : ensP (L.map noPar) R P = true := by
 unfold ensP at h ⊢
 simp only [Bool.and_eq_true, decide_eq_true_eq, Bool.not_eq_true'] at h ⊢
 obtain ⟨h1, h2, h3, h4⟩ := h
 have hl := hb.len
 refine ⟨by omega, by omega, by rw [(bar_at hb 0 (by omega)).2.2.2.2]; exact h3, ?_⟩
 rw [hl]
 rw [← h4]
 refine allTo_same fun i hi => ?_
 have h5 : rowP L R G i = true := by
  have h6 := allTo_le (k := i + 1) (by omega) h4
  have h7 : (allTo (rowP L R G) i && rowP L R G i) = true := h6
  rw [Bool.and_eq_true] at h7
  exact h7.2
 rw [h5]
 unfold rowP at h5 ⊢
 rw [Bool.and_eq_true] at h5 ⊢
 obtain ⟨b1, b2, b3, b4, b5⟩ := bar_at hb i hi
 refine ⟨?_, ?_⟩
 ·rw [← h5.1]
  unfold dsN
  exact allTo_same fun k hk => by rw [(bar_at hb k (by omega)).1, b1]
 ·have h8 := h5.2
  unfold enpB at h8 ⊢
  simp only [Bool.and_eq_true] at h8 ⊢
  rw [b1, b2, b3, b4]
  refine ⟨h8.1, h8.2.1, ?_, rfl⟩
  have h9 := h8.2.2.1
  unfold mvB at h9 ⊢
  simp only [Bool.and_eq_true] at h9 ⊢
  exact ⟨hc, vB_noPar h9.2.1, by decide, rfl, rfl⟩
theorem grpP_bare {g : Grp} {L : List Acc} {G : List Ent} {j : JD} (hb : BareD g L G j) (h : grpP g L G = true) : grpP j.g j.L j.G = true := by
 obtain ⟨A, c, E, d, e1, e2, e3⟩ := hb
 unfold grpP at h ⊢
 rw [e1, e2]
 simp only [Bool.and_eq_true] at h ⊢
 obtain ⟨h1, h2, h3, h4, h5⟩ := h
 have hc := chaB_noPar h3
 refine ⟨h1, h2, hc, ?_, ?_⟩
 ·rw [rlsB_noPar]; exact h4
 ·have hv := hc
  unfold chaB at hv
  rw [Bool.and_eq_true] at hv
  exact ensP_bar hv.1 e3 h5
theorem acB_noPar (L : List Acc) (X : List Lnk) : acB (L.map noPar) X = acB L X := by
 unfold acB
 congr 1
 funext l
 rw [fnd_noPar]
 cases fnd L l.frm <;> rfl
theorem chk_bare {g : Grp} {L : List Acc} {G : List Ent} {j : JD} (hb : BareD g L G j) (h : grpP g L G = true) (hlg : G.length = g.m) (x : Ety) (X : List Lnk) (hx : X.length = x.n) : chkN j.g x X j.L j.G = rchkN (shpB (grpR g L G) g x X) (acB (G.getD x.ent.toNat ent0).L X) (rtlN g x X) := by
 rw [← chk_eq g x X L G hx]
 have hv := grpP_bare hb h
 obtain ⟨A, c, E, d, e1, e2, e3⟩ := hb
 unfold chkN hdN
 rw [hv, h]
 rw [e1]
 show fst6 (if (true && (decide (1 ≤ x.id) && (entIn g x.ent && orgB x.kind x.of_))) = true then 0 else 1) (erB (txtB x.txt)) (erB (lsB g x.ent X)) (er17 (acB (j.G.getD x.ent.toNat ent0).L X)) (prE g.cy g.cm g.cp x.day) (blN X) = _
 cases hE : entIn g x.ent with
 | false => rw [if_neg (by simp)]; rfl
 | true =>
  have hi : x.ent.toNat < G.length := by
   unfold entIn at hE
   simp only [Bool.and_eq_true, decide_eq_true_eq] at hE
   omega
  rw [(bar_at e3 _ hi).2.2.1, acB_noPar]
def ckE (g : Grp) (L : List Acc) (G : List Ent) (p : Etl) : Int := rchkN (shpB (grpR g L G) g p.1 p.2) (acB (G.getD p.1.ent.toNat ent0).L p.2) (rtlN g p.1 p.2)
def jrnB (g : Grp) (L : List Acc) (G : List Ent) (Xs : List Etl) : Bool := grpP g L G && vldB (ckE g L G) Xs
def ChkQ (b0 : Bool) (e : Ending) : Prop := ∃ a b : Int, e = .returned (.tuple #[.int .i64 a, .int .i64 b]) ∧ (b = 0 ↔ b0 = true)
theorem ChkQ.bad {b0 : Bool} {a b : Int} (h : b ≠ 0) (h0 : b0 = false) : ChkQ b0 (.returned (.tuple #[.int .i64 a, .int .i64 b])) := ⟨a, b, rfl, by rw [h0]; simp [h]⟩
theorem ChkQ.good {b0 : Bool} {a : Int} (h0 : b0 = true) : ChkQ b0 (.returned (.tuple #[.int .i64 a, .int .i64 0])) := ⟨a, 0, rfl, by rw [h0]; simp⟩
theorem pst_at {ck : Etl → Int} {Xs : List Etl} {i : Nat} {p : Etl} (h : Xs[i]? = some p) : pst ck Xs i = postE (ck p) ((Xs.take i).map pe) (pe p) := by unfold pst; rw [h]
theorem vld_bad {ck : Etl → Int} {Xs : List Etl} {i : Nat} (hi : i < Xs.length) (h : pst ck Xs i ≠ 0) : vldB ck Xs = false := by
 cases h1 : vldB ck Xs with
 | false => rfl
 | true => exact absurd (vldB_is.1 h1 i hi) h
structure JS (g : Grp) (L : List Acc) (G : List Ent) (Xs : List Etl) (w2 : World) (i : Nat) (jb : Nat) (j : JD) (M : Nat → Prop) (W : World) : Prop where
 jk : JK M w2.heap.size W j
 jb : j.b = jb
 bd : BareD g L G j
 es : j.Es = (Xs.take i).map pe
 mw : ∀ k, M k → w2.heap.size ≤ k ∧ k < W.heap.size
 low : Below w2.heap.size w2 W
section
variable {g : Grp} {L : List Acc} {G : List Ent} {Xs : List Etl} {w2 W W' : World} {i jb : Nat} {j : JD} {M : Nat → Prop}
theorem JS.up (h : JS g L G Xs w2 i jb j M W) (hb : Below W.heap.size W W') : JS g L G Xs w2 i jb j M W' :=
 ⟨h.jk.up hb, h.jb, h.bd, h.es, fun k hk => ⟨(h.mw k hk).1, Nat.lt_of_lt_of_le (h.mw k hk).2 hb.size⟩, h.low.trans (hb.mono h.low.size)⟩
theorem JS.len (h : JS g L G Xs w2 i jb j M W) : j.n ≤ i := by
 have h1 := h.jk.len
 rw [h.es, List.length_map] at h1
 have := List.length_take_le i Xs
 omega
theorem JS.post {x : Ety} {X : List Lnk} (h : JS g L G Xs w2 i jb j M W) (hx : Xs[i]? = some (x, X)) (hp : PostP M w2.heap.size j x X W W') : ∃ j' M', JS g L G Xs w2 (i + 1) jb j' M' W' := by
 obtain ⟨A, c, A', c', h1, h2, h3, -⟩ := hp
 refine ⟨j.add (x.at A c) X A' c', MA M j A' c', h1, h.jb, h.bd, by rw [JD.add_es, h.es, take_succ_at hx, List.map_append]; rfl, fun k hk => ?_, h.low.trans (h2.below (fun k hk => (h.mw k hk).1) h.low.size)⟩
 obtain ⟨h4, h5⟩ := h3 k hk
 refine ⟨?_, h5⟩
 rcases h4 with h4 | h4
 ·exact (h.mw k h4).1
 ·have := h.low.size; omega
theorem JS.start {j0 : JD} {M0 : Nat → Prop} {w3 : World} (hj0 : JK M0 w2.heap.size w3 j0) (hx0 : j0.Xs = []) (hm0 : ∀ k, M0 k → w2.heap.size ≤ k ∧ k < w3.heap.size) (hd0 : BareD g L G j0) (hb : Below w2.heap.size w2 w3) : JS g L G Xs w2 0 j0.b j0 M0 w3 :=
 ⟨hj0, rfl, hd0, (by unfold JD.Es; rw [hx0]; first | done | rfl), hm0, hb⟩
end
def XsW (Xs : List Etl) : Prop := ∀ p ∈ Xs, p.1.n ≤ 1000 ∧ p.1.txt.size ≤ maxLen ∧ (Lit.int .i64 p.1.id).wf = true ∧ (Lit.int .i64 p.1.of_).wf = true
set_option maxRecDepth 100000 in
set_option maxHeartbeats 12800000 in
theorem jcheck_any (g : Grp) (L : List Acc) (G : List Ent) (A : Option Addr) (c : Nat) (Xs : List Etl) (w : World) (hk : GrK w g L G) (hs : Sm g G) (hw : GrW g L G) (hz : RowAt lyX w A (Xs.map (·.1))) (hzs : EtysK w Xs) (hl : Xs.length ≤ 100) (hxs : XsW Xs) :
  Calls Tryz.prog 94 #[grpV g, .slice A Xs.length c] w fun e w' => ChkQ (jrnB g L G Xs) e ∧ Below w.heap.size w w' := by
 have HNW := Lib.hid (fun W (h : GrK W g L G) => new_any g L G W h hs hw)
 obtain ⟨n, hnn⟩ : ∃ n, Xs.length = n := ⟨_, rfl⟩
 obtain ⟨GV, hGV⟩ : ∃ GV, GV = grpV g := ⟨_, rfl⟩
 rw [← hGV] at HNW
 obtain ⟨gs, hgs⟩ : ∃ gs, (grpC g).toArray = gs := ⟨_, rfl⟩
 rw [show grpV g = .agg gs by rw [grpV_is, hgs]]
 obtain ⟨s0, hs0⟩ : ∃ s0, w.heap.size = s0 := ⟨_, rfl⟩
 obtain ⟨w2, hw2⟩ : ∃ w2, w.alloc (.cells gs 29) = w2 := ⟨_, rfl⟩
 have HGB : Hid (Wh 29 w2 s0 (grpC g)) := Lib.hid (by rw [← hw2, ← hgs, ← hs0]; exact Wh.new w _ _)
 have HB2 : Hid (Below w.heap.size w w2) := Lib.hid (by rw [← hw2]; exact below_alloc_new _)
 have HKC := Lib.hid (hk.up HB2.out)
 have HS0 := Lib.hid hs0
 have HZ2 := Lib.hid (hz.up HB2.out)
 have HZS := Lib.hid (hzs.up HB2.out)
 have HXS := Lib.hid hxs
 have HNN := Lib.hid hnn
 have HL100 : Hid (n ≤ 100) := Lib.hid (by rw [← hnn]; exact hl)
 have HLG : Hid (∀ W, Below w2.heap.size w2 W → (Instr.loadAt 29 (.pointer (some ⟨s0, 0, none⟩))).run Tryz.prog W = .ok GV W) := Lib.hid (fun W h => by rw [hGV, grpV_is]; exact (HGB.out.up h).rg.load 0 29 (grpC g) rfl _ Tryz.underlying29 rfl (by kernel_rfl))
 have HBW : Hid (∀ W, Below w2.heap.size w2 W → Below w.heap.size w W) := Lib.hid (fun W h => HB2.out.trans (h.mono HB2.out.size))
 rw [hnn]
 clear hk hs hw hz hzs hl hxs hnn hgs hGV
 have HM1 : True := trivial
 cases hv : grpP g L G
 ·have HJ : Hid (jrnB g L G Xs = false) := Lib.hid (by unfold jrnB; rw [hv]; rfl)
  have HNQ : Hid (∀ B e w', NewP g L G B e w' → e = .returned (.tuple #[.pointer none, .int .i64 1])) := Lib.hid (fun B e w' h => by unfold NewP at h; rw [hv] at h; simpa using h)
  clear hv
  go_enter Tryz.func94, Tryz.ntmps94
  go_wp2_with (first
   | (clear HM1; refine wpList_load_is rfl 29 _ rfl (.pointer (some ⟨s0, 0, none⟩)) rfl GV (HLG.out _ (Below.refl _ _)) ?_)
   | (go_at_call 41; refine (HNW.out _ HKC.out).mono ?_; rintro e w3 ⟨hq, hb⟩; obtain rfl := HNQ.out _ _ _ hq; clear hq; have HB3 := Lib.hid hb; clear hb))
  go_ret2
  exact ⟨ChkQ.bad (by decide) HJ.out, by have h9 := HBW.out _ HB3.out; first | exact h9 | (rw [← HS0.out]; exact h9)⟩
 ·have HV := Lib.hid hv
  have HNQ : Hid (∀ B e w', NewP g L G B e w' → ∃ j M, e = .returned (.tuple #[.pointer (some ⟨j.b, 0, none⟩), .int .i64 0]) ∧ JK M B w' j ∧ j.Xs = [] ∧ (∀ k, M k → B ≤ k ∧ k < w'.heap.size) ∧ BareD g L G j) := Lib.hid (fun B e w' h => by unfold NewP at h; rw [hv, if_pos rfl] at h; exact h)
  clear hv
  go_enter Tryz.func94, Tryz.ntmps94
  go_wp2_with (first
   | (clear HM1; refine wpList_load_is rfl 29 _ rfl (.pointer (some ⟨s0, 0, none⟩)) rfl GV (HLG.out _ (Below.refl _ _)) ?_)
   | (go_at_call 41; refine (HNW.out _ HKC.out).mono ?_; rintro e w3 ⟨hq, hb⟩; obtain ⟨j0, M0, rfl, hj0, hx0, hm0, hd0⟩ := HNQ.out _ _ _ hq; clear hq; have HP0 := Lib.hid (JS.start (Xs := Xs) hj0 hx0 hm0 hd0 hb); clear hb hj0 hx0 hm0 hd0))
  obtain ⟨jb, hjb⟩ : ∃ jb, j0.b = jb := ⟨_, rfl⟩
  rw [hjb] at HP0 ⊢
  clear hjb
  go_loopg [21] n (fun kx s21 wr => ∃ (i : Nat), s21 = .int .i64 (i : Int) ∧ i ≤ n ∧ n - i ≤ kx ∧ Hid (∀ t, t < i → pst (ckE g L G) Xs t = 0) ∧ Hid (∃ j M, JS g L G Xs w2 i jb j M wr))
  case atStart => exact ⟨0, rfl, by omega, by omega, Lib.hid (fun t h => by omega), Lib.hid ⟨j0, M0, HP0.out⟩⟩
  case round =>
   obtain ⟨i, rfl, hi, hkx, HALL, HL⟩ := hrel
   obtain ⟨j, M, hps⟩ := HL.out
   clear HL
   by_cases hlt : i < n
   ·have hltz : (i : Int) < (n : Int) := by omega
    obtain ⟨p, hp⟩ : ∃ p, Xs[i]? = some p := ⟨_, List.getElem?_eq_getElem (by rw [HNN.out]; exact hlt)⟩
    have hpm := List.mem_of_getElem? hp
    have hym : (Xs.map (·.1))[i]? = some p.1 := by rw [List.getElem?_map, hp]; rfl
    have hkk := HZS.out p hpm
    obtain ⟨hp1, hp2, hp3, hp4⟩ := HXS.out p hpm
    obtain ⟨bb, off, hA, hbl, hrg⟩ := HZ2.out.at hym
    subst hA
    obtain ⟨x, X⟩ := p
    have HLX : Hid (∀ W, Below w2.heap.size w2 W → (Instr.loadAt 46 (.pointer (some ⟨bb, off + i * 7, none⟩))).run Tryz.prog W = .ok (etyV x) W) := Lib.hid (fun W hW => by rw [etyV_is]; exact run_loadAt_mid W bb (off + i * 7) 46 (etyC x) _ (fun jj v hv => (hW.cell (p := ⟨bb, off + i * 7 + jj, none⟩) hbl).trans (hrg jj v hv)) Tryz.underlying46 rfl (by kernel_rfl))
    have HEK : Hid (∀ W, Below w2.heap.size w2 W → EtyK W x X) := Lib.hid (fun W hW => hkk.up hW)
    have HPS := Lib.hid hps
    obtain ⟨E, hE⟩ : ∃ E, pst (ckE g L G) Xs i = E := ⟨_, rfl⟩
    have hcb := chk_bare hps.bd HV.out HKC.out.lg x X hkk.ln
    have HPO : Hid (∀ W, JS g L G Xs w2 i jb j M W → Calls Tryz.prog 24 #[.pointer (some ⟨jb, 0, none⟩), etyV x] W fun e w' => e = .returned (.int .i64 E) ∧ PostQ E M w2.heap.size j x X W w') := Lib.hid (fun W h => by
     have h9 := jpost_any (B := w2.heap.size) j x X W h.jk (HEK.out _ h.low) hp1 hp3 hp4 h.low.size (by have := h.len; have := HL100.out; omega) (fun k hk => (h.mw k hk).2)
     rw [hcb, h.es, h.jb] at h9
     rw [← hE, pst_at hp]
     exact h9)
    have HPX := Lib.hid hp
    have HPE := Lib.hid hE
    obtain ⟨XV, hXV⟩ : ∃ XV, XV = etyV x := ⟨_, rfl⟩
    rw [← hXV] at HPO
    have HLE : Hid (∀ W b, Wh 46 W b (etyC x) → (Instr.loadAt 46 (.pointer (some ⟨b, 0, none⟩))).run Tryz.prog W = .ok XV W) := Lib.hid (fun W b hW => by rw [hXV]; exact hW.rg.load 0 46 (etyC x) rfl _ Tryz.underlying46 rfl (by kernel_rfl))
    obtain ⟨sr, hsr⟩ : ∃ sr, wr.heap.size = sr := ⟨_, rfl⟩
    have HSR := Lib.hid hsr
    have HM2 : True := trivial
    have HM3 : True := trivial
    clear hym hkk hrg hbl hpm hps hcb hE hp1 hp2 hp3 hp4 hp hXV
    go_upto_region 7 with (first
     | (clear HM2; refine wpList_load_is rfl 46 _ rfl (.pointer (some ⟨bb, off + i * 7, none⟩)) rfl (etyV x) (HLX.out _ HPS.out.low) ?_)
     | (refine wpList_store_wh rfl 46 _ _ rfl sr rfl 46 [.int .i64 0, .int .i64 0, .int .i64 0, .int .i64 0, .int .i64 0, .string ⟨#[]⟩, .slice none 0 0] (etyC x) rfl (by rw [← HSR.out]; exact Wh.new wr 46 [.int .i64 0, .int .i64 0, .int .i64 0, .int .i64 0, .int .i64 0, .string ⟨#[]⟩, .slice none 0 0]) rfl (by kernel_rfl) (by kernel_rfl) ?_; intro w5 hr5 ho5 hz5; have HR5 := Lib.hid hr5.out; have hb5 : Below wr.heap.size wr w5 := only_new (by rw [HSR.out]; exact ho5.out); have HPS5 := Lib.hid (HPS.out.up hb5); clear hr5 ho5 hz5 hb5 hsr))
    by_cases hE0 : E = 0
    ·have hz1 : (E != 0) = false := by simp [hE0]
     have hz2 : (E == 0) = true := by simp [hE0]
     have HA2 : Hid (∀ t, t < i + 1 → pst (ckE g L G) Xs t = 0) := Lib.hid (fun t ht => by
      rcases Nat.lt_or_ge t i with h3 | h3
      ·exact HALL.out t h3
      ·obtain rfl : t = i := by omega
       rw [HPE.out]; exact hE0)
     have HE0 := Lib.hid hE0
     clear hE0
     go_wp2_with (first
      | (clear HM3; refine wpList_load_is rfl 46 _ rfl (.pointer (some ⟨sr, 0, none⟩)) rfl XV (HLE.out _ _ HR5.out) ?_)
      | (go_at_call 24; refine (HPO.out _ HPS5.out).mono ?_; rintro e w7 ⟨rfl, hq⟩; have HPN := Lib.hid (HPS5.out.post HPX.out (hq.yes HE0.out)); clear hq))
     go_roundg (n - (i + 1))
     case measure => omega
     case rel => exact ⟨i + 1, by (have hn100 := HL100.out; first | go_num | (refine congrArg (Value.int .i64) ?_; unfold wrap64; omega)), by omega, by omega, HA2, HPN⟩
    ·have hz1 : (E != 0) = true := by simp [hE0]
     have hz2 : (E == 0) = false := by simp [hE0]
     have HJ : Hid (jrnB g L G Xs = false) := Lib.hid (by unfold jrnB; rw [HV.out, Bool.true_and]; exact vld_bad (i := i) (by rw [HNN.out]; exact hlt) (by rw [HPE.out]; exact hE0))
     have HE0 := Lib.hid hE0
     clear hE0
     go_wp2_with (first
      | (clear HM3; refine wpList_load_is rfl 46 _ rfl (.pointer (some ⟨sr, 0, none⟩)) rfl XV (HLE.out _ _ HR5.out) ?_)
      | (go_at_call 24; refine (HPO.out _ HPS5.out).mono ?_; rintro e w7 ⟨rfl, hq⟩; have HBX := Lib.hid ((HPS5.out.up (hq.no HE0.out)).low); clear hq))
     go_ret2
     exact ⟨ChkQ.bad HE0.out HJ.out, by have h9 := HBW.out _ HBX.out; first | exact h9 | (rw [← HS0.out]; exact h9)⟩
   ·obtain rfl : n = i := by omega
    have hltz : ¬ (n : Int) < (n : Int) := by omega
    have HJ : Hid (jrnB g L G Xs = true) := Lib.hid (by unfold jrnB; rw [HV.out, Bool.true_and]; exact vldB_is.2 fun t ht => HALL.out t (by rw [HNN.out] at ht; exact ht))
    have HPS := Lib.hid hps
    clear hps
    go_wp2_with fail
    go_ret2
    exact ⟨ChkQ.good HJ.out, by have h9 := HBW.out _ HPS.out.low; first | exact h9 | (rw [← HS0.out]; exact h9)⟩
open Go.RowKit Go.Shelf
structure LgX (w : World) (g : Grp) (L : List Acc) (G : List Ent) (A : Option Addr) (c : Nat) (Xs : List Etl) : Prop where
 hk : GrK w g L G
 hs : Sm g G
 hw : GrW g L G
 hz : RowAt lyX w A (Xs.map (·.1))
 hzs : EtysK w Xs
 hl : Xs.length ≤ 100
 hxs : XsW Xs
 hc : Xs.length ≤ c
theorem LgX.up {w w' : World} {g : Grp} {L : List Acc} {G : List Ent} {A : Option Addr} {c : Nat} {Xs : List Etl} (h : LgX w g L G A c Xs) (hb : Below w.heap.size w w') : LgX w' g L G A c Xs := ⟨h.hk.up hb, h.hs, h.hw, h.hz.up hb, h.hzs.up hb, h.hl, h.hxs, h.hc⟩
theorem LgX.zn {w : World} {g : Grp} {L : List Acc} {G : List Ent} {A : Option Addr} {c : Nat} {Xs : List Etl} (h : LgX w g L G A c Xs) : ∀ p ∈ Xs, p.2.length ≤ 1000 := fun p hp => by rw [(h.hzs p hp).ln]; exact (h.hxs p hp).1
theorem LgX.l5 {w : World} {g : Grp} {L : List Acc} {G : List Ent} {A : Option Addr} {c : Nat} {Xs : List Etl} (h : LgX w g L G A c Xs) : Xs.length ≤ 100000 := by have := h.hl; omega
def lgE (g : Grp) (L : List Acc) (G : List Ent) (Xs : List Etl) (e : Int) : Int := if jrnB g L G Xs = true then (if 0 ≤ e ∧ e < (g.m : Int) then 0 else 2) else 1
def acE (G : List Ent) (e a : Int) : Int := if (fnd (G.getD e.toNat ent0).L a).isSome = true then 0 else 17
def knE (g : Grp) (L : List Acc) (G : List Ent) (Xs : List Etl) (e a : Int) : Int := if lgE g L G Xs e = 0 then acE G e a else lgE g L G Xs e
theorem lgE_zero {g : Grp} {L : List Acc} {G : List Ent} {Xs : List Etl} {e : Int} (h : lgE g L G Xs e = 0) : jrnB g L G Xs = true ∧ 0 ≤ e ∧ e < (g.m : Int) := by
 unfold lgE at h
 split at h
 ·rename_i h1
  split at h
  ·rename_i h2; exact ⟨h1, h2⟩
  ·cases h
 ·cases h
theorem jrn_grp {g : Grp} {L : List Acc} {G : List Ent} {Xs : List Etl} (h : jrnB g L G Xs = true) : grpP g L G = true ∧ vldB (ckE g L G) Xs = true := by unfold jrnB at h; rw [Bool.and_eq_true] at h; exact h
set_option maxRecDepth 100000 in
set_option maxHeartbeats 6400000 in
theorem lce_any (g : Grp) (L : List Acc) (G : List Ent) (A : Option Addr) (c : Nat) (Xs : List Etl) (e : Int) (w : World) (h : LgX w g L G A c Xs) :
  Calls Tryz.prog 61 #[grpV g, .slice A Xs.length c, .int .i64 e] w fun r w' => r = .returned (.int .i64 (lgE g L G Xs e)) ∧ Below w.heap.size w w' := by
 obtain ⟨GV, hGV⟩ : ∃ GV, GV = grpV g := ⟨_, rfl⟩
 obtain ⟨gs, hgs⟩ : ∃ gs, (grpC g).toArray = gs := ⟨_, rfl⟩
 obtain ⟨s0, hs0⟩ : ∃ s0, w.heap.size = s0 := ⟨_, rfl⟩
 obtain ⟨w2, hw2⟩ : ∃ w2, w.alloc (.cells gs 29) = w2 := ⟨_, rfl⟩
 have HGB : Hid (Wh 29 w2 s0 (grpC g)) := Lib.hid (by rw [← hw2, ← hgs, ← hs0]; exact Wh.new w _ _)
 have HB2 : Hid (Below w.heap.size w w2) := Lib.hid (by rw [← hw2]; exact below_alloc_new _)
 have HS0 := Lib.hid hs0
 have HLG : Hid (∀ W, Below w2.heap.size w2 W → (Instr.loadAt 29 (.pointer (some ⟨s0, 0, none⟩))).run Tryz.prog W = .ok GV W) := Lib.hid (fun W h => by rw [hGV, grpV_is]; exact (HGB.out.up h).rg.load 0 29 (grpC g) rfl _ Tryz.underlying29 rfl (by kernel_rfl))
 have HBC : Hid (Below w2.heap.size w2 w2) := Lib.hid (Below.refl _ _)
 have HBW : Hid (∀ W, Below w2.heap.size w2 W → Below w.heap.size w W) := Lib.hid (fun W h => HB2.out.trans (h.mono HB2.out.size))
 have HCK := Lib.hid (fun W (hb : Below w2.heap.size w2 W) => jcheck_any g L G A c Xs W ((h.up HB2.out).up hb).hk h.hs h.hw ((h.up HB2.out).up hb).hz ((h.up HB2.out).up hb).hzs h.hl h.hxs)
 have hGS : GV = .agg gs := by rw [hGV, grpV_is, hgs]
 rw [← hGV] at HCK ⊢
 rw [hGS]
 clear hGS hGV
 have HC20 : Hid (∀ W, Below w2.heap.size w2 W → W.cell? ⟨s0, 20, none⟩ = some (.slice g.E g.m g.d)) := Lib.hid (fun W hb => (HGB.out.up hb).at 20 _ rfl)
 have HM1 : True := trivial
 clear hgs h
 obtain ⟨n, hn⟩ : ∃ n, Xs.length = n := ⟨_, rfl⟩
 rw [hn] at HCK ⊢
 clear hn
 cases hj : jrnB g L G Xs
 ·rw [hj] at HCK
  have HE : Hid (lgE g L G Xs e = 1) := Lib.hid (by unfold lgE; rw [hj]; rfl)
  clear hj
  go_enter Tryz.func61, Tryz.ntmps61
  go_wp2_with (first
   | (clear HM1; refine wpList_load_is rfl 29 _ rfl (.pointer (some ⟨s0, 0, none⟩)) rfl GV (HLG.out _ HBC.out) ?_)
   | (go_at_call 94; refine (HCK.out _ HBC.out).mono ?_; rintro r w3 ⟨⟨a9, b9, rfl, hab⟩, hb⟩; have hB3 := Lib.hid (HBC.out.trans (hb.mono HBC.out.size)); clear hb HBC; have HBC := hB3; clear hB3; have hb1 : (b9 != 0) = true := bne_iff_ne.2 fun h0 => absurd (hab.1 h0) (by decide); clear hab; have C20 := HC20.out _ HBC.out))
  go_ret
  exact ⟨by rw [HE.out]; first | rfl | simp, by have h9 := HBW.out _ HBC.out; first | exact h9 | (rw [← HS0.out]; exact h9)⟩
 ·rw [hj] at HCK
  by_cases h1 : e < 0
  ·have d1 : decide (e < 0) = true := decide_eq_true h1
   have HE : Hid (lgE g L G Xs e = 2) := Lib.hid (by unfold lgE; rw [hj, if_pos rfl, if_neg (by omega)])
   clear hj h1
   go_enter Tryz.func61, Tryz.ntmps61
   go_wp2_with (first
    | (clear HM1; refine wpList_load_is rfl 29 _ rfl (.pointer (some ⟨s0, 0, none⟩)) rfl GV (HLG.out _ HBC.out) ?_)
    | (go_at_call 94; refine (HCK.out _ HBC.out).mono ?_; rintro r w3 ⟨⟨a9, b9, rfl, hab⟩, hb⟩; have hB3 := Lib.hid (HBC.out.trans (hb.mono HBC.out.size)); clear hb HBC; have HBC := hB3; clear hB3; obtain rfl := hab.2 rfl; clear hab; have C20 := HC20.out _ HBC.out))
   go_ret
   exact ⟨by rw [HE.out]; first | rfl | simp, by have h9 := HBW.out _ HBC.out; first | exact h9 | (rw [← HS0.out]; exact h9)⟩
  ·have d1 : decide (e < 0) = false := decide_eq_false h1
   by_cases h2 : (g.m : Int) ≤ e
   ·have d2 : decide (e ≥ (g.m : Int)) = true := decide_eq_true h2
    have d3 : decide ((g.m : Int) ≤ e) = true := decide_eq_true h2
    have HE : Hid (lgE g L G Xs e = 2) := Lib.hid (by unfold lgE; rw [hj, if_pos rfl, if_neg (by omega)])
    clear hj h1 h2
    go_enter Tryz.func61, Tryz.ntmps61
    go_wp2_with (first
     | (clear HM1; refine wpList_load_is rfl 29 _ rfl (.pointer (some ⟨s0, 0, none⟩)) rfl GV (HLG.out _ HBC.out) ?_)
     | (go_at_call 94; refine (HCK.out _ HBC.out).mono ?_; rintro r w3 ⟨⟨a9, b9, rfl, hab⟩, hb⟩; have hB3 := Lib.hid (HBC.out.trans (hb.mono HBC.out.size)); clear hb HBC; have HBC := hB3; clear hB3; obtain rfl := hab.2 rfl; clear hab; have C20 := HC20.out _ HBC.out))
    go_ret
    exact ⟨by rw [HE.out]; first | rfl | simp, by have h9 := HBW.out _ HBC.out; first | exact h9 | (rw [← HS0.out]; exact h9)⟩
   ·have d2 : decide (e ≥ (g.m : Int)) = false := decide_eq_false h2
    have d3 : decide ((g.m : Int) ≤ e) = false := decide_eq_false h2
    have HE : Hid (lgE g L G Xs e = 0) := Lib.hid (by unfold lgE; rw [hj, if_pos rfl, if_pos (by omega)])
    clear hj h1 h2
    go_enter Tryz.func61, Tryz.ntmps61
    go_wp2_with (first
     | (clear HM1; refine wpList_load_is rfl 29 _ rfl (.pointer (some ⟨s0, 0, none⟩)) rfl GV (HLG.out _ HBC.out) ?_)
     | (go_at_call 94; refine (HCK.out _ HBC.out).mono ?_; rintro r w3 ⟨⟨a9, b9, rfl, hab⟩, hb⟩; have hB3 := Lib.hid (HBC.out.trans (hb.mono HBC.out.size)); clear hb HBC; have HBC := hB3; clear hB3; obtain rfl := hab.2 rfl; clear hab; have C20 := HC20.out _ HBC.out))
    go_ret
    exact ⟨by rw [HE.out]; first | rfl | simp, by have h9 := HBW.out _ HBC.out; first | exact h9 | (rw [← HS0.out]; exact h9)⟩
set_option maxRecDepth 100000 in
set_option maxHeartbeats 6400000 in
theorem lca_any (g : Grp) (L : List Acc) (G : List Ent) (e a : Int) (w : World) (hk : GrK w g L G) (hs : Sm g G) (he : 0 ≤ e ∧ e < (g.m : Int)) :
  Calls Tryz.prog 62 #[grpV g, .int .i64 e, .int .i64 a] w fun r w' => r = .returned (.int .i64 (acE G e a)) ∧ Below w.heap.size w w' := by
 obtain ⟨j, hj⟩ : ∃ j : Nat, e = (j : Int) := ⟨e.toNat, by omega⟩
 subst hj
 have hjm : j < g.m := by omega
 have hae : acE G (j : Int) a = if (fnd (G.getD j ent0).L a).isSome = true then 0 else 17 := by unfold acE; rw [Int.toNat_natCast]
 rw [hae]
 clear hae
 obtain ⟨gs, hgs⟩ : ∃ gs, (grpC g).toArray = gs := ⟨_, rfl⟩
 rw [show grpV g = .agg gs by rw [grpV_is, hgs]]
 obtain ⟨s0, hs0⟩ : ∃ s0, w.heap.size = s0 := ⟨_, rfl⟩
 obtain ⟨w2, hw2⟩ : ∃ w2, w.alloc (.cells gs 29) = w2 := ⟨_, rfl⟩
 have hgb : Wh 29 w2 s0 (grpC g) := by rw [← hw2, ← hgs, ← hs0]; exact Wh.new w _ _
 have c20 := hgb.at 20 _ rfl
 have HB2 : Hid (Below w.heap.size w w2) := Lib.hid (by rw [← hw2]; exact below_alloc_new _)
 have HS0 := Lib.hid hs0
 have hjG : j < G.length := by rw [hk.lg]; exact hjm
 obtain ⟨eb, eoff, hE, hew, he5⟩ := ent_at (hk.up HB2.out).he hjG
 have hmem : G.getD j ent0 ∈ G := getD_mem_acc hjG
 have hek := ((hk.up HB2.out).hk _ hmem)
 have hen := (hs.e _ hmem).1
 generalize G.getD j ent0 = ey at *
 have f2 := he5.c2
 have HF := Lib.hid (fun W (h : AccAt W ey.A ey.L) => cfind_any ey.A ey.c ey.L a W h (by rw [hek.ln]; omega))
 rw [hek.ln] at HF
 have HEZ := Lib.hid hek.hz
 have hjz : (j : Int) < (g.m : Int) := by omega
 have hj0 : (0 : Int) ≤ (j : Int) := by omega
 rw [hE] at c20
 clear hgb he5 hek hen hmem he hk hs hgs hE hew
 obtain ⟨ob, hob⟩ : ∃ ob, (fnd ey.L a).isSome = ob := ⟨_, rfl⟩
 obtain ⟨fa, hfa⟩ : ∃ fa, fndA ey.L a = fa := ⟨_, rfl⟩
 rw [hob, hfa] at HF
 rw [hob]
 clear hob hfa
 go_enter Tryz.func62, Tryz.ntmps62
 cases ob
 ·go_wp2_with (go_at_call 95; refine (HF.out _ HEZ.out).mono ?_; rintro r w3 ⟨rfl, hb⟩; have HB3 := Lib.hid hb; clear hb)
  go_ret
  exact ⟨by first | rfl | simp, by have h8 := HB2.out.trans (HB3.out.mono HB2.out.size); first | exact below_new h8 _ | (rw [← HS0.out]; exact below_new h8 _)⟩
 ·go_wp2_with (go_at_call 95; refine (HF.out _ HEZ.out).mono ?_; rintro r w3 ⟨rfl, hb⟩; have HB3 := Lib.hid hb; clear hb)
  go_ret
  exact ⟨by first | rfl | simp, by have h8 := HB2.out.trans (HB3.out.mono HB2.out.size); first | exact below_new h8 _ | (rw [← HS0.out]; exact below_new h8 _)⟩
def lbN (g : Grp) (L : List Acc) (G : List Ent) (Xs : List Etl) (e a hi : Int) : Int := if knE g L G Xs e a = 0 then wr (balS Xs e a hi) else 0
set_option maxRecDepth 100000 in
set_option maxHeartbeats 6400000 in
theorem lbalance_any (g : Grp) (L : List Acc) (G : List Ent) (A : Option Addr) (c : Nat) (Xs : List Etl) (e a hi : Int) (w : World) (h : LgX w g L G A c Xs) :
  Calls Tryz.prog 30 #[grpV g, .slice A Xs.length c, .int .i64 e, .int .i64 a, .int .i64 hi] w fun r w' => r = .returned (.tuple #[.int .i64 (lbN g L G Xs e a hi), .int .i64 (knE g L G Xs e a)]) ∧ Below w.heap.size w w' := by
 obtain ⟨GV, hGV⟩ : ∃ GV, GV = grpV g := ⟨_, rfl⟩
 obtain ⟨gs, hgs⟩ : ∃ gs, (grpC g).toArray = gs := ⟨_, rfl⟩
 obtain ⟨s0, hs0⟩ : ∃ s0, w.heap.size = s0 := ⟨_, rfl⟩
 obtain ⟨w2, hw2⟩ : ∃ w2, w.alloc (.cells gs 29) = w2 := ⟨_, rfl⟩
 have HGB : Hid (Wh 29 w2 s0 (grpC g)) := Lib.hid (by rw [← hw2, ← hgs, ← hs0]; exact Wh.new w _ _)
 have HB2 : Hid (Below w.heap.size w w2) := Lib.hid (by rw [← hw2]; exact below_alloc_new _)
 have HS0 := Lib.hid hs0
 have HLG : Hid (∀ W, Below w2.heap.size w2 W → (Instr.loadAt 29 (.pointer (some ⟨s0, 0, none⟩))).run Tryz.prog W = .ok GV W) := Lib.hid (fun W h => by rw [hGV, grpV_is]; exact (HGB.out.up h).rg.load 0 29 (grpC g) rfl _ Tryz.underlying29 rfl (by kernel_rfl))
 have HBC : Hid (Below w2.heap.size w2 w2) := Lib.hid (Below.refl _ _)
 have HBW : Hid (∀ W, Below w2.heap.size w2 W → Below w.heap.size w W) := Lib.hid (fun W h => HB2.out.trans (h.mono HB2.out.size))
 have HCE := Lib.hid (fun W (hb : Below w2.heap.size w2 W) => lce_any g L G A c Xs e W ((h.up HB2.out).up hb))
 have HCA := Lib.hid (fun W (hb : Below w2.heap.size w2 W) (he : 0 ≤ e ∧ e < (g.m : Int)) => lca_any g L G e a W ((h.up HB2.out).up hb).hk h.hs he)
 have HBA := Lib.hid (fun W (hb : Below w2.heap.size w2 W) => lbal_any A c Xs e a hi W ((h.up HB2.out).up hb).hz ((h.up HB2.out).up hb).hzs h.zn h.l5)
 have hGS : GV = .agg gs := by rw [hGV, grpV_is, hgs]
 rw [← hGV] at HCE HCA ⊢
 rw [hGS]
 clear hGS hGV
 have HM1 : True := trivial
 have HM2 : True := trivial
 obtain ⟨n, hn⟩ : ∃ n, Xs.length = n := ⟨_, rfl⟩
 rw [hn] at HCE HBA ⊢
 clear hgs hn h
 obtain ⟨E, hE⟩ : ∃ E, lgE g L G Xs e = E := ⟨_, rfl⟩
 rw [hE] at HCE
 by_cases hE0 : E = 0
 ·obtain ⟨-, he0, he1⟩ := lgE_zero (hE.trans hE0)
  obtain ⟨F, hF⟩ : ∃ F, acE G e a = F := ⟨_, rfl⟩
  have HCB := Lib.hid (fun W hb => HCA.out W hb ⟨he0, he1⟩)
  rw [hF] at HCB
  have HKE : Hid (knE g L G Xs e a = F) := Lib.hid (by unfold knE; rw [hE, if_pos hE0, hF])
  have z1 : (E != 0) = false := by simp [hE0]
  subst hE0
  clear HCA he0 he1
  by_cases hF0 : F = 0
  ·have z2 : (F != 0) = false := by simp [hF0]
   have HLB : Hid (lbN g L G Xs e a hi = wrap64 (balS Xs e a hi)) := Lib.hid (by unfold lbN; rw [HKE.out, if_pos hF0])
   subst hF0
   clear hE hF
   go_enter Tryz.func30, Tryz.ntmps30
   go_wp2_with (first
    | (clear HM1; refine wpList_load_is rfl 29 _ rfl (.pointer (some ⟨s0, 0, none⟩)) rfl GV (HLG.out _ HBC.out) ?_)
    | (clear HM2; refine wpList_load_is rfl 29 _ rfl (.pointer (some ⟨s0, 0, none⟩)) rfl GV (HLG.out _ HBC.out) ?_)
    | (go_at_call 61; refine (HCE.out _ HBC.out).mono ?_; rintro r w3 ⟨rfl, hb⟩; have hB3 := Lib.hid (HBC.out.trans (hb.mono HBC.out.size)); clear hb HBC; have HBC := hB3; clear hB3)
    | (go_at_call 62; refine (HCB.out _ HBC.out).mono ?_; rintro r w3 ⟨rfl, hb⟩; have hB3 := Lib.hid (HBC.out.trans (hb.mono HBC.out.size)); clear hb HBC; have HBC := hB3; clear hB3)
    | (go_at_call 63; refine (HBA.out _ HBC.out).mono ?_; rintro r w3 ⟨rfl, hb⟩; have hB3 := Lib.hid (HBC.out.trans (hb.mono HBC.out.size)); clear hb HBC; have HBC := hB3; clear hB3))
   go_ret2
   exact ⟨by rw [HLB.out, HKE.out]; first | rfl | simp, by have h9 := HBW.out _ HBC.out; first | exact h9 | (rw [← HS0.out]; exact h9)⟩
  ·have z2 : (F != 0) = true := by simp [hF0]
   have HLB : Hid (lbN g L G Xs e a hi = 0) := Lib.hid (by unfold lbN; rw [HKE.out, if_neg hF0])
   clear hE hF hF0
   go_enter Tryz.func30, Tryz.ntmps30
   go_wp2_with (first
    | (clear HM1; refine wpList_load_is rfl 29 _ rfl (.pointer (some ⟨s0, 0, none⟩)) rfl GV (HLG.out _ HBC.out) ?_)
    | (clear HM2; refine wpList_load_is rfl 29 _ rfl (.pointer (some ⟨s0, 0, none⟩)) rfl GV (HLG.out _ HBC.out) ?_)
    | (go_at_call 61; refine (HCE.out _ HBC.out).mono ?_; rintro r w3 ⟨rfl, hb⟩; have hB3 := Lib.hid (HBC.out.trans (hb.mono HBC.out.size)); clear hb HBC; have HBC := hB3; clear hB3)
    | (go_at_call 62; refine (HCB.out _ HBC.out).mono ?_; rintro r w3 ⟨rfl, hb⟩; have hB3 := Lib.hid (HBC.out.trans (hb.mono HBC.out.size)); clear hb HBC; have HBC := hB3; clear hB3)
    | (go_at_call 63; refine (HBA.out _ HBC.out).mono ?_; rintro r w3 ⟨rfl, hb⟩; have hB3 := Lib.hid (HBC.out.trans (hb.mono HBC.out.size)); clear hb HBC; have HBC := hB3; clear hB3))
   go_ret2
   exact ⟨by rw [HLB.out, HKE.out]; first | rfl | simp, by have h9 := HBW.out _ HBC.out; first | exact h9 | (rw [← HS0.out]; exact h9)⟩
 ·have z1 : (E != 0) = true := by simp [hE0]
  have HKE : Hid (knE g L G Xs e a = E) := Lib.hid (by unfold knE; rw [hE, if_neg hE0])
  have HLB : Hid (lbN g L G Xs e a hi = 0) := Lib.hid (by unfold lbN; rw [HKE.out, if_neg hE0])
  clear hE hE0 HCA
  go_enter Tryz.func30, Tryz.ntmps30
  go_wp2_with (first
   | (clear HM1; refine wpList_load_is rfl 29 _ rfl (.pointer (some ⟨s0, 0, none⟩)) rfl GV (HLG.out _ HBC.out) ?_)
   | (go_at_call 61; refine (HCE.out _ HBC.out).mono ?_; rintro r w3 ⟨rfl, hb⟩; have hB3 := Lib.hid (HBC.out.trans (hb.mono HBC.out.size)); clear hb HBC; have HBC := hB3; clear hB3))
  go_ret2
  exact ⟨by rw [HLB.out, HKE.out]; first | rfl | simp, by have h9 := HBW.out _ HBC.out; first | exact h9 | (rw [← HS0.out]; exact h9)⟩
open Go.RowKit
theorem smp_sm (A : Option Addr) (c : Nat) (E : Option Addr) (p0 p1 p2 p3 : EAd) : Sm (smpG A c E) (smpEs p0 p1 p2 p3) := ⟨by show 26 ≤ 60; omega, by show 4 ≤ 14; omega, fun e he => by
 simp [smpEs] at he
 rcases he with rfl | rfl | rfl | rfl <;> exact ⟨by show 14 ≤ 60; omega, by show 14 ≤ 60; omega⟩⟩
theorem smp_w (A : Option Addr) (c : Nat) (E : Option Addr) (p0 p1 p2 p3 : EAd) : GrW (smpG A c E) smpL (smpEs p0 p1 p2 p3) := ⟨by show 3 ≤ maxLen; unfold maxLen; omega, (by
 have h : ((smpG A c E).R.all fun x => (Lit.int .i64 x).wf) = true := by kernel_rfl
 exact fun x hx => List.all_eq_true.1 h x hx), fun e he => by
 simp [smpEs] at he
 rcases he with rfl | rfl | rfl | rfl
 ·exact ⟨by show 6 ≤ maxLen; unfold maxLen; omega, by show 3 ≤ maxLen; unfold maxLen; omega⟩
 ·exact ⟨by show 5 ≤ maxLen; unfold maxLen; omega, by show 3 ≤ maxLen; unfold maxLen; omega⟩
 ·exact ⟨by show 4 ≤ maxLen; unfold maxLen; omega, by show 3 ≤ maxLen; unfold maxLen; omega⟩
 ·exact ⟨by show 5 ≤ maxLen; unfold maxLen; omega, by show 3 ≤ maxLen; unfold maxLen; omega⟩⟩
def awX : List Lnk := [⟨10, 100, -1⟩, ⟨100, -100, -1⟩]
def awE (lb : Nat) : Ety := ⟨1, 0, 20454, 1, 0, ⟨#[]⟩, some ⟨lb, 0, none⟩, 2, 2⟩
set_option maxRecDepth 100000 in
theorem aw_grp (A : Option Addr) (c : Nat) (E : Option Addr) (p0 p1 p2 p3 : EAd) : grpR (smpG A c E) smpL (smpEs p0 p1 p2 p3) = true := (grp_eq _ _ _).symm.trans (smp_ok A c E p0 p1 p2 p3)
set_option maxRecDepth 100000 in
theorem aw_ck (lb : Nat) (A : Option Addr) (c : Nat) (E : Option Addr) (p0 p1 p2 p3 : EAd) : ckE (smpG A c E) smpL (smpEs p0 p1 p2 p3) (awE lb, awX) = 0 := by
 unfold ckE
 rw [aw_grp]
 kernel_rfl
theorem aw_jrn (lb : Nat) (A : Option Addr) (c : Nat) (E : Option Addr) (p0 p1 p2 p3 : EAd) : jrnB (smpG A c E) smpL (smpEs p0 p1 p2 p3) [(awE lb, awX)] = true := by
 unfold jrnB
 rw [smp_ok, Bool.true_and, vldB_is]
 intro i hi
 obtain rfl : i = 0 := by simp at hi; omega
 rw [pst_at (p := (awE lb, awX)) rfl, aw_ck]
 kernel_rfl
theorem aw_lg (lb : Nat) (A : Option Addr) (c : Nat) (E : Option Addr) (p0 p1 p2 p3 : EAd) : lgE (smpG A c E) smpL (smpEs p0 p1 p2 p3) [(awE lb, awX)] 0 = 0 := by
 unfold lgE
 rw [aw_jrn, if_pos rfl]
 exact if_pos ⟨by omega, by show (0 : Int) < 4; omega⟩
set_option maxRecDepth 100000 in
theorem aw_kn (lb : Nat) (A : Option Addr) (c : Nat) (E : Option Addr) (p0 p1 p2 p3 : EAd) : knE (smpG A c E) smpL (smpEs p0 p1 p2 p3) [(awE lb, awX)] 0 100 = 0 := by
 unfold knE
 rw [aw_lg, if_pos rfl]
 kernel_rfl
set_option maxRecDepth 100000 in
theorem aw_lb (lb : Nat) (A : Option Addr) (c : Nat) (E : Option Addr) (p0 p1 p2 p3 : EAd) : lbN (smpG A c E) smpL (smpEs p0 p1 p2 p3) [(awE lb, awX)] 0 100 20454 = -100 := by
 unfold lbN
 rw [aw_kn, if_pos rfl]
 kernel_rfl
theorem aw_first : pdF 2026 1 36 0 = 20454 ∧ clE 2026 1 36 0 = 0 := ⟨by kernel_rfl, by kernel_rfl⟩
theorem aw_build (lb : Nat) (w : World) : (Instr.build 46 #[(0, .int .i64 1), (2, .int .i64 20454), (3, .int .i64 1), (6, .slice (some ⟨lb, 0, none⟩) 2 2)]).run Tryz.prog w = .ok (etyV (awE lb)) w := run_build w 46 _ _ (by kernel_rfl)
theorem aw_x (lb eb : Nat) (A : Option Addr) (c : Nat) (E : Option Addr) (p0 p1 p2 p3 : EAd) (W : World) (hk : GrK W (smpG A c E) smpL (smpEs p0 p1 p2 p3)) (h1 : Wh 59 W lb [.int .i64 10, .int .i64 100, .int .i64 (-1), .int .i64 100, .int .i64 (-100), .int .i64 (-1)]) (h2 : Wh 46 W eb (etyC (awE lb))) :
  LgX W (smpG A c E) smpL (smpEs p0 p1 p2 p3) (some ⟨eb, 0, none⟩) 1 [(awE lb, awX)] := by
 refine ⟨hk, smp_sm A c E p0 p1 p2 p3, smp_w A c E p0 p1 p2 p3, row_one (R := lyX) (x := awE lb) h2, fun p hp => ?_, by show 1 ≤ 100; decide, fun p hp => ?_, by show 1 ≤ 1; decide⟩
 ·rw [List.mem_singleton] at hp
  subst hp
  refine ⟨rfl, lnk_row.1 fun _ => ⟨lb, 0, rfl, h1.lt, h1.range⟩, fun l hl => ?_⟩
  have hl2 : l = ⟨10, 100, -1⟩ ∨ l = ⟨100, -100, -1⟩ := by simpa [awX] using hl
  rcases hl2 with rfl | rfl
  ·exact ⟨⟨rfl, rfl⟩, rfl⟩
  ·exact ⟨⟨rfl, rfl⟩, rfl⟩
 ·rw [List.mem_singleton] at hp
  subst hp
  exact ⟨by show 2 ≤ 1000; decide, by show 0 ≤ maxLen; decide, rfl, rfl⟩
set_option maxRecDepth 100000 in
set_option maxHeartbeats 6400000 in
theorem lawake_any (w : World) : Calls Tryz.prog 29 #[] w fun e w' => e = .returned (.bool true) ∧ Below w.heap.size w w' := by
 go_enter Tryz.func29, Tryz.ntmps29
 go_upto_region 2 with (first
  | (go_at_call 40; refine (spgrp_any _).mono ?_; rintro e w3 ⟨⟨A, c, E, p0, p1, p2, p3, rfl, hk⟩, hb⟩; have HK3 := Lib.hid hk; have HB3 := Lib.hid hb; clear hk hb; obtain ⟨s3, hs3⟩ : ∃ s3, w3.heap.size = s3 := ⟨_, rfl⟩; have HS3 := Lib.hid hs3)
  | (refine wpList_store_wh rfl 29 _ _ rfl s3 rfl 29 [.string ⟨#[]⟩, .int .i64 0, .int .i64 0, .int .i64 0, .slice none 0 0, .int .i64 0, .int .i64 0, .int .i64 0, .int .i64 0, .int .i64 0, .int .i64 0, .int .i64 0, .int .i64 0, .int .i64 0, .int .i64 0, .int .i64 0, .int .i64 0, .int .i64 0, .int .i64 0, .int .i64 0, .slice none 0 0] (grpC (smpG A c E)) rfl (by rw [← HS3.out]; exact Wh.new w3 29 [.string ⟨#[]⟩, .int .i64 0, .int .i64 0, .int .i64 0, .slice none 0 0, .int .i64 0, .int .i64 0, .int .i64 0, .int .i64 0, .int .i64 0, .int .i64 0, .int .i64 0, .int .i64 0, .int .i64 0, .int .i64 0, .int .i64 0, .int .i64 0, .int .i64 0, .int .i64 0, .int .i64 0, .slice none 0 0]) rfl (by kernel_rfl) (by kernel_rfl) ?_; intro w5 hr5 ho5 hz5; have HG5 := Lib.hid hr5.out; have hb5 : Below w3.heap.size w3 w5 := only_new (by rw [HS3.out]; exact ho5.out); have HK5 := Lib.hid (HK3.out.up hb5); have HB5 := Lib.hid (HB3.out.trans (hb5.mono HB3.out.size)); clear hr5 ho5 hz5 hb5 hs3 HK3 HB3))
 have q1 : w5.cell? ⟨s3, 1, none⟩ = some (.int .i64 2026) := HG5.out.at 1 _ rfl
 have q2 : w5.cell? ⟨s3, 2, none⟩ = some (.int .i64 1) := HG5.out.at 2 _ rfl
 have q3 : w5.cell? ⟨s3, 3, none⟩ = some (.int .i64 36) := HG5.out.at 3 _ rfl
 have HFI := Lib.hid (fun W => rfirst7_any 2026 1 36 0 W)
 rw [aw_first.1, aw_first.2] at HFI
 go_upto_region 3 with (go_at_call 38; refine (HFI.out _).mono ?_; rintro e w6 ⟨rfl, hb⟩; have HG6 := Lib.hid (HG5.out.up hb); have HK6 := Lib.hid (HK5.out.up hb); have HB6 := Lib.hid (HB5.out.trans (hb.mono HB5.out.size)); clear hb)
 clear q1 q2 q3 HG5 HK5 HB5
 obtain ⟨lb, hlb⟩ : ∃ lb, w6.heap.size = lb := ⟨_, rfl⟩
 have HLB := Lib.hid hlb
 have hwl : Wh 59 (w6.alloc (.cells #[.int .i64 10, .int .i64 100, .int .i64 (-1), .int .i64 100, .int .i64 (-100), .int .i64 (-1)] 59)) lb [.int .i64 10, .int .i64 100, .int .i64 (-1), .int .i64 100, .int .i64 (-100), .int .i64 (-1)] := by rw [← hlb]; exact Wh.new w6 _ _
 have HW7 := Lib.hid hwl
 have HS7 : Hid ((w6.alloc (.cells #[.int .i64 10, .int .i64 100, .int .i64 (-1), .int .i64 100, .int .i64 (-100), .int .i64 (-1)] 59)).heap.size = lb + 1) := Lib.hid (by rw [World.size_alloc, hlb])
 have HN7 : Hid (Wh 46 ((w6.alloc (.cells #[.int .i64 10, .int .i64 100, .int .i64 (-1), .int .i64 100, .int .i64 (-100), .int .i64 (-1)] 59)).alloc (.cells #[.int .i64 0, .int .i64 0, .int .i64 0, .int .i64 0, .int .i64 0, .string ⟨#[]⟩, .slice none 0 0] 46)) (lb + 1) [.int .i64 0, .int .i64 0, .int .i64 0, .int .i64 0, .int .i64 0, .string ⟨#[]⟩, .slice none 0 0]) := Lib.hid (by rw [← HS7.out]; exact Wh.new _ 46 [.int .i64 0, .int .i64 0, .int .i64 0, .int .i64 0, .int .i64 0, .string ⟨#[]⟩, .slice none 0 0])
 clear hwl
 go_upto_region 4 with (first
  | (refine wpList_build_is rfl 46 _ rfl [(0, .int .i64 1), (2, .int .i64 20454), (3, .int .i64 1), (6, .slice (some ⟨lb, 0, none⟩) 2 2)] rfl (etyV (awE lb)) (aw_build lb _) ?_)
  | (refine wpList_store_wh rfl 46 _ _ rfl (lb + 1) rfl 46 [.int .i64 0, .int .i64 0, .int .i64 0, .int .i64 0, .int .i64 0, .string ⟨#[]⟩, .slice none 0 0] (etyC (awE lb)) rfl HN7.out rfl (by kernel_rfl) (by kernel_rfl) ?_; intro w8 hr8 ho8 hz8; have HE8 := Lib.hid hr8.out; have hb8 : Below (w6.alloc (.cells #[.int .i64 10, .int .i64 100, .int .i64 (-1), .int .i64 100, .int .i64 (-100), .int .i64 (-1)] 59)).heap.size (w6.alloc (.cells #[.int .i64 10, .int .i64 100, .int .i64 (-1), .int .i64 100, .int .i64 (-100), .int .i64 (-1)] 59)) w8 := only_new (by rw [HS7.out]; exact ho8.out); have HW8 := Lib.hid (HW7.out.up hb8); have hb68 : Below w6.heap.size w6 w8 := (below_alloc_new (w := w6) _).trans (hb8.mono (by rw [World.size_alloc]; omega)); have HG8 := Lib.hid (HG6.out.up hb68); have HK8 := Lib.hid (HK6.out.up hb68); have HB8 := Lib.hid (HB6.out.trans (hb68.mono HB6.out.size)); clear hr8 ho8 hz8 hb8 hb68))
 clear HG6 HK6 HB6 HW7 HN7 HS7 HLB hlb
 obtain ⟨eb, heb⟩ : ∃ eb, w8.heap.size = eb := ⟨_, rfl⟩
 obtain ⟨W9, hW9⟩ : ∃ W9, w8.alloc (.cells #[.int .i64 1, .int .i64 0, .int .i64 20454, .int .i64 1, .int .i64 0, .string ⟨#[]⟩, .slice (some ⟨lb, 0, none⟩) 2 2] 46) = W9 := ⟨_, rfl⟩
 have he9 : Wh 46 W9 eb (etyC (awE lb)) := by rw [← hW9, ← heb]; exact Wh.new w8 _ _
 have hb9 : Below w8.heap.size w8 W9 := by rw [← hW9]; exact below_alloc_new _
 have HBL := Lib.hid (lbalance_any (smpG A c E) smpL (smpEs p0 p1 p2 p3) (some ⟨eb, 0, none⟩) 1 [(awE lb, awX)] 0 100 20454 W9 (aw_x lb eb A c E p0 p1 p2 p3 W9 (HK8.out.up hb9) (HW8.out.up hb9) he9))
 rw [aw_lb, aw_kn, show [(awE lb, awX)].length = 1 from rfl] at HBL
 have HLG : Hid ((Instr.loadAt 29 (.pointer (some ⟨s3, 0, none⟩))).run Tryz.prog w8 = .ok (grpV (smpG A c E)) w8) := Lib.hid (by rw [grpV_is]; exact HG8.out.rg.load 0 29 (grpC (smpG A c E)) rfl _ Tryz.underlying29 rfl (by kernel_rfl))
 have HLE : Hid ((Instr.loadAt 46 (.pointer (some ⟨lb + 1, 0, none⟩))).run Tryz.prog w8 = .ok (.agg #[.int .i64 1, .int .i64 0, .int .i64 20454, .int .i64 1, .int .i64 0, .string ⟨#[]⟩, .slice (some ⟨lb, 0, none⟩) 2 2]) w8) := Lib.hid (HE8.out.rg.load 0 46 (etyC (awE lb)) rfl _ Tryz.underlying46 rfl (by kernel_rfl))
 obtain ⟨GV, hGV⟩ : ∃ GV, GV = grpV (smpG A c E) := ⟨_, rfl⟩
 rw [← hGV] at HLG HBL
 have HB9 := Lib.hid (HB8.out.trans (hb9.mono HB8.out.size))
 have HM1 : True := trivial
 have HM2 : True := trivial
 clear hGV he9 hb9 HB8
 go_wp2_with (first
  | (clear HM1; refine wpList_load_is rfl 29 _ rfl (.pointer (some ⟨s3, 0, none⟩)) rfl GV HLG.out ?_)
  | (clear HM2; refine wpList_load_is rfl 46 _ rfl (.pointer (some ⟨lb + 1, 0, none⟩)) rfl (.agg #[.int .i64 1, .int .i64 0, .int .i64 20454, .int .i64 1, .int .i64 0, .string ⟨#[]⟩, .slice (some ⟨lb, 0, none⟩) 2 2]) HLE.out ?_)
  | (go_at_call 30; refine HBL.out.mono ?_; rintro e w10 ⟨rfl, hb⟩; have HB10 := Lib.hid (HB9.out.trans (hb.mono HB9.out.size)); clear hb))
 go_ret
 exact ⟨by first | rfl | simp, HB10.out⟩
set_option maxRecDepth 20000 in
set_option maxHeartbeats 1600000 in
theorem rsameb_any (A B : Option Addr) (c d : Nat) (zs ys : List Bal) (w : World) (hz : BalAt w A zs) (hy : BalAt w B ys) (hl : zs.length ≤ 100000) (hl2 : ys.length ≤ 100000) :
  Calls Tryz.prog 37 #[.slice A zs.length c, .slice B ys.length d] w fun e w' => e = .returned (.bool (decide (zs = ys))) ∧ Below w.heap.size w w' := by
 have hB := Below.refl w.heap.size w
 obtain ⟨n, hn⟩ : ∃ n, zs.length = n := ⟨_, rfl⟩
 obtain ⟨m, hm⟩ : ∃ m, ys.length = m := ⟨_, rfl⟩
 rw [hn] at hl ⊢
 rw [hm] at hl2 ⊢
 by_cases hnm : n = m
 ·subst hnm
  have HN := Lib.hid hn
  have HM := Lib.hid hm
  have HZ := Lib.hid hz
  have HY := Lib.hid hy
  clear hn hm hz hy
  have hnn : ((n : Int) != (n : Int)) = false := by simp
  go_enter Tryz.func37, Tryz.ntmps37
  go_wp2_with fail
  go_loopg [5] n (fun kx s5 wr => ∃ k : Nat, s5 = .int .i64 k ∧ k ≤ n ∧ n - k ≤ kx ∧ Hid (zs.take k = ys.take k) ∧ Below w.heap.size w wr)
  case atStart => exact ⟨0, rfl, by omega, by omega, Lib.hid (by simp), hB⟩
  case round =>
   clear hB
   obtain ⟨k, rfl, hk, hkx, HT, hB⟩ := hrel
   by_cases hlt : k < n
   ·have hltz : (k : Int) < (n : Int) := by omega
    obtain ⟨b, off, rfl, hbw, hcs⟩ := HZ.out (by rw [HN.out]; omega)
    obtain ⟨b2, off2, rfl, hbw2, hcs2⟩ := HY.out (by rw [HM.out]; omega)
    obtain ⟨c0, c1⟩ := (hcs k (by rw [HN.out]; exact hlt)).up hB hbw
    obtain ⟨d0, d1⟩ := (hcs2 k (by rw [HM.out]; exact hlt)).up hB hbw2
    have ht1 := take_succ_getD (d := bal0) (L := zs) (i := k) (by rw [HN.out]; exact hlt)
    have ht2 := take_succ_getD (d := bal0) (L := ys) (i := k) (by rw [HM.out]; exact hlt)
    generalize zs.getD k bal0 = x at *
    generalize ys.getD k bal0 = y at *
    by_cases hxy : x = y
    ·subst hxy
     have HT2 : Hid (zs.take (k + 1) = ys.take (k + 1)) := Lib.hid (by rw [ht1, ht2, HT.out])
     clear ht1 ht2 hcs hcs2
     go_wp2_with fail
     go_quiet (fail)
     replace hB := below_drewN hB nq
     generalize World.drewN _ nq = W1 at *
     go_wp2_with fail
     go_roundg (n - (k + 1))
     case measure => omega
     case rel => exact ⟨k + 1, by go_num, by omega, by omega, HT2, hB⟩
    ·have hno : Hid (decide (zs = ys) = false) := Lib.hid (decide_eq_false fun e => by
      rw [e, ht2] at ht1
      have := List.append_cancel_left ht1
      simp at this; exact hxy this.symm)
     have hne : x.acct ≠ y.acct ∨ (x.acct = y.acct ∧ x.amt ≠ y.amt) := by
      by_cases h1 : x.acct = y.acct
      ·exact .inr ⟨h1, fun h2 => hxy (by cases x; cases y; simp at h1 h2; rw [h1, h2])⟩
      ·exact .inl h1
     clear ht1 ht2 hcs hcs2 hxy
     rcases hne with h1 | ⟨h1, h2⟩
     ·have q1 : (x.acct == y.acct) = false := by simp [h1]
      clear h1
      go_wp2_with fail
      go_quiet (fail)
      replace hB := below_drewN hB nq
      generalize World.drewN _ nq = W1 at *
      go_wp2_with fail
      go_ret
      exact ⟨by rw [hno.out]; rfl, hB⟩
     ·have q1 : (x.acct == y.acct) = true := by simp [h1]
      have q2 : (x.amt == y.amt) = false := by simp [h2]
      clear h1 h2
      go_wp2_with fail
      go_quiet (fail)
      replace hB := below_drewN hB nq
      generalize World.drewN _ nq = W1 at *
      go_wp2_with fail
      go_ret
      exact ⟨by rw [hno.out]; rfl, hB⟩
   ·obtain rfl : k = n := by omega
    have hltz : ¬ (k : Int) < (k : Int) := by omega
    have hyes : Hid (decide (zs = ys) = true) := Lib.hid (decide_eq_true (by have h := HT.out; rwa [List.take_of_length_le (by rw [HN.out]; omega), List.take_of_length_le (by rw [HM.out]; omega)] at h))
    go_wp2_with fail
    go_ret
    exact ⟨by rw [hyes.out]; rfl, hB⟩
 ·have hno : Hid (decide (zs = ys) = false) := Lib.hid (decide_eq_false fun e => hnm (by rw [← hn, ← hm, e]))
  have hnn : ((n : Int) != (m : Int)) = true := by simp; omega
  clear hn hm hz hy
  go_enter Tryz.func37, Tryz.ntmps37
  go_wp2_with fail
  go_ret
  exact ⟨by rw [hno.out]; rfl, hB⟩
def trB (g : Grp) (L : List Acc) (G : List Ent) (Xs : List Etl) (e hi : Int) : List Bal := if lgE g L G Xs e = 0 then trL (G.getD e.toNat ent0).L Xs e hi else []
def TrQ (M : List Bal) (E : Int) (r : Ending) (W : World) : Prop := ∃ A c, r = .returned (.tuple #[.slice A M.length c, .int .i64 E]) ∧ BalAt W A M
theorem TrQ.nil {E : Int} {W : World} : TrQ [] E (.returned (.tuple #[.slice none 0 0, .int .i64 E])) W := ⟨none, 0, rfl, fun h => absurd h (by decide)⟩
theorem TrQ.of {M : List Bal} {W : World} {v : Value} {base : Nat} (h : OwnB 73 W base v M) : TrQ M 0 (.returned (.tuple #[v, .int .i64 0])) W := by
 obtain ⟨A, c, rfl, h2⟩ := h.slb
 exact ⟨A, c, rfl, h2⟩
theorem ens_chart {L : List Acc} {R : List Int} {G : List Ent} (h : ensP L R G = true) {i : Nat} (hi : i < G.length) : codesB (G.getD i ent0).L = true := by
 unfold ensP at h
 simp only [Bool.and_eq_true, decide_eq_true_eq, Bool.not_eq_true'] at h
 have h1 := allTo_is.1 h.2.2.2 i hi
 unfold rowP enpB at h1
 simp only [Bool.and_eq_true] at h1
 have h2 := h1.2.2.2.1
 unfold mvB at h2
 simp only [Bool.and_eq_true] at h2
 have h3 := h2.2.1
 unfold vB at h3
 simp only [Bool.and_eq_true] at h3
 exact h3.1.1.1.2
theorem grp_chart {g : Grp} {L : List Acc} {G : List Ent} (h : grpP g L G = true) {i : Nat} (hi : i < G.length) : codesB (G.getD i ent0).L = true := by
 unfold grpP at h
 simp only [Bool.and_eq_true] at h
 exact ens_chart h.2.2.2.2 hi
theorem trL_len (L : List Acc) (Xs : List Etl) (e hi : Int) : (trL L Xs e hi).length ≤ L.length := rowsB_len
set_option maxRecDepth 100000 in
set_option maxHeartbeats 12800000 in
theorem ltrial_any (g : Grp) (L : List Acc) (G : List Ent) (A : Option Addr) (c : Nat) (Xs : List Etl) (e hi : Int) (w : World) (h : LgX w g L G A c Xs) :
  Calls Tryz.prog 35 #[grpV g, .slice A Xs.length c, .int .i64 e, .int .i64 hi] w fun r w' => TrQ (trB g L G Xs e hi) (lgE g L G Xs e) r w' ∧ Below w.heap.size w w' := by
 obtain ⟨GV, hGV⟩ : ∃ GV, GV = grpV g := ⟨_, rfl⟩
 obtain ⟨gs, hgs⟩ : ∃ gs, (grpC g).toArray = gs := ⟨_, rfl⟩
 obtain ⟨s0, hs0⟩ : ∃ s0, w.heap.size = s0 := ⟨_, rfl⟩
 obtain ⟨w2, hw2⟩ : ∃ w2, w.alloc (.cells gs 29) = w2 := ⟨_, rfl⟩
 have HGB : Hid (Wh 29 w2 s0 (grpC g)) := Lib.hid (by rw [← hw2, ← hgs, ← hs0]; exact Wh.new w _ _)
 have HB2 : Hid (Below w.heap.size w w2) := Lib.hid (by rw [← hw2]; exact below_alloc_new _)
 have HS0 := Lib.hid hs0
 have HLG : Hid (∀ W, Below w2.heap.size w2 W → (Instr.loadAt 29 (.pointer (some ⟨s0, 0, none⟩))).run Tryz.prog W = .ok GV W) := Lib.hid (fun W h => by rw [hGV, grpV_is]; exact (HGB.out.up h).rg.load 0 29 (grpC g) rfl _ Tryz.underlying29 rfl (by kernel_rfl))
 have HBC : Hid (Below w2.heap.size w2 w2) := Lib.hid (Below.refl _ _)
 have HBW : Hid (∀ W, Below w2.heap.size w2 W → Below w.heap.size w W) := Lib.hid (fun W h => HB2.out.trans (h.mono HB2.out.size))
 have HCE := Lib.hid (fun W (hb : Below w2.heap.size w2 W) => lce_any g L G A c Xs e W ((h.up HB2.out).up hb))
 have HBA := Lib.hid (fun W (hb : Below w2.heap.size w2 W) a => lbal_any A c Xs e a hi W ((h.up HB2.out).up hb).hz ((h.up HB2.out).up hb).hzs h.zn h.l5)
 have hGS : GV = .agg gs := by rw [hGV, grpV_is, hgs]
 rw [← hGV] at HCE ⊢
 rw [hGS]
 clear hGS hGV
 have HC20 : Hid (∀ W, Below w2.heap.size w2 W → W.cell? ⟨s0, 20, none⟩ = some (.slice g.E g.m g.d)) := Lib.hid (fun W hb => (HGB.out.up hb).at 20 _ rfl)
 have HM1 : True := trivial
 obtain ⟨nx, hnx⟩ : ∃ nx, Xs.length = nx := ⟨_, rfl⟩
 rw [hnx] at HCE HBA ⊢
 obtain ⟨E, hE⟩ : ∃ E, lgE g L G Xs e = E := ⟨_, rfl⟩
 rw [hE] at HCE ⊢
 by_cases hE0 : E = 0
 ·obtain ⟨hjr, he0, he1⟩ := lgE_zero (hE.trans hE0)
  obtain ⟨j, hj⟩ : ∃ j : Nat, e = (j : Int) := ⟨e.toNat, by omega⟩
  subst hj
  have hjm : j < g.m := by omega
  have hjG : j < G.length := by rw [h.hk.lg]; exact hjm
  have hcod := grp_chart (jrn_grp hjr).1 hjG
  have HTR : Hid (trB g L G Xs (j : Int) hi = rowsB (G.getD j ent0).L (trW Xs (j : Int) hi)) := Lib.hid (by unfold trB; rw [hE, if_pos hE0, Int.toNat_natCast]; rfl)
  have z1 : (E != 0) = false := by simp [hE0]
  obtain ⟨eb, eoff, hEE, hew, he5⟩ := ent_at (h.up HB2.out).hk.he hjG
  have hmem : G.getD j ent0 ∈ G := getD_mem_acc hjG
  have hek := ((h.up HB2.out).hk.hk _ hmem)
  have hen := (h.hs.e _ hmem).1
  generalize G.getD j ent0 = ey at *
  have HF2 : Hid (∀ W, Below w2.heap.size w2 W → W.cell? ⟨eb, eoff + j * 5 + 2, none⟩ = some (.slice ey.A ey.n ey.c)) := Lib.hid (fun W hb => (hb.cell (p := ⟨eb, eoff + j * 5 + 2, none⟩) hew).trans he5.c2)
  have HEZ := Lib.hid hek.hz
  have HEL := Lib.hid hek.ln
  have HEN : Hid (ey.n ≤ 60) := Lib.hid hen
  have hjz : (j : Int) < (g.m : Int) := by omega
  have hj0 : (0 : Int) ≤ (j : Int) := by omega
  rw [hEE] at HC20
  obtain ⟨f, hf⟩ : ∃ f : Int → Int, f = trW Xs (j : Int) hi := ⟨_, rfl⟩
  rw [← hf] at HTR
  have HFW : Hid (∀ x, f x = wrap64 (balS Xs (j : Int) x hi)) := Lib.hid (fun x => by rw [hf]; rfl)
  have HBF : Hid (∀ W a, Below w2.heap.size w2 W → Calls Tryz.prog 63 #[.slice A nx c, .int .i64 (j : Int), .int .i64 a, .int .i64 hi] W fun r w' => r = .returned (.int .i64 (f a)) ∧ Below W.heap.size W w') := Lib.hid (fun W a hb => by rw [HFW.out]; exact HBA.out W hb a)
  obtain ⟨EL, hEL⟩ : ∃ EL, ey.L = EL := ⟨_, rfl⟩
  rw [hEL] at HTR HEZ HEL
  obtain ⟨en, hen2⟩ : ∃ en, ey.n = en := ⟨_, rfl⟩
  rw [hen2] at HEL HF2 HEN
  obtain ⟨ea, hea⟩ : ∃ ea, ey.A = ea := ⟨_, rfl⟩
  rw [hea] at HEZ HF2
  clear he5 hek hen hmem hEE hew he0 he1 hE h hjG hcod hjr hf HBA HFW hgs hnx hEL hen2 hea
  subst hE0
  obtain ⟨i0, hi9, hz1, hz2, hz3⟩ := info_parts infoI_bal
  go_enter Tryz.func35, Tryz.ntmps35
  go_wp2_with (first
   | (clear HM1; refine wpList_load_is rfl 29 _ rfl (.pointer (some ⟨s0, 0, none⟩)) rfl GV (HLG.out _ HBC.out) ?_)
   | (go_at_call 61; refine (HCE.out _ HBC.out).mono ?_; rintro r w3 ⟨rfl, hb⟩; have hB3 := Lib.hid (HBC.out.trans (hb.mono HBC.out.size)); clear hb HBC; have HBC := hB3; clear hB3; have C20 := HC20.out _ HBC.out; have F2 := HF2.out _ HBC.out))
  go_loopg [11, 29] en (fun kx s11 s29 wr => ∃ (k : Nat), s29 = .int .i64 (k : Int) ∧ k ≤ en ∧ en - k ≤ kx ∧ Hid (OwnB 73 wr w2.heap.size s11 (rowsB (EL.take k) f)) ∧ Hid (Below w2.heap.size w2 wr))
  case atStart => exact ⟨0, rfl, by omega, by omega, Lib.hid OwnB.nil, HBC⟩
  case round =>
   clear HBC
   obtain ⟨k, rfl, hk, hkx, hO, HBC⟩ := hrel
   by_cases hlt : k < en
   ·have hltz : (k : Int) < (en : Int) := by omega
    obtain ⟨ba, offa, rfl, hbwa, hcsa⟩ := HEZ.out (by rw [HEL.out]; omega)
    have hen100 := HEN.out
    have a4 := (hcsa k (by rw [HEL.out]; exact hlt)).up HBC.out hbwa
    have htk := rowsB_succ (L := EL) (f := f) (k := k) (by rw [HEL.out]; exact hlt)
    have hln : Hid ((rowsB (EL.take k) f).length ≤ 100000000) := Lib.hid (by have := rowsB_len (L := EL.take k) (f := f); rw [List.length_take] at this; omega)
    generalize EL.getD k acc0 = x at *
    obtain ⟨c0, c1, c2, c3⟩ := a4
    obtain ⟨W5, hW5⟩ : ∃ W5, wr.alloc (.cells #[.int .i64 x.code, .int .i64 x.kind, .int .i64 x.basis, .int .i64 x.par] 118) = W5 := ⟨_, rfl⟩
    have hx5 : Wh 118 W5 wr.heap.size [.int .i64 x.code, .int .i64 x.kind, .int .i64 x.basis, .int .i64 x.par] := by rw [← hW5]; exact Wh.new wr _ _
    have hB5 : Below w2.heap.size w2 W5 := by rw [← hW5]; exact below_new HBC.out _
    have hO5 : OwnB 73 W5 w2.heap.size u11 (rowsB (EL.take k) f) := by rw [← hW5]; exact hO.out.alloc _
    have HX5 := Lib.hid hx5
    have HO5 := Lib.hid hO5
    have hB6 := Lib.hid hB5
    have x0 := hx5.at 0 _ rfl
    clear HBC hcsa hx5 hB5 hO5
    have HBC := hB6
    clear hB6
    have HC := Lib.hid (HBF.out W5 x.code HBC.out)
    obtain ⟨S, hS⟩ : ∃ S, f x.code = S := ⟨_, rfl⟩
    rw [hS] at htk HC
    by_cases h0 : S = 0
    ·rw [if_pos h0] at htk
     have e0 : (S != 0) = false := by simp [h0]
     have HTK := Lib.hid htk
     clear htk h0 hS
     go_wp2_with (first
      | (go_at_call 63; refine HC.out.mono ?_; rintro r w3 ⟨rfl, hb⟩; have HO9 := Lib.hid (HO5.out.up hb); have x9 := (HX5.out.up hb).at 0 _ rfl; have hB3 := Lib.hid (HBC.out.trans (hb.mono HBC.out.size)); clear hb HBC; have HBC := hB3; clear hB3))
     go_roundg (en - (k + 1))
     case measure => omega
     case rel => exact ⟨k + 1, by go_num, by omega, by omega, Lib.hid (by rw [HTK.out]; exact HO9.out), HBC⟩
    ·rw [if_neg h0] at htk
     have e0 : (S != 0) = true := by simp [h0]
     have HTK := Lib.hid htk
     clear htk h0 hS
     go_wp2_with (first
      | (go_at_call 63; refine HC.out.mono ?_; rintro r w3 ⟨rfl, hb⟩; have HO9 := Lib.hid (HO5.out.up hb); have x9 := (HX5.out.up hb).at 0 _ rfl; have hB3 := Lib.hid (HBC.out.trans (hb.mono HBC.out.size)); clear hb HBC; have HBC := hB3; clear hB3)
      | (at_builtin; refine wpList_append_bg _ rfl (.tmp 41) (.tmp 46) 69 rfl w2.heap.size 73 i0 16 Tryz.underlying69 hi9 hz1 hz2 hz3 (by omega) u11 _ (by rfl) HO9.out x.code S _ 1 (by first | rfl | simp) rfl hln.out HBC.out.size ?_; intro v2 w4 ho2 hb2; have HO4 : Hid (OwnB 73 w4 w2.heap.size v2 (rowsB (EL.take (k + 1)) f)) := Lib.hid (by rw [HTK.out]; exact ho2.out); have HBN := Lib.hid (HBC.out.trans hb2); clear ho2 hb2))
     go_roundg (en - (k + 1))
     case measure => omega
     case rel => exact ⟨k + 1, by go_num, by omega, by omega, HO4, HBN⟩
   ·obtain rfl : k = en := by omega
    have hltz : ¬ (k : Int) < (k : Int) := by omega
    have HTQ : Hid (TrQ (trB g L G Xs (j : Int) hi) 0 (.returned (.tuple #[u11, .int .i64 0])) wr) := Lib.hid (by rw [HTR.out]; have h9 := hO.out; rw [List.take_of_length_le (by rw [HEL.out]; exact Nat.le_refl _)] at h9; exact TrQ.of h9)
    clear hO
    go_wp2_with fail
    go_ret2
    exact ⟨HTQ.out, by have h9 := HBW.out _ HBC.out; first | exact h9 | (rw [← HS0.out]; exact h9)⟩
 ·have z1 : (E != 0) = true := by simp [hE0]
  have HTR : Hid (trB g L G Xs e hi = []) := Lib.hid (by unfold trB; rw [hE, if_neg hE0])
  rw [HTR.out]
  clear hE hE0 h HBA
  go_enter Tryz.func35, Tryz.ntmps35
  go_wp2_with (first
   | (clear HM1; refine wpList_load_is rfl 29 _ rfl (.pointer (some ⟨s0, 0, none⟩)) rfl GV (HLG.out _ HBC.out) ?_)
   | (go_at_call 61; refine (HCE.out _ HBC.out).mono ?_; rintro r w3 ⟨rfl, hb⟩; have hB3 := Lib.hid (HBC.out.trans (hb.mono HBC.out.size)); clear hb HBC; have HBC := hB3; clear hB3))
  go_ret2
  exact ⟨TrQ.nil, by have h9 := HBW.out _ HBC.out; first | exact h9 | (rw [← HS0.out]; exact h9)⟩
def fewR (e : Ent) : Bool := decide (e.n ≤ 40) && (decide (e.m ≤ 60) && !decide ((60 : Int) < wrap64 ((e.nm.size : Int) + (e.cur.size : Int))))
def few10 (g : Grp) (G : List Ent) : Bool := allTo (fun i => fewR (G.getD i ent0)) G.length && (decide (g.n ≤ 60) && (decide (g.m ≤ 14) && decide ((g.cur.size : Int) ≤ 20)))
theorem few_sm {g : Grp} {G : List Ent} (h : few10 g G = true) : Sm g G := by
 unfold few10 at h
 simp only [Bool.and_eq_true, decide_eq_true_eq] at h
 obtain ⟨h1, h2, h3, -⟩ := h
 refine ⟨h2, h3, fun e he => ?_⟩
 obtain ⟨i, hi, rfl⟩ := mem_getD_acc (d := ent0) he
 have h4 := allTo_is.1 h1 i hi
 unfold fewR at h4
 simp only [Bool.and_eq_true, decide_eq_true_eq] at h4
 exact ⟨by omega, h4.2.1⟩
set_option maxRecDepth 20000 in
set_option maxHeartbeats 1600000 in
theorem rfew10_is (g : Grp) (G : List Ent) (w : World) (he : EntsAt w g.E G) (lg : G.length = g.m) (hmx : g.m ≤ 9223372036854775807) :
  Calls Tryz.prog 43 #[grpV g] w fun e w' => e = .returned (.bool (few10 g G)) ∧ Below w.heap.size w w' := by
 have hB := below_alloc_new (w := w) (.cells #[.string g.cur, .int .i64 g.cy, .int .i64 g.cm, .int .i64 g.cp, .slice g.A g.n g.c, .int .i64 g.r0, .int .i64 g.r1, .int .i64 g.r2, .int .i64 g.r3, .int .i64 g.r4, .int .i64 g.r5, .int .i64 g.r6, .int .i64 g.r7, .int .i64 g.r8, .int .i64 g.r9, .int .i64 g.r10, .int .i64 g.r11, .int .i64 g.r12, .int .i64 g.r13, .int .i64 g.r14, .slice g.E g.m g.d] 29)
 have hG := gb_new w 29 g
 have hv : few10 g G = (allTo (fun i => fewR (G.getD i ent0)) G.length && (decide (g.n ≤ 60) && (decide (g.m ≤ 14) && decide ((g.cur.size : Int) ≤ 20)))) := rfl
 rw [lg] at hv
 generalize few10 g G = r at *
 obtain ⟨P, hP⟩ : ∃ P : Nat → Bool, (fun i => fewR (G.getD i ent0)) = P := ⟨_, rfl⟩
 have hpk : ∀ k, P k = fewR (G.getD k ent0) := fun k => by rw [← hP]
 rw [hP] at hv
 have HV := Lib.hid hv
 have HPK := Lib.hid hpk
 clear hv hpk hP
 obtain ⟨s0, hs0⟩ : ∃ s0, w.heap.size = s0 := ⟨_, rfl⟩
 rw [hs0] at hB hG ⊢
 have HM := Lib.hid lg
 have HZ := Lib.hid he
 have HS0 := Lib.hid hs0
 have HG := Lib.hid hG
 clear he lg hG
 go_enter Tryz.func43, Tryz.ntmps43
 go_wp2_with fail
 clear hs0
 go_loopg [3] g.m (fun kx s3 wr => ∃ k : Nat, s3 = .int .i64 k ∧ k ≤ g.m ∧ g.m - k ≤ kx ∧ Hid (allTo P k = true) ∧ Hid (GB wr s0 g) ∧ Below s0 w wr)
 case atStart => exact ⟨0, rfl, by omega, by omega, Lib.hid rfl, HG, hB⟩
 case round =>
  clear hB HG
  obtain ⟨k, rfl, hk, hkx, HN, HG, hB⟩ := hrel
  have c20 := HG.out.c20
  have hsz : s0 ≤ wr.heap.size := by have := hB.size; have := HS0.out; omega
  by_cases hlt : k < g.m
  ·have hltz : (k : Int) < (g.m : Int) := by omega
   obtain ⟨b, off, eE, hbw, hcs⟩ := ent_at HZ.out (k := k) (by rw [HM.out]; omega)
   obtain ⟨c0, c1, c2, c3, c4⟩ := hcs.up hB (by have := HS0.out; omega)
   have hno : P k = false → r = false := fun h => by rw [HV.out, allTo_no hlt h]; rfl
   have hnx : P k = true → Hid (allTo P (k + 1) = true) := fun h => Lib.hid (by show (allTo P k && P k) = true; rw [HN.out, h]; rfl)
   have hpk := HPK.out k
   obtain ⟨x, hx⟩ : ∃ x, G.getD k ent0 = x := ⟨_, rfl⟩
   rw [hx] at c0 c1 c2 c3 c4 hpk
   have hfr : fewR x = (decide (x.n ≤ 40) && (decide (x.m ≤ 60) && !decide ((60 : Int) < wrap64 ((x.nm.size : Int) + (x.cur.size : Int))))) := rfl
   rw [hfr] at hpk
   generalize P k = pk at *
   obtain ⟨z0, z1, z2, z3, z4, zlt⟩ := eb_new wr 116 x.nm x.cur x.A x.n x.c x.B x.m x.d x.jt
   have hB1 : Below s0 w (wr.alloc (.cells #[.string x.nm, .string x.cur, .slice x.A x.n x.c, .slice x.B x.m x.d, .bool x.jt] 116)) := hB.alloc hsz _
   have HG1 := Lib.hid (HG.out.up (below_alloc_new (w := wr) (.cells #[.string x.nm, .string x.cur, .slice x.A x.n x.c, .slice x.B x.m x.d, .bool x.jt] 116)))
   clear hcs hx HN HG hfr
   rcases Nat.lt_or_ge 40 x.n with h1 | h1
   ·have e1 : decide ((40 : Int) < (x.n : Int)) = true := decide_eq_true (by omega)
    have HR := Lib.hid (hno (by rw [hpk, decide_eq_false (show ¬ x.n ≤ 40 by omega)]; rfl))
    clear hnx h1 hno hpk
    go_wp2_with fail
    go_ret
    exact ⟨by rw [HR.out]; rfl, hB1⟩
   have e1 : decide ((40 : Int) < (x.n : Int)) = false := decide_eq_false (by omega)
   rcases Nat.lt_or_ge 60 x.m with h2 | h2
   ·have e2 : decide ((60 : Int) < (x.m : Int)) = true := decide_eq_true (by omega)
    have HR := Lib.hid (hno (by rw [hpk, decide_eq_false (show ¬ x.m ≤ 60 by omega)]; simp))
    clear hnx h1 h2 hno hpk
    go_wp2_with fail
    go_ret
    exact ⟨by rw [HR.out]; rfl, hB1⟩
   have e2 : decide ((60 : Int) < (x.m : Int)) = false := decide_eq_false (by omega)
   rw [decide_eq_true h1, decide_eq_true h2] at hpk
   clear h1 h2
   cases e3 : decide ((60 : Int) < wrap64 ((x.nm.size : Int) + (x.cur.size : Int)))
   ·have HN2 := hnx (by rw [hpk, e3]; rfl)
    clear hnx hno hpk
    go_wp2_with fail
    go_roundg (g.m - (k + 1))
    case measure => omega
    case rel => exact ⟨k + 1, by go_num, by omega, by omega, HN2, HG1, hB1⟩
   ·have HR := Lib.hid (hno (by rw [hpk, e3]; rfl))
    clear hnx hno hpk
    go_wp2_with fail
    go_ret
    exact ⟨by rw [HR.out]; rfl, hB1⟩
  ·have hke : k = g.m := by omega
   have hltz : ¬ (k : Int) < (g.m : Int) := by omega
   have hv2 := HV.out
   rw [← hke, HN.out, Bool.true_and] at hv2
   have hm9 : decide (k ≤ 14) = decide (g.m ≤ 14) := by rw [hke]
   have c4 := HG.out.c4
   have c0 := HG.out.c0
   clear hke
   rcases Nat.lt_or_ge 60 g.n with h1 | h1
   ·have e1 : decide ((g.n : Int) ≤ 60) = false := decide_eq_false (by omega)
    have HR : Hid (r = false) := Lib.hid (by rw [hv2, decide_eq_false (show ¬ g.n ≤ 60 by omega)]; rfl)
    clear h1 hv2
    go_wp2_with fail
    go_ret
    exact ⟨by rw [HR.out]; rfl, hB⟩
   have e1 : decide ((g.n : Int) ≤ 60) = true := decide_eq_true (by omega)
   rcases Nat.lt_or_ge 14 g.m with h2 | h2
   ·have e2 : decide ((g.m : Int) ≤ 14) = false := decide_eq_false (by omega)
    have HR : Hid (r = false) := Lib.hid (by rw [hv2, hm9, decide_eq_false (show ¬ g.m ≤ 14 by omega)]; simp)
    clear h1 h2 hv2 hm9
    go_wp2_with fail
    go_ret
    exact ⟨by rw [HR.out]; rfl, hB⟩
   have e2 : decide ((g.m : Int) ≤ 14) = true := decide_eq_true (by omega)
   have HR : Hid (r = decide ((g.cur.size : Int) ≤ 20)) := Lib.hid (by rw [hv2, hm9, decide_eq_true h1, decide_eq_true h2]; rfl)
   clear h1 h2 hv2 hm9
   go_wp2_with fail
   go_ret
   exact ⟨by rw [HR.out]; rfl, hB⟩
def bigA (l : Lnk) : Bool := decide (l.tgt > 1125899906842624) || decide (l.tgt < -1125899906842624)
def fewE (p : Etl) : Bool := !(decide (60 < p.1.n) || decide (200 < p.1.txt.size)) && p.2.all fun l => !bigA l
def fewX (Xs : List Etl) : Bool := Xs.all fewE && decide (Xs.length ≤ 61)
theorem fewX_no {Xs : List Etl} {i : Nat} {p : Etl} (h : Xs[i]? = some p) (hp : fewE p = false) : fewX Xs = false := by
 unfold fewX
 have h1 : Xs.all fewE = false := by
  cases h2 : Xs.all fewE with
  | false => rfl
  | true => rw [List.all_eq_true.1 h2 p (List.mem_of_getElem? h)] at hp; cases hp
 rw [h1]; rfl
theorem fewX_long {Xs : List Etl} {i : Nat} {p : Etl} (h : Xs[i]? = some p) (hi : 60 < i) : fewX Xs = false := by
 unfold fewX
 have h1 : i < Xs.length := (List.getElem?_eq_some_iff.1 h).1
 rw [decide_eq_false (by omega : ¬ Xs.length ≤ 61), Bool.and_false]
theorem fewX_yes {Xs : List Etl} {n : Nat} (hn : Xs.length = n) (h : ∀ t, t < n → ∀ p, Xs[t]? = some p → fewE p = true) (h1 : n ≤ 61) : fewX Xs = true := by
 unfold fewX
 rw [decide_eq_true (by omega), Bool.and_true]
 refine List.all_eq_true.2 fun p hp => ?_
 obtain ⟨t, ht, e⟩ := List.getElem_of_mem hp
 exact h t (by omega) p (by rw [List.getElem?_eq_getElem ht, e])
theorem fewE_big {p : Etl} {k : Nat} {l : Lnk} (h : p.2[k]? = some l) (hl : bigA l = true) : fewE p = false := by
 unfold fewE
 have h1 : (p.2.all fun l => !bigA l) = false := by
  cases h2 : (p.2.all fun l => !bigA l) with
  | false => rfl
  | true => have := List.all_eq_true.1 h2 l (List.mem_of_getElem? h); rw [hl] at this; cases this
 rw [h1, Bool.and_false]
theorem fewE_yes {p : Etl} {m : Nat} (hm : p.2.length = m) (h1 : ¬ 60 < p.1.n) (h2 : ¬ 200 < p.1.txt.size) (h : ∀ t, t < m → ∀ l, p.2[t]? = some l → bigA l = false) : fewE p = true := by
 unfold fewE
 rw [decide_eq_false h1, decide_eq_false h2]
 simp only [Bool.or_self, Bool.not_false, Bool.true_and]
 refine List.all_eq_true.2 fun l hl => ?_
 obtain ⟨t, ht, e⟩ := List.getElem_of_mem hl
 rw [h t (by omega) l (by rw [List.getElem?_eq_getElem ht, e])]; rfl
set_option maxRecDepth 100000 in
set_option maxHeartbeats 12800000 in
theorem r12few_any (g : Grp) (G : List Ent) (A : Option Addr) (c : Nat) (Xs : List Etl) (w : World) (hE : EntsAt w g.E G) (hlg : G.length = g.m) (hmx : g.m ≤ 9223372036854775807) (hz : RowAt lyX w A (Xs.map (·.1))) (hzs : EtysK w Xs) (hl : Xs.length ≤ 9223372036854775807) (hn : ∀ p ∈ Xs, p.1.n ≤ 9223372036854775807 ∧ p.1.txt.size ≤ maxLen) :
  Calls Tryz.prog 14 #[grpV g, .slice A Xs.length c] w fun e w' => e = .returned (.bool (fewX Xs && few10 g G)) ∧ Below w.heap.size w w' := by
 have HFW := Lib.hid (fun W (h : EntsAt W g.E G) => rfew10_is g G W h hlg hmx)
 obtain ⟨n, hnn⟩ : ∃ n, Xs.length = n := ⟨_, rfl⟩
 rw [hnn] at hl ⊢
 obtain ⟨GV, hGV⟩ : ∃ GV, GV = grpV g := ⟨_, rfl⟩
 rw [← hGV] at HFW
 obtain ⟨gs, hgs⟩ : ∃ gs, (grpC g).toArray = gs := ⟨_, rfl⟩
 rw [show grpV g = .agg gs by rw [grpV_is, hgs]]
 obtain ⟨s0, hs0⟩ : ∃ s0, w.heap.size = s0 := ⟨_, rfl⟩
 obtain ⟨w2, hw2⟩ : ∃ w2, w.alloc (.cells gs 29) = w2 := ⟨_, rfl⟩
 have HGB : Hid (Wh 29 w2 s0 (grpC g)) := Lib.hid (by rw [← hw2, ← hgs, ← hs0]; exact Wh.new w _ _)
 have HB2 : Hid (Below w.heap.size w w2) := Lib.hid (by rw [← hw2]; exact below_alloc_new _)
 have HE2 := Lib.hid (hE.up HB2.out)
 have HZ2 := Lib.hid (hz.up HB2.out)
 have HZS := Lib.hid (hzs.up HB2.out)
 have HS0 := Lib.hid hs0
 have HNN := Lib.hid hnn
 have HLL := Lib.hid hl
 have HPN := Lib.hid hn
 have HLG : Hid ((Instr.loadAt 29 (.pointer (some ⟨s0, 0, none⟩))).run Tryz.prog w2 = .ok GV w2) := Lib.hid (by rw [hGV, grpV_is]; exact HGB.out.rg.load 0 29 (grpC g) rfl _ Tryz.underlying29 rfl (by kernel_rfl))
 clear hE hz hzs hnn hn hgs hGV hl
 go_enter Tryz.func14, Tryz.ntmps14
 go_wp2_with fail
 go_loopg [5] n (fun kx s5 wr => ∃ (i : Nat), s5 = .int .i64 (i : Int) ∧ i ≤ n ∧ n - i ≤ kx ∧ i ≤ 61 ∧ Hid (∀ t, t < i → ∀ p, Xs[t]? = some p → fewE p = true) ∧ wr = w2)
 case atStart => exact ⟨0, rfl, by omega, by omega, by omega, Lib.hid (fun t h => by omega), rfl⟩
 case round =>
  obtain ⟨i, rfl, hi, hkx, hi61, HALL, hW⟩ := hrel
  have hW2 := hW.symm
  subst hW2
  clear hW
  by_cases hlt : i < n
  ·have hltz : (i : Int) < (n : Int) := by omega
   obtain ⟨p, hp⟩ : ∃ p, Xs[i]? = some p := ⟨_, List.getElem?_eq_getElem (by rw [HNN.out]; exact hlt)⟩
   have hym : (Xs.map (·.1))[i]? = some p.1 := by rw [List.getElem?_map, hp]; rfl
   have hkk := HZS.out p (List.mem_of_getElem? hp)
   obtain ⟨hp1, hp2⟩ := HPN.out p (List.mem_of_getElem? hp)
   obtain ⟨bb, off, hA, hbl, hrg⟩ := HZ2.out.at hym
   subst hA
   obtain ⟨y, Y⟩ := p
   have c5 : w2.cell? ⟨bb, off + i * 7 + 5, none⟩ = some (.string y.txt) := hrg 5 _ rfl
   have c6 : w2.cell? ⟨bb, off + i * 7 + 6, none⟩ = some (.slice y.A y.n y.c) := hrg 6 _ rfl
   have HP := Lib.hid hp
   have HYL : Hid (Y.length = y.n) := Lib.hid hkk.ln
   have HYZ := Lib.hid hkk.hz
   have HY1 : Hid (y.n ≤ 9223372036854775807) := Lib.hid hp1
   have HY2 : Hid (y.txt.size ≤ maxLen) := Lib.hid hp2
   clear hp hym hkk hrg hbl hp1 hp2
   by_cases g1 : 60 < y.n
   ·have d1 : decide ((y.n : Int) > 60) = true := decide_eq_true (by omega)
    have d2 : decide ((60 : Int) < (y.n : Int)) = true := decide_eq_true (by omega)
    have HR : Hid (fewX Xs = false) := Lib.hid (fewX_no HP.out (by unfold fewE; rw [decide_eq_true g1]; rfl))
    clear g1
    go_wp2_with fail
    go_ret
    exact ⟨by rw [HR.out]; rfl, by have h9 := HB2.out; first | exact h9 | (rw [← HS0.out]; exact h9)⟩
   ·have d1 : decide ((y.n : Int) > 60) = false := decide_eq_false (by omega)
    have d2 : decide ((60 : Int) < (y.n : Int)) = false := decide_eq_false (by omega)
    by_cases g2 : 200 < y.txt.size
    ·have e1 : decide ((y.txt.size : Int) > 200) = true := decide_eq_true (by omega)
     have e2 : decide ((200 : Int) < (y.txt.size : Int)) = true := decide_eq_true (by omega)
     have HR : Hid (fewX Xs = false) := Lib.hid (fewX_no HP.out (by unfold fewE; rw [decide_eq_true g2, Bool.or_true]; rfl))
     clear g1 g2
     go_wp2_with fail
     go_ret
     exact ⟨by rw [HR.out]; rfl, by have h9 := HB2.out; first | exact h9 | (rw [← HS0.out]; exact h9)⟩
    ·have e1 : decide ((y.txt.size : Int) > 200) = false := decide_eq_false (by omega)
     have e2 : decide ((200 : Int) < (y.txt.size : Int)) = false := decide_eq_false (by omega)
     by_cases g3 : 60 < i
     ·have f1 : decide ((i : Int) > 60) = true := decide_eq_true (by omega)
      have f2 : decide ((60 : Int) < (i : Int)) = true := decide_eq_true (by omega)
      have HR : Hid (fewX Xs = false) := Lib.hid (fewX_long HP.out g3)
      clear g1 g2 g3
      go_wp2_with fail
      go_ret
      exact ⟨by rw [HR.out]; rfl, by have h9 := HB2.out; first | exact h9 | (rw [← HS0.out]; exact h9)⟩
     ·have f1 : decide ((i : Int) > 60) = false := decide_eq_false (by omega)
      have f2 : decide ((60 : Int) < (i : Int)) = false := decide_eq_false (by omega)
      obtain ⟨m, hm⟩ : ∃ m, y.n = m := ⟨_, rfl⟩
      rw [hm] at c6 d1 d2 HYL
      have HM := Lib.hid hm
      have HG1 : Hid (¬ 60 < y.n) := Lib.hid g1
      have HG2 : Hid (¬ 200 < y.txt.size) := Lib.hid g2
      clear g1 g2 hm
      go_wp2_with fail
      go_loopg [6] m (fun kz s6 wz => ∃ (k : Nat), s6 = .int .i64 (k : Int) ∧ k ≤ m ∧ m - k ≤ kz ∧ Hid (∀ t, t < k → ∀ l, Y[t]? = some l → bigA l = false) ∧ wz = w2)
      case atStart => exact ⟨0, rfl, by omega, by omega, Lib.hid (fun t h => by omega), rfl⟩
      case round =>
       obtain ⟨k, rfl, hk, hkz, HBG, hV⟩ := hrel
       have hV2 := hV.symm
       subst hV2
       clear hV
       have hm60 : m ≤ 60 := by have := HG1.out; have := HM.out; omega
       by_cases hkt : k < m
       ·have hktz : (k : Int) < (m : Int) := by omega
        obtain ⟨l, hl⟩ : ∃ l, Y[k]? = some l := ⟨_, List.getElem?_eq_getElem (by rw [HYL.out]; exact hkt)⟩
        obtain ⟨gb, go, hB, hgl, hrg2⟩ := (lnk_row.2 HYZ.out).at hl
        have q1 : w2.cell? ⟨gb, go + k * 3 + 1, none⟩ = some (.int .i64 l.tgt) := hrg2 1 _ rfl
        rw [hB] at c6
        have HK := Lib.hid hl
        clear hl hrg2 hgl hB
        by_cases b1 : l.tgt > 1125899906842624
        ·have t1 : decide (l.tgt > 1125899906842624) = true := decide_eq_true b1
         have t2 : decide (1125899906842624 < l.tgt) = true := decide_eq_true b1
         have HR : Hid (fewX Xs = false) := Lib.hid (fewX_no HP.out (fewE_big (p := (y, Y)) HK.out (by unfold bigA; rw [t1]; rfl)))
         clear b1
         go_wp2_with fail
         go_ret
         exact ⟨by rw [HR.out]; rfl, by have h9 := HB2.out; first | exact h9 | (rw [← HS0.out]; exact h9)⟩
        ·have t1 : decide (l.tgt > 1125899906842624) = false := decide_eq_false b1
         have t2 : decide (1125899906842624 < l.tgt) = false := decide_eq_false b1
         by_cases b2 : l.tgt < -1125899906842624
         ·have t3 : decide (l.tgt < -1125899906842624) = true := decide_eq_true b2
          have HR : Hid (fewX Xs = false) := Lib.hid (fewX_no HP.out (fewE_big (p := (y, Y)) HK.out (by unfold bigA; rw [t3, Bool.or_true])))
          clear b1 b2
          go_wp2_with fail
          go_ret
          exact ⟨by rw [HR.out]; rfl, by have h9 := HB2.out; first | exact h9 | (rw [← HS0.out]; exact h9)⟩
         ·have t3 : decide (l.tgt < -1125899906842624) = false := decide_eq_false b2
          have HN2 : Hid (∀ t, t < k + 1 → ∀ l, Y[t]? = some l → bigA l = false) := Lib.hid (fun t ht l2 h2 => by
           rcases Nat.lt_or_ge t k with h3 | h3
           ·exact HBG.out t h3 l2 h2
           ·obtain rfl : t = k := by omega
            rw [HK.out] at h2
            injection h2 with h2
            rw [← h2]
            unfold bigA
            rw [t1, t3]; rfl)
          clear b1 b2
          go_wp2_with fail
          go_roundg (m - (k + 1))
          case measure => omega
          case rel => exact ⟨k + 1, by go_num, by omega, by omega, HN2, rfl⟩
       ·obtain rfl : m = k := by omega
        have hktz : ¬ (m : Int) < (m : Int) := by omega
        have HA2 : Hid (∀ t, t < i + 1 → ∀ p, Xs[t]? = some p → fewE p = true) := Lib.hid (fun t ht p2 h2 => by
         rcases Nat.lt_or_ge t i with h3 | h3
         ·exact HALL.out t h3 p2 h2
         ·obtain rfl : t = i := by omega
          rw [HP.out] at h2
          injection h2 with h2
          rw [← h2]
          exact fewE_yes (p := (y, Y)) HYL.out HG1.out HG2.out HBG.out)
        go_wp2_with fail
        go_roundg (n - (i + 1))
        case measure => omega
        case rel => exact ⟨i + 1, by go_num, by omega, by omega, by omega, HA2, rfl⟩
  ·obtain rfl : n = i := by omega
   have hltz : ¬ (n : Int) < (n : Int) := by omega
   have HR : Hid (fewX Xs = true) := Lib.hid (fewX_yes HNN.out HALL.out hi61)
   go_wp2_with (first
    | (refine wpList_load_is rfl 29 _ rfl (.pointer (some ⟨s0, 0, none⟩)) rfl GV HLG.out ?_)
    | (go_at_call 43; refine (HFW.out _ HE2.out).mono ?_; rintro e w3 ⟨rfl, hb⟩; have HB3 := Lib.hid hb; clear hb))
   go_ret
   exact ⟨by rw [HR.out]; rfl, by have h9 := HB2.out.trans (HB3.out.mono HB2.out.size); first | exact h9 | (rw [← HS0.out]; exact h9)⟩
open Go.ChangeShapes Go.WideShapes Go.ChangeAt Go.WideMaps Go.WideElems Go.RowKit Go.Deep Go.Joins
section
variable {H : Type} {enc : TypeId × Value → H} {P : Program} {W : World}
theorem open_nums {E I : TypeId} {fs : Array Field} {fuel : Nat} {cs : List Value} {x : DataW H × List MemPlace} (hE : P.underlying E = some (.struct fs))
  (hone : oneCellFields P fs = true) (hty : (fs.toList.all fun f => f.type == I) = true) (hI : P.underlying I = some (.int .i64))
  (hl : cs.length = fs.size) (h2 : DataW.trod enc P W 0 (fun _ => true) true fuel E cs = some x) :
  ∀ j, j < fs.size → ∃ z : Int, cs[j]? = some (.int .i64 z) ∧ (Lit.int .i64 z).wf = true := by
 intro j hj
 obtain ⟨xs, n', -, -, -, hxl, hff⟩ := DataW.trod_struct hE h2
 have hfj : fs[j]? = some fs[j] := Array.getElem?_eq_getElem hj
 obtain ⟨ho, hk1⟩ := hone_of hone j _ hfj
 have ht : fs[j].type = I := by
  have := List.all_eq_true.1 hty fs[j] (by simp)
  simpa using this
 have hxj : xs[j]? = some (xs[j]'(by omega)) := List.getElem?_eq_getElem (by omega)
 have h3 := hff j _ hfj
 rw [ho, hk1, ht, hxj] at h3
 obtain ⟨z, hz, -, hw⟩ := DataW.trod_int hI h3
 refine ⟨z, ?_, hw⟩
 have h5 : (cs.drop j).take 1 = [cs[j]'(by omega)] := by
  rw [List.drop_eq_getElem_cons (by omega)]; rfl
 rw [h5] at hz
 rw [List.getElem?_eq_getElem (by omega)]
 injection hz with hz
 rw [hz]
end
theorem cells21 {cs : List Value} (h : cs.length = 21) : ∃ c0 c1 c2 c3 c4 c5 c6 c7 c8 c9 c10 c11 c12 c13 c14 c15 c16 c17 c18 c19 c20, cs = [c0, c1, c2, c3, c4, c5, c6, c7, c8, c9, c10, c11, c12, c13, c14, c15, c16, c17, c18, c19, c20] := by
 match cs, h with
 | [c0, c1, c2, c3, c4, c5, c6, c7, c8, c9, c10, c11, c12, c13, c14, c15, c16, c17, c18, c19, c20], _ => exact ⟨c0, c1, c2, c3, c4, c5, c6, c7, c8, c9, c10, c11, c12, c13, c14, c15, c16, c17, c18, c19, c20, rfl⟩
section
variable {H : Type} {enc : TypeId × Value → H} {W : World}
set_option maxRecDepth 100000 in
theorem open_igrp {b0 : Nat} {v : Value} {d : DataW H} {p : List MemPlace} (hval : Value.okWide Tryz.prog W .any b0 29 v) (h : DataW.Trod enc Tryz.prog W 0 (fun _ => true) true 29 v d p) :
  ∃ g L G, v = grpV g ∧ GrK W g L G ∧ GrW g L G ∧ g.m ≤ 9223372036854775807 := by
 obtain ⟨cs, rfl, hsz⟩ := okWide_struct Tryz.underlying29 hval
 obtain ⟨fuel, hf⟩ := h
 have hcs : (Value.agg cs).cells.toList = cs.toList := by simp [Value.cells]
 rw [hcs] at hf
 obtain ⟨xs, n', -, -, hlen, hxl, hff⟩ := DataW.trod_struct Tryz.underlying29 hf
 have hC : Tryz.prog.cellsOf 29 = 21 := by kernel_rfl
 rw [hC] at hlen
 obtain ⟨c0, c1, c2, c3, c4, c5, c6, c7, c8, c9, c10, c11, c12, c13, c14, c15, c16, c17, c18, c19, c20, e21⟩ := cells21 hlen
 have k9 : Tryz.prog.cellsOf 9 = 1 := by kernel_rfl
 have kc : Tryz.prog.cellsOf 23 = 3 := by kernel_rfl
 have ka : Tryz.prog.cellsOf 24 = 1 := by kernel_rfl
 have kr : Tryz.prog.cellsOf 26 = 15 := by kernel_rfl
 have ke : Tryz.prog.cellsOf 27 = 1 := by kernel_rfl
 have hxl' : xs.length = 5 := hxl
 have hget : ∀ i, i < 5 → ∃ y, xs[i]? = some y := fun i hi => ⟨_, List.getElem?_eq_getElem (by omega)⟩
 have h0 : DataW.trod enc Tryz.prog W 0 (fun _ => true) true n' 9 ((cs.toList.drop 0).take (Tryz.prog.cellsOf 9)) = xs[0]? := hff 0 _ rfl
 have h1 : DataW.trod enc Tryz.prog W 0 (fun _ => true) true n' 23 ((cs.toList.drop 1).take (Tryz.prog.cellsOf 23)) = xs[1]? := hff 1 _ rfl
 have h2 : DataW.trod enc Tryz.prog W 0 (fun _ => true) true n' 24 ((cs.toList.drop 4).take (Tryz.prog.cellsOf 24)) = xs[2]? := hff 2 _ rfl
 have h3 : DataW.trod enc Tryz.prog W 0 (fun _ => true) true n' 26 ((cs.toList.drop 5).take (Tryz.prog.cellsOf 26)) = xs[3]? := hff 3 _ rfl
 have h4 : DataW.trod enc Tryz.prog W 0 (fun _ => true) true n' 27 ((cs.toList.drop 20).take (Tryz.prog.cellsOf 27)) = xs[4]? := hff 4 _ rfl
 obtain ⟨y0, e0⟩ := hget 0 (by omega)
 obtain ⟨y1, e1⟩ := hget 1 (by omega)
 obtain ⟨y2, e2⟩ := hget 2 (by omega)
 obtain ⟨y3, e3⟩ := hget 3 (by omega)
 obtain ⟨y4, e4⟩ := hget 4 (by omega)
 rw [e0, k9, e21] at h0
 rw [e1, kc, e21] at h1
 rw [e2, ka, e21] at h2
 rw [e3, kr, e21] at h3
 rw [e4, ke, e21] at h4
 have n1 := open_nums (cs := [c1, c2, c3]) Tryz.underlying23 (by kernel_rfl) (by kernel_rfl) Tryz.underlying3 rfl h1
 have n3 := open_nums (cs := [c5, c6, c7, c8, c9, c10, c11, c12, c13, c14, c15, c16, c17, c18, c19]) Tryz.underlying26 (by kernel_rfl) (by kernel_rfl) Tryz.underlying3 rfl h3
 obtain ⟨cur, q0, -, bc⟩ := DataW.trod_string Tryz.underlying9 h0
 obtain ⟨A, n, c, L, q4, ln, -, hz, wa⟩ := open_waccs Tryz.underlying24 Tryz.underlying118 (by kernel_rfl) (by kernel_rfl) (by kernel_rfl) Tryz.underlying3 h2
 obtain ⟨X, m, cap, G, q20, lg, hmx, he, hk, hb⟩ := open_entsC Tryz.underlying27 h4
 obtain ⟨z1, p1, -⟩ := n1 0 (by decide)
 obtain ⟨z2, p2, -⟩ := n1 1 (by decide)
 obtain ⟨z3, p3, -⟩ := n1 2 (by decide)
 obtain ⟨r0, s0, w0⟩ := n3 0 (by decide)
 obtain ⟨r1, s1, w1⟩ := n3 1 (by decide)
 obtain ⟨r2, s2, w2⟩ := n3 2 (by decide)
 obtain ⟨r3, s3, w3⟩ := n3 3 (by decide)
 obtain ⟨r4, s4, w4⟩ := n3 4 (by decide)
 obtain ⟨r5, s5, w5⟩ := n3 5 (by decide)
 obtain ⟨r6, s6, w6⟩ := n3 6 (by decide)
 obtain ⟨r7, s7, w7⟩ := n3 7 (by decide)
 obtain ⟨r8, s8, w8⟩ := n3 8 (by decide)
 obtain ⟨r9, s9, w9⟩ := n3 9 (by decide)
 obtain ⟨r10, s10, w10⟩ := n3 10 (by decide)
 obtain ⟨r11, s11, w11⟩ := n3 11 (by decide)
 obtain ⟨r12, s12, w12⟩ := n3 12 (by decide)
 obtain ⟨r13, s13, w13⟩ := n3 13 (by decide)
 obtain ⟨r14, s14, w14⟩ := n3 14 (by decide)
 have a0 : c0 = .string cur := by simpa using q0
 have a4 : c4 = .slice A n c := by simpa using q4
 have a20 : c20 = .slice X m cap := by simpa using q20
 have b1 : c1 = .int .i64 z1 := by simpa using p1
 have b2 : c2 = .int .i64 z2 := by simpa using p2
 have b3 : c3 = .int .i64 z3 := by simpa using p3
 have t0 : c5 = .int .i64 r0 := by simpa using s0
 have t1 : c6 = .int .i64 r1 := by simpa using s1
 have t2 : c7 = .int .i64 r2 := by simpa using s2
 have t3 : c8 = .int .i64 r3 := by simpa using s3
 have t4 : c9 = .int .i64 r4 := by simpa using s4
 have t5 : c10 = .int .i64 r5 := by simpa using s5
 have t6 : c11 = .int .i64 r6 := by simpa using s6
 have t7 : c12 = .int .i64 r7 := by simpa using s7
 have t8 : c13 = .int .i64 r8 := by simpa using s8
 have t9 : c14 = .int .i64 r9 := by simpa using s9
 have t10 : c15 = .int .i64 r10 := by simpa using s10
 have t11 : c16 = .int .i64 r11 := by simpa using s11
 have t12 : c17 = .int .i64 r12 := by simpa using s12
 have t13 : c18 = .int .i64 r13 := by simpa using s13
 have t14 : c19 = .int .i64 r14 := by simpa using s14
 subst a0 a4 a20 b1 b2 b3 t0 t1 t2 t3 t4 t5 t6 t7 t8 t9 t10 t11 t12 t13 t14
 refine ⟨⟨cur, z1, z2, z3, A, n, c, r0, r1, r2, r3, r4, r5, r6, r7, r8, r9, r10, r11, r12, r13, r14, X, m, cap⟩, L, G, ?_, ⟨ln, lg, hz, he, hk⟩, ⟨bc, fun x hx => ?_, hb⟩, hmx⟩
 ·rw [← Array.toArray_toList (xs := cs), e21]
 ·simp only [Grp.R, List.mem_cons, List.mem_nil_iff, or_false] at hx
  rcases hx with rfl | rfl | rfl | rfl | rfl | rfl | rfl | rfl | rfl | rfl | rfl | rfl | rfl | rfl | rfl
  ·exact w0
  ·exact w1
  ·exact w2
  ·exact w3
  ·exact w4
  ·exact w5
  ·exact w6
  ·exact w7
  ·exact w8
  ·exact w9
  ·exact w10
  ·exact w11
  ·exact w12
  ·exact w13
  ·exact w14
end
open Go.ChangeShapes Go.WideShapes Go.ChangeAt Go.WideMaps Go.WideElems Go.RowKit Go.Deep Go.Joins
theorem open_wlineK {H : Type} {enc : TypeId × Value → H} {W : World} {fuel : Nat} {cs : List Value} {x : DataW H × List MemPlace} (hf : DataW.trod enc Tryz.prog W 0 (fun _ => true) true fuel 44 cs = some x) :
  ∃ A len cap K, cs = [.slice A len cap] ∧ K.length = len ∧ len ≤ 9223372036854775807 ∧ LnkAt W A K ∧ ∀ l ∈ K, okK (kOf l) ∧ (Lit.int .i64 l.tgt).wf = true := by
 obtain ⟨A, len, cap, K, hcs, hlen, hmax, hz, hw⟩ := open_wlnks Tryz.underlying44 Tryz.underlying59 (by kernel_rfl) (by kernel_rfl) (by kernel_rfl) Tryz.underlying3 hf
 exact ⟨A, len, cap, K, hcs, hlen, hmax, hz, fun l hl => ⟨⟨(hw l hl).frm, (hw l hl).since⟩, (hw l hl).tgt⟩⟩
theorem cellsE7 {cs : List Value} (h : cs.length = 7) : ∃ c0 c1 c2 c3 c4 c5 c6, cs = [c0, c1, c2, c3, c4, c5, c6] := by
 match cs, h with
 | [c0, c1, c2, c3, c4, c5, c6], _ => exact ⟨c0, c1, c2, c3, c4, c5, c6, rfl⟩
section
variable {H : Type} {enc : TypeId × Value → H} {W : World}
end
open Go.ChangeShapes Go.WideShapes Go.ChangeAt Go.WideMaps Go.WideElems Go.RowKit Go.Deep Go.Joins
theorem list_of_all {α : Type} {S : Nat → α → Prop} : ∀ n : Nat, (∀ k, k < n → ∃ a, S k a) → ∃ L : List α, L.length = n ∧ ∀ k, k < n → ∃ a, L[k]? = some a ∧ S k a
 | 0, _ => ⟨[], rfl, fun k h => absurd h (by omega)⟩
 | n + 1, h => by
  obtain ⟨L, hl, hL⟩ := list_of_all n fun k hk => h k (by omega)
  obtain ⟨a, ha⟩ := h n (by omega)
  refine ⟨L ++ [a], by simp [hl], fun k hk => ?_⟩
  rcases Nat.lt_or_ge k n with h1 | h1
  ·obtain ⟨b, hb, hs⟩ := hL k h1
   exact ⟨b, by rw [List.getElem?_append_left (by omega)]; exact hb, hs⟩
  ·obtain rfl : k = n := by omega
   exact ⟨a, by rw [List.getElem?_append_right (by omega), hl]; simp, ha⟩
section
variable {H : Type} {enc : TypeId × Value → H} {P : Program} {W : World}
end
structure EtyW (x : Ety) : Prop where
 id : (Lit.int .i64 x.id).wf = true
 ent : (Lit.int .i64 x.ent).wf = true
 day : (Lit.int .i64 x.day).wf = true
 kind : (Lit.int .i64 x.kind).wf = true
 of_ : (Lit.int .i64 x.of_).wf = true
section
variable {H : Type} {enc : TypeId × Value → H} {W : World}
set_option maxRecDepth 100000 in
theorem open_etyC {fuel : Nat} {cs : List Value} {x : DataW H × List MemPlace} (hf : DataW.trod enc Tryz.prog W 0 (fun _ => true) true fuel 46 cs = some x) : ∃ a : Ety × List Lnk, cs = etyC a.1 ∧ EtyK W a.1 a.2 ∧ a.1.n ≤ 9223372036854775807 ∧ a.1.txt.size ≤ maxLen ∧ EtyW a.1 := by
 obtain ⟨xs, n', -, -, hlen, hxl, hff⟩ := DataW.trod_struct Tryz.underlying46 hf
 have hC : Tryz.prog.cellsOf 46 = 7 := by kernel_rfl
 rw [hC] at hlen
 obtain ⟨c0, c1, c2, c3, c4, c5, c6, e7⟩ := cellsE7 hlen
 have hxl' : xs.length = 7 := hxl
 have hget : ∀ i, i < 7 → ∃ y, xs[i]? = some y := fun i hi => ⟨_, List.getElem?_eq_getElem (by omega)⟩
 have ki : Tryz.prog.cellsOf 3 = 1 := by kernel_rfl
 have kl : Tryz.prog.cellsOf 44 = 1 := by kernel_rfl
 have ks : Tryz.prog.cellsOf 9 = 1 := by kernel_rfl
 have h0 : DataW.trod enc Tryz.prog W 0 (fun _ => true) true n' 3 ((cs.drop 0).take (Tryz.prog.cellsOf 3)) = xs[0]? := hff 0 _ rfl
 obtain ⟨y0, e0⟩ := hget 0 (by omega)
 rw [e0, ki, e7] at h0
 have h1 : DataW.trod enc Tryz.prog W 0 (fun _ => true) true n' 3 ((cs.drop 1).take (Tryz.prog.cellsOf 3)) = xs[1]? := hff 1 _ rfl
 obtain ⟨y1, e1⟩ := hget 1 (by omega)
 rw [e1, ki, e7] at h1
 have h2 : DataW.trod enc Tryz.prog W 0 (fun _ => true) true n' 3 ((cs.drop 2).take (Tryz.prog.cellsOf 3)) = xs[2]? := hff 2 _ rfl
 obtain ⟨y2, e2⟩ := hget 2 (by omega)
 rw [e2, ki, e7] at h2
 have h3 : DataW.trod enc Tryz.prog W 0 (fun _ => true) true n' 3 ((cs.drop 3).take (Tryz.prog.cellsOf 3)) = xs[3]? := hff 3 _ rfl
 obtain ⟨y3, e3⟩ := hget 3 (by omega)
 rw [e3, ki, e7] at h3
 have h4 : DataW.trod enc Tryz.prog W 0 (fun _ => true) true n' 3 ((cs.drop 4).take (Tryz.prog.cellsOf 3)) = xs[4]? := hff 4 _ rfl
 obtain ⟨y4, e4⟩ := hget 4 (by omega)
 rw [e4, ki, e7] at h4
 have h5 : DataW.trod enc Tryz.prog W 0 (fun _ => true) true n' 9 ((cs.drop 5).take (Tryz.prog.cellsOf 9)) = xs[5]? := hff 5 _ rfl
 obtain ⟨y5, e5⟩ := hget 5 (by omega)
 rw [e5, ks, e7] at h5
 have h6 : DataW.trod enc Tryz.prog W 0 (fun _ => true) true n' 44 ((cs.drop 6).take (Tryz.prog.cellsOf 44)) = xs[6]? := hff 6 _ rfl
 obtain ⟨y6, e6⟩ := hget 6 (by omega)
 rw [e6, kl, e7] at h6
 obtain ⟨z0, q0, -, w0⟩ := DataW.trod_int Tryz.underlying3 h0
 have a0 : c0 = .int .i64 z0 := by simpa using q0
 obtain ⟨z1, q1, -, w1⟩ := DataW.trod_int Tryz.underlying3 h1
 have a1 : c1 = .int .i64 z1 := by simpa using q1
 obtain ⟨z2, q2, -, w2⟩ := DataW.trod_int Tryz.underlying3 h2
 have a2 : c2 = .int .i64 z2 := by simpa using q2
 obtain ⟨z3, q3, -, w3⟩ := DataW.trod_int Tryz.underlying3 h3
 have a3 : c3 = .int .i64 z3 := by simpa using q3
 obtain ⟨z4, q4, -, w4⟩ := DataW.trod_int Tryz.underlying3 h4
 have a4 : c4 = .int .i64 z4 := by simpa using q4
 obtain ⟨z5, q5, -, bt⟩ := DataW.trod_string Tryz.underlying9 h5
 have a5 : c5 = .string z5 := by simpa using q5
 obtain ⟨A, n, c, X, q6, lx, hmx, hz, ok⟩ := open_wlineK h6
 have a6 : c6 = .slice A n c := by simpa using q6
 subst a0 a1 a2 a3 a4 a5 a6
 exact ⟨(⟨z0, z1, z2, z3, z4, z5, A, n, c⟩, X), e7, ⟨lx, hz, ok⟩, hmx, bt, ⟨w0, w1, w2, w3, w4⟩⟩
end
theorem three_ofA {α : Type} (l : List α) (h : (⟨l⟩ : Array α).size = 3) : ∃ a b c, l = [a, b, c] := by
 match l, h with
 | [a, b, c], _ => exact ⟨a, b, c, rfl⟩
section
variable {H : Type} {enc : TypeId × Value → H} {P : Program} {w : World} {r : Reach} {b0 base : Nat} {t e : TypeId} {k : IntKind} {spare : Nat → Bool} {held : Bool} {v : Value} {d : DataW H} {ps : List MemPlace}
theorem open_iarr3 (ht : P.underlying t = some (.array 3 e)) (he : P.underlying e = some (.int k)) (hce : P.cellsOf e = 1) (hct : P.cellsOf t = 3) (hval : Value.okWide P w r b0 t v) (hd : DataW.Trod enc P w base spare held t v d ps) :
  ∃ x y z, v = .agg #[.int k x, .int k y, .int k z] ∧ (Lit.int k x).wf = true ∧ (Lit.int k y).wf = true ∧ (Lit.int k z).wf = true := by
 obtain ⟨cs, rfl, hsz, _⟩ : ∃ cs, v = .agg cs ∧ cs.size = P.cellsOf t ∧ Row.okWide P w r b0 t cs := by
  simpa [Value.okWide, ht] using hval
 rw [hct] at hsz
 obtain ⟨l⟩ := cs
 obtain ⟨c0, c1, c2, rfl⟩ := three_ofA l hsz
 obtain ⟨fuel, hf⟩ := hd
 obtain ⟨xs, m, _, hx, _, hl, hel⟩ := DataW.trod_array ht hf
 match xs, hl, hx, hel with
 | [q0, q1, q2], _, hx, hel =>
  have e0 := hel 0 (by omega)
  have e1 := hel 1 (by omega)
  have e2 := hel 2 (by omega)
  rw [hce] at e0 e1 e2
  obtain ⟨x, h0, h0', w0⟩ := DataW.trod_int he (by simpa [Value.cells] using e0 : DataW.trod enc P w base spare held m e [c0] = some q0)
  obtain ⟨y, h1, h1', w1⟩ := DataW.trod_int he (by simpa [Value.cells] using e1 : DataW.trod enc P w base spare held m e [c1] = some q1)
  obtain ⟨z, h2, h2', w2⟩ := DataW.trod_int he (by simpa [Value.cells] using e2 : DataW.trod enc P w base spare held m e [c2] = some q2)
  simp at h0 h1 h2
  subst h0 h1 h2
  exact ⟨x, y, z, rfl, w0, w1, w2⟩
end
open Go.RowKit
theorem lfew_is {g : Grp} {G : List Ent} {Xs : List Etl} (h : (fewX Xs && few10 g G) = true) : Sm g G ∧ Xs.length ≤ 61 ∧ ∀ p ∈ Xs, p.1.n ≤ 60 := by
 rw [Bool.and_eq_true] at h
 obtain ⟨h1, h2⟩ := h
 unfold fewX at h1
 rw [Bool.and_eq_true, decide_eq_true_eq] at h1
 refine ⟨few_sm h2, h1.2, fun p hp => ?_⟩
 have h3 := List.all_eq_true.1 h1.1 p hp
 unfold fewE at h3
 simp only [Bool.and_eq_true, Bool.not_eq_true', Bool.or_eq_false_iff, decide_eq_false_iff_not] at h3
 omega
theorem few_amt {g : Grp} {G : List Ent} {Xs : List Etl} (h : (fewX Xs && few10 g G) = true) : ∀ p ∈ Xs, ∀ l ∈ p.2, -1125899906842624 ≤ l.tgt ∧ l.tgt ≤ 1125899906842624 := by
 rw [Bool.and_eq_true] at h
 obtain ⟨h1, -⟩ := h
 unfold fewX at h1
 rw [Bool.and_eq_true, decide_eq_true_eq] at h1
 intro p hp l hl
 have h3 := List.all_eq_true.1 h1.1 p hp
 unfold fewE at h3
 rw [Bool.and_eq_true] at h3
 have h4 := List.all_eq_true.1 h3.2 l hl
 unfold bigA at h4
 simp only [Bool.not_eq_true', Bool.or_eq_false_iff, decide_eq_false_iff_not] at h4
 omega
theorem lgx_of {W : World} {g : Grp} {L : List Acc} {G : List Ent} {A : Option Addr} {c : Nat} {Xs : List Etl} (hf : Sm g G ∧ Xs.length ≤ 61 ∧ ∀ p ∈ Xs, p.1.n ≤ 60) (hk : GrK W g L G) (hw : GrW g L G) (hz : RowAt lyX W A (Xs.map (·.1))) (hzs : EtysK W Xs) (hq : ∀ p ∈ Xs, p.1.n ≤ 9223372036854775807 ∧ p.1.txt.size ≤ maxLen ∧ EtyW p.1) (hc : Xs.length ≤ c) : LgX W g L G A c Xs :=
 ⟨hk, hf.1, hw, hz, hzs, by have := hf.2.1; omega, fun p hp => ⟨by have := hf.2.2 p hp; omega, (hq p hp).2.1, (hq p hp).2.2.id, (hq p hp).2.2.of_⟩, hc⟩
theorem ck_ok {g : Grp} {L : List Acc} {G : List Ent} {p : Etl} (h : ckE g L G p = 0) : wr (sumT p.2) = 0 ∧ acB (G.getD p.1.ent.toNat ent0).L p.2 = true ∧ 1 ≤ p.1.id := by
 unfold ckE rchkN at h
 split at h
 ·rename_i h1
  have h8 : 1 ≤ p.1.id := by
   unfold shpB at h1
   simp only [Bool.and_eq_true, decide_eq_true_eq] at h1
   exact h1.2.1
  split at h
  ·rename_i h2
   unfold rtlN at h
   split at h
   ·split at h
    ·rename_i h3; exact ⟨h3, h2, h8⟩
    ·cases h
   ·cases h
  ·cases h
 ·cases h
theorem own_put7 {e : TypeId} {w : World} {base g n c i : Nat} {L : List Ety} {a : Ety} (h : OwnR lyX e w base (.slice (some ⟨g, 0, none⟩) n c) L) (hi : L[i]? = some a) (a' : Ety) : OwnR lyX e (w.setCells g (i * 7) (etyC a')) base (.slice (some ⟨g, 0, none⟩) n c) (L.set i a') := by
 have hil : i < L.length := (List.getElem?_eq_some_iff.1 hi).1
 have st : ∀ (b : Ety), (L.set i b)[i]? = some b := fun b => by rw [List.getElem?_set_self hil]
 have h0 := h.setf (j := 0) (a' := { a with id := a'.id }) hi (by decide) (.int .i64 a'.id) rfl
 have h1 := h0.setf (j := 1) (a' := { a with id := a'.id, ent := a'.ent }) (st _) (by decide) (.int .i64 a'.ent) rfl
 rw [List.set_set] at h1
 have h2 := h1.setf (j := 2) (a' := { a with id := a'.id, ent := a'.ent, day := a'.day }) (st _) (by decide) (.int .i64 a'.day) rfl
 rw [List.set_set] at h2
 have h3 := h2.setf (j := 3) (a' := { a with id := a'.id, ent := a'.ent, day := a'.day, kind := a'.kind }) (st _) (by decide) (.int .i64 a'.kind) rfl
 rw [List.set_set] at h3
 have h4 := h3.setf (j := 4) (a' := { a with id := a'.id, ent := a'.ent, day := a'.day, kind := a'.kind, of_ := a'.of_ }) (st _) (by decide) (.int .i64 a'.of_) rfl
 rw [List.set_set] at h4
 have h5 := h4.setf (j := 5) (a' := { a with id := a'.id, ent := a'.ent, day := a'.day, kind := a'.kind, of_ := a'.of_, txt := a'.txt }) (st _) (by decide) (.string a'.txt) rfl
 rw [List.set_set] at h5
 have h6 := h5.setf (j := 6) (a' := a') (st _) (by decide) (.slice a'.A a'.n a'.c) rfl
 rw [List.set_set] at h6
 exact h6
theorem own_there7 {e : TypeId} {w : World} {base g n c i : Nat} {L : List Ety} {a : Ety} (h : OwnR lyX e w base (.slice (some ⟨g, 0, none⟩) n c) L) (hi : L[i]? = some a) : w.there g (i * 7) 7 := fun j hj => by
 obtain ⟨E7, d7, e7, hr7, -⟩ := h.reads
 injection e7 with e7 _ _
 obtain ⟨b7, o7, e8, -, hrg⟩ := hr7.at hi
 rw [← e7] at e8
 injection e8 with e8
 injection e8 with e8 e6 _
 subst e8 e6
 rw [Nat.zero_add] at hrg
 exact ⟨World.rangeAt.isSome hrg j hj, h.frozen _⟩
theorem wp_store_at {P : Program} {o : Oper} {a : Act} {w : World} {K : Act → World → Prop} {Q : Exit → Act → World → Prop} (ty : TypeId) (x y : Operand) (hop : o.op = .store ty x y)
  (b off : Nat) (hx : a.eval x = .pointer (some ⟨b, off, none⟩)) (vs : List Value) (hy : a.eval y = .agg vs.toArray) (ht : w.there b off vs.length)
  (hi : (P.info? ty).map (·.size) = some vs.toArray.size) (h1 : vs.toArray.all (·.oneCell') = true)
  (h : K (a.put o.dst undef) (w.setCells b off vs)) : Oper.wp P o a w K Q :=
 wp_store_mid ty x y hop b off vs.toArray hx hy (by simpa using ht) hi h1 h
theorem OwnR.cap {α : Type} {R : Lay α} {e : TypeId} {w : World} {base n c : Nat} {A : Option Addr} {L : List α} (h : OwnR R e w base (.slice A n c) L) : L.length ≤ c := by
 rcases h.2 with ⟨h1, h0⟩ | ⟨g', cap, cur, h9, hbg, hg, hn, hcap, hsz, hcur⟩
 ·rw [h0]; exact Nat.zero_le _
 ·injection h9 with _ _ h6
  subst h6
  exact hn
end Go.Proofs.YthokdplikidhiaaGreat
