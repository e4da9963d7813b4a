/- Contracts and the law of EntryLines, part 1: what was proved of each, callees first. -/
import Derived.BigRegion
import Derived.BigQuiet
import Derived.Deep.RegionHeldLaw
import Derived.Laws.Rows
import Derived.Test.YtfombohomebokaaEK2
namespace Go.Proofs.Ytfombohomebokaa
open Go.RowKit
structure IsAll (L A : List Lnk) : Prop where
 asc : AscL A
 val : ∀ a ∈ A, a.tgt = wr (amtK L (kOf a))
 key : ∀ k, k ∈ L.map kOf ↔ k ∈ A.map kOf
theorem ascL_iff (A : List Lnk) : AscL A ↔ (A.map kOf).Pairwise ltK := by
 unfold AscL
 rw [List.pairwise_map]
theorem isall_nil : IsAll [] [] := ⟨List.Pairwise.nil, fun _ h => by simp at h, fun _ => Iff.rfl⟩
theorem amtK_snoc (L : List Lnk) (x : Lnk) (k : Int × Int) : amtK (L ++ [x]) k = amtK L k + if kOf x = k then x.tgt else 0 := by
 rw [amtK_append, amtK_cons, amtK_nil]; omega
theorem isall_upd {L A1 B : List Lnk} {b x : Lnk} (h : IsAll L (A1 ++ b :: B)) (hk : kOf b = kOf x) : IsAll (L ++ [x]) (A1 ++ ⟨b.frm, wr (b.tgt + x.tgt), b.since⟩ :: B) := by
 have hm : (A1 ++ ⟨b.frm, wr (b.tgt + x.tgt), b.since⟩ :: B).map kOf = (A1 ++ b :: B).map kOf := by simp [kOf]
 have hn := h.asc.nodupK
 have hdis : ∀ a, a ∈ A1 ∨ a ∈ B → kOf x ≠ kOf a := fun a ha e => by
  rw [List.map_append, List.map_cons] at hn
  obtain ⟨_, h2, h3⟩ := List.nodup_append.1 hn
  rcases ha with ha | ha
  ·exact h3 (kOf a) (List.mem_map_of_mem ha) (kOf b) (by simp) (by rw [hk, e])
  ·exact (List.nodup_cons.1 h2).1 (by rw [hk, e]; exact List.mem_map_of_mem ha)
 refine ⟨by rw [ascL_iff, hm, ← ascL_iff]; exact h.asc, fun a ha => ?_, fun k => ?_⟩
 ·rcases List.mem_append.1 ha with h1 | h1
  ·rw [amtK_snoc, if_neg (hdis a (.inl h1)), Int.add_zero]
   exact h.val a (List.mem_append_left _ h1)
  ·rcases List.mem_cons.1 h1 with rfl | h2
   ·have h3 := h.val b (by simp)
    show wr (b.tgt + x.tgt) = wr (amtK (L ++ [x]) (kOf b))
    rw [amtK_snoc, if_pos hk.symm, h3, wr_add]
   ·rw [amtK_snoc, if_neg (hdis a (.inr h2)), Int.add_zero]
    exact h.val a (List.mem_append_right _ (List.mem_cons_of_mem _ h2))
 ·rw [hm, ← h.key k, List.map_append, List.mem_append, List.map_cons, List.map_nil, List.mem_singleton]
  constructor
  ·rintro (h1 | rfl)
   ·exact h1
   ·rw [h.key]
    exact List.mem_map.2 ⟨b, by simp, hk⟩
  ·exact .inl
theorem isall_ins {L A1 A2 : List Lnk} {x : Lnk} (h : IsAll L (A1 ++ A2)) (h1 : ∀ a ∈ A1, ltK (kOf a) (kOf x)) (h2 : ∀ a ∈ A2, ltK (kOf x) (kOf a)) (hx : wr x.tgt = x.tgt) : IsAll (L ++ [x]) (A1 ++ x :: A2) := by
 have hne : ∀ a, a ∈ A1 ++ A2 → kOf x ≠ kOf a := fun a ha e => by
  rcases List.mem_append.1 ha with h3 | h3
  ·have := h1 a h3; rw [e] at this; exact ltK_irrefl _ this
  ·have := h2 a h3; rw [e] at this; exact ltK_irrefl _ this
 have hno : kOf x ∉ L.map kOf := fun hm => by
  obtain ⟨a, ha, e⟩ := List.mem_map.1 ((h.key _).1 hm)
  exact hne a ha e.symm
 have ha := List.pairwise_append.1 h.asc
 refine ⟨List.pairwise_append.2 ⟨ha.1, List.pairwise_cons.2 ⟨h2, ha.2.1⟩, fun a h3 b h4 => ?_⟩, fun a h3 => ?_, fun k => ?_⟩
 ·rcases List.mem_cons.1 h4 with rfl | h5
  ·exact h1 a h3
  ·exact ha.2.2 a h3 b h5
 ·have h4 : a = x ∨ a ∈ A1 ++ A2 := by
   rcases List.mem_append.1 h3 with h5 | h5
   ·exact .inr (List.mem_append_left _ h5)
   ·rcases List.mem_cons.1 h5 with rfl | h6
    ·exact .inl rfl
    ·exact .inr (List.mem_append_right _ h6)
  rcases h4 with rfl | h4
  ·rw [amtK_snoc, if_pos rfl, amtK_none hno, Int.zero_add, hx]
  ·rw [amtK_snoc, if_neg (hne a h4), Int.add_zero]
   exact h.val a h4
 ·rw [List.map_append, List.mem_append, h.key k, List.map_append, List.map_append, List.mem_append, List.mem_append]
  simp only [List.map_cons, List.map_nil, List.mem_cons, List.not_mem_nil, or_false]
  constructor
  ·rintro ((h3 | h3) | h3)
   ·exact .inl h3
   ·exact .inr (.inr h3)
   ·exact .inr (.inl h3)
  ·rintro (h3 | h3 | h3)
   ·exact .inl (.inl h3)
   ·exact .inr h3
   ·exact .inl (.inr h3)
theorem isall_nrm {L A : List Lnk} (h : IsAll L A) : IsNrm L (A.filter fun a => decide (a.tgt ≠ 0)) := by
 refine ⟨h.asc.filter _, fun l => ?_⟩
 rw [List.mem_filter, decide_eq_true_eq]
 constructor
 ·rintro ⟨h1, h2⟩
  exact ⟨h.val l h1, h2⟩
 ·rintro ⟨h1, h2⟩
  refine ⟨?_, h2⟩
  have hk : kOf l ∈ L.map kOf := by
   rcases Decidable.em (kOf l ∈ L.map kOf) with h3 | h3
   ·exact h3
   ·rw [amtK_none h3, wr_zero] at h1
    exact absurd h1 h2
  obtain ⟨a, ha, e⟩ := List.mem_map.1 ((h.key _).1 hk)
  have h4 := h.val a ha
  rw [e, ← h1] at h4
  exact lnk_ext e h4 ▸ ha
def posL : List Lnk → Lnk → Nat
 | [], _ => 0
 | a :: A, x => if ltK (kOf a) (kOf x) then posL A x + 1 else 0
theorem posL_le : ∀ (A : List Lnk) (x : Lnk), posL A x ≤ A.length
 | [], _ => Nat.le_refl _
 | a :: A, x => by
  unfold posL
  have := posL_le A x
  split <;> simp <;> omega
theorem posL_step : ∀ {A : List Lnk} {x : Lnk} {t : Nat}, t ≤ posL A x → (t < posL A x ↔ t < A.length ∧ ltK (kOf (A.getD t lnk0)) (kOf x))
 | [], x, t, h => by simp [posL]
 | a :: A, x, 0, _ => by
  unfold posL
  split
  ·rename_i h; simp [h]
  ·rename_i h; simp [h]
 | a :: A, x, t + 1, h => by
  unfold posL at h ⊢
  split at h
  ·rename_i h1
   rw [if_pos h1]
   have := posL_step (A := A) (x := x) (t := t) (by omega)
   have e1 : (t + 1 < posL A x + 1) ↔ t < posL A x := by omega
   have e2 : (t + 1 < A.length + 1) ↔ t < A.length := by omega
   simp only [List.length_cons, List.getD_cons_succ]
   rw [e1, e2]; exact this
  ·omega
theorem posL_low : ∀ {A : List Lnk} {x a : Lnk}, a ∈ A.take (posL A x) → ltK (kOf a) (kOf x)
 | [], x, a, h => by simp at h
 | b :: A, x, a, h => by
  unfold posL at h
  split at h
  ·rename_i h1
   rw [List.take_succ_cons] at h
   rcases List.mem_cons.1 h with rfl | h2
   ·exact h1
   ·exact posL_low h2
  ·simp at h
theorem celL_set : ∀ (A : List Lnk) (p : Nat) (v : Int), p < A.length → (A.flatMap celL).set (p * 3 + 1) (.int .i64 v) = (A.set p ⟨(A.getD p lnk0).frm, v, (A.getD p lnk0).since⟩).flatMap celL
 | [], _, _, h => by simp at h
 | a :: A, 0, v, _ => by simp [celL]
 | a :: A, p + 1, v, h => by
  have := celL_set A p v (by simpa using h)
  have e1 : (p + 1) * 3 + 1 = p * 3 + 1 + 1 + 1 + 1 := by omega
  rw [List.set_cons_succ, List.flatMap_cons, List.flatMap_cons, e1, List.getD_cons_succ, ← this]
  simp [celL]
theorem OwnL.open {e : TypeId} {w : World} {base : Nat} {v : Value} {A : List Lnk} (h : OwnL e w base v A) (h0 : 0 < A.length) : ∃ g cap, v = .slice (some ⟨g, 0, none⟩) A.length cap ∧ base ≤ g ∧ g < w.heap.size ∧ A.length ≤ cap ∧ cap ≤ maxLen ∧ (∀ i, i < A.length → L3 w g (i * 3) (A.getD i lnk0)) ∧ ∀ o, o < A.length * 3 → w.frozen? ⟨g, o, none⟩ = false := by
 obtain ⟨A', c', e1, hat⟩ := h.reads
 obtain ⟨h1, h2⟩ := h
 rcases h2 with ⟨rfl, h9⟩ | ⟨g, cap, cur, rfl, hbg, hg, hn, hcap, hsz, hcur⟩
 ·omega
 ·cases e1
  obtain ⟨b, off, e2, hlt, hc⟩ := hat h0
  cases e2
  refine ⟨g, _, rfl, hbg, hlt, hn, hcap, fun i hi => by have := hc i hi; rwa [Nat.zero_add] at this, fun o _ => by simp [World.frozen?, hg]⟩
theorem OwnL.pre {e : TypeId} {w : World} {base g n cap : Nat} {A : List Lnk} (h : OwnL e w base (.slice (some ⟨g, 0, none⟩) n cap) A) (hn : A.length = n) {k : Nat} (hk : k ≤ n) : OwnL e w base (.slice (some ⟨g, 0, none⟩) k cap) (A.take k) := by
 obtain ⟨h1, h2⟩ := h
 rcases h2 with ⟨h9, _⟩ | ⟨g', cap', cur, h9, hbg, hg, hle, hcap, hsz, hcur⟩
 ·cases h9
 ·cases h9
  refine ⟨?_, .inr ⟨_, _, cur, ?_, hbg, hg, ?_, hcap, hsz, ?_⟩⟩
  ·rw [celL_len]
  ·rw [List.length_take, hn, Nat.min_eq_left hk]
  ·rw [List.length_take]; omega
  ·have h3 : (A.take k).length = k := by rw [List.length_take, hn]; omega
   rw [h3]
   have h4 := congrArg (List.take (k * 3)) hcur
   rw [List.take_take, Nat.min_eq_left (by omega)] at h4
   rw [h4]
   conv => lhs; rw [← List.take_append_drop k A, List.flatMap_append]
   rw [List.take_append_of_le_length (by rw [celL_len, h3]; omega), List.take_of_length_le (by rw [celL_len, h3]; omega)]
theorem OwnL.set1 {e : TypeId} {w : World} {base g n cap p : Nat} {A : List Lnk} (h : OwnL e w base (.slice (some ⟨g, 0, none⟩) n cap) A) (hp : p < A.length) (v : Int) :
  OwnL e (w.setCell ⟨g, p * 3 + 1, none⟩ (.int .i64 v)) base (.slice (some ⟨g, 0, none⟩) n cap) (A.set p ⟨(A.getD p lnk0).frm, v, (A.getD p lnk0).since⟩) := by
 obtain ⟨h1, h2⟩ := h
 rcases h2 with ⟨h9, _⟩ | ⟨g', cap', cur, h9, hbg, hg, hle, hcap, hsz, hcur⟩
 ·cases h9
 ·cases h9
  refine ⟨by rw [celL_len], .inr ⟨_, _, cur.setIfInBounds (p * 3 + 1) (.int .i64 v), by rw [List.length_set], hbg, ?_, by rw [List.length_set]; exact hle, hcap, by rw [Array.size_setIfInBounds]; exact hsz, ?_⟩⟩
  ·have hgl : g < w.heap.size := by
    rcases Nat.lt_or_ge g w.heap.size with hlt | hge
    ·exact hlt
    ·rw [Array.getElem?_eq_none hge] at hg; cases hg
   simp only [World.setCell]
   rw [Array.getElem?_modify, if_pos rfl, hg]
   rfl
  ·rw [List.length_set, Array.toList_setIfInBounds, List.take_set, hcur, celL_set A p v hp]
set_option maxRecDepth 20000 in
set_option maxHeartbeats 1600000 in
theorem rless_any (x y : Lnk) (w : World) : Calls Try.prog 18 #[lnkV x, lnkV y] w fun e w' => e = .returned (.bool (decide (ltK (kOf x) (kOf y)))) ∧ Below w.heap.size w w' := by
 obtain ⟨x1, x2, x3⟩ := x
 obtain ⟨y1, y2, y3⟩ := y
 have HB := Lib.hid (below_new (below_alloc_new (w := w) (.cells #[.int .i64 x1, .int .i64 x2, .int .i64 x3] 29)) (.cells #[.int .i64 y1, .int .i64 y2, .int .i64 y3] 29))
 have hx := (lb_new w 29 ⟨x1, x2, x3⟩).up (below_alloc_new (.cells #[.int .i64 y1, .int .i64 y2, .int .i64 y3] 29))
 have hy := lb_new (w.alloc (.cells #[.int .i64 x1, .int .i64 x2, .int .i64 x3] 29)) 29 ⟨y1, y2, y3⟩
 rw [World.size_alloc] at hy
 obtain ⟨⟨c0, -, c2⟩, -⟩ := hx
 obtain ⟨⟨d0, -, d2⟩, -⟩ := hy
 simp only [Nat.zero_add] at c0 c2 d0 d2
 have hE : decide (ltK (kOf ⟨x1, x2, x3⟩) (kOf ⟨y1, y2, y3⟩)) = (decide (x1 < y1) || (decide (x1 = y1) && decide (x3 < y3))) := by
  unfold ltK kOf
  by_cases h1 : x1 < y1
  ·simp [h1]
  ·by_cases h2 : x1 = y1 <;> simp [h1, h2]
 rw [hE]
 clear hE
 rcases Int.lt_trichotomy x1 y1 with h1 | h1 | h1
 ·have e1 : decide (x1 < y1) = true := decide_eq_true h1
  go_enter Try.func18, Try.ntmps18
  go_wp2_with fail
  go_ret
  exact ⟨by first | rfl | simp [e1], HB.out⟩
 ·subst h1
  have e1 : ¬ x1 < x1 := by omega
  have e2 : decide (x1 < x1) = false := decide_eq_false e1
  have e3 : decide (x1 = x1) = true := decide_eq_true rfl
  rw [e2, e3, Bool.false_or, Bool.true_and]
  go_enter Try.func18, Try.ntmps18
  go_wp2_with fail
  go_ret
  exact ⟨by first | rfl | simp, HB.out⟩
 ·have e1 : ¬ x1 < y1 := by omega
  have e2 : decide (x1 < y1) = false := decide_eq_false e1
  have e3 : decide (x1 = y1) = false := decide_eq_false (by omega)
  have e4 : (x1 == y1) = false := by simp; omega
  rw [e2, e3, Bool.false_or, Bool.false_and]
  go_enter Try.func18, Try.ntmps18
  go_wp2_with fail
  go_ret
  exact ⟨by first | rfl | simp, HB.out⟩
theorem lines_up {w w5 : World} {g b i1 i2 i3 j1 j2 j3 : Nat} {u1 u2 u3 v1 v2 v3 : Value} (h : w.cell? ⟨g, i1, none⟩ = some u1 ∧ w.cell? ⟨g, i2, none⟩ = some u2 ∧ w.cell? ⟨g, i3, none⟩ = some u3 ∧ w.cell? ⟨b, j1, none⟩ = some v1 ∧ w.cell? ⟨b, j2, none⟩ = some v2 ∧ w.cell? ⟨b, j3, none⟩ = some v3)
  (hb : Below w.heap.size w w5) (hg : g < w.heap.size) (hbb : b < w.heap.size) : w5.cell? ⟨g, i1, none⟩ = some u1 ∧ w5.cell? ⟨g, i2, none⟩ = some u2 ∧ w5.cell? ⟨g, i3, none⟩ = some u3 ∧ w5.cell? ⟨b, j1, none⟩ = some v1 ∧ w5.cell? ⟨b, j2, none⟩ = some v2 ∧ w5.cell? ⟨b, j3, none⟩ = some v3 := by
 obtain ⟨h1, h2, h3, h4, h5, h6⟩ := h
 exact ⟨(hb.cell (p := ⟨g, i1, none⟩) hg).trans h1, (hb.cell (p := ⟨g, i2, none⟩) hg).trans h2, (hb.cell (p := ⟨g, i3, none⟩) hg).trans h3, (hb.cell (p := ⟨b, j1, none⟩) hbb).trans h4, (hb.cell (p := ⟨b, j2, none⟩) hbb).trans h5, (hb.cell (p := ⟨b, j3, none⟩) hbb).trans h6⟩
theorem line_al {w : World} {b j1 j2 j3 : Nat} {v1 v2 v3 : Value} (h : w.drew.cell? ⟨b, j1, none⟩ = some v1 ∧ w.drew.cell? ⟨b, j2, none⟩ = some v2 ∧ w.drew.cell? ⟨b, j3, none⟩ = some v3) (hb : b < w.heap.size) (o : Obj) :
  (w.alloc o).drew.cell? ⟨b, j1, none⟩ = some v1 ∧ (w.alloc o).drew.cell? ⟨b, j2, none⟩ = some v2 ∧ (w.alloc o).drew.cell? ⟨b, j3, none⟩ = some v3 :=
 ⟨((below_alloc_new o).cell (p := ⟨b, j1, none⟩) hb).trans h.1, ((below_alloc_new o).cell (p := ⟨b, j2, none⟩) hb).trans h.2.1, ((below_alloc_new o).cell (p := ⟨b, j3, none⟩) hb).trans h.2.2⟩
theorem line_upB {w w5 : World} {B b j1 j2 j3 : Nat} {v1 v2 v3 : Value} (h : w.cell? ⟨b, j1, none⟩ = some v1 ∧ w.cell? ⟨b, j2, none⟩ = some v2 ∧ w.cell? ⟨b, j3, none⟩ = some v3) (hb : Below B w w5) (hbb : b < B) :
  w5.cell? ⟨b, j1, none⟩ = some v1 ∧ w5.cell? ⟨b, j2, none⟩ = some v2 ∧ w5.cell? ⟨b, j3, none⟩ = some v3 :=
 ⟨(hb.cell (p := ⟨b, j1, none⟩) hbb).trans h.1, (hb.cell (p := ⟨b, j2, none⟩) hbb).trans h.2.1, (hb.cell (p := ⟨b, j3, none⟩) hbb).trans h.2.2⟩
theorem own_ne {g' gb n c a b : Nat} (e : some g' = (Value.slice (some ⟨gb, 0, none⟩) n c).ownBlock) (h9 : b ≤ g') (hg : gb < a) (hs : a ≤ b) : False := by
 have e2 : g' = gb := by simpa [Value.ownBlock] using e
 omega
theorem rest_up {e : TypeId} {w w8 : World} {base : Nat} {A : Option Addr} {c : Nat} {R : List Lnk} {o : Obj} {row : Option Nat} (h : OwnL e w base (.slice A R.length c) R) (hg : (w.alloc o).drew.grownBy w8 row) (hne : ∀ g, base ≤ g → some g = row → False) : LnkAt w8 A R := by
 have h2 : OwnL e w8 base (.slice A R.length c) R := h.blk fun g hgo => by
  obtain ⟨h3, h4⟩ := h.lt hgo
  refine (hg.block g (by show g < (w.alloc o).heap.size; simp; omega) (fun e => hne g h3 e)).trans ?_
  exact Below.heap_alloc w o g h4
 obtain ⟨A8, c8, e8, h8⟩ := h2.reads
 cases e8
 exact h8
set_option maxRecDepth 100000 in
set_option maxHeartbeats 6400000 in
theorem rnorm_any (A : Option Addr) (cp : Nat) (L : List Lnk) (w : World) (hz : LnkAt w A L) (hl : L.length ≤ 1000) (hwf : ∀ l ∈ L, wr l.tgt = l.tgt) :
    Calls Try.prog 9 #[.slice A L.length cp] w fun e w' => ∃ B c N, e = .returned (.slice B N.length c) ∧ LnkAt w' B N ∧ IsNrm L N ∧ N.length ≤ L.length ∧ Below w.heap.size w w' := by
  have hB := Below.refl w.heap.size w
  obtain ⟨n, hn⟩ : ∃ n, L.length = n := ⟨_, rfl⟩
  obtain ⟨i0, hi, hz1, hz2, hz3⟩ := info_parts infoLn
  rw [hn] at hl ⊢
  have HN := Lib.hid hn
  have HZ := Lib.hid hz
  have HWF := Lib.hid hwf
  clear hn hz hwf
  go_enter Try.func9, Try.ntmps9
  go_wp2_with fail
  go_loopg [3, 4] n (fun kx s3 s4 wr => ∃ (k : Nat) (M : List Lnk), s4 = .int .i64 k ∧ k ≤ n ∧ n - k ≤ kx ∧ Hid (OwnL 29 wr w.heap.size s3 M) ∧ Hid (IsAll (L.take k) M) ∧ M.length ≤ k ∧ Hid (M = [] → s3 = .slice none 0 0) ∧ Below w.heap.size w wr)
  case atStart => exact ⟨0, [], rfl, by omega, by omega, Lib.hid OwnL.nil, Lib.hid isall_nil, by simp, Lib.hid (fun _ => rfl), hB⟩
  case round =>
    clear hB
    obtain ⟨k, M, rfl, hk, hkx, HO, HI, hMk, HNL, hB⟩ := hrel
    by_cases hlt : k < n
    · have hltz : (k : Int) < (n : Int) := by omega
      have hkl : k < L.length := by rw [HN.out]; exact hlt
      obtain ⟨bb, off, rfl, hbw, hcs⟩ := HZ.out (by omega)
      obtain ⟨c0, c1, c2⟩ := (hcs k hkl).up hB hbw
      have htk := take_succ_getD (d := lnk0) hkl
      have hwx := HWF.out _ (getD_mem_acc (d := lnk0) hkl)
      have hbr : bb < wr.heap.size := Nat.lt_of_lt_of_le hbw hB.size
      generalize L.getD k lnk0 = x at *
      have HTK := Lib.hid htk
      have HWX := Lib.hid hwx
      clear hcs htk hwx
      obtain ⟨A3, c3, rfl, hat⟩ := HO.out.reads
      have HAT := Lib.hid hat
      have HM := Lib.hid hMk
      clear hat hMk
      obtain ⟨q, hq⟩ : ∃ q, M.length = q := ⟨_, rfl⟩
      rw [hq]
      have HQ := Lib.hid hq
      have hqn : q ≤ 1000 := by have := HM.out; omega
      clear hq
      go_wp2_with fail
      generalize wr = wo at *
      go_loopg [5] q (fun kx s5 W => ∃ t : Nat, s5 = .int .i64 t ∧ t ≤ posL M x ∧ q - t ≤ kx ∧ Below wo.heap.size wo W)
      case atStart => exact ⟨0, rfl, Nat.zero_le _, by omega, Below.refl _ _⟩
      case round =>
        obtain ⟨t, rfl, htp, htx, hBi⟩ := hrel
        have hpl := posL_le M x
        rw [HQ.out] at hpl
        have hstep := posL_step htp
        rw [HQ.out] at hstep
        obtain ⟨e0, e1, e2⟩ : L3 wr bb (off + k * 3) x := ⟨(hBi.cell (p := ⟨bb, off + k * 3, none⟩) hbr).trans c0, (hBi.cell (p := ⟨bb, off + k * 3 + 1, none⟩) hbr).trans c1, (hBi.cell (p := ⟨bb, off + k * 3 + 2, none⟩) hbr).trans c2⟩
        have hbl : bb < wr.drew.heap.size := Nat.lt_of_lt_of_le hbr hBi.size
        by_cases htq : t < q
        · have htqz : (t : Int) < (q : Int) := by omega
          obtain ⟨gb, cap, hv, hbg, hgw, hqc, hcm, hgc, hfz⟩ := HO.out.open (by rw [HQ.out]; omega)
          rw [HQ.out] at hv hqc hgc hfz
          cases hv
          have hgl : gb < wr.drew.heap.size := Nat.lt_of_lt_of_le hgw hBi.size
          obtain ⟨d0, d1, d2⟩ := (hgc t htq).up hBi hgw
          have hfz0 := hfz (t * 3 + 1) (by omega)
          generalize hy : M.getD t lnk0 = y at *
          have HY := Lib.hid hy
          have HG := Lib.hid hgc
          clear hy hgc
          have hS0 : wr.drew.cell? ⟨gb, t * 3, none⟩ = some (.int .i64 y.frm) ∧ wr.drew.cell? ⟨gb, t * 3 + 1, none⟩ = some (.int .i64 y.tgt) ∧ wr.drew.cell? ⟨gb, t * 3 + 2, none⟩ = some (.int .i64 y.since) ∧ wr.drew.cell? ⟨bb, off + k * 3, none⟩ = some (.int .i64 x.frm) ∧ wr.drew.cell? ⟨bb, off + k * 3 + 1, none⟩ = some (.int .i64 x.tgt) ∧ wr.drew.cell? ⟨bb, off + k * 3 + 2, none⟩ = some (.int .i64 x.since) := ⟨d0, d1, d2, e0, e1, e2⟩
          by_cases hlt2 : t < posL M x
          · have hlx := (hstep.1 hlt2).2
            have hdl : decide (ltK (kOf y) (kOf x)) = true := decide_eq_true hlx
            clear hstep hlx hpl
            have HBI := Lib.hid hBi
            have HLT := Lib.hid hlt2
            clear hBi hlt2
            go_wp2_with fail
            go_region_held_law (fun w' => w'.cell? ⟨gb, t * 3, none⟩ = some (.int .i64 y.frm) ∧ w'.cell? ⟨gb, t * 3 + 1, none⟩ = some (.int .i64 y.tgt) ∧ w'.cell? ⟨gb, t * 3 + 2, none⟩ = some (.int .i64 y.since) ∧ w'.cell? ⟨bb, off + k * 3, none⟩ = some (.int .i64 x.frm) ∧ w'.cell? ⟨bb, off + k * 3 + 1, none⟩ = some (.int .i64 x.tgt) ∧ w'.cell? ⟨bb, off + k * 3 + 2, none⟩ = some (.int .i64 x.since)) (first | exact hS5 | exact hS0 | go_keep)
            ((go_at_call 18; refine (rless_any y x _).mono ?_; rintro e w5 ⟨rfl, hb5⟩; have hS5 := lines_up hS0 hb5 hgl hbl))
            have HB5 := Lib.hid ((dc_drew HBI.out).trans (hb5.mono HBI.out.size))
            clear hb5 hS5 hS0
            go_wp2_with fail
            go_roundg (q - (t + 1))
            case measure => omega
            case rel => exact ⟨t + 1, by go_num, by have := HLT.out; omega, by omega, HB5.out⟩
          · have htp2 : t = posL M x := by omega
            have hlx : ¬ ltK (kOf y) (kOf x) := fun h => hlt2 (hstep.2 ⟨htq, h⟩)
            have hdl : decide (ltK (kOf y) (kOf x)) = false := decide_eq_false hlx
            have HLX := Lib.hid hlx
            have HTP := Lib.hid htp2
            clear hstep hlx hpl htp2 hlt2
            have HBI := Lib.hid hBi
            clear hBi
            go_wp2_with fail
            go_region_held_law (fun w' => w'.cell? ⟨gb, t * 3, none⟩ = some (.int .i64 y.frm) ∧ w'.cell? ⟨gb, t * 3 + 1, none⟩ = some (.int .i64 y.tgt) ∧ w'.cell? ⟨gb, t * 3 + 2, none⟩ = some (.int .i64 y.since) ∧ w'.cell? ⟨bb, off + k * 3, none⟩ = some (.int .i64 x.frm) ∧ w'.cell? ⟨bb, off + k * 3 + 1, none⟩ = some (.int .i64 x.tgt) ∧ w'.cell? ⟨bb, off + k * 3 + 2, none⟩ = some (.int .i64 x.since)) (first | exact hS5 | exact hS0 | go_keep)
            ((go_at_call 18; refine (rless_any y x _).mono ?_; rintro e w5 ⟨rfl, hb5⟩; have hS5 := lines_up hS0 hb5 hgl hbl))
            have HB5 := Lib.hid ((dc_drew HBI.out).trans (hb5.mono HBI.out.size))
            have hgl5 : gb < w5.drew.heap.size := Nat.lt_of_lt_of_le hgl hb5.size
            have hbl5 : bb < w5.drew.heap.size := Nat.lt_of_lt_of_le hbl hb5.size
            clear hb5 hS0 hdl d0 d1 d2 e0 e1 e2 HBI
            by_cases hxy : ltK (kOf x) (kOf y)
            · have hdl : decide (ltK (kOf x) (kOf y)) = true := decide_eq_true hxy
              have HXY := Lib.hid hxy
              clear hxy
              go_wp2_with fail
              go_region_held_law (fun w' => w'.cell? ⟨gb, t * 3, none⟩ = some (.int .i64 y.frm) ∧ w'.cell? ⟨gb, t * 3 + 1, none⟩ = some (.int .i64 y.tgt) ∧ w'.cell? ⟨gb, t * 3 + 2, none⟩ = some (.int .i64 y.since) ∧ w'.cell? ⟨bb, off + k * 3, none⟩ = some (.int .i64 x.frm) ∧ w'.cell? ⟨bb, off + k * 3 + 1, none⟩ = some (.int .i64 x.tgt) ∧ w'.cell? ⟨bb, off + k * 3 + 2, none⟩ = some (.int .i64 x.since)) (first | exact hS6 | exact hS5 | go_keep)
              ((go_at_call 18; refine (rless_any x y _).mono ?_; rintro e w6 ⟨rfl, hb6⟩; have hS6 := lines_up (w := w5.drew) hS5 hb6 hgl5 hbl5))
              have HBW0 : Hid (Below wo.heap.size wo w6) := Lib.hid ((dc_drew HB5.out).trans (hb6.mono HB5.out.size))
              have HLO : Hid (∀ a ∈ M.take t, ltK (kOf a) (kOf x)) := Lib.hid (fun a h9 => posL_low (A := M) (by rw [← HTP.out]; exact h9))
              have HHI : Hid (∀ a ∈ M.drop t, ltK (kOf x) (kOf a)) := Lib.hid (fun a h9 => by
                rw [drop_getD (d := lnk0) (show t < M.length by rw [HQ.out]; exact htq), HY.out] at h9
                rcases List.mem_cons.1 h9 with rfl | h8
                · exact HXY.out
                · have h7 := HI.out.asc
                  rw [← List.take_append_drop t M, drop_getD (d := lnk0) (show t < M.length by rw [HQ.out]; exact htq), HY.out] at h7
                  exact ltK_trans HXY.out ((List.pairwise_cons.1 (List.pairwise_append.1 h7).2.1).1 a h8))
              have hjc : (t : Int) ≤ (c3 : Int) := by omega
              have hcj : ¬ c3 = t := by omega
              obtain ⟨-, -, -, g3, g4, g5⟩ := hS6
              clear hS5 hb6 hdl
              have HO6 : Hid (OwnL 29 w6 w.heap.size (.slice (some ⟨gb, 0, none⟩) q c3) M) := Lib.hid (by have h8 := HO.out.up HBW0.out; rw [HQ.out] at h8; exact h8)
              have hDd : (M.drop t).length = q - t := by rw [List.length_drop, HQ.out]
              have hTl : (M.take t).length ≤ 1000 := by have h8 := HQ.out; rw [List.length_take]; omega
              have HT6 : Hid (OwnL 29 w6 w.heap.size (.slice (some ⟨gb, 0, none⟩) t c3) (M.take t)) := Lib.hid (HO6.out.pre HQ.out (by omega))
              have HD6 : Hid (LnkAt w6 (some ⟨gb, t * 3, none⟩) (M.drop t)) := Lib.hid (by obtain ⟨A8, c8, e8, h8⟩ := HO6.out.reads; cases e8; have h9 := h8.drop t; rw [Nat.zero_add] at h9; exact h9)
              have hsz6 : w.heap.size ≤ w6.heap.size := Nat.le_trans hB.size HBW0.out.size
              obtain ⟨f3, f4, f5⟩ := (⟨g3, g4, g5⟩ : _ ∧ _ ∧ _)
              have HX6 : Hid (L3 w6 bb (off + k * 3) x) := Lib.hid ⟨f3, f4, f5⟩
              have HBW6 : Hid (Below w.heap.size w w6) := Lib.hid (hB.trans (HBW0.out.mono hB.size))
              have HSZ6 := Lib.hid hsz6
              have HDD := Lib.hid hDd
              have HTL := Lib.hid hTl
              clear f3 f4 f5 hsz6 hDd hTl
              obtain ⟨T9, hT9⟩ : ∃ T9, M.take t = T9 := ⟨_, rfl⟩
              obtain ⟨D9, hD9⟩ : ∃ D9, M.drop t = D9 := ⟨_, rfl⟩
              have HE9 : Hid (IsAll (L.take (k + 1)) (T9 ++ x :: D9)) := Lib.hid (by rw [← hT9, ← hD9, HTK.out]; exact isall_ins (by rw [List.take_append_drop]; exact HI.out) HLO.out HHI.out HWX.out)
              have HL9 : Hid ((T9 ++ x :: D9).length ≤ k + 1) := Lib.hid (by rw [← hT9, ← hD9]; have h8 := HM.out; have h9 := HQ.out; simp only [List.length_append, List.length_cons, List.length_take, List.length_drop]; omega)
              rw [hT9] at HT6 HTL
              rw [hD9] at HD6 HDD
              clear hT9 hD9 HLO HHI HI
              go_wp2_with (at_builtin; refine wpList_app_lines rfl (.tmp 61) (.tmp 64) 22 rfl w6.heap.size 29 i0 24 Try.underlying22 hi hz1 hz2 hz3 (by omega) (.slice (some ⟨w6.heap.size, 0, none⟩) 0 0) [] rfl (OwnL.empty (Nat.le_refl _)) (some ⟨gb, t * 3, none⟩) _ _ D9 HDD.out rfl (HD6.out.up (below_alloc_new _)) (by first | (simp; done) | (simp; omega)) (by simp) ?_; intro v7 w7 ho7 hg7 hb7)
              obtain ⟨A7, c7, hv7, hl7⟩ := ho7.out.reads
              subst hv7
              have HR7 := Lib.hid ho7.out
              have HB7 : Hid (Below w6.heap.size w6 w7) := Lib.hid ((below_alloc_new _).trans hb7)
              have HT7 := Lib.hid (HT6.out.up HB7.out)
              have hbr6 : bb < w6.heap.size := Nat.lt_of_lt_of_le hbw HSZ6.out
              obtain ⟨s0, s1, s2⟩ := HX6.out.up HB7.out hbr6
              have hbr7 : bb < w7.heap.size := Nat.lt_of_lt_of_le hbr6 HB7.out.size
              have hS7 : w7.drew.cell? ⟨bb, off + k * 3, none⟩ = some (.int .i64 x.frm) ∧ w7.drew.cell? ⟨bb, off + k * 3 + 1, none⟩ = some (.int .i64 x.tgt) ∧ w7.drew.cell? ⟨bb, off + k * 3 + 2, none⟩ = some (.int .i64 x.since) := ⟨s0, s1, s2⟩
              have HS7 := Lib.hid (fun o => line_al hS7 hbr7 o)
              have hsz7 : w.heap.size ≤ w7.heap.size := Nat.le_trans HSZ6.out HB7.out.size
              have HSZ7 := Lib.hid hsz7
              clear hl7 ho7 hg7 hb7 s0 s1 s2 hsz7
              go_wp2_with fail
              go_region_held_law (fun w' => w'.cell? ⟨bb, off + k * 3, none⟩ = some (.int .i64 x.frm) ∧ w'.cell? ⟨bb, off + k * 3 + 1, none⟩ = some (.int .i64 x.tgt) ∧ w'.cell? ⟨bb, off + k * 3 + 2, none⟩ = some (.int .i64 x.since)) (first | exact hS9 | exact hS8 | exact hS7 | exact HS7.out _ | go_keep)
                (first
                  | (refine step_app_lines rfl (.tmp 68) (.tmp 73) 22 rfl w.heap.size 29 i0 24 Try.underlying22 hi hz1 hz2 hz3 (by omega) (.slice (some ⟨gb, 0, none⟩) t c3) T9 rfl (HT7.out.alloc _) (some ⟨w7.heap.size, 0, none⟩) 1 1 [x] rfl rfl (lnk_one (lb_new w7 29 x).drew) (by have := HTL.out; simp; omega) (by have := HSZ7.out; simp; omega) ?_
                     intro v8 w8 ho8 hg8 hb8
                     have hS8 := line_upB (HS7.out _) hb8 hbw
                     have hr8 := rest_up HR7.out hg8.out (fun g' h9 e => own_ne e h9 hgw HBW0.out.size))
                  | (refine step_app_lines rfl (.tmp 74) (.tmp 75) 22 rfl w.heap.size 29 i0 24 Try.underlying22 hi hz1 hz2 hz3 (by omega) v8 (T9 ++ [x]) rfl ho8.out A7 _ c7 ([] ++ D9) rfl rfl hr8 (by have := HTL.out; have := HDD.out; simp; omega) (Nat.le_trans HSZ7.out (by have := hg8.out.size; simp at this; omega)) ?_
                     intro v9 w9 ho9 hg9 hb9
                     have hS9 := line_upB hS8 hb9 hbw))
              have HO9 : Hid (OwnL 29 w9 w.heap.size v9 (T9 ++ x :: D9)) := Lib.hid (by have h9 := ho9.out; simpa using h9)
              have HB9 : Hid (Below w.heap.size w w9) := Lib.hid (((HBW6.out.trans (HB7.out.mono HSZ6.out)).trans (dc_drew ((Below.refl w.heap.size w7).alloc HSZ7.out _))).trans (hb8.trans hb9))
              have HN9 : Hid (T9 ++ x :: D9 ≠ []) := Lib.hid (by simp)
              clear ho9 hg9 hb9 hS9 hr8 ho8 hg8 hb8 hS8 hS7
              go_wp2_with fail
              go_roundg (n - (k + 1))
              case measure => omega
              case rel => exact ⟨k + 1, _, by go_num, by omega, by omega, HO9, HE9, HL9.out, Lib.hid (fun e => absurd e HN9.out), HB9.out⟩
            · have hdl : decide (ltK (kOf x) (kOf y)) = false := decide_eq_false hxy
              have HXY := Lib.hid hxy
              clear hxy
              go_wp2_with fail
              go_region_held_law (fun w' => w'.cell? ⟨gb, t * 3, none⟩ = some (.int .i64 y.frm) ∧ w'.cell? ⟨gb, t * 3 + 1, none⟩ = some (.int .i64 y.tgt) ∧ w'.cell? ⟨gb, t * 3 + 2, none⟩ = some (.int .i64 y.since) ∧ w'.cell? ⟨bb, off + k * 3, none⟩ = some (.int .i64 x.frm) ∧ w'.cell? ⟨bb, off + k * 3 + 1, none⟩ = some (.int .i64 x.tgt) ∧ w'.cell? ⟨bb, off + k * 3 + 2, none⟩ = some (.int .i64 x.since)) (first | exact hS6 | exact hS5 | go_keep)
              ((go_at_call 18; refine (rless_any x y _).mono ?_; rintro e w6 ⟨rfl, hb6⟩; have hS6 := lines_up (w := w5.drew) hS5 hb6 hgl5 hbl5))
              have HB6 : Hid (Below wo.heap.size wo w6) := Lib.hid ((dc_drew HB5.out).trans (hb6.mono HB5.out.size))
              have hk6 : kOf y = kOf x := ltK_tri HLX.out HXY.out
              have hml : t < M.length := by rw [HQ.out]; exact htq
              have hsp : M = M.take t ++ y :: M.drop (t + 1) := by
                conv => lhs; rw [← List.take_append_drop t M, drop_getD (d := lnk0) hml, HY.out]
              have hset : M.set t ⟨y.frm, wrap64 (y.tgt + x.tgt), y.since⟩ = M.take t ++ ⟨y.frm, wrap64 (y.tgt + x.tgt), y.since⟩ :: M.drop (t + 1) := by
                rw [List.set_eq_take_append_cons_drop, if_pos hml]
              have HI6 : Hid (IsAll (L.take (k + 1)) (M.set t ⟨y.frm, wrap64 (y.tgt + x.tgt), y.since⟩)) := Lib.hid (by
                rw [hset, HTK.out]
                have h9 := HI.out
                rw [hsp] at h9
                exact isall_upd h9 hk6)
              have HO6 : Hid (OwnL 29 ((w6.drew).setCell ⟨gb, t * 3 + 1, none⟩ (.int .i64 (wrap64 (y.tgt + x.tgt)))) w.heap.size (.slice (some ⟨gb, 0, none⟩) q c3) (M.set t ⟨y.frm, wrap64 (y.tgt + x.tgt), y.since⟩)) := Lib.hid (by
                have h8 := HO.out.up (dc_drew HB6.out)
                rw [HQ.out] at h8
                have h9 := h8.set1 hml (wrap64 (y.tgt + x.tgt))
                rw [HY.out] at h9
                exact h9)
              have HLN6 : Hid ((M.set t ⟨y.frm, wrap64 (y.tgt + x.tgt), y.since⟩).length ≤ k + 1) := Lib.hid (by rw [List.length_set]; have := HM.out; omega)
              have HNE6 : Hid (M.set t ⟨y.frm, wrap64 (y.tgt + x.tgt), y.since⟩ ≠ []) := Lib.hid (fun e => by
                have := congrArg List.length e
                rw [List.length_set, List.length_nil] at this
                omega)
              have HBW : Hid (Below w.heap.size w ((w6.drew).setCell ⟨gb, t * 3 + 1, none⟩ (.int .i64 (wrap64 (y.tgt + x.tgt))))) := Lib.hid (Below.setCell (p := ⟨gb, t * 3 + 1, none⟩) (dc_drew (hB.trans (HB6.out.mono hB.size))) hbg _)
              obtain ⟨f0, f1, f2, f3, f4, f5⟩ := hS6
              have f1' : w6.drew.cell? ⟨gb, t * 3 + 1, none⟩ = some (.int .i64 y.tgt) := f1
              have f4' : w6.drew.cell? ⟨bb, off + k * 3 + 1, none⟩ = some (.int .i64 x.tgt) := f4
              have hfz6 : w6.drew.frozen? ⟨gb, t * 3 + 1, none⟩ = false := (HB6.out.frozen (p := ⟨gb, t * 3 + 1, none⟩) hgw).trans hfz0
              clear f0 f1 f2 f3 f4 f5 hS5 hset hsp hb6 hml hk6
              go_wp2_with fail
              go_region
              go_wp2_with fail
              go_roundg (n - (k + 1))
              case measure => omega
              case rel => exact ⟨k + 1, _, by go_num, by omega, by omega, HO6, HI6, HLN6.out, Lib.hid (fun e => absurd e HNE6.out), HBW.out⟩
        · have hpq : posL M x = t := by omega
          obtain rfl : t = q := by omega
          have htqz : ¬ (t : Int) < (t : Int) := by omega
          have HLO : Hid (∀ a ∈ M.take t, ltK (kOf a) (kOf x)) := Lib.hid (fun a h9 => posL_low (A := M) (by rw [hpq]; exact h9))
          have HHI : Hid (∀ a ∈ M.drop t, ltK (kOf x) (kOf a)) := Lib.hid (fun a h9 => by
            rw [List.drop_of_length_le (by rw [HQ.out]; omega)] at h9
            simp at h9)
          have hjc : (t : Int) ≤ (t : Int) := Int.le_refl _
          clear hstep hpl htp hpq e0 e1 e2
          rcases Nat.eq_zero_or_pos t with h0 | h0
          · subst h0
            have hv := HNL.out (List.eq_nil_of_length_eq_zero HQ.out)
            injection hv with hv1 hv2 hv3
            subst hv1 hv3
            clear hv2
            go_wp2_with fail
            go_quiet (fail)
            replace hBi := below_drewN hBi nq
            generalize World.drewN _ nq = W1 at *
            go_wp2_with fail
            go_quiet (fail)
            replace hBi := below_drewN hBi nq
            generalize World.drewN _ nq = W2 at *
            have HBW0 : Hid (Below wo.heap.size wo W2) := Lib.hid hBi
            clear hBi
            have HO6 : Hid (OwnL 29 W2 w.heap.size (.slice none 0 0) M) := Lib.hid (by have h8 := HO.out.up HBW0.out; rw [HQ.out] at h8; exact h8)
            have hDd : (M.drop 0).length = 0 := by rw [List.length_drop, HQ.out]
            have hTl : (M.take 0).length ≤ 1000 := by have h8 := HQ.out; rw [List.length_take]; omega
            have HT6 : Hid (OwnL 29 W2 w.heap.size (.slice none 0 0) (M.take 0)) := Lib.hid (by rw [List.eq_nil_of_length_eq_zero HQ.out, List.take_nil]; exact OwnL.nil)
            have HD6 : Hid (LnkAt W2 none (M.drop 0)) := Lib.hid (by rw [List.eq_nil_of_length_eq_zero HQ.out, List.drop_nil]; exact LnkAt.nil)
            have hsz6 : w.heap.size ≤ W2.heap.size := Nat.le_trans hB.size HBW0.out.size
            obtain ⟨f3, f4, f5⟩ := (⟨(HBW0.out.cell (p := ⟨bb, off + k * 3, none⟩) hbr).trans c0, (HBW0.out.cell (p := ⟨bb, off + k * 3 + 1, none⟩) hbr).trans c1, (HBW0.out.cell (p := ⟨bb, off + k * 3 + 2, none⟩) hbr).trans c2⟩ : _ ∧ _ ∧ _)
            have HX6 : Hid (L3 W2 bb (off + k * 3) x) := Lib.hid ⟨f3, f4, f5⟩
            have HBW6 : Hid (Below w.heap.size w W2) := Lib.hid (hB.trans (HBW0.out.mono hB.size))
            have HSZ6 := Lib.hid hsz6
            have HDD := Lib.hid hDd
            have HTL := Lib.hid hTl
            clear f3 f4 f5 hsz6 hDd hTl
            obtain ⟨T9, hT9⟩ : ∃ T9, M.take 0 = T9 := ⟨_, rfl⟩
            obtain ⟨D9, hD9⟩ : ∃ D9, M.drop 0 = D9 := ⟨_, rfl⟩
            have HE9 : Hid (IsAll (L.take (k + 1)) (T9 ++ x :: D9)) := Lib.hid (by rw [← hT9, ← hD9, HTK.out]; exact isall_ins (by rw [List.take_append_drop]; exact HI.out) HLO.out HHI.out HWX.out)
            have HL9 : Hid ((T9 ++ x :: D9).length ≤ k + 1) := Lib.hid (by rw [← hT9, ← hD9]; have h8 := HM.out; have h9 := HQ.out; simp only [List.length_append, List.length_cons, List.length_take, List.length_drop]; omega)
            rw [hT9] at HT6 HTL
            rw [hD9] at HD6 HDD
            clear hT9 hD9 HLO HHI HI
            go_wp2_with (at_builtin; refine wpList_app_lines rfl (.tmp 61) (.tmp 64) 22 rfl W2.heap.size 29 i0 24 Try.underlying22 hi hz1 hz2 hz3 (by omega) (.slice (some ⟨W2.heap.size, 0, none⟩) 0 0) [] rfl (OwnL.empty (Nat.le_refl _)) none _ _ D9 HDD.out rfl (HD6.out.up (below_alloc_new _)) (by first | (simp; done) | (simp; omega)) (by simp) ?_; intro v7 w7 ho7 hg7 hb7)
            obtain ⟨A7, c7, hv7, hl7⟩ := ho7.out.reads
            subst hv7
            have HR7 := Lib.hid ho7.out
            have HB7 : Hid (Below W2.heap.size W2 w7) := Lib.hid ((below_alloc_new _).trans hb7)
            have HT7 := Lib.hid (HT6.out.up HB7.out)
            have hbr6 : bb < W2.heap.size := Nat.lt_of_lt_of_le hbw HSZ6.out
            obtain ⟨s0, s1, s2⟩ := HX6.out.up HB7.out hbr6
            have hbr7 : bb < w7.heap.size := Nat.lt_of_lt_of_le hbr6 HB7.out.size
            have hS7 : w7.drew.cell? ⟨bb, off + k * 3, none⟩ = some (.int .i64 x.frm) ∧ w7.drew.cell? ⟨bb, off + k * 3 + 1, none⟩ = some (.int .i64 x.tgt) ∧ w7.drew.cell? ⟨bb, off + k * 3 + 2, none⟩ = some (.int .i64 x.since) := ⟨s0, s1, s2⟩
            have HS7 := Lib.hid (fun o => line_al hS7 hbr7 o)
            have hsz7 : w.heap.size ≤ w7.heap.size := Nat.le_trans HSZ6.out HB7.out.size
            have HSZ7 := Lib.hid hsz7
            clear hl7 ho7 hg7 hb7 s0 s1 s2 hsz7
            go_wp2_with fail
            go_region_held_law (fun w' => w'.cell? ⟨bb, off + k * 3, none⟩ = some (.int .i64 x.frm) ∧ w'.cell? ⟨bb, off + k * 3 + 1, none⟩ = some (.int .i64 x.tgt) ∧ w'.cell? ⟨bb, off + k * 3 + 2, none⟩ = some (.int .i64 x.since)) (first | exact hS9 | exact hS8 | exact hS7 | exact HS7.out _ | go_keep)
              (first
                | (refine step_app_lines rfl (.tmp 68) (.tmp 73) 22 rfl w.heap.size 29 i0 24 Try.underlying22 hi hz1 hz2 hz3 (by omega) (.slice none 0 0) T9 rfl (HT7.out.alloc _) (some ⟨w7.heap.size, 0, none⟩) 1 1 [x] rfl rfl (lnk_one (lb_new w7 29 x).drew) (by have := HTL.out; simp; omega) (by have := HSZ7.out; simp; omega) ?_
                   intro v8 w8 ho8 hg8 hb8
                   have hS8 := line_upB (HS7.out _) hb8 hbw
                   have hr8 := rest_up HR7.out hg8.out (fun g' h9 e => by simp [Value.ownBlock] at e))
                | (refine step_app_lines rfl (.tmp 74) (.tmp 75) 22 rfl w.heap.size 29 i0 24 Try.underlying22 hi hz1 hz2 hz3 (by omega) v8 (T9 ++ [x]) rfl ho8.out A7 _ c7 ([] ++ D9) rfl rfl hr8 (by have := HTL.out; have := HDD.out; simp; omega) (Nat.le_trans HSZ7.out (by have := hg8.out.size; simp at this; omega)) ?_
                   intro v9 w9 ho9 hg9 hb9
                   have hS9 := line_upB hS8 hb9 hbw))
            have HO9 : Hid (OwnL 29 w9 w.heap.size v9 (T9 ++ x :: D9)) := Lib.hid (by have h9 := ho9.out; simpa using h9)
            have HB9 : Hid (Below w.heap.size w w9) := Lib.hid (((HBW6.out.trans (HB7.out.mono HSZ6.out)).trans (dc_drew ((Below.refl w.heap.size w7).alloc HSZ7.out _))).trans (hb8.trans hb9))
            have HN9 : Hid (T9 ++ x :: D9 ≠ []) := Lib.hid (by simp)
            clear ho9 hg9 hb9 hS9 hr8 ho8 hg8 hb8 hS8 hS7
            go_wp2_with fail
            go_roundg (n - (k + 1))
            case measure => omega
            case rel => exact ⟨k + 1, _, by go_num, by omega, by omega, HO9, HE9, HL9.out, Lib.hid (fun e => absurd e HN9.out), HB9.out⟩
          · obtain ⟨gb, cap, hv, hbg, hgw, hqc, hcm, -, -⟩ := HO.out.open (by rw [HQ.out]; omega)
            rw [HQ.out] at hv hqc
            cases hv
            have hjc2 : (t : Int) ≤ (c3 : Int) := by omega
            by_cases hcj : c3 = t
            · subst hcj
              go_wp2_with fail
              go_quiet (fail)
              replace hBi := below_drewN hBi nq
              generalize World.drewN _ nq = W1 at *
              go_wp2_with fail
              go_quiet (fail)
              replace hBi := below_drewN hBi nq
              generalize World.drewN _ nq = W2 at *
              have HBW0 : Hid (Below wo.heap.size wo W2) := Lib.hid hBi
              clear hBi
              have HO6 : Hid (OwnL 29 W2 w.heap.size (.slice (some ⟨gb, 0, none⟩) c3 c3) M) := Lib.hid (by have h8 := HO.out.up HBW0.out; rw [HQ.out] at h8; exact h8)
              have hDd : (M.drop c3).length = 0 := by rw [List.length_drop, HQ.out]; omega
              have hTl : (M.take c3).length ≤ 1000 := by have h8 := HQ.out; rw [List.length_take]; omega
              have HT6 : Hid (OwnL 29 W2 w.heap.size (.slice (some ⟨gb, 0, none⟩) c3 c3) (M.take c3)) := Lib.hid (HO6.out.pre HQ.out (by omega))
              have HD6 : Hid (LnkAt W2 (some ⟨gb, 0, none⟩) (M.drop c3)) := Lib.hid (by rw [List.drop_of_length_le (by rw [HQ.out]; omega)]; exact LnkAt.nil)
              have hsz6 : w.heap.size ≤ W2.heap.size := Nat.le_trans hB.size HBW0.out.size
              obtain ⟨f3, f4, f5⟩ := (⟨(HBW0.out.cell (p := ⟨bb, off + k * 3, none⟩) hbr).trans c0, (HBW0.out.cell (p := ⟨bb, off + k * 3 + 1, none⟩) hbr).trans c1, (HBW0.out.cell (p := ⟨bb, off + k * 3 + 2, none⟩) hbr).trans c2⟩ : _ ∧ _ ∧ _)
              have HX6 : Hid (L3 W2 bb (off + k * 3) x) := Lib.hid ⟨f3, f4, f5⟩
              have HBW6 : Hid (Below w.heap.size w W2) := Lib.hid (hB.trans (HBW0.out.mono hB.size))
              have HSZ6 := Lib.hid hsz6
              have HDD := Lib.hid hDd
              have HTL := Lib.hid hTl
              clear f3 f4 f5 hsz6 hDd hTl
              obtain ⟨T9, hT9⟩ : ∃ T9, M.take c3 = T9 := ⟨_, rfl⟩
              obtain ⟨D9, hD9⟩ : ∃ D9, M.drop c3 = D9 := ⟨_, rfl⟩
              have HE9 : Hid (IsAll (L.take (k + 1)) (T9 ++ x :: D9)) := Lib.hid (by rw [← hT9, ← hD9, HTK.out]; exact isall_ins (by rw [List.take_append_drop]; exact HI.out) HLO.out HHI.out HWX.out)
              have HL9 : Hid ((T9 ++ x :: D9).length ≤ k + 1) := Lib.hid (by rw [← hT9, ← hD9]; have h8 := HM.out; have h9 := HQ.out; simp only [List.length_append, List.length_cons, List.length_take, List.length_drop]; omega)
              rw [hT9] at HT6 HTL
              rw [hD9] at HD6 HDD
              clear hT9 hD9 HLO HHI HI
              go_wp2_with (at_builtin; refine wpList_app_lines rfl (.tmp 61) (.tmp 64) 22 rfl W2.heap.size 29 i0 24 Try.underlying22 hi hz1 hz2 hz3 (by omega) (.slice (some ⟨W2.heap.size, 0, none⟩) 0 0) [] rfl (OwnL.empty (Nat.le_refl _)) (some ⟨gb, 0, none⟩) _ _ D9 HDD.out rfl (HD6.out.up (below_alloc_new _)) (by first | (simp; done) | (simp; omega)) (by simp) ?_; intro v7 w7 ho7 hg7 hb7)
              obtain ⟨A7, c7, hv7, hl7⟩ := ho7.out.reads
              subst hv7
              have HR7 := Lib.hid ho7.out
              have HB7 : Hid (Below W2.heap.size W2 w7) := Lib.hid ((below_alloc_new _).trans hb7)
              have HT7 := Lib.hid (HT6.out.up HB7.out)
              have hbr6 : bb < W2.heap.size := Nat.lt_of_lt_of_le hbw HSZ6.out
              obtain ⟨s0, s1, s2⟩ := HX6.out.up HB7.out hbr6
              have hbr7 : bb < w7.heap.size := Nat.lt_of_lt_of_le hbr6 HB7.out.size
              have hS7 : w7.drew.cell? ⟨bb, off + k * 3, none⟩ = some (.int .i64 x.frm) ∧ w7.drew.cell? ⟨bb, off + k * 3 + 1, none⟩ = some (.int .i64 x.tgt) ∧ w7.drew.cell? ⟨bb, off + k * 3 + 2, none⟩ = some (.int .i64 x.since) := ⟨s0, s1, s2⟩
              have HS7 := Lib.hid (fun o => line_al hS7 hbr7 o)
              have hsz7 : w.heap.size ≤ w7.heap.size := Nat.le_trans HSZ6.out HB7.out.size
              have HSZ7 := Lib.hid hsz7
              clear hl7 ho7 hg7 hb7 s0 s1 s2 hsz7
              go_wp2_with fail
              go_region_held_law (fun w' => w'.cell? ⟨bb, off + k * 3, none⟩ = some (.int .i64 x.frm) ∧ w'.cell? ⟨bb, off + k * 3 + 1, none⟩ = some (.int .i64 x.tgt) ∧ w'.cell? ⟨bb, off + k * 3 + 2, none⟩ = some (.int .i64 x.since)) (first | exact hS9 | exact hS8 | exact hS7 | exact HS7.out _ | go_keep)
                (first
                  | (refine step_app_lines rfl (.tmp 68) (.tmp 73) 22 rfl w.heap.size 29 i0 24 Try.underlying22 hi hz1 hz2 hz3 (by omega) (.slice (some ⟨gb, 0, none⟩) c3 c3) T9 rfl (HT7.out.alloc _) (some ⟨w7.heap.size, 0, none⟩) 1 1 [x] rfl rfl (lnk_one (lb_new w7 29 x).drew) (by have := HTL.out; simp; omega) (by have := HSZ7.out; simp; omega) ?_
                     intro v8 w8 ho8 hg8 hb8
                     have hS8 := line_upB (HS7.out _) hb8 hbw
                     have hr8 := rest_up HR7.out hg8.out (fun g' h9 e => own_ne e h9 hgw HBW0.out.size))
                  | (refine step_app_lines rfl (.tmp 74) (.tmp 75) 22 rfl w.heap.size 29 i0 24 Try.underlying22 hi hz1 hz2 hz3 (by omega) v8 (T9 ++ [x]) rfl ho8.out A7 _ c7 ([] ++ D9) rfl rfl hr8 (by have := HTL.out; have := HDD.out; simp; omega) (Nat.le_trans HSZ7.out (by have := hg8.out.size; simp at this; omega)) ?_
                     intro v9 w9 ho9 hg9 hb9
                     have hS9 := line_upB hS8 hb9 hbw))
              have HO9 : Hid (OwnL 29 w9 w.heap.size v9 (T9 ++ x :: D9)) := Lib.hid (by have h9 := ho9.out; simpa using h9)
              have HB9 : Hid (Below w.heap.size w w9) := Lib.hid (((HBW6.out.trans (HB7.out.mono HSZ6.out)).trans (dc_drew ((Below.refl w.heap.size w7).alloc HSZ7.out _))).trans (hb8.trans hb9))
              have HN9 : Hid (T9 ++ x :: D9 ≠ []) := Lib.hid (by simp)
              clear ho9 hg9 hb9 hS9 hr8 ho8 hg8 hb8 hS8 hS7
              go_wp2_with fail
              go_roundg (n - (k + 1))
              case measure => omega
              case rel => exact ⟨k + 1, _, by go_num, by omega, by omega, HO9, HE9, HL9.out, Lib.hid (fun e => absurd e HN9.out), HB9.out⟩
            · clear hjc
              go_wp2_with fail
              go_quiet (fail)
              replace hBi := below_drewN hBi nq
              generalize World.drewN _ nq = W1 at *
              go_wp2_with fail
              go_quiet (fail)
              replace hBi := below_drewN hBi nq
              generalize World.drewN _ nq = W2 at *
              have HBW0 : Hid (Below wo.heap.size wo W2) := Lib.hid hBi
              clear hBi
              have HO6 : Hid (OwnL 29 W2 w.heap.size (.slice (some ⟨gb, 0, none⟩) t c3) M) := Lib.hid (by have h8 := HO.out.up HBW0.out; rw [HQ.out] at h8; exact h8)
              have hDd : (M.drop t).length = 0 := by rw [List.length_drop, HQ.out]; omega
              have hTl : (M.take t).length ≤ 1000 := by have h8 := HQ.out; rw [List.length_take]; omega
              have HT6 : Hid (OwnL 29 W2 w.heap.size (.slice (some ⟨gb, 0, none⟩) t c3) (M.take t)) := Lib.hid (HO6.out.pre HQ.out (by omega))
              have HD6 : Hid (LnkAt W2 (some ⟨gb, t * 3, none⟩) (M.drop t)) := Lib.hid (by rw [List.drop_of_length_le (by rw [HQ.out]; omega)]; exact LnkAt.nil)
              have hsz6 : w.heap.size ≤ W2.heap.size := Nat.le_trans hB.size HBW0.out.size
              obtain ⟨f3, f4, f5⟩ := (⟨(HBW0.out.cell (p := ⟨bb, off + k * 3, none⟩) hbr).trans c0, (HBW0.out.cell (p := ⟨bb, off + k * 3 + 1, none⟩) hbr).trans c1, (HBW0.out.cell (p := ⟨bb, off + k * 3 + 2, none⟩) hbr).trans c2⟩ : _ ∧ _ ∧ _)
              have HX6 : Hid (L3 W2 bb (off + k * 3) x) := Lib.hid ⟨f3, f4, f5⟩
              have HBW6 : Hid (Below w.heap.size w W2) := Lib.hid (hB.trans (HBW0.out.mono hB.size))
              have HSZ6 := Lib.hid hsz6
              have HDD := Lib.hid hDd
              have HTL := Lib.hid hTl
              clear f3 f4 f5 hsz6 hDd hTl
              obtain ⟨T9, hT9⟩ : ∃ T9, M.take t = T9 := ⟨_, rfl⟩
              obtain ⟨D9, hD9⟩ : ∃ D9, M.drop t = D9 := ⟨_, rfl⟩
              have HE9 : Hid (IsAll (L.take (k + 1)) (T9 ++ x :: D9)) := Lib.hid (by rw [← hT9, ← hD9, HTK.out]; exact isall_ins (by rw [List.take_append_drop]; exact HI.out) HLO.out HHI.out HWX.out)
              have HL9 : Hid ((T9 ++ x :: D9).length ≤ k + 1) := Lib.hid (by rw [← hT9, ← hD9]; have h8 := HM.out; have h9 := HQ.out; simp only [List.length_append, List.length_cons, List.length_take, List.length_drop]; omega)
              rw [hT9] at HT6 HTL
              rw [hD9] at HD6 HDD
              clear hT9 hD9 HLO HHI HI
              go_wp2_with (at_builtin; refine wpList_app_lines rfl (.tmp 61) (.tmp 64) 22 rfl W2.heap.size 29 i0 24 Try.underlying22 hi hz1 hz2 hz3 (by omega) (.slice (some ⟨W2.heap.size, 0, none⟩) 0 0) [] rfl (OwnL.empty (Nat.le_refl _)) (some ⟨gb, t * 3, none⟩) _ _ D9 HDD.out rfl (HD6.out.up (below_alloc_new _)) (by first | (simp; done) | (simp; omega)) (by simp) ?_; intro v7 w7 ho7 hg7 hb7)
              obtain ⟨A7, c7, hv7, hl7⟩ := ho7.out.reads
              subst hv7
              have HR7 := Lib.hid ho7.out
              have HB7 : Hid (Below W2.heap.size W2 w7) := Lib.hid ((below_alloc_new _).trans hb7)
              have HT7 := Lib.hid (HT6.out.up HB7.out)
              have hbr6 : bb < W2.heap.size := Nat.lt_of_lt_of_le hbw HSZ6.out
              obtain ⟨s0, s1, s2⟩ := HX6.out.up HB7.out hbr6
              have hbr7 : bb < w7.heap.size := Nat.lt_of_lt_of_le hbr6 HB7.out.size
              have hS7 : w7.drew.cell? ⟨bb, off + k * 3, none⟩ = some (.int .i64 x.frm) ∧ w7.drew.cell? ⟨bb, off + k * 3 + 1, none⟩ = some (.int .i64 x.tgt) ∧ w7.drew.cell? ⟨bb, off + k * 3 + 2, none⟩ = some (.int .i64 x.since) := ⟨s0, s1, s2⟩
              have HS7 := Lib.hid (fun o => line_al hS7 hbr7 o)
              have hsz7 : w.heap.size ≤ w7.heap.size := Nat.le_trans HSZ6.out HB7.out.size
              have HSZ7 := Lib.hid hsz7
              clear hl7 ho7 hg7 hb7 s0 s1 s2 hsz7
              go_wp2_with fail
              go_region_held_law (fun w' => w'.cell? ⟨bb, off + k * 3, none⟩ = some (.int .i64 x.frm) ∧ w'.cell? ⟨bb, off + k * 3 + 1, none⟩ = some (.int .i64 x.tgt) ∧ w'.cell? ⟨bb, off + k * 3 + 2, none⟩ = some (.int .i64 x.since)) (first | exact hS9 | exact hS8 | exact hS7 | exact HS7.out _ | go_keep)
                (first
                  | (refine step_app_lines rfl (.tmp 68) (.tmp 73) 22 rfl w.heap.size 29 i0 24 Try.underlying22 hi hz1 hz2 hz3 (by omega) (.slice (some ⟨gb, 0, none⟩) t c3) T9 rfl (HT7.out.alloc _) (some ⟨w7.heap.size, 0, none⟩) 1 1 [x] rfl rfl (lnk_one (lb_new w7 29 x).drew) (by have := HTL.out; simp; omega) (by have := HSZ7.out; simp; omega) ?_
                     intro v8 w8 ho8 hg8 hb8
                     have hS8 := line_upB (HS7.out _) hb8 hbw
                     have hr8 := rest_up HR7.out hg8.out (fun g' h9 e => own_ne e h9 hgw HBW0.out.size))
                  | (refine step_app_lines rfl (.tmp 74) (.tmp 75) 22 rfl w.heap.size 29 i0 24 Try.underlying22 hi hz1 hz2 hz3 (by omega) v8 (T9 ++ [x]) rfl ho8.out A7 _ c7 ([] ++ D9) rfl rfl hr8 (by have := HTL.out; have := HDD.out; simp; omega) (Nat.le_trans HSZ7.out (by have := hg8.out.size; simp at this; omega)) ?_
                     intro v9 w9 ho9 hg9 hb9
                     have hS9 := line_upB hS8 hb9 hbw))
              have HO9 : Hid (OwnL 29 w9 w.heap.size v9 (T9 ++ x :: D9)) := Lib.hid (by have h9 := ho9.out; simpa using h9)
              have HB9 : Hid (Below w.heap.size w w9) := Lib.hid (((HBW6.out.trans (HB7.out.mono HSZ6.out)).trans (dc_drew ((Below.refl w.heap.size w7).alloc HSZ7.out _))).trans (hb8.trans hb9))
              have HN9 : Hid (T9 ++ x :: D9 ≠ []) := Lib.hid (by simp)
              clear ho9 hg9 hb9 hS9 hr8 ho8 hg8 hb8 hS8 hS7
              go_wp2_with fail
              go_roundg (n - (k + 1))
              case measure => omega
              case rel => exact ⟨k + 1, _, by go_num, by omega, by omega, HO9, HE9, HL9.out, Lib.hid (fun e => absurd e HN9.out), HB9.out⟩
    · obtain rfl : k = n := by omega
      have hltz : ¬ (k : Int) < (k : Int) := by omega
      have hI9 := HI.out
      rw [show L.take k = L by rw [← HN.out, List.take_length]] at hI9
      have HI9 := Lib.hid hI9
      obtain ⟨A3, c3, rfl, hat⟩ := HO.out.reads
      have HAT := Lib.hid hat
      have HM := Lib.hid hMk
      obtain ⟨q, hq⟩ : ∃ q, M.length = q := ⟨_, rfl⟩
      rw [hq]
      have HQ := Lib.hid hq
      have hqn : q ≤ 1000 := by omega
      clear hat hMk hI9 hq HI HO HNL
      go_wp2_with fail
      generalize wr = wo at *
      go_loopg [7, 8] q (fun kx s7 s8 W => ∃ j : Nat, s8 = .int .i64 j ∧ j ≤ q ∧ q - j ≤ kx ∧ Hid (OwnL 29 W wo.heap.size s7 ((M.take j).filter fun a => decide (a.tgt ≠ 0))) ∧ Below wo.heap.size wo W)
      case atStart => exact ⟨0, rfl, by omega, by omega, Lib.hid (by rw [List.take_zero]; exact OwnL.nil), Below.refl _ _⟩
      case round =>
        obtain ⟨j, rfl, hj, hjx, HO, hBi⟩ := hrel
        by_cases hjq : j < q
        · have hjqz : (j : Int) < (q : Int) := by omega
          obtain ⟨bb, off, rfl, hbw, hcs⟩ := HAT.out (by rw [HQ.out]; omega)
          have hjl : j < M.length := by rw [HQ.out]; exact hjq
          obtain ⟨c0, c1, c2⟩ := (hcs j hjl).up hBi hbw
          have htk := take_succ_getD (d := lnk0) hjl
          have hln : ((M.take j).filter fun a => decide (a.tgt ≠ 0)).length ≤ 100000000 := by
            have h1 := List.length_filter_le (fun a : Lnk => decide (a.tgt ≠ 0)) (M.take j)
            rw [List.length_take] at h1
            omega
          generalize M.getD j lnk0 = x at *
          have hsz : wo.heap.size ≤ wr.heap.size := hBi.size
          have HLN := Lib.hid hln
          have HSZ := Lib.hid hsz
          have HBI := Lib.hid hBi
          by_cases h0 : x.tgt = 0
          · have HO2 : Hid (OwnL 29 wr wo.heap.size u7 ((M.take (j + 1)).filter fun a => decide (a.tgt ≠ 0))) := Lib.hid (by
              rw [htk, List.filter_append, List.filter_cons_of_neg (by simp [h0]), List.filter_nil, List.append_nil]; exact HO.out)
            have h0b : (x.tgt != 0) = false := by simp [h0]
            clear htk hcs hln hBi h0
            go_wp2_with fail
            go_roundg (q - (j + 1))
            case measure => omega
            case rel => exact ⟨j + 1, by go_num, by omega, by omega, HO2, HBI.out⟩
          · have hst : (M.take (j + 1)).filter (fun a => decide (a.tgt ≠ 0)) = (M.take j).filter (fun a => decide (a.tgt ≠ 0)) ++ [x] := by
              rw [htk, List.filter_append, List.filter_cons_of_pos (by simp [h0]), List.filter_nil]
            have HST := Lib.hid hst
            clear htk hcs hln hBi hst
            go_wp2_with (at_builtin; refine wpList_append_lk _ rfl (.tmp 89) (.tmp 94) 22 rfl wo.heap.size 29 i0 24 Try.underlying22 hi hz1 hz2 hz3 (by omega) u7 _ (by rfl) HO.out x _ 1 (by simp) rfl HLN.out HSZ.out ?_; intro v5 w5 ho5 hg5 hl5 hb5)
            have HO5 : Hid (OwnL 29 w5 wo.heap.size v5 ((M.take (j + 1)).filter fun a => decide (a.tgt ≠ 0))) := Lib.hid (by rw [HST.out]; exact ho5.out)
            have HB5 := Lib.hid (HBI.out.trans hb5)
            clear ho5 hg5 hl5 hb5 HO HST
            go_roundg (q - (j + 1))
            case measure => omega
            case rel => exact ⟨j + 1, by go_num, by omega, by omega, HO5, HB5.out⟩
        · obtain rfl : j = q := by omega
          have hjqz : ¬ (j : Int) < (j : Int) := by omega
          have hO9 := HO.out
          rw [show M.take j = M by rw [← HQ.out, List.take_length]] at hO9
          obtain ⟨B, c, rfl, hat9⟩ := hO9.reads
          have HAT9 := Lib.hid hat9
          have HNR := Lib.hid (isall_nrm HI9.out)
          have HLE : Hid ((M.filter fun a => decide (a.tgt ≠ 0)).length ≤ k) := Lib.hid (Nat.le_trans (List.length_filter_le _ _) HM.out)
          have HBI := Lib.hid hBi
          clear hat9 hO9 HO hBi
          go_wp2_with fail
          go_ret
          exact ⟨B, c, M.filter fun a => decide (a.tgt ≠ 0), by first | rfl | simp, HAT9.out, HNR.out, HLE.out, hB.trans (HBI.out.mono hB.size)⟩
def negL (l : Lnk) : Lnk := ⟨l.frm, wr (-l.tgt), l.since⟩
theorem lines_up6 {w w5 : World} {g b i1 i2 i3 j1 j2 j3 : Nat} {u1 u2 u3 v1 v2 v3 : Value} (h : w.cell? ⟨g, i1, none⟩ = some u1 ∧ w.cell? ⟨g, i2, none⟩ = some u2 ∧ w.cell? ⟨g, i3, none⟩ = some u3 ∧ w.cell? ⟨b, j1, none⟩ = some v1 ∧ w.cell? ⟨b, j2, none⟩ = some v2 ∧ w.cell? ⟨b, j3, none⟩ = some v3)
  (hb : Below w.heap.size w w5) (hg : g < w.heap.size) (hbb : b < w.heap.size) : w5.cell? ⟨g, i1, none⟩ = some u1 ∧ w5.cell? ⟨g, i2, none⟩ = some u2 ∧ w5.cell? ⟨g, i3, none⟩ = some u3 ∧ w5.cell? ⟨b, j1, none⟩ = some v1 ∧ w5.cell? ⟨b, j2, none⟩ = some v2 ∧ w5.cell? ⟨b, j3, none⟩ = some v3 := by
 obtain ⟨h1, h2, h3, h4, h5, h6⟩ := h
 exact ⟨(hb.cell (p := ⟨g, i1, none⟩) hg).trans h1, (hb.cell (p := ⟨g, i2, none⟩) hg).trans h2, (hb.cell (p := ⟨g, i3, none⟩) hg).trans h3, (hb.cell (p := ⟨b, j1, none⟩) hbb).trans h4, (hb.cell (p := ⟨b, j2, none⟩) hbb).trans h5, (hb.cell (p := ⟨b, j3, none⟩) hbb).trans h6⟩
set_option maxRecDepth 20000 in
set_option maxHeartbeats 1600000 in
theorem eneg_any (x : Lnk) (w : World) : Calls Try.prog 21 #[lnkV x] w fun e w' => e = .returned (lnkV (negL x)) ∧ Below w.heap.size w w' := by
 obtain ⟨x1, x2, x3⟩ := x
 have HB := below_new (below_alloc_new (w := w) (.cells #[.int .i64 x1, .int .i64 (wrap64 (-x2)), .int .i64 x3] 29)) (.cells #[.int .i64 x1, .int .i64 (wrap64 (-x2)), .int .i64 x3] 29)
 have hnew : ((w.alloc (.cells #[.int .i64 x1, .int .i64 (wrap64 (-x2)), .int .i64 x3] 29)).alloc (.cells #[.int .i64 x1, .int .i64 (wrap64 (-x2)), .int .i64 x3] 29)).heap[w.heap.size + 1]? = some (.cells #[.int .i64 x1, .int .i64 (wrap64 (-x2)), .int .i64 x3] 29 (0, 0)) := by
  have := heap_alloc_new (w.alloc (.cells #[.int .i64 x1, .int .i64 (wrap64 (-x2)), .int .i64 x3] 29)) (.cells #[.int .i64 x1, .int .i64 (wrap64 (-x2)), .int .i64 x3] 29)
  rwa [World.size_alloc] at this
 have HN : negL ⟨x1, x2, x3⟩ = ⟨x1, wrap64 (-x2), x3⟩ := rfl
 rw [HN]
 clear HN
 go_enter Try.func21, Try.ntmps21
 go_wp2_with fail
 exact bodyPost_ret (v := lnkV ⟨x1, wrap64 (-x2), x3⟩) (results_cell_row Try.results21 _ _ (w.heap.size + 1) _ _ _ _ rfl hnew Try.underlying29 rfl (by kernel_rfl)) rfl ⟨rfl, HB⟩
set_option maxRecDepth 20000 in
set_option maxHeartbeats 1600000 in
theorem eopp1_any (x y : Lnk) (w : World) : Calls Try.prog 20 #[lnkV x, lnkV y] w fun e w' => e = .returned (.bool (decide (x = negL y))) ∧ Below w.heap.size w w' := by
 have HB := Lib.hid (below_new (below_alloc_new (w := w) (.cells #[.int .i64 x.frm, .int .i64 x.tgt, .int .i64 x.since] 29)) (.cells #[.int .i64 y.frm, .int .i64 y.tgt, .int .i64 y.since] 29))
 have hx := (lb_new w 29 x).up (below_alloc_new (.cells #[.int .i64 y.frm, .int .i64 y.tgt, .int .i64 y.since] 29))
 have hy := lb_new (w.alloc (.cells #[.int .i64 x.frm, .int .i64 x.tgt, .int .i64 x.since] 29)) 29 y
 rw [World.size_alloc] at hy
 have HN := Lib.hid (fun w => eneg_any y w)
 have hneg : (negL y).frm = y.frm ∧ (negL y).since = y.since := ⟨rfl, rfl⟩
 generalize hw2 : (w.alloc (.cells #[.int .i64 x.frm, .int .i64 x.tgt, .int .i64 x.since] 29)).alloc (.cells #[.int .i64 y.frm, .int .i64 y.tgt, .int .i64 y.since] 29) = w2 at *
 obtain ⟨⟨c0, c1, c2⟩, hgl⟩ := hx
 obtain ⟨⟨d0, d1, d2⟩, hbl⟩ := hy
 simp only [Nat.zero_add] at c0 c1 c2 d0 d1 d2
 have hS0 : w2.drew.cell? ⟨w.heap.size, 0, none⟩ = some (.int .i64 x.frm) ∧ w2.drew.cell? ⟨w.heap.size, 1, none⟩ = some (.int .i64 x.tgt) ∧ w2.drew.cell? ⟨w.heap.size, 2, none⟩ = some (.int .i64 x.since) ∧ w2.drew.cell? ⟨w.heap.size + 1, 0, none⟩ = some (.int .i64 y.frm) ∧ w2.drew.cell? ⟨w.heap.size + 1, 1, none⟩ = some (.int .i64 y.tgt) ∧ w2.drew.cell? ⟨w.heap.size + 1, 2, none⟩ = some (.int .i64 y.since) := ⟨c0, c1, c2, d0, d1, d2⟩
 clear hneg
 generalize negL y = z at *
 have HW := Lib.hid hw2
 by_cases hxz : x = z
 ·subst hxz
  have E : decide (x = x) = true := by simp
  go_enter Try.func20, Try.ntmps20
  go_wp2_with fail
  go_region_held_law (fun w' => w'.cell? ⟨w.heap.size, 0, none⟩ = some (.int .i64 x.frm) ∧ w'.cell? ⟨w.heap.size, 1, none⟩ = some (.int .i64 x.tgt) ∧ w'.cell? ⟨w.heap.size, 2, none⟩ = some (.int .i64 x.since) ∧ w'.cell? ⟨w.heap.size + 1, 0, none⟩ = some (.int .i64 y.frm) ∧ w'.cell? ⟨w.heap.size + 1, 1, none⟩ = some (.int .i64 y.tgt) ∧ w'.cell? ⟨w.heap.size + 1, 2, none⟩ = some (.int .i64 y.since)) (first | exact hS5 | exact hS0 | go_keep)
   ((go_at_call 21; refine (HN.out _).mono ?_; rintro e w5 ⟨rfl, hb5⟩; have hS5 := lines_up6 hS0 hb5 hgl hbl))
  have HB5 := Lib.hid ((dc_drew HB.out).trans (hb5.mono (by have := HB.out.size; exact this)))
  go_wp2_with fail
  go_ret
  exact ⟨by first | (simp; done) | (rw [E]; rfl), HB5.out⟩
 ·have hno : Hid (decide (x = z) = false) := Lib.hid (decide_eq_false hxz)
  have hne : x.frm ≠ z.frm ∨ (x.frm = z.frm ∧ x.tgt ≠ z.tgt) ∨ (x.frm = z.frm ∧ x.tgt = z.tgt ∧ x.since ≠ z.since) := by
   by_cases h1 : x.frm = z.frm
   ·by_cases h2 : x.tgt = z.tgt
    ·exact .inr (.inr ⟨h1, h2, fun h3 => hxz (by cases x; cases z; simp at h1 h2 h3; rw [h1, h2, h3])⟩)
    ·exact .inr (.inl ⟨h1, h2⟩)
   ·exact .inl h1
  clear hxz
  rcases hne with h1 | ⟨h1, h2⟩ | ⟨h1, h2, h3⟩
  ·have q1 : (x.frm == z.frm) = false := by simp [h1]
   clear h1
   go_enter Try.func20, Try.ntmps20
   go_wp2_with fail
   go_region_held_law (fun w' => w'.cell? ⟨w.heap.size, 0, none⟩ = some (.int .i64 x.frm) ∧ w'.cell? ⟨w.heap.size, 1, none⟩ = some (.int .i64 x.tgt) ∧ w'.cell? ⟨w.heap.size, 2, none⟩ = some (.int .i64 x.since) ∧ w'.cell? ⟨w.heap.size + 1, 0, none⟩ = some (.int .i64 y.frm) ∧ w'.cell? ⟨w.heap.size + 1, 1, none⟩ = some (.int .i64 y.tgt) ∧ w'.cell? ⟨w.heap.size + 1, 2, none⟩ = some (.int .i64 y.since)) (first | exact hS5 | exact hS0 | go_keep)
    ((go_at_call 21; refine (HN.out _).mono ?_; rintro e w5 ⟨rfl, hb5⟩; have hS5 := lines_up6 hS0 hb5 hgl hbl))
   have HB5 := Lib.hid ((dc_drew HB.out).trans (hb5.mono (by have := HB.out.size; exact this)))
   go_wp2_with fail
   go_ret
   exact ⟨by first | (simp; done) | (rw [hno.out]; rfl), HB5.out⟩
  ·have q1 : (x.frm == z.frm) = true := by simp [h1]
   have q2 : (x.tgt == z.tgt) = false := by simp [h2]
   clear h1 h2
   go_enter Try.func20, Try.ntmps20
   go_wp2_with fail
   go_region_held_law (fun w' => w'.cell? ⟨w.heap.size, 0, none⟩ = some (.int .i64 x.frm) ∧ w'.cell? ⟨w.heap.size, 1, none⟩ = some (.int .i64 x.tgt) ∧ w'.cell? ⟨w.heap.size, 2, none⟩ = some (.int .i64 x.since) ∧ w'.cell? ⟨w.heap.size + 1, 0, none⟩ = some (.int .i64 y.frm) ∧ w'.cell? ⟨w.heap.size + 1, 1, none⟩ = some (.int .i64 y.tgt) ∧ w'.cell? ⟨w.heap.size + 1, 2, none⟩ = some (.int .i64 y.since)) (first | exact hS5 | exact hS0 | go_keep)
    ((go_at_call 21; refine (HN.out _).mono ?_; rintro e w5 ⟨rfl, hb5⟩; have hS5 := lines_up6 hS0 hb5 hgl hbl))
   have HB5 := Lib.hid ((dc_drew HB.out).trans (hb5.mono (by have := HB.out.size; exact this)))
   go_wp2_with fail
   go_ret
   exact ⟨by first | (simp; done) | (rw [hno.out]; rfl), HB5.out⟩
  ·have q1 : (x.frm == z.frm) = true := by simp [h1]
   have q2 : (x.tgt == z.tgt) = true := by simp [h2]
   have q3 : (x.since == z.since) = false := by simp [h3]
   clear h1 h2 h3
   go_enter Try.func20, Try.ntmps20
   go_wp2_with fail
   go_region_held_law (fun w' => w'.cell? ⟨w.heap.size, 0, none⟩ = some (.int .i64 x.frm) ∧ w'.cell? ⟨w.heap.size, 1, none⟩ = some (.int .i64 x.tgt) ∧ w'.cell? ⟨w.heap.size, 2, none⟩ = some (.int .i64 x.since) ∧ w'.cell? ⟨w.heap.size + 1, 0, none⟩ = some (.int .i64 y.frm) ∧ w'.cell? ⟨w.heap.size + 1, 1, none⟩ = some (.int .i64 y.tgt) ∧ w'.cell? ⟨w.heap.size + 1, 2, none⟩ = some (.int .i64 y.since)) (first | exact hS5 | exact hS0 | go_keep)
    ((go_at_call 21; refine (HN.out _).mono ?_; rintro e w5 ⟨rfl, hb5⟩; have hS5 := lines_up6 hS0 hb5 hgl hbl))
   have HB5 := Lib.hid ((dc_drew HB.out).trans (hb5.mono (by have := HB.out.size; exact this)))
   go_wp2_with fail
   go_ret
   exact ⟨by first | (simp; done) | (rw [hno.out]; rfl), HB5.out⟩
def oppB (X Y : List Lnk) : Bool := decide (X = Y.map negL)
set_option maxRecDepth 20000 in
set_option maxHeartbeats 1600000 in
theorem eeqf_any (A B : Option Addr) (c d : Nat) (X Y : List Lnk) (w : World) (hz : LnkAt w A X) (hy : LnkAt w B Y) (hl : X.length ≤ 100000) (hl2 : Y.length ≤ 100000) :
  Calls Try.prog 19 #[.slice A X.length c, .slice B Y.length d, .func (.func 20) #[] #[]] w fun e w' => e = .returned (.bool (oppB X Y)) ∧ Below w.heap.size w w' := by
 have hB := Below.refl w.heap.size w
 obtain ⟨n, hn⟩ : ∃ n, X.length = n := ⟨_, rfl⟩
 obtain ⟨m, hm⟩ : ∃ m, Y.length = m := ⟨_, rfl⟩
 rw [hn] at hl ⊢
 rw [hm] at hl2 ⊢
 by_cases hnm : n = m
 ·subst hnm
  have HN := Lib.hid hn
  have HM := Lib.hid hm
  have HZ := Lib.hid hz
  have HY := Lib.hid hy
  clear hn hm hz hy
  have hnn : ((n : Int) != (n : Int)) = false := by simp
  go_enter Try.func19, Try.ntmps19
  go_wp2_with fail
  go_loopg [17] n (fun kx s17 wr => ∃ k : Nat, s17 = .int .i64 k ∧ k ≤ n ∧ n - k ≤ kx ∧ Hid (X.take k = (Y.take k).map negL) ∧ Below w.heap.size w wr)
  case atStart => exact ⟨0, rfl, by omega, by omega, Lib.hid rfl, hB⟩
  case round =>
   clear hB
   obtain ⟨k, rfl, hk, hkx, HT, hB⟩ := hrel
   by_cases hlt : k < n
   ·have hltz : (k : Int) < (n : Int) := by omega
    obtain ⟨b, off, rfl, hbw, hcs⟩ := HZ.out (by rw [HN.out]; omega)
    obtain ⟨b2, off2, rfl, hbw2, hcs2⟩ := HY.out (by rw [HM.out]; omega)
    have ht1 := take_succ_getD (d := lnk0) (L := X) (i := k) (by rw [HN.out]; exact hlt)
    have ht2 := take_succ_getD (d := lnk0) (L := Y) (i := k) (by rw [HM.out]; exact hlt)
    obtain ⟨c0, c1, c2⟩ := (hcs k (by rw [HN.out]; exact hlt)).up hB hbw
    have hd2 := (hcs2 k (by rw [HM.out]; exact hlt)).up hB hbw2
    generalize X.getD k lnk0 = x at *
    generalize Y.getD k lnk0 = y at *
    obtain ⟨w1, hw1⟩ : ∃ w1, wr.alloc (.cells #[.int .i64 x.frm, .int .i64 x.tgt, .int .i64 x.since] 29) = w1 := ⟨_, rfl⟩
    have hbr2 : b2 < wr.heap.size := Nat.lt_of_lt_of_le hbw2 hB.size
    obtain ⟨d0, d1, d2⟩ : L3 w1 b2 (off2 + k * 3) y := by rw [← hw1]; exact hd2.up (below_alloc_new _) hbr2
    have hs1 : w1.heap.size = wr.heap.size + 1 := by rw [← hw1]; simp
    have hlx : LB w1 wr.heap.size x := by rw [← hw1]; exact lb_new wr _ x
    obtain ⟨w2, hw2⟩ : ∃ w2, w1.alloc (.cells #[.int .i64 y.frm, .int .i64 y.tgt, .int .i64 y.since] 29) = w2 := ⟨_, rfl⟩
    obtain ⟨⟨e0, e1, e2⟩, -⟩ : LB w2 wr.heap.size x := by rw [← hw2]; exact hlx.up (below_alloc_new _)
    obtain ⟨⟨g0, g1, g2⟩, -⟩ : LB w2 w1.heap.size y := by rw [← hw2]; exact lb_new w1 _ y
    simp only [Nat.zero_add] at e0 e1 e2 g0 g1 g2
    have HB2 : Hid (Below w.heap.size w w2) := Lib.hid (by rw [← hw2, ← hw1]; exact below_new (below_new hB _) _)
    have HC := Lib.hid (eopp1_any x y w2)
    by_cases hxy : x = negL y
    ·have HT2 : Hid (X.take (k + 1) = (Y.take (k + 1)).map negL) := Lib.hid (by rw [ht1, ht2, List.map_append, List.map_cons, List.map_nil, ← hxy, HT.out])
     have hde : decide (x = negL y) = true := decide_eq_true hxy
     rw [hde] at HC
     clear ht1 ht2 hcs hcs2 hxy hd2 hlx hs1 hde
     go_wp2_with (go_at_call 20; refine HC.out.mono ?_; rintro e w5 ⟨rfl, hb5⟩; have HB5 := Lib.hid (below_more HB2.out hb5); clear hb5)
     go_roundg (n - (k + 1))
     case measure => omega
     case rel => exact ⟨k + 1, by go_num, by omega, by omega, HT2, HB5.out⟩
    ·have hno : Hid (oppB X Y = false) := Lib.hid (decide_eq_false fun e => by
      have h9 := congrArg (List.take (k + 1)) e
      rw [← List.map_take, ht1, ht2, List.map_append, HT.out] at h9
      have := List.append_cancel_left h9
      simp at this; exact hxy this)
     have hde : decide (x = negL y) = false := decide_eq_false hxy
     rw [hde] at HC
     clear ht1 ht2 hcs hcs2 hxy hd2 hlx hs1 hde
     go_wp2_with (go_at_call 20; refine HC.out.mono ?_; rintro e w5 ⟨rfl, hb5⟩; have HB5 := Lib.hid (below_more HB2.out hb5); clear hb5)
     go_ret
     exact ⟨by rw [hno.out]; rfl, HB5.out⟩
   ·obtain rfl : k = n := by omega
    have hltz : ¬ (k : Int) < (k : Int) := by omega
    have hyes : Hid (oppB X Y = true) := Lib.hid (decide_eq_true (by have h := HT.out; rwa [List.take_of_length_le (by rw [HN.out]; omega), List.take_of_length_le (by rw [HM.out]; omega)] at h))
    go_wp2_with fail
    go_ret
    exact ⟨by rw [hyes.out]; rfl, hB⟩
 ·have hno : Hid (oppB X Y = false) := Lib.hid (decide_eq_false fun e => hnm (by rw [← hn, ← hm, e, List.length_map]))
  have hnn : ((n : Int) != (m : Int)) = true := by simp; omega
  clear hn hm hz hy
  go_enter Try.func19, Try.ntmps19
  go_wp2_with fail
  go_ret
  exact ⟨by rw [hno.out]; rfl, hB⟩
theorem eopp_any (A B : Option Addr) (c d : Nat) (X Y : List Lnk) (w : World) (hz : LnkAt w A X) (hy : LnkAt w B Y) (hl : X.length ≤ 100000) (hl2 : Y.length ≤ 100000) :
  Calls Try.prog 12 #[.slice A X.length c, .slice B Y.length d] w fun e w' => e = .returned (.bool (oppB X Y)) ∧ Below w.heap.size w w' := by
 have HC := Lib.hid (eeqf_any A B c d X Y w hz hy hl hl2)
 generalize oppB X Y = r at *
 generalize X.length = n at *
 generalize Y.length = m at *
 go_enter Try.func12, Try.ntmps12
 go_wp2_with (go_at_call 19; refine HC.out.mono ?_; rintro e w5 ⟨rfl, hb5⟩)
 go_ret
 exact ⟨rfl, hb5⟩
set_option maxRecDepth 20000 in
set_option maxHeartbeats 1600000 in
theorem ropp_any (A B : Option Addr) (c d : Nat) (X Y : List Lnk) (w : World) (hz : LnkAt w A X) (hy : LnkAt w B Y) (hl : X.length ≤ 100000) (hl2 : Y.length ≤ 100000) :
  Calls Try.prog 13 #[.slice A X.length c, .slice B Y.length d] w fun e w' => e = .returned (.bool (oppB X Y)) ∧ Below w.heap.size w w' := by
 have hB := Below.refl w.heap.size w
 have HC := Lib.hid (fun W (E : Option Addr) (cE : Nat) (h : LnkAt W A X) (h2 : LnkAt W E (Y.map negL)) => rsamel_any A E c cE X (Y.map negL) W h h2 hl (by rw [List.length_map]; exact hl2))
 obtain ⟨i0, hi, hz1, hz2, hz3⟩ := info_parts infoLn
 obtain ⟨n, hn⟩ : ∃ n, X.length = n := ⟨_, rfl⟩
 obtain ⟨m, hm⟩ : ∃ m, Y.length = m := ⟨_, rfl⟩
 rw [List.length_map, hm] at HC
 rw [hn] at hl HC ⊢
 rw [hm] at hl2 ⊢
 have HM := Lib.hid hm
 have HZ := Lib.hid hz
 have HY := Lib.hid hy
 have hopp : decide (X = Y.map negL) = oppB X Y := rfl
 rw [hopp] at HC
 clear hn hm hz hy hopp
 go_enter Try.func13, Try.ntmps13
 go_wp2_with fail
 go_loopg [5, 6] m (fun kx s5 s6 wr => ∃ k : Nat, s6 = .int .i64 k ∧ k ≤ m ∧ m - k ≤ kx ∧ Hid (OwnL 29 wr w.heap.size s5 ((Y.take k).map negL)) ∧ Below w.heap.size w wr)
 case atStart => exact ⟨0, rfl, by omega, by omega, Lib.hid OwnL.nil, hB⟩
 case round =>
  clear hB
  obtain ⟨k, rfl, hk, hkx, HO, hB⟩ := hrel
  by_cases hlt : k < m
  ·have hltz : (k : Int) < (m : Int) := by omega
   obtain ⟨b2, off2, rfl, hbw2, hcs2⟩ := HY.out (by rw [HM.out]; omega)
   have ht2 := take_succ_getD (d := lnk0) (L := Y) (i := k) (by rw [HM.out]; exact hlt)
   obtain ⟨c0, c1, c2⟩ := (hcs2 k (by rw [HM.out]; exact hlt)).up hB hbw2
   have hst : (Y.take (k + 1)).map negL = (Y.take k).map negL ++ [negL (Y.getD k lnk0)] := by rw [ht2, List.map_append]; rfl
   have hln : ((Y.take k).map negL).length ≤ 100000000 := by rw [List.length_map, List.length_take]; omega
   generalize Y.getD k lnk0 = y at *
   obtain ⟨y1, y2, y3⟩ := y
   have hng : negL ⟨y1, y2, y3⟩ = ⟨y1, wrap64 (-y2), y3⟩ := rfl
   rw [hng] at hst
   dsimp only at c0 c1 c2
   have HST := Lib.hid hst
   have HLN := Lib.hid hln
   have hsz : w.heap.size ≤ wr.heap.size := hB.size
   have HSZ := Lib.hid hsz
   have HB1 : Hid (Below w.heap.size w (wr.alloc (.cells #[.int .i64 y1, .int .i64 (wrap64 (-y2)), .int .i64 y3] 29))) := Lib.hid (hB.alloc hsz _)
   have HO1 : Hid (OwnL 29 (wr.alloc (.cells #[.int .i64 y1, .int .i64 (wrap64 (-y2)), .int .i64 y3] 29)) w.heap.size u5 ((Y.take k).map negL)) := Lib.hid (HO.out.alloc _)
   clear hst hln hng hcs2 ht2 hB HO
   go_wp2_with (at_builtin; refine wpList_append_lk _ rfl (.tmp 22) (.tmp 24) 22 rfl w.heap.size 29 i0 24 Try.underlying22 hi hz1 hz2 hz3 (by omega) u5 _ (by rfl) HO1.out ⟨y1, wrap64 (-y2), y3⟩ _ 1 (by simp) rfl HLN.out (by have := HSZ.out; simp; omega) ?_; intro v5 w5 ho5 hg5 hl5 hb5)
   have HO5 : Hid (OwnL 29 w5 w.heap.size v5 ((Y.take (k + 1)).map negL)) := Lib.hid (by rw [HST.out]; exact ho5.out)
   have HB5 := Lib.hid (HB1.out.trans hb5)
   clear ho5 hg5 hl5 hb5 HO1 HST
   go_roundg (m - (k + 1))
   case measure => omega
   case rel => exact ⟨k + 1, by go_num, by omega, by omega, HO5, HB5.out⟩
  ·obtain rfl : k = m := by omega
   have hltz : ¬ (k : Int) < (k : Int) := by omega
   have hO9 := HO.out
   rw [show Y.take k = Y by rw [← HM.out, List.take_length]] at hO9
   obtain ⟨E, cE, rfl, hat⟩ := hO9.reads
   have HAT := Lib.hid hat
   have HL : Hid ((Y.map negL).length = k) := Lib.hid (by rw [List.length_map, HM.out])
   rw [HL.out]
   have HB := Lib.hid hB
   clear hat hO9 HO hB
   go_wp2_with (go_at_call 8; refine (HC.out _ E cE (HZ.out.up HB.out) HAT.out).mono ?_; rintro e w5 ⟨rfl, hb5⟩)
   go_ret
   exact ⟨rfl, below_more HB.out hb5⟩
theorem isnrm_key {L N : List Lnk} (h : IsNrm L N) {l : Lnk} (hl : l ∈ N) : kOf l ∈ L.map kOf := by
 rcases Decidable.em (kOf l ∈ L.map kOf) with h3 | h3
 ·exact h3
 ·have h1 := (h.2 l).1 hl
  rw [amtK_none h3, wr_zero] at h1
  exact absurd h1.1 h1.2
theorem okL_wr {l : Lnk} (h : okL l) : wr l.tgt = l.tgt := by
 have := bounds_i64 h.2
 exact wr_small (by omega) (by omega)
theorem smLB_len {L : List Lnk} (h : smLB L = true) : L.length ≤ 100 := by
 unfold smLB at h
 simp at h
 exact h.2
set_option maxRecDepth 20000 in
set_option maxHeartbeats 6400000 in
theorem law_elines (A : Option Addr) (n c : Nat) (X : List Lnk) (B : Option Addr) (m d : Nat) (Y : List Lnk) (w : World) (hlen : X.length = n) (hmax : n ≤ 9223372036854775807) (_hcap : n ≤ c) (hz : LnkAt w A X) (hwf : ∀ l ∈ X, okL l) (hlen2 : Y.length = m) (hmax2 : m ≤ 9223372036854775807) (_hcap2 : m ≤ d) (hy : LnkAt w B Y) (_hwf2 : ∀ l ∈ Y, okL l) :
  Calls Try.prog 3 #[.slice A n c, .slice B m d] w fun e w' => e = .returned (.bool true) ∧ Below w.heap.size w w' := by
 have HB0 := Lib.hid (Below.refl w.heap.size w)
 have HSX := Lib.hid (fun W (h : LnkAt W A X) => esmall_any A c X W h (by omega))
 have HSY := Lib.hid (fun W (h : LnkAt W B Y) => esmall_any B d Y W h (by omega))
 have hsx := smLB_len (L := X)
 have hsy := smLB_len (L := Y)
 rw [hlen] at HSX hsx
 rw [hlen2] at HSY hsy
 have HZ := Lib.hid hz
 have HY := Lib.hid hy
 have HLX := Lib.hid hlen
 have HLY := Lib.hid hlen2
 have HWF := Lib.hid hwf
 clear hz hlen hwf hy hlen2
 generalize smLB X = sx at *
 generalize smLB Y = sy at *
 cases sx
 ·clear hsx hsy
  go_enter Try.func3, Try.ntmps3
  go_wp2_with (first
   | (go_at_call 5; refine (eawake_any _).mono ?_; rintro e w1 ⟨rfl, hb⟩; have HB1 := Lib.hid (below_more HB0.out hb); clear hb)
   | (go_at_call 6; refine (HSX.out _ (HZ.out.up HB1.out)).mono ?_; rintro e w2 ⟨rfl, hb⟩; have HB2 := Lib.hid (below_more HB1.out hb); clear hb))
  go_ret
  exact ⟨rfl, HB2.out⟩
 cases sy
 ·clear hsx hsy
  go_enter Try.func3, Try.ntmps3
  go_wp2_with (first
   | (go_at_call 5; refine (eawake_any _).mono ?_; rintro e w1 ⟨rfl, hb⟩; have HB1 := Lib.hid (below_more HB0.out hb); clear hb)
   | (go_at_call 6; first
     | (refine (HSY.out _ (HY.out.up HB2.out)).mono ?_; rintro e w3 ⟨rfl, hb⟩; have HB3 := Lib.hid (below_more HB2.out hb); clear hb)
     | (refine (HSX.out _ (HZ.out.up HB1.out)).mono ?_; rintro e w2 ⟨rfl, hb⟩; have HB2 := Lib.hid (below_more HB1.out hb); clear hb)))
  go_ret
  exact ⟨rfl, HB3.out⟩
 have hn := hsx rfl
 have hm := hsy rfl
 clear hsx hsy
 obtain ⟨i0, hi, hz1, hz2, hz3⟩ := info_parts infoLn
 have HNX := Lib.hid (fun W E cE (h : LnkAt W E X) => enorm_any E cE X W h (by rw [HLX.out]; omega) (fun l hl => (HWF.out l hl).1))
 have HRX := Lib.hid (fun W (h : LnkAt W A X) => rnorm_any A c X W h (by rw [HLX.out]; omega) (fun l hl => okL_wr (HWF.out l hl)))
 have HS1 := Lib.hid (fun W (h : LnkAt W A X) => esum_any A c X W h (by rw [HLX.out]; omega))
 have HR1 := Lib.hid (fun W (h : LnkAt W A X) => rsum11_any A c X W h (by rw [HLX.out]; omega))
 have HO1 := Lib.hid (fun W (h : LnkAt W A X) (h2 : LnkAt W B Y) => eopp_any A B c d X Y W h h2 (by rw [HLX.out]; omega) (by rw [HLY.out]; omega))
 have HO2 := Lib.hid (fun W (h : LnkAt W A X) (h2 : LnkAt W B Y) => ropp_any A B c d X Y W h h2 (by rw [HLX.out]; omega) (by rw [HLY.out]; omega))
 rw [HLX.out] at HNX HRX HS1 HR1 HO1 HO2
 rw [HLY.out] at HO1 HO2
 generalize oppB X Y = op at *
 go_enter Try.func3, Try.ntmps3
 go_wp2_with (first
  | (go_at_call 5; refine (eawake_any _).mono ?_; rintro e w1 ⟨rfl, hb⟩; have HB1 := Lib.hid (below_more HB0.out hb); clear hb)
  | (go_at_call 6; first
    | (refine (HSY.out _ (HY.out.up HB2.out)).mono ?_; rintro e w3 ⟨rfl, hb⟩; have HB3 := Lib.hid (below_more HB2.out hb); clear hb)
    | (refine (HSX.out _ (HZ.out.up HB1.out)).mono ?_; rintro e w2 ⟨rfl, hb⟩; have HB2 := Lib.hid (below_more HB1.out hb); clear hb))
  | (at_builtin; refine wpList_app_lines rfl (.tmp 16) (.tmp 17) 22 rfl w3.heap.size 29 i0 24 Try.underlying22 hi hz1 hz2 hz3 (by omega) (.slice (some ⟨w3.heap.size, 0, none⟩) 0 0) [] rfl (OwnL.empty (Nat.le_refl _)) A n c X HLX.out rfl ((HZ.out.up HB3.out).up (below_alloc_new _)) (by simp; omega) (by simp) ?_; intro v4 w4 ho4 hg4 hb4; obtain ⟨A4, c4, hv4, hl4⟩ := ho4.out.reads; rw [List.nil_append, HLX.out] at hv4; rw [List.nil_append] at hl4; subst hv4; have HL4 := Lib.hid hl4; have HB4 : Hid (Below w.heap.size w w4) := Lib.hid (below_more HB3.out ((below_alloc_new _).trans hb4)); clear ho4 hg4 hl4 hb4)
  | (go_at_call 7; first
    | (refine (HNN.out _ (HL5.out.up HC11.out)).mono ?_; rintro e w12 ⟨A12, c12, N12, rfl, hl12, hn12, hle12, hb12⟩; obtain rfl : N = N12 := (isnrm_unique hn12 (isnrm_self HN5.out)).symm; have HL12 := Lib.hid hl12; have HC12 := Lib.hid (below_more HC11.out hb12); clear hl12 hn12 hle12 hb12)
    | (refine (HNX.out _ A4 c4 HL4.out).mono ?_; rintro e w5 ⟨A5, c5, N, rfl, hl5, hn5, hle5, hb5⟩; have HL5 := Lib.hid hl5; have HN5 := Lib.hid hn5; have HE5 := Lib.hid (Nat.le_trans hle5 hn); have HB5 := Lib.hid (below_more HB4.out hb5); have HC5 := Lib.hid (Below.refl w5.heap.size w5); have HNN := Lib.hid (fun W (h : LnkAt W A5 N) => enorm_any A5 c5 N W h (by have := HE5.out; omega) (fun l hl => by obtain ⟨l2, h2, e2⟩ := List.mem_map.1 (isnrm_key HN5.out hl); rw [← e2]; exact (HWF.out l2 h2).1)); have HSN := Lib.hid (fun W (h : LnkAt W A5 N) => esum_any A5 c5 N W h (by have := HE5.out; omega)); rw [isnrm_sum HN5.out] at HSN; clear hl5 hn5 hle5 hb5))
  | (go_at_call 9; refine (HRX.out _ (HZ.out.up (HB5.out.trans (HC5.out.mono HB5.out.size)))).mono ?_; rintro e w6 ⟨A6, c6, N6, rfl, hl6, hn6, hle6, hb6⟩; obtain rfl : N = N6 := (isnrm_unique hn6 HN5.out).symm; have HL6 := Lib.hid hl6; have HC6 := Lib.hid (below_more HC5.out hb6); clear hl6 hn6 hle6 hb6)
  | (go_at_call 8; first
    | (refine (rsamel_any A12 A5 c12 c5 _ _ _ HL12.out (HL5.out.up HC12.out) (by have := HE5.out; omega) (by have := HE5.out; omega)).mono ?_; rintro e w13 ⟨rfl, hb13⟩; have HC13 := Lib.hid (below_more HC12.out hb13); clear hb13)
    | (refine (rsamel_any A5 A6 c5 c6 _ _ _ (HL5.out.up HC6.out) HL6.out (by have := HE5.out; omega) (by have := HE5.out; omega)).mono ?_; rintro e w7 ⟨rfl, hb7⟩; have HC7 := Lib.hid (below_more HC6.out hb7); clear hb7))
  | (go_at_call 10; first
    | (refine (HSN.out _ (HL5.out.up HC9.out)).mono ?_; rintro e w10 ⟨rfl, hb10⟩; have HC10 := Lib.hid (below_more HC9.out hb10); clear hb10)
    | (refine (HS1.out _ (HZ.out.up (HB5.out.trans (HC7.out.mono HB5.out.size)))).mono ?_; rintro e w8 ⟨rfl, hb8⟩; have HC8 := Lib.hid (below_more HC7.out hb8); clear hb8))
  | (go_at_call 11; first
    | (refine (HR1.out _ (HZ.out.up (HB5.out.trans (HC10.out.mono HB5.out.size)))).mono ?_; rintro e w11 ⟨rfl, hb11⟩; have HC11 := Lib.hid (below_more HC10.out hb11); clear hb11)
    | (refine (HR1.out _ (HZ.out.up (HB5.out.trans (HC8.out.mono HB5.out.size)))).mono ?_; rintro e w9 ⟨rfl, hb9⟩; have HC9 := Lib.hid (below_more HC8.out hb9); clear hb9))
  | (go_at_call 12; refine (HO1.out _ (HZ.out.up (HB5.out.trans (HC13.out.mono HB5.out.size))) (HY.out.up (HB5.out.trans (HC13.out.mono HB5.out.size)))).mono ?_; rintro e w14 ⟨rfl, hb14⟩; have HC14 := Lib.hid (below_more HC13.out hb14); clear hb14)
  | (go_at_call 13; refine (HO2.out _ (HZ.out.up (HB5.out.trans (HC14.out.mono HB5.out.size))) (HY.out.up (HB5.out.trans (HC14.out.mono HB5.out.size)))).mono ?_; rintro e w15 ⟨rfl, hb15⟩; have HC15 := Lib.hid (below_more HC14.out hb15); clear hb15))
 go_ret
 exact ⟨by simp, HB5.out.trans (HC15.out.mono HB5.out.size)⟩
end Go.Proofs.Ytfombohomebokaa
