/- Contracts and the law of LedgerReversed, part 1: what was proved of each, callees first. -/
import Derived.ArgAppend
import Derived.Test.YthokdplikidhiaaGreatLO8
namespace Go.Proofs.YthokdplikidhiaaGreat
open Go.RowKit
theorem wr_add2 (x y : Int) : wr (x + wr y) = wr (x + y) := wr_eq_of (by have := wr_emod y; omega)
def RevO (x : Ety) (X : List Lnk) (a b : Int) (s : Nat) (e : Ending) (W : World) : Prop := ∃ A c, e = .returned (etyV (revE x a b A c)) ∧ OwnR lyL 59 W s (.slice A x.n c) (X.map negL)
set_option maxRecDepth 100000 in
set_option maxHeartbeats 6400000 in
theorem rrevo_any (x : Ety) (X : List Lnk) (a b : Int) (w : World) (hx : EtyK w x X) (hn : x.n ≤ 1000) : Calls Tryz.prog 25 #[etyV x, .int .i64 a, .int .i64 b] w fun e w' => RevO x X a b w.heap.size e w' ∧ Below w.heap.size w w' := by
 obtain ⟨i0, hi, hz1, hz2, hz3⟩ := info_parts infoLnk
 obtain ⟨s0, hs0⟩ : ∃ s0, w.heap.size = s0 := ⟨_, rfl⟩
 obtain ⟨w2, hw2⟩ : ∃ w2, (w.alloc (.cells (etyC x).toArray 46)).alloc (.cells #[.int .i64 0, .int .i64 0, .int .i64 0, .int .i64 0, .int .i64 0, .string ⟨#[]⟩, .slice none 0 0] 46) = w2 := ⟨_, rfl⟩
 have hXB : Wh 46 w2 s0 (etyC x) := by rw [← hw2, ← hs0]; exact (Wh.new w _ _).up (below_alloc_new _)
 have HRB : Hid (Wh 46 w2 (s0 + 1) [.int .i64 0, .int .i64 0, .int .i64 0, .int .i64 0, .int .i64 0, .string ⟨#[]⟩, .slice none 0 0]) := Lib.hid (by
  rw [← hw2, ← hs0]
  have h9 := Wh.new (w.alloc (.cells (etyC x).toArray 46)) 46 [.int .i64 0, .int .i64 0, .int .i64 0, .int .i64 0, .int .i64 0, .string ⟨#[]⟩, .slice none 0 0]
  rw [World.size_alloc] at h9
  exact h9)
 have HB2 : Hid (Below s0 w w2) := Lib.hid (by rw [← hw2, ← hs0]; exact below_new (below_alloc_new _) _)
 have hs2 : w2.heap.size = s0 + 2 := by rw [← hw2, ← hs0]; simp
 have HS2 := Lib.hid hs2
 have HXZ := Lib.hid hx.hz
 have HXL := Lib.hid hx.ln
 have HXO := Lib.hid hx.ok
 have p0 := hXB.at 0 _ rfl
 have p1 := hXB.at 1 _ rfl
 have p5 := hXB.at 5 _ rfl
 have HXB := Lib.hid hXB
 have HS0 := Lib.hid hs0
 have HN := Lib.hid hn
 obtain ⟨m, hm⟩ : ∃ m, x.n = m := ⟨_, rfl⟩
 have HMM := Lib.hid hm
 have hw3 : (etyC x).toArray = #[.int .i64 x.id, .int .i64 x.ent, .int .i64 x.day, .int .i64 x.kind, .int .i64 x.of_, .string x.txt, .slice x.A x.n x.c] := rfl
 rw [hw3] at hw2
 have HN3 : Hid (Wh 46 (w2.alloc (.cells #[.int .i64 0, .int .i64 0, .int .i64 0, .int .i64 0, .int .i64 0, .string ⟨#[]⟩, .slice none 0 0] 46)) (s0 + 2) [.int .i64 0, .int .i64 0, .int .i64 0, .int .i64 0, .int .i64 0, .string ⟨#[]⟩, .slice none 0 0]) := Lib.hid (by rw [← hs2]; exact Wh.new w2 _ _)
 clear hx hw3 hXB hm hn
 go_enter Tryz.func25, Tryz.ntmps25
 go_upto_region 2 with (first
  | (refine wpList_build_is rfl 46 _ rfl [(0, .int .i64 a), (1, .int .i64 x.ent), (2, .int .i64 b), (3, .int .i64 3), (4, .int .i64 x.id), (5, .string x.txt)] rfl (etyV (revN x a b none 0 0)) (rr_build x a b _) ?_)
  | (refine wpList_store_wh rfl 46 _ _ rfl (s0 + 2) rfl 46 [.int .i64 0, .int .i64 0, .int .i64 0, .int .i64 0, .int .i64 0, .string ⟨#[]⟩, .slice none 0 0] (etyC (revN x a b none 0 0)) rfl HN3.out rfl (by kernel_rfl) (by kernel_rfl) ?_; intro w3 hr3 ho3 hz3; have hb3 : Below w2.heap.size w2 w3 := only_new (by rw [HS2.out]; exact ho3.out); have HL3 : Hid (RvL x X a b s0 0 w3) := Lib.hid ⟨HXB.out.up hb3, HRB.out.up hb3, none, 0, hr3.out, OwnR.nil⟩; have HB3 := Lib.hid (HB2.out.trans (hb3.mono (by have := HS2.out; omega))); have HT3 : Hid (s0 + 3 ≤ w3.heap.size) := Lib.hid (Nat.le_of_eq (by rw [hz3, World.size_alloc, HS2.out])); clear hr3 ho3 hz3 hb3))
 clear p0 p1 p5 hw2 hs2 HN3 HRB HXB
 go_wp2_with fail
 go_loopg [8] m (fun kx s8 wr => ∃ (k : Nat), s8 = .int .i64 (k : Int) ∧ k ≤ m ∧ m - k ≤ kx ∧ Hid (RvL x X a b s0 k wr) ∧ Hid (Below s0 w wr) ∧ Hid (s0 + 3 ≤ wr.heap.size))
 case atStart => exact ⟨0, rfl, by omega, by omega, HL3, HB3, HT3⟩
 case round =>
  clear HL3 HB3 HT3
  obtain ⟨k, rfl, hk, hkx, HL, HB, HT⟩ := hrel
  have hx6 : wr.cell? ⟨s0, 6, none⟩ = some (.slice x.A m x.c) := by rw [← HMM.out]; exact HL.out.box.at 6 _ rfl
  have hm1000 : m ≤ 1000 := by have := HN.out; have := HMM.out; omega
  by_cases hlt : k < m
  ·have hltz : (k : Int) < (m : Int) := by omega
   obtain ⟨l, hl⟩ : ∃ l, X[k]? = some l := ⟨_, List.getElem?_eq_getElem (by rw [HXL.out, HMM.out]; exact hlt)⟩
   obtain ⟨gb, go, hA, hgl, hrg⟩ := (lnk_row.2 HXZ.out).at hl
   have q0 : wr.cell? ⟨gb, go + k * 3 + 0, none⟩ = some (.int .i64 l.frm) := (HB.out.cell (p := ⟨gb, go + k * 3 + 0, none⟩) (by rw [← HS0.out]; exact hgl)).trans (hrg 0 _ rfl)
   rw [Nat.add_zero] at q0
   have q1 : wr.cell? ⟨gb, go + k * 3 + 1, none⟩ = some (.int .i64 l.tgt) := (HB.out.cell (p := ⟨gb, go + k * 3 + 1, none⟩) (by rw [← HS0.out]; exact hgl)).trans (hrg 1 _ rfl)
   have q2 : wr.cell? ⟨gb, go + k * 3 + 2, none⟩ = some (.int .i64 l.since) := (HB.out.cell (p := ⟨gb, go + k * 3 + 2, none⟩) (by rw [← HS0.out]; exact hgl)).trans (hrg 2 _ rfl)
   have HLK := Lib.hid hl
   rw [hA] at hx6
   clear hl hgl hrg hA
   go_upto_region 7 with fail
   obtain ⟨W5, hW5⟩ : ∃ W5, wr.alloc (.cells #[.int .i64 l.frm, .int .i64 (wrap64 (-l.tgt)), .int .i64 l.since] 59) = W5 := ⟨_, rfl⟩
   have hw5 : Wh 59 W5 wr.heap.size (celL (negL l)) := by rw [← hW5]; exact Wh.new wr _ (celL (negL l))
   have hb5 : Below wr.heap.size wr W5 := by rw [← hW5]; exact below_alloc_new _
   have HL5 := Lib.hid (HL.out.up hb5)
   obtain ⟨A, c, h1, h2⟩ := HL5.out.out
   have HB5 := Lib.hid (HB.out.trans (hb5.mono (by have := HT.out; omega)))
   have HT5 : Hid (s0 + 3 ≤ W5.heap.size) := Lib.hid (Nat.le_trans HT.out hb5.size)
   have t0 := hw5.at 0 _ rfl
   have t1 : W5.cell? ⟨wr.heap.size, 1, none⟩ = some (.int .i64 (wrap64 (-l.tgt))) := hw5.at 1 _ rfl
   have t2 := hw5.at 2 _ rfl
   have o6 : W5.cell? ⟨s0 + 2, 6, none⟩ = some (.slice A k c) := h1.at 6 _ rfl
   have HE5 := Lib.hid h1
   have HR5 := Lib.hid h2
   have HLN : Hid (((X.take k).map negL).length = k) := Lib.hid (by rw [List.length_map, List.length_take, HXL.out, HMM.out]; omega)
   have HB6 := Lib.hid (below_alloc_new (w := W5) (.cells #[.int .i64 l.frm, .int .i64 (wrap64 (-l.tgt)), .int .i64 l.since] 59))
   have HW6 : Hid (Wh 59 (W5.alloc (.cells #[.int .i64 l.frm, .int .i64 (wrap64 (-l.tgt)), .int .i64 l.since] 59)) W5.heap.size (celL (negL l))) := Lib.hid (Wh.new W5 _ (celL (negL l)))
   have HST : Hid ((X.take k).map negL ++ [negL l] = (X.take (k + 1)).map negL) := Lib.hid (by rw [take_succ_at HLK.out, List.map_append]; rfl)
   rw [hW5]
   clear hW5 hw5 hb5 HL HB HT h1 h2 hx6 q0 q1 q2
   go_wp2_with (at_builtin; refine wpList_app_row (R := lyL) rfl (.tmp 36) (.tmp 38) 44 rfl i0 _ 24 Tryz.underlying44 hi hz1 hz2 hz3 (by omega) rfl rfl (HR5.out.up HB6.out) (some ⟨W5.heap.size, 0, none⟩) 1 1 [negL l] rfl rfl (row_one HW6.out) (by have := HLN.out; omega) (by have := HT5.out; simp; omega) ?_; intro v9 w9 hr9 hg9 hn9; rw [HST.out] at hr9; obtain ⟨A9, c9, e9, -, -⟩ := hr9.out.reads; rw [List.length_map, List.length_take, HXL.out, HMM.out, Nat.min_eq_left (by omega : k + 1 ≤ m)] at e9; subst e9; have hon : Only (fun b => (Value.slice A k c).ownBlock = some b) (W5.alloc (.cells #[.int .i64 l.frm, .int .i64 (wrap64 (-l.tgt)), .int .i64 l.since] 59)) w9 := Only.grown hg9.out fun _ hk => hk; have hne : ∀ b, (Value.slice A k c).ownBlock = some b → s0 + 3 ≤ b := fun b hb => (HR5.out.lt hb).1; have he9 := (HE5.out.up HB6.out).only hon (fun h => by have := hne _ h; omega); have y6 := he9.frozen 6; have z6 := he9.at 6 _ rfl; have HE9 := Lib.hid he9; have HX9 := Lib.hid ((HL5.out.box.up HB6.out).only hon (fun h => by have := hne _ h; omega)); have HS9 := Lib.hid ((HL5.out.res.up HB6.out).only hon (fun h => by have := hne _ h; omega)); have HR9 := Lib.hid hr9.out; have HB9 := Lib.hid ((HB5.out.trans (HB6.out.mono (by have := HT5.out; omega))).trans (hon.below (B := s0) (fun b hb => by have := hne _ hb; omega) (by have := HT5.out; simp; omega))); have HT9 : Hid (s0 + 3 ≤ w9.heap.size) := Lib.hid (Nat.le_trans HT5.out (Nat.le_trans HB6.out.size hon.size)); clear hr9 hg9 hn9 hon hne he9)
   have HLN9 : Hid (RvL x X a b s0 (k + 1) (w9.setCell ⟨s0 + 2, 6, none⟩ (.slice A9 (k + 1) c9))) := Lib.hid ⟨HX9.out.same (Below.heap_setCell w9 ⟨s0 + 2, 6, none⟩ _ s0 (by show s0 ≠ s0 + 2; omega)), HS9.out.same (Below.heap_setCell w9 ⟨s0 + 2, 6, none⟩ _ (s0 + 1) (by show s0 + 1 ≠ s0 + 2; omega)), A9, c9, HE9.out.set 6 _, HR9.out.blk fun g hg => Below.heap_setCell w9 ⟨s0 + 2, 6, none⟩ _ g (by have := (HR9.out.lt hg).1; show g ≠ s0 + 2; omega)⟩
   have HBN : Hid (Below s0 w (w9.setCell ⟨s0 + 2, 6, none⟩ (.slice A9 (k + 1) c9))) := Lib.hid (Below.setCell (p := ⟨s0 + 2, 6, none⟩) HB9.out (by show s0 ≤ s0 + 2; omega) _)
   go_roundg (m - (k + 1))
   case measure => omega
   case rel => exact ⟨k + 1, by go_num, by omega, by omega, HLN9, HBN, by rw [World.size_setCell]; exact HT9⟩
  ·obtain rfl : k = m := by omega
   have hltz : ¬ (k : Int) < (k : Int) := by omega
   obtain ⟨A, c, h1, h2⟩ := HL.out.out
   have HRES := Lib.hid HL.out.res
   have HOW := Lib.hid h2
   have HOL : Hid ((Instr.loadAt 46 (.pointer (some ⟨s0 + 2, 0, none⟩))).run Tryz.prog wr = .ok (etyV (revN x a b A k c)) wr) := Lib.hid (h1.rg.load 0 46 (etyC (revN x a b A k c)) rfl _ Tryz.underlying46 rfl (by kernel_rfl))
   have HM1 : True := trivial
   clear h1 h2 HL
   go_wp2_with (first
    | (clear HM1; refine wpList_load_is rfl 46 _ rfl (.pointer (some ⟨s0 + 2, 0, none⟩)) rfl (etyV (revN x a b A k c)) HOL.out ?_)
    | (refine wpList_store_wh rfl 46 _ _ rfl (s0 + 1) rfl 46 [.int .i64 0, .int .i64 0, .int .i64 0, .int .i64 0, .int .i64 0, .string ⟨#[]⟩, .slice none 0 0] (etyC (revN x a b A k c)) rfl HRES.out rfl (by kernel_rfl) (by kernel_rfl) ?_; intro w5 hr5 ho5 hz5))
   refine bodyPost_ret (v := etyV (revN x a b A k c)) (results_cell_mid Tryz.results25 _ _ (s0 + 1) (etyC (revN x a b A k c)) _ rfl hr5.out.range Tryz.underlying46 rfl (by kernel_rfl)) rfl ⟨⟨A, c, ?_, ?_⟩, ?_⟩
   ·unfold revE revN; rw [HMM.out]
   ·show OwnR lyL 59 _ _ (.slice A x.n c) (X.map negL)
    have h3 := HOW.out.blk fun g hg => ho5.out.blk g (HOW.out.lt hg).2 (by have := (HOW.out.lt hg).1; show ¬ g = s0 + 1; omega)
    rw [List.take_of_length_le (by rw [HXL.out, HMM.out]; exact Nat.le_refl _)] at h3
    have h4 := h3.low (b2 := s0) (by omega)
    rw [HMM.out]
    first | exact h4 | (rw [HS0.out]; exact h4)
   ·have h9 := HB.out.trans (ho5.out.below (B := s0) (fun k hk => by have h8 : k = s0 + 1 := hk; omega) (by have := HT.out; omega))
    first | exact h9 | (rw [HS0.out]; exact h9)
open Go Go.RowKit
section
variable {α : Type} {R : Lay α} {w : World} {L : List α} {e : TypeId} {base : Nat} {v : Value}
theorem all_take (R : Lay α) (M : List α) (k : Nat) (hk : k ≤ M.length) : R.all (M.take k) = (R.all M).take (k * R.s) := by
 have h1 := R.all_append (M.take k) (M.drop k)
 rw [List.take_append_drop] at h1
 rw [h1, List.take_left' (by rw [R.all_len, List.length_take]; congr 1; omega)]
theorem addr_add (b off k : Nat) : (⟨b, off, none⟩ : Addr).add k = ⟨b, off + k, none⟩ := by unfold Addr.add; split <;> simp_all
theorem row_take {W : World} {A : Option Addr} {M : List α} (k c : Nat) (h : RowAt R W A M) (hk : k ≤ M.length) : RowAt R W (if c = 0 then A else A.map (·.add (0 * R.s))) (M.take k) := by
 intro h0
 rw [List.length_take] at h0
 obtain ⟨b, off, e, hlt, hr⟩ := h (by omega)
 subst e
 refine ⟨b, off, ?_, hlt, fun j v hj => ?_⟩
 ·split
  ·rfl
  ·simp [addr_add]
 ·rw [all_take R M k hk, List.getElem?_take] at hj
  split at hj
  ·exact hr j v hj
  ·cases hj
end
open Go.RowKit
def KpE (W W' : World) : Prop := W.heap.size ≤ W'.heap.size ∧ ∀ (b : Nat) (cs : Array Value) (e : TypeId), W.heap[b]? = some (Obj.cells cs e) → e ≠ 46 ∨ cs.size = 7 → W'.heap[b]? = W.heap[b]?
section
variable {W W' : World}
theorem KpE.of (h : Below W.heap.size W W') : KpE W W' := ⟨h.size, fun b cs e hb _ => h.block b (by
 rcases Nat.lt_or_ge b W.heap.size with h1 | h1
 ·exact h1
 ·rw [Array.getElem?_eq_none h1] at hb; cases hb)⟩
theorem KpE.wh {x : Ety} {b : Nat} (h : KpE W W') (hw : Wh 46 W b (etyC x)) : Wh 46 W' b (etyC x) := hw.same (h.2 b _ _ hw.blk (.inr rfl))
theorem KpE.own {s : Nat} {v : Value} {L : List Lnk} (h : KpE W W') (ho : OwnR lyL 59 W s v L) : OwnR lyL 59 W' s v L := ho.blk fun g hg => by
 rcases ho.2 with ⟨rfl, _⟩ | ⟨g', cap, cur, rfl, _, hh, _⟩
 ·cases hg
 ·cases hg; exact h.2 _ cur _ hh (.inl (by decide))
end
section
variable {α : Type} {R : Lay α} {e : TypeId} {w : World}
theorem wp_app_grow {P : Program} {o : Oper} {a : Act} {K : Act → World → Prop} {Q : Exit → Act → World → Prop} (s x : Operand) (t : TypeId)
  (ho : o.op = .call { callee := .builtin .append, args := #[s, x], argTypes := #[t, t] })
  (i : TypeInfo) (z : Value) (bytes : Nat) (ht : P.underlying t = some (.slice e)) (hi : P.info? e = some i) (hz : i.zero = some z) (hsize : i.size = R.s) (hby : i.bytes = bytes) (hb8 : bytes ≤ 1000) (hzs : z.cells.size = R.s)
  (b off cap : Nat) (L : List α) (hs : a.eval s = .slice (some ⟨b, off, none⟩) L.length cap) (hL : RowAt R w (some ⟨b, off, none⟩) L) (X : Option Addr) (m c : Nat) (M : List α) (hm : M.length = m) (hx : a.eval x = .slice X m c) (hX : RowAt R w X M) (h0 : 0 < m)
  (hfull : cap < L.length + m) (hlen : L.length + m ≤ 100000000)
  (h : ∀ v' w', Hid (OwnR R e w' w.heap.size v' (L ++ M)) → Hid (w.grownBy w' none) → K (a.put o.dst v') w') : Oper.wp P o a w K Q := by
 subst hm
 have hbb : (L.length + M.length) * bytes ≤ (L.length + M.length) * 1000 := Nat.mul_le_mul_left _ hb8
 obtain ⟨b2, off2, rfl, -, hc⟩ := hX h0
 obtain ⟨v', w', hr, h2, h3⟩ := run_append_arg_grows (P := P) (w := w) t o.type e i z R.s bytes ht hi hz hsize hby hzs R.pos ⟨b, off, none⟩ L.length cap (R.all L) (R.all_len L)
  (fun j u hj => by
   rw [addr_add]
   have hl : 0 < L.length := by
    rcases Nat.eq_zero_or_pos L.length with h9 | h9
    ·obtain rfl : L = [] := List.eq_nil_of_length_eq_zero h9
     simp [Lay.all] at hj
    ·exact h9
   obtain ⟨b3, o3, e3, -, hr3⟩ := hL hl
   cases e3
   exact hr3 j u hj) ⟨b2, off2, none⟩ M.length c (R.all M) (R.all_len M) (fun j u hj => by rw [addr_add]; exact hc j u hj) hfull (by unfold maxLen; omega) (by omega)
 unfold Oper.wp execOp
 simp only [ho, resolve, invoke, builtin, Sem.run_bind, Sem.run_pure, Result.andThen_ok, List.map_toArray, List.map_cons, List.map_nil, hs, hx, hr]
 refine h v' w' (Lib.hid ?_) (Lib.hid h3)
 unfold OwnR
 rw [List.length_append, R.all_append]
 exact h2
end
theorem wp_app_ety {P : Program} {o : Oper} {a : Act} {w : World} {K : Act → World → Prop} {Q : Exit → Act → World → Prop} (s x : Operand) (t : TypeId)
  (ho : o.op = .call { callee := .builtin .append, args := #[s, x], argTypes := #[t, t] })
  (i : TypeInfo) (z : Value) (bytes : Nat) (ht : P.underlying t = some (.slice 46)) (hi : P.info? 46 = some i) (hz : i.zero = some z) (hsize : i.size = lyX.s) (hby : i.bytes = bytes) (hb8 : bytes ≤ 1000) (hzs : z.cells.size = lyX.s)
  {v : Value} {B : Nat} {L : List Ety} (hs : a.eval s = v) (hown : OwnR lyX 46 w B v L) (h0 : 0 < L.length) (b : Nat) (y : Ety) (hx : a.eval x = .slice (some ⟨b, 0, none⟩) 1 1) (hw : Wh 46 w b (etyC y)) (hlen : L.length + 1 ≤ 100000000) (hB : B ≤ w.heap.size)
  (h : ∀ v' w', OwnR lyX 46 w' B v' (L ++ [y]) → KpE w w' → Below B w w' → K (a.put o.dst v') w') : Oper.wp P o a w K Q := by
 rcases hown.2 with ⟨rfl, h9⟩ | ⟨g, cap, cur, rfl, hbg, hg, hn, hcap, hcs, hcur⟩
 ·omega
 by_cases hf : cap < L.length + 1
 ·obtain ⟨A9, c9, e9, hr9, -⟩ := hown.reads
  injection e9 with e9 _ _
  rw [← e9] at hr9
  refine wp_app_grow (R := lyX) s x t ho i z bytes ht hi hz hsize hby hb8 hzs g 0 cap L hs hr9 (some ⟨b, 0, none⟩) 1 1 [y] rfl hx (row_one hw) (by decide) hf hlen ?_
  intro v' w' h1 h2
  have h3 : Below w.heap.size w w' := (Below.refl _ _).grown h2.out (Nat.le_refl _) (fun k hk => by cases hk)
  exact h _ _ (h1.out.low hB) (KpE.of h3) (h3.mono hB)
 ·refine wp_app_row (R := lyX) s x t ho i z bytes ht hi hz hsize hby hb8 hzs hs hown (some ⟨b, 0, none⟩) 1 1 [y] rfl hx (row_one hw) hlen hB ?_
  intro v' w' h1 h2 _
  refine h _ _ h1.out ⟨h2.out.size, fun b' cs e' hb' hc => ?_⟩ ((Below.refl _ _).grown h2.out hB (fun k hk => by cases hk; exact hbg))
  refine h2.out.block b' ?_ fun he => ?_
  ·rcases Nat.lt_or_ge b' w.heap.size with h3 | h3
   ·exact h3
   ·rw [Array.getElem?_eq_none h3] at hb'; cases hb'
  ·cases he
   rw [hg] at hb'
   injection hb' with hb'
   injection hb' with h3 h4
   subst h3 h4
   rcases hc with hc | hc
   ·exact hc rfl
   ·have : cap * 7 = 7 := hcs.symm.trans hc
    omega
theorem wp_slc_hc {α : Type} {R : Lay α} {w : World} {P : Program} {o : Oper} {a : Act} {K : Act → World → Prop} {Q : Exit → Act → World → Prop} (t : TypeId) (x y : Operand) (hop : o.op = .slice t x none (some y) none) (ht : P.underlying t = some (.slice (P.elem t))) (i : TypeInfo) (hi : P.info? (P.elem t) = some i) (hsz : i.size = R.s)
  (A : Option Addr) (n c k : Nat) (M : List α) (hm : M.length = n) (hx : a.eval x = .slice A n c) (hy : a.eval y = .int .i64 (k : Int)) (hk : k ≤ n) (hc : n ≤ c)
  (h : ∀ A2 c2, k ≤ c2 → (∀ W, RowAt R W A M → RowAt R W A2 (M.take k)) → K (a.put o.dst (.slice A2 k c2)) w) : Oper.wp P o a w K Q := by
 have hr := run_slice_h (P := P) (w := w) t A n c ht .i64 (k : Int) (by omega) (by omega)
 have hz : (sizeOf (P.elem t)).run P w = .ok R.s w := by simp [sizeOf, typeInfo, hi, hsz]
 unfold Oper.wp execOp
 simp only [hop, hx, hy, Option.map_some, Option.map_none, run_sliceAt_slice w t _ _ _ _ ht, hr, hz, Sem.run_bind, Sem.run_pure, Result.andThen_ok, sliced, Int.toNat_natCast, Nat.sub_zero]
 exact h _ _ (by omega) fun W hW => row_take k c hW (by omega)
def cntI (Es : List PE) (k : Int) : Nat := Es.countP fun e => decide (k ≤ e.id)
theorem cntI_le (Es : List PE) (k : Int) : cntI Es k ≤ Es.length := List.countP_le_length
theorem cntI_mono : ∀ (Es : List PE) (k : Int), cntI Es (k + 1) ≤ cntI Es k
 | [], _ => Nat.le_refl _
 | e :: Es, k => by
  have ih := cntI_mono Es k
  unfold cntI at ih ⊢
  rw [List.countP_cons, List.countP_cons]
  by_cases h1 : k + 1 ≤ e.id
  ·rw [if_pos (by simpa using h1), if_pos (by simp; omega)]; omega
  ·rw [if_neg (by simpa using h1)]; split <;> omega
theorem cntI_step : ∀ (Es : List PE) (k : Int), (∃ e ∈ Es, e.id = k) → cntI Es (k + 1) < cntI Es k
 | [], _, h => by obtain ⟨e, he, -⟩ := h; cases he
 | e :: Es, k, ⟨y, hy, hk⟩ => by
  have h0 := cntI_mono Es k
  have ih := cntI_step Es k
  unfold cntI at ih h0 ⊢
  rw [List.countP_cons, List.countP_cons]
  rcases List.mem_cons.1 hy with rfl | hy
  ·rw [if_neg (by simp; omega), if_pos (by simp; omega)]; omega
  ·have h1 := ih ⟨y, hy, hk⟩
   by_cases h2 : k + 1 ≤ e.id
   ·rw [if_pos (by simpa using h2), if_pos (by simp; omega)]; omega
   ·rw [if_neg (by simpa using h2)]; split <;> omega
theorem getP_there {Es : List PE} {k : Int} (h : 0 ≤ getP Es k) : ∃ e ∈ Es, e.id = k := by
 unfold getP at h
 split at h
 ·rename_i h1
  obtain ⟨e, h2, h3⟩ := idxP_some h1
  exact ⟨e, List.mem_of_getElem? h2, h3⟩
 ·omega
theorem lg_rev {g : Grp} {L : List Acc} {G : List Ent} {P : List Etl} {p q : Etl} {e hi : Int} (h : lgE g L G (P ++ [p] ++ [q]) e ≠ 1) (he : q.1.ent = p.1.ent) (hd : q.1.day = p.1.day) (hl : q.2 = p.2.map negL) : lgE g L G P e = lgE g L G (P ++ [p] ++ [q]) e ∧ trB g L G P e hi = trB g L G (P ++ [p] ++ [q]) e hi := by
 have h1 : jrnB g L G (P ++ [p] ++ [q]) = true := by
  cases h2 : jrnB g L G (P ++ [p] ++ [q]) with
  | true => rfl
  | false => exact absurd (by unfold lgE; rw [h2]; rfl) h
 have h0 : jrnB g L G P = true := by
  obtain ⟨h2, h3⟩ := jrn_grp h1
  unfold jrnB
  rw [h2, Bool.true_and]
  exact vld_pre (vld_pre h3)
 have h3 : lgE g L G P e = lgE g L G (P ++ [p] ++ [q]) e := by unfold lgE; rw [h1, h0]
 refine ⟨h3, ?_⟩
 unfold trB
 rw [h3, trL_congr (Ys := P ++ [p] ++ [q]) fun a => by
  rw [balS_app, balS_app]
  have h5 := bal_rev (e := e) (a := a) (hi := hi) he hd hl
  rw [show balS P e a hi + balS [p] e a hi + balS [q] e a hi = balS P e a hi + (balS [p] e a hi + balS [q] e a hi) by omega, ← wr_add2, h5, Int.add_zero]]
open Go.RowKit
def moF42 : AK.Fact KpE := ⟨fun v _ => ∃ b9, v = .slice (some ⟨b9, 0, none⟩) 0 0, fun _ _ _ _ h => h⟩
def moP49 (x : Ety) (X : List Lnk) (id : Int) (v : Value) (w : World) : Prop := ∃ A c, v = etyV (revE x id x.day A c) ∧ ∃ s, OwnR lyL 59 w s (.slice A x.n c) (X.map negL)
def moF49 (x : Ety) (X : List Lnk) (id : Int) : AK.Fact KpE := ⟨moP49 x X id, fun _ _ _ hb ⟨A, c, h1, s, h2⟩ => ⟨A, c, h1, s, hb.own h2⟩⟩
def moP50 (x : Ety) (X : List Lnk) (id : Int) (v : Value) (w : World) : Prop := ∃ b A c, v = .slice (some ⟨b, 0, none⟩) 1 1 ∧ Wh 46 w b (etyC (revE x id x.day A c)) ∧ ∃ s, OwnR lyL 59 w s (.slice A x.n c) (X.map negL)
def moF50 (x : Ety) (X : List Lnk) (id : Int) : AK.Fact KpE := ⟨moP50 x X id, fun _ _ _ hb ⟨b, A, c, h1, h3, s, h2⟩ => ⟨b, A, c, h1, hb.wh h3, s, hb.own h2⟩⟩
def moE (w8 : World) (x : Ety) (X : List Lnk) (id : Int) (Es : List Ety) (W : World) (v : Value) : Nat → Prop
 | 0 => True
 | 1 => OwnR lyX 46 W w8.heap.size v Es
 | _ => ∃ A c s, OwnR lyX 46 W w8.heap.size v (Es ++ [revE x id x.day A c]) ∧ OwnR lyL 59 W s (.slice A x.n c) (X.map negL)
def moJ (w8 : World) (x : Ety) (X : List Lnk) (id : Int) (Es : List Ety) (k : Nat) (l : List Value) (W : World) : Prop := Below w8.heap.size w8 W ∧ ∀ v, l = [v] → moE w8 x X id Es W v k
theorem moJ.st (w8 : World) (x : Ety) (X : List Lnk) (id : Int) (Es : List Ety) (k : Nat) (l : List Value) (W W' : World) (hb : Below W.heap.size W W') (h : moJ w8 x X id Es k l W) : moJ w8 x X id Es k l W' :=
 ⟨h.1.trans (hb.mono h.1.size), fun v hv => by
  have h2 := h.2 v hv
  match k, h2 with
  | 0, _ => trivial
  | 1, h2 => exact OwnR.up h2 hb
  | _ + 2, ⟨A, c, s, h3, h4⟩ => exact ⟨A, c, s, h3.up hb, h4.up hb⟩⟩
def moP58 (Es : List Ety) (A : Option Addr) (nm : Nat) (v : Value) : Prop := ∃ A2 c2, v = .slice A2 nm c2 ∧ nm ≤ c2 ∧ ∀ W, RowAt lyX W A Es → RowAt lyX W A2 (Es.take nm)
def moF58 (Es : List Ety) (A : Option Addr) (nm : Nat) : AK.Fact Below0 := ⟨fun v _ => moP58 Es A nm v, fun _ _ _ _ h => h⟩
def trP (M : List Bal) (E : Int) (v : Value) (w : World) : Prop := ∃ A c, v = .tuple #[.slice A M.length c, .int .i64 E] ∧ BalAt w A M
def trF (M : List Bal) (E : Int) : AK.Fact Below0 := ⟨trP M E, fun _ _ _ hb ⟨A, c, h1, h2⟩ => ⟨A, c, h1, h2.up hb⟩⟩
def baP (M : List Bal) (v : Value) (w : World) : Prop := ∃ A c, v = .slice A M.length c ∧ BalAt w A M
def baF (M : List Bal) : AK.Fact Below0 := ⟨baP M, fun _ _ _ hb ⟨A, c, h1, h2⟩ => ⟨A, c, h1, h2.up hb⟩⟩
def moFa (bb off n c g7 : Nat) (x : Ety) (X : List Lnk) (id : Int) : List (Nat × AK.Fact (KpE)) := [(42, moF42), (43, AK.Fact.is (.slice (some ⟨bb, off, none⟩) n c)), (44, AK.Fact.triv), (45, AK.Fact.is (etyV x)), (46, AK.Fact.is (.int .i64 id)), (47, AK.Fact.is (.pointer (some ⟨g7, 2, none⟩))), (48, AK.Fact.is (.int .i64 x.day)), (49, moF49 x X id), (50, moF50 x X id), (51, AK.Fact.triv), (9, AK.Fact.triv)]
def mtFa (bb off n nm c s0 : Nat) (GV : Value) (Es : List Ety) (b d E1 : Int) (M1 : List Bal) : List (Nat × AK.Fact (Below0)) := [(53, AK.Fact.is (GV)), (54, AK.Fact.is (.slice (some ⟨bb, off, none⟩) n c)), (55, AK.Fact.is (.slice (some ⟨bb, off, none⟩) n c)), (56, AK.Fact.is (.int .i64 (n : Int))), (57, AK.Fact.is (.int .i64 (nm : Int))), (58, moF58 Es (some ⟨bb, off, none⟩) nm), (59, AK.Fact.is (.pointer (some ⟨s0 + 1, 1, none⟩))), (60, AK.Fact.is (.int .i64 b)), (61, AK.Fact.is (.pointer (some ⟨s0 + 1, 2, none⟩))), (62, AK.Fact.is (.int .i64 d)), (63, trF M1 E1), (52, trF M1 E1), (64, baF M1), (65, AK.Fact.is (.int .i64 E1)), (10, baF M1), (11, AK.Fact.is (.int .i64 E1))]
set_option maxRecDepth 100000 in
set_option maxHeartbeats 12800000 in
theorem law_lrev (g : Grp) (L : List Acc) (G : List Ent) (A : Option Addr) (n c : Nat) (Xs : List Etl) (a b d : Int) (w : World) (hk : GrK w g L G) (hw : GrW g L G) (hmx : g.m ≤ 9223372036854775807) (hn : Xs.length = n) (hnm : n ≤ 9223372036854775807) (hcn : n ≤ c) (hX : RowAt lyX w A (Xs.map (·.1))) (hq : ∀ a ∈ Xs, EtyK w a.1 a.2 ∧ a.1.n ≤ 9223372036854775807 ∧ a.1.txt.size ≤ maxLen ∧ EtyW a.1) :
  Calls Tryz.prog 12 #[grpV g, .slice A n c, .agg #[.int .i64 a, .int .i64 b, .int .i64 d]] w fun e w' => e = .returned (.bool true) ∧ Below w.heap.size w w' := by
 have HAW := Lib.hid lawake_any
 obtain ⟨s0, hs0⟩ : ∃ s0, w.heap.size = s0 := ⟨_, rfl⟩
 obtain ⟨w2, hw2⟩ : ∃ w2, (w.alloc (.cells #[.string g.cur, .int .i64 g.cy, .int .i64 g.cm, .int .i64 g.cp, .slice g.A g.n g.c, .int .i64 g.r0, .int .i64 g.r1, .int .i64 g.r2, .int .i64 g.r3, .int .i64 g.r4, .int .i64 g.r5, .int .i64 g.r6, .int .i64 g.r7, .int .i64 g.r8, .int .i64 g.r9, .int .i64 g.r10, .int .i64 g.r11, .int .i64 g.r12, .int .i64 g.r13, .int .i64 g.r14, .slice g.E g.m g.d] 29)).alloc (.cells #[.int .i64 a, .int .i64 b, .int .i64 d] 48) = w2 := ⟨_, rfl⟩
 have HGB : Hid (Wh 29 w2 s0 (grpC g)) := Lib.hid (by rw [← hw2, ← hs0]; exact (Wh.new w 29 (grpC g)).up (below_alloc_new _))
 have HAB : Hid (Wh 48 w2 (s0 + 1) [.int .i64 a, .int .i64 b, .int .i64 d]) := Lib.hid (by
  rw [← hw2, ← hs0]
  have h9 := Wh.new (w.alloc (.cells #[.string g.cur, .int .i64 g.cy, .int .i64 g.cm, .int .i64 g.cp, .slice g.A g.n g.c, .int .i64 g.r0, .int .i64 g.r1, .int .i64 g.r2, .int .i64 g.r3, .int .i64 g.r4, .int .i64 g.r5, .int .i64 g.r6, .int .i64 g.r7, .int .i64 g.r8, .int .i64 g.r9, .int .i64 g.r10, .int .i64 g.r11, .int .i64 g.r12, .int .i64 g.r13, .int .i64 g.r14, .slice g.E g.m g.d] 29)) 48 [.int .i64 a, .int .i64 b, .int .i64 d]
  rw [World.size_alloc] at h9
  exact h9)
 have HB2 : Hid (Below w.heap.size w w2) := Lib.hid (by rw [← hw2]; exact below_new (below_alloc_new _) _)
 have HKC := Lib.hid (hk.up HB2.out)
 have HXC := Lib.hid (hX.up HB2.out)
 have HEC : Hid (EtysK w2 Xs) := Lib.hid (fun p hp => (hq p hp).1.up HB2.out)
 have HQ : Hid (∀ p ∈ Xs, p.1.n ≤ 9223372036854775807 ∧ p.1.txt.size ≤ maxLen ∧ EtyW p.1) := Lib.hid (fun p hp => (hq p hp).2)
 have HWW := Lib.hid hw
 have HS0 := Lib.hid hs0
 have HNL := Lib.hid hn
 have HCN := Lib.hid hcn
 have HBC := Lib.hid (Below.refl w2.heap.size w2)
 have HAT : Hid (∀ W, Below w2.heap.size w2 W → W.cell? ⟨s0 + 1, 0, none⟩ = some (.int .i64 a) ∧ W.cell? ⟨s0 + 1, 1, none⟩ = some (.int .i64 b) ∧ W.cell? ⟨s0 + 1, 2, none⟩ = some (.int .i64 d)) := Lib.hid (fun W h => ⟨(HAB.out.up h).at 0 _ rfl, (HAB.out.up h).at 1 _ rfl, (HAB.out.up h).at 2 _ rfl⟩)
 have HBW : Hid (∀ W, Below w2.heap.size w2 W → Below w.heap.size w W) := Lib.hid (fun W h => HB2.out.trans (h.mono HB2.out.size))
 have HLO : Hid (∀ p ∈ Xs, -9223372036854775808 ≤ p.1.day) := Lib.hid (fun p hp => (bounds_i64 (hq p hp).2.2.2.day).1)
 obtain ⟨GV, hGV⟩ : ∃ GV, GV = grpV g := ⟨_, rfl⟩
 have HGV := Lib.hid hGV
 have HFW := Lib.hid (fun W (h : Below w2.heap.size w2 W) => by have h9 := r12few_any g G A c Xs W (HKC.out.up h).he hk.lg hmx (HXC.out.up h) (HEC.out.up h) (by rw [hn]; exact hnm) (fun p hp => ⟨(hq p hp).2.1, (hq p hp).2.2.1⟩); rw [← hGV, hn] at h9; exact h9)
 have HLG : Hid (∀ w9, Below w2.heap.size w2 w9 → (Instr.loadAt 29 (.pointer (some ⟨s0, 0, none⟩))).run Tryz.prog w9 = .ok GV w9) := Lib.hid (fun w9 h9 => by rw [hGV, grpV_is]; exact (HGB.out.up h9).rg.load 0 29 (grpC g) rfl _ Tryz.underlying29 rfl (by kernel_rfl))
 clear hk hGV hw hX hq hn hmx hnm hcn
 have HM1 : True := trivial
 cases hf : fewX Xs && few10 g G
 ·rw [hf] at HFW
  clear hf
  go_enter Tryz.func12, Tryz.ntmps12
  go_wp2_with (first
   | (go_at_call 29; refine (HAW.out _).mono ?_; rintro e w3 ⟨rfl, hb⟩; have hB3 := Lib.hid (HBC.out.trans (hb.mono HBC.out.size)); clear hb HBC; have HBC := hB3; clear hB3)
   | (clear HM1; refine wpList_load_is rfl 29 _ rfl (.pointer (some ⟨s0, 0, none⟩)) rfl GV (HLG.out _ HBC.out) ?_)
   | (go_at_call 14; refine (HFW.out _ HBC.out).mono ?_; rintro e w4 ⟨rfl, hb⟩; have hB3 := Lib.hid (HBC.out.trans (hb.mono HBC.out.size)); clear hb HBC; have HBC := hB3; clear hB3))
  go_ret
  exact ⟨by first | rfl | simp, by have h9 := HBW.out _ HBC.out; first | exact h9 | (rw [← HS0.out]; exact h9)⟩
 ·have HFI := Lib.hid (lfew_is hf)
  have HFA := Lib.hid (few_amt hf)
  rw [hf] at HFW
  clear hf
  have HLX : Hid (∀ W, Below w2.heap.size w2 W → LgX W g L G A c Xs) := Lib.hid (fun W hb => lgx_of HFI.out (HKC.out.up hb) HWW.out (HXC.out.up hb) (HEC.out.up hb) HQ.out (by rw [HNL.out]; exact HCN.out))
  by_cases hn0 : n = 0
  ·have e0 : ((n : Int) == 0) = true := by simp [hn0]
   clear hn0
   go_enter Tryz.func12, Tryz.ntmps12
   go_wp2_with (first
    | (go_at_call 29; refine (HAW.out _).mono ?_; rintro e w3 ⟨rfl, hb⟩; have hB3 := Lib.hid (HBC.out.trans (hb.mono HBC.out.size)); clear hb HBC; have HBC := hB3; clear hB3)
    | (clear HM1; refine wpList_load_is rfl 29 _ rfl (.pointer (some ⟨s0, 0, none⟩)) rfl GV (HLG.out _ HBC.out) ?_)
    | (go_at_call 14; refine (HFW.out _ HBC.out).mono ?_; rintro e w4 ⟨rfl, hb⟩; have hB3 := Lib.hid (HBC.out.trans (hb.mono HBC.out.size)); clear hb HBC; have HBC := hB3; clear hB3))
   go_ret
   exact ⟨by first | rfl | simp, by have h9 := HBW.out _ HBC.out; first | exact h9 | (rw [← HS0.out]; exact h9)⟩
  have e0 : ((n : Int) == 0) = false := by simp [hn0]
  by_cases hn58 : 58 < n
  ·have e1 : decide ((n : Int) > 58) = true := decide_eq_true (by omega)
   clear hn58 hn0
   go_enter Tryz.func12, Tryz.ntmps12
   go_wp2_with (first
    | (go_at_call 29; refine (HAW.out _).mono ?_; rintro e w3 ⟨rfl, hb⟩; have hB3 := Lib.hid (HBC.out.trans (hb.mono HBC.out.size)); clear hb HBC; have HBC := hB3; clear hB3)
    | (clear HM1; refine wpList_load_is rfl 29 _ rfl (.pointer (some ⟨s0, 0, none⟩)) rfl GV (HLG.out _ HBC.out) ?_)
    | (go_at_call 14; refine (HFW.out _ HBC.out).mono ?_; rintro e w4 ⟨rfl, hb⟩; have hB3 := Lib.hid (HBC.out.trans (hb.mono HBC.out.size)); clear hb HBC; have HBC := hB3; clear hB3))
   go_ret
   exact ⟨by first | rfl | simp, by have h9 := HBW.out _ HBC.out; first | exact h9 | (rw [← HS0.out]; exact h9)⟩
  have e1 : decide ((n : Int) > 58) = false := decide_eq_false (by omega)
  obtain ⟨nm, hnm⟩ : ∃ nm : Nat, n = nm + 1 := ⟨n - 1, by omega⟩
  have ha1 : wrap64 ((n : Int) - 1) = (nm : Int) := by unfold wrap64; omega
  have hkc1 : (nm : Int) < (n : Int) := by omega
  have ha3 : IntKind.i64.wrap (nm : Int) = (nm : Int) := i64_wrapN (by omega)
  obtain ⟨P, p, hXs, hP⟩ : ∃ P p, Xs = P ++ [p] ∧ P.length = nm := by
   have hne : Xs ≠ [] := fun e => by have := HNL.out; rw [e] at this; simp at this; omega
   refine ⟨Xs.dropLast, Xs.getLast hne, (List.dropLast_concat_getLast hne).symm, ?_⟩
   rw [List.length_dropLast, HNL.out]; omega
  obtain ⟨x, X⟩ := p
  have hxk : Xs[nm]? = some (x, X) := by rw [hXs, List.getElem?_append_right (by omega), hP, Nat.sub_self]; rfl
  obtain ⟨bb, off, hA, hbl, hrgx⟩ := HXC.out.at (i := nm) (a := x) (by rw [List.getElem?_map, hxk]; rfl)
  subst hA
  have HLXW : Hid (∀ W, Below w2.heap.size w2 W → (Instr.loadAt 46 (.pointer (some ⟨bb, off + nm * 7, none⟩))).run Tryz.prog W = .ok (etyV x) W) := Lib.hid (fun W hW => run_loadAt_mid W bb (off + nm * 7) 46 (etyC x) _ (fun jj v hv => (hW.cell (p := ⟨bb, off + nm * 7 + jj, none⟩) hbl).trans (hrgx jj v hv)) Tryz.underlying46 rfl (by kernel_rfl))
  have HXX : Hid ((x, X) ∈ Xs) := Lib.hid (by rw [hXs]; simp)
  have HXS := Lib.hid hXs
  have HPL := Lib.hid hP
  have HNP : Hid (0 < n) := Lib.hid (by omega)
  have HN58 : Hid (n ≤ 58) := Lib.hid (by omega)
  have HNM : Hid (nm ≤ n) := Lib.hid (by omega)
  have HNM1 := Lib.hid hnm
  have HZ1 : Hid (IntKind.i64.wrap ((n : Int) - 1) = (nm : Int)) := Lib.hid (by rw [show (n : Int) - 1 = (nm : Int) by omega]; exact ha3)
  obtain ⟨Es, hEs⟩ : ∃ Es, Xs.map (·.1) = Es := ⟨_, rfl⟩
  have HES := Lib.hid hEs
  have HEN : Hid (Es.length = n) := Lib.hid (by rw [← hEs, List.length_map, HNL.out])
  have HGT : Hid (∀ id W, Below w2.heap.size w2 W → Calls Tryz.prog 21 #[.slice (some ⟨bb, off, none⟩) n c, .int .i64 id] W fun e w' => e = .returned (.int .i64 (getP (Xs.map pe) id)) ∧ W = w') := Lib.hid (fun id W hb => by have h9 := r12get_any (some ⟨bb, off, none⟩) c Xs id W (HXC.out.up hb) (by have := HNL.out; omega); rw [HNL.out] at h9; exact h9)
  have HCC : Hid (n ≤ c) := HCN
  clear hn0 hn58 hP hXs hxk hbl hrgx hEs hnm
  have HM3 : True := trivial
  have HM6 : True := trivial
  go_enter Tryz.func12, Tryz.ntmps12
  go_wp2_with (first
   | (go_at_call 29; refine (HAW.out _).mono ?_; rintro e w3 ⟨rfl, hb⟩; have hB3 := Lib.hid (HBC.out.trans (hb.mono HBC.out.size)); clear hb HBC; have HBC := hB3; clear hB3)
   | (clear HM1; refine wpList_load_is rfl 29 _ rfl (.pointer (some ⟨s0, 0, none⟩)) rfl GV (HLG.out _ HBC.out) ?_)
   | (go_at_call 14; refine (HFW.out _ HBC.out).mono ?_; rintro e w4 ⟨rfl, hb⟩; have hB3 := Lib.hid (HBC.out.trans (hb.mono HBC.out.size)); clear hb HBC; have HBC := hB3; clear hB3; obtain ⟨q0, q1, q2⟩ := HAT.out _ HBC.out; obtain ⟨g7, hg7⟩ : ∃ g7, w4.heap.size = g7 := ⟨_, rfl⟩; have HG7 := Lib.hid hg7)
   | (clear HM3; refine wpList_load_is rfl 46 _ rfl (.pointer (some ⟨bb, off + nm * 7, none⟩)) rfl (etyV x) (HLXW.out _ HBC.out) ?_)
   | (clear HM6; refine wpList_store_wh rfl 46 _ _ rfl g7 rfl 46 [.int .i64 0, .int .i64 0, .int .i64 0, .int .i64 0, .int .i64 0, .string ⟨#[]⟩, .slice none 0 0] (etyC x) rfl (by rw [← HG7.out]; exact Wh.new w4 46 [.int .i64 0, .int .i64 0, .int .i64 0, .int .i64 0, .int .i64 0, .string ⟨#[]⟩, .slice none 0 0]) rfl (by kernel_rfl) (by kernel_rfl) ?_; intro w8 hr8 ho8 hz8; have hn8 : Below w4.heap.size w4 w8 := only_new (by rw [HG7.out]; exact ho8.out); have hB8 := Lib.hid (HBC.out.trans (hn8.mono HBC.out.size)); have HR8 := Lib.hid hr8.out; clear hr8 ho8 hz8 hg7 hn8 HBC; have HBC := hB8; clear hB8))
  have HSW : Hid (Below w2.heap.size w2 w8) := HBC
  go_loopg [8] n (fun kx s8 wr => ∃ id : Int, s8 = .int .i64 id ∧ 1 ≤ id ∧ cntI (Xs.map pe) id ≤ kx ∧ id + cntI (Xs.map pe) id ≤ (n : Int) + 1 ∧ wr = w8)
  case atStart =>
   have h9 := cntI_le (Xs.map pe) 1
   rw [List.length_map, HNL.out] at h9
   exact ⟨1, rfl, by omega, h9, by omega, rfl⟩
  case round =>
   obtain ⟨id, rfl, hid1, hkx, hid2, hV⟩ := hrel
   have hV2 := hV.symm
   subst hV2
   clear hV
   obtain ⟨q, hq⟩ : ∃ q, getP (Xs.map pe) id = q := ⟨_, rfl⟩
   have HG9 := Lib.hid (HGT.out id)
   rw [hq] at HG9
   have HIB : Hid (1 ≤ id ∧ id ≤ 60) := Lib.hid (by have := HN58.out; omega)
   by_cases hg : 0 ≤ q
   ·have hst := cntI_step (Xs.map pe) id (getP_there (by rw [hq]; exact hg))
    have d1 : decide (q ≥ 0) = true := decide_eq_true hg
    have d2 : decide (0 ≤ q) = true := decide_eq_true hg
    clear hq hg
    have hw1 : wrap64 (id + 1) = id + 1 := by have := HIB.out; unfold wrap64; omega
    go_wp2_with (go_at_call 21; refine (HG9.out _ HBC.out).mono ?_; rintro r w9 ⟨rfl, rfl⟩)
    go_roundg (cntI (Xs.map pe) (id + 1))
    case measure => omega
    case rel => exact ⟨id + 1, by first | rfl | rw [hw1], by omega, by omega, by omega, rfl⟩
   ·have d1 : decide (q ≥ 0) = false := decide_eq_false hg
    have d2 : decide (0 ≤ q) = false := decide_eq_false hg
    have HRV : Hid (∀ a b W, Below w8.heap.size w8 W → Calls Tryz.prog 25 #[etyV x, .int .i64 a, .int .i64 b] W fun e w' => RevO x X a b W.heap.size e w' ∧ Below W.heap.size W w') := Lib.hid (fun a b W hb => rrevo_any x X a b W (HEC.out.up (HBC.out.trans (hb.mono HBC.out.size)) _ HXX.out) (by have := HFI.out.2.2 _ HXX.out; show x.n ≤ 1000; have h8 : x.n ≤ 60 := this; omega))
    have HRE : Hid (∀ W, Below w8.heap.size w8 W → RowAt lyX W (some ⟨bb, off, none⟩) Es) := Lib.hid (fun W hb => by rw [← HES.out]; exact HXC.out.up (HBC.out.trans (hb.mono HBC.out.size)))
    have HBX : Hid (Wh 46 w8 g7 (etyC x)) := HR8
    have HLDB : Hid (∀ W, Below w8.heap.size w8 W → (Instr.loadAt 46 (.pointer (some ⟨g7, 0, none⟩))).run Tryz.prog W = .ok (etyV x) W) := Lib.hid (fun W hb => (HBX.out.up hb).rg.load 0 46 (etyC x) rfl _ Tryz.underlying46 rfl (by kernel_rfl))
    clear hg hq hkx hid1 hid2
    obtain ⟨i0, hi, hz1, hz2, hz3⟩ := info_parts infoEx
    go_upto_region 9 with (go_at_call 21; refine (HG9.out _ HBC.out).mono ?_; rintro r w9 ⟨rfl, rfl⟩)
    refine AK.region_facts (Rp := Below0) (Kp := KpE) (moFa bb off n c g7 x X id) (moJ w8 x X id Es) [[], [], [42, 43], [], [], [], [47], [45, 46, 48], [49], [44, 50], [51]] [2, 9, 10] [[], [44], [51], [9]] [3, 3, 3, 3, 3, 3, 3, 3, 3, 3, 3] [0, 0, 0, 0, 0, 0, 0, 0, 0, 0, 0] [] (fun u => by simp only [moFa, AK.temps, List.map_cons, List.map_nil, fillL, List.setIfInBounds_toArray, List.set_cons_zero, List.set_cons_succ]; rfl) (by kernel_rfl) (by kernel_rfl) (fun _ _ h => h.1) (fun _ _ h => KpE.of h) (moJ.st w8 x X id Es) (⟨dc_drew (Below.refl _ _), fun v h => by cases h⟩) ?_ ?_
    ·refine AK.sc (lim := 3) (lo := 0) rfl rfl rfl rfl ?_ ?_
     ·intro k_ u w_ hk_ hl_ hJ hF K hK
      clear hF
      go_simp
      exact hK.out _ _ (below_alloc_new _) ⟨_, rfl⟩ trivial
     refine AK.sc (lim := 3) (lo := 0) rfl rfl rfl rfl ?_ ?_
     ·intro k_ u w_ hk_ hl_ hJ hF K hK
      clear hF
      go_simp
      exact hK.out _ _ (Below.refl _ _) (rfl) trivial
     refine AK.ss rfl rfl ?_ ?_
     ·intro u w_ hJ hA_ hF K hK
      have h42 : ∃ b9, u 42 = .slice (some ⟨b9, 0, none⟩) 0 0 := AK.facts_get hF 42 (by simp)
      have h43 : u 43 = .slice (some ⟨bb, off, none⟩) n c := AK.facts_get hF 43 (by simp)
      clear hF
      obtain ⟨b9, h42⟩ := h42
      simp only [h42, h43] at hK ⊢
      clear h42 h43
      rw [if_pos (by rfl)]
      refine wp_app_grow (R := lyX) (.tmp 42) (.tmp 43) 30 rfl i0 _ 80 Tryz.underlying30 hi hz1 hz2 hz3 (by omega) rfl b9 0 0 [] rfl RowAt.nil (some ⟨bb, off, none⟩) n c Es HEN.out rfl (HRE.out _ hJ.1) (by have := HNP.out; omega) (by have := HNP.out; omega) (by have := HN58.out; simp; omega) ?_
      intro v' w' ho' hg'
      have hb' : Below w_.heap.size w_ w' := (Below.refl _ _).grown hg'.out (Nat.le_refl _) (fun k hk => by cases hk)
      exact hK.out _ _ ⟨hJ.1.trans (hb'.mono hJ.1.size), fun v9 hv9 => by cases hv9; exact ho'.out.low hJ.1.size⟩ (KpE.of hb') trivial
     refine AK.sc (lim := 3) (lo := 0) rfl rfl rfl rfl ?_ ?_
     ·intro k_ u w_ hk_ hl_ hJ hF K hK
      clear hF
      refine wp_load_is 46 _ rfl (.pointer (some ⟨g7, 0, none⟩)) rfl (etyV x) (HLDB.out _ hJ.1) ?_
      exact hK.out _ _ (Below.refl _ _) rfl trivial
     refine AK.sc (lim := 3) (lo := 0) rfl rfl rfl rfl ?_ ?_
     ·intro k_ u w_ hk_ hl_ hJ hF K hK
      clear hF
      go_simp
      exact hK.out _ _ (Below.refl _ _) (rfl) trivial
     refine AK.sc (lim := 3) (lo := 0) rfl rfl rfl rfl ?_ ?_
     ·intro k_ u w_ hk_ hl_ hJ hF K hK
      clear hF
      go_simp
      exact hK.out _ _ (Below.refl _ _) (rfl) trivial
     refine AK.sc (lim := 3) (lo := 0) rfl rfl rfl rfl ?_ ?_
     ·intro k_ u w_ hk_ hl_ hJ hF K hK
      have h47 : u 47 = .pointer (some ⟨g7, 2, none⟩) := AK.facts_get hF 47 (by simp)
      clear hF
      simp only [h47] at hK ⊢
      clear h47
      have c_ := (HBX.out.up hJ.1).at 2 _ rfl
      go_simp
      exact hK.out _ _ (Below.refl _ _) (rfl) trivial
     refine AK.sc (lim := 3) (lo := 0) rfl rfl rfl rfl ?_ ?_
     ·intro k_ u w_ hk_ hl_ hJ hF K hK
      have h45 : u 45 = etyV x := AK.facts_get hF 45 (by simp)
      have h46 : u 46 = .int .i64 id := AK.facts_get hF 46 (by simp)
      have h48 : u 48 = .int .i64 x.day := AK.facts_get hF 48 (by simp)
      clear hF
      simp only [h45, h46, h48] at hK ⊢
      clear h45 h46 h48
      go_simp
      refine (HRV.out id x.day _ hJ.1).mono ?_
      rintro r w6 ⟨⟨A_, c_, rfl, ho_⟩, hb6⟩
      exact hK.out _ _ hb6 ⟨A_, c_, rfl, _, ho_⟩ trivial
     refine AK.sc (lim := 3) (lo := 0) rfl rfl rfl rfl ?_ ?_
     ·intro k_ u w_ hk_ hl_ hJ hF K hK
      have h49 : moP49 x X id (u 49) w_ := AK.facts_get hF 49 (by simp)
      clear hF
      obtain ⟨A_, c_, h49, s_, hs_⟩ := h49
      simp only [h49] at hK ⊢
      clear h49
      go_simp
      exact hK.out _ _ (below_alloc_new _) ⟨_, A_, c_, rfl, Wh.new w_ 46 (etyC (revE x id x.day A_ c_)), _, hs_.up (below_alloc_new _)⟩ trivial
     refine AK.ss rfl rfl ?_ ?_
     ·intro u w_ hJ hA_ hF K hK
      have h50 : moP50 x X id (u 50) w_ := AK.facts_get hF 50 (by simp)
      clear hF
      obtain ⟨b_, A_, c_, h50, hw_, s_, hs_⟩ := h50
      have hO9 := hJ.2 _ rfl
      simp only [h50] at hK ⊢
      clear h50
      rw [if_pos (by rfl)]
      refine wp_app_ety (.tmp 44) (.tmp 50) 30 rfl i0 _ 80 Tryz.underlying30 hi hz1 hz2 hz3 (by omega) rfl rfl hO9 (by have := HEN.out; have := HNP.out; omega) b_ _ rfl hw_ (by have := HEN.out; have := HN58.out; omega) hJ.1.size ?_
      intro v' w' ho' hk' hb'
      exact hK.out _ _ ⟨hJ.1.trans hb', fun v9 hv9 => by cases hv9; exact ⟨A_, c_, _, ho', hk'.own hs_⟩⟩ hk' trivial
     refine AK.ss rfl rfl ?_ ?_
     ·intro u w_ hJ hA_ hF K hK
      clear hF
      have hO9 := hJ.2 _ rfl
      go_simp
      exact hK.out _ _ ⟨hJ.1, fun v9 hv9 => by cases hv9; exact hO9⟩ (KpE.of (Below.refl _ _)) trivial
     exact AK.StepsOk.nil
    ·intro u W9 hJ9 hF
     obtain ⟨hb9, hl9⟩ := hJ9
     obtain ⟨A_, c_, s_, ho_, hn_⟩ := hl9 _ rfl
     obtain ⟨A9, c9, e9, hr9, -⟩ := ho_.reads
     clear hF
     have hz9 : (Es ++ [revE x id x.day A_ c_]).length = n + 1 := by rw [List.length_append, HEN.out]; rfl
     rw [hz9] at e9
     rw [e9] at ho_ ⊢
     have hcp := ho_.cap
     rw [hz9] at hcp
     obtain ⟨A7, c7, e7, hr7, -⟩ := hn_.reads
     injection e7 with e7 _ _
     have HEK : Hid (EtyK W9 (revE x id x.day A_ c_) (X.map negL)) := Lib.hid ⟨by show (X.map negL).length = x.n; rw [List.length_map]; exact (HEC.out _ HXX.out).ln, by show LnkAt _ A_ _; rw [e7]; exact lnk_row.1 hr7, okL_neg (HEC.out _ HXX.out).ok⟩
     have HRE9 : Hid ((revE x id x.day A_ c_).ent = x.ent ∧ (revE x id x.day A_ c_).day = x.day ∧ (revE x id x.day A_ c_).n = x.n ∧ (revE x id x.day A_ c_).txt = x.txt ∧ (revE x id x.day A_ c_).id = id ∧ (revE x id x.day A_ c_).of_ = x.id) := Lib.hid ⟨rfl, rfl, rfl, rfl, rfl, rfl⟩
     generalize revE x id x.day A_ c_ = rr at *
     have HR9 := Lib.hid hr9
     have HCP := Lib.hid hcp
     have HB9 : Hid (Below w2.heap.size w2 W9) := Lib.hid (HBC.out.trans (hb9.mono HBC.out.size))
     clear hb9 hl9 ho_ hn_ hr9 hcp hz9 e9 hr7 e7
     obtain ⟨Ms, hMs⟩ : ∃ Ms, Xs ++ [(rr, X.map negL)] = Ms := ⟨_, rfl⟩
     have HMS := Lib.hid hMs
     have hlm : Ms.length = n + 1 := by rw [← hMs, List.length_append, HNL.out]; rfl
     have hxw : XsW Xs := fun p hp => ⟨by have := HFI.out.2.2 p hp; omega, (HQ.out p hp).2.1, (HQ.out p hp).2.2.id, (HQ.out p hp).2.2.of_⟩
     have HXW := Lib.hid hxw
     have HLM : Hid (∀ W, Below W9.heap.size W9 W → LgX W g L G A9 c9 Ms) := Lib.hid (fun W hb => by
      have hb2 : Below w2.heap.size w2 W := HB9.out.trans (hb.mono HB9.out.size)
      refine ⟨HKC.out.up hb2, HFI.out.1, HWW.out, ?_, ?_, by rw [hlm]; have := HN58.out; omega, ?_, by rw [hlm]; exact HCP.out⟩
      ·rw [← HMS.out, List.map_append, HES.out]
       exact HR9.out.up hb
      ·intro p hp
       rw [← HMS.out] at hp
       rcases List.mem_append.1 hp with hp | hp
       ·exact (HEC.out.up hb2) p hp
       ·rw [List.mem_singleton] at hp
        subst hp
        exact HEK.out.up hb
      ·intro p hp
       rw [← HMS.out] at hp
       rcases List.mem_append.1 hp with hp | hp
       ·exact HXW.out p hp
       ·rw [List.mem_singleton] at hp
        subst hp
        obtain ⟨-, -, r3, r4, r5, r6⟩ := HRE9.out
        obtain ⟨x1, x2, x3, -⟩ := HXW.out _ HXX.out
        refine ⟨by show rr.n ≤ 1000; rw [r3]; exact x1, by show rr.txt.size ≤ maxLen; rw [r4]; exact x2, by show (Lit.int .i64 rr.id).wf = true; rw [r5]; exact WalkArith.wf_i64 ⟨by have := HIB.out; omega, by have := HIB.out; omega⟩, by show (Lit.int .i64 rr.of_).wf = true; rw [r6]; exact x3⟩)
     have HSB : Hid (∀ p ∈ P, p ∈ Xs) := Lib.hid (fun p hp => by rw [HXS.out]; exact List.mem_append_left _ hp)
     have hnp : Es.take nm = P.map (·.1) := by rw [← HES.out, HXS.out, List.map_append, List.take_left' (by rw [List.length_map, HPL.out])]
     have H1 : Hid (∀ A2 c2 W, nm ≤ c2 → (∀ W, RowAt lyX W (some ⟨bb, off, none⟩) Es → RowAt lyX W A2 (Es.take nm)) → Below w2.heap.size w2 W → Calls Tryz.prog 35 #[GV, .slice A2 nm c2, .int .i64 b, .int .i64 d] W fun r w' => TrQ (trB g L G P b d) (lgE g L G P b) r w' ∧ Below W.heap.size W w') := Lib.hid (fun A2 c2 W hk hr hb => by
      have h9 := ltrial_any g L G A2 c2 P b d W ⟨HKC.out.up hb, HFI.out.1, HWW.out, by rw [← hnp]; exact hr W (by rw [← HES.out]; exact HXC.out.up hb), fun p hp => (HEC.out.up hb) p (HSB.out p hp), by rw [HPL.out]; have := HN58.out; have := HNM.out; omega, fun p hp => HXW.out p (HSB.out p hp), by rw [HPL.out]; exact hk⟩
      rw [← HGV.out, HPL.out] at h9
      exact h9)
     have H2 := Lib.hid (fun W hb => ltrial_any g L G A9 c9 Ms b d W (HLM.out W hb))
     rw [← HGV.out, hlm] at H2
     have hml : (trB g L G P b d).length ≤ 100000 := trB_len HKC.out HFI.out.1
     have HML := Lib.hid hml
     have hrv : lgE g L G Ms b ≠ 1 → lgE g L G P b = lgE g L G Ms b ∧ trB g L G P b d = trB g L G Ms b d := fun h => by
      have h9 := lg_rev (g := g) (L := L) (G := G) (P := P) (p := (x, X)) (q := (rr, X.map negL)) (e := b) (hi := d) (by rw [← HXS.out, HMS.out]; exact h) HRE9.out.1 HRE9.out.2.1 rfl
      rw [← HXS.out, HMS.out] at h9
      exact h9
     have hnl : lgE g L G Ms b = 1 → trB g L G Ms b d = [] := fun h => by unfold trB; rw [if_neg (by rw [h]; decide)]
     generalize trB g L G P b d = M1 at *
     generalize lgE g L G P b = E1 at *
     generalize trB g L G Ms b d = M2 at *
     generalize lgE g L G Ms b = E2 at *
     have HRVL := Lib.hid hrv
     have HNLL := Lib.hid hnl
     clear hrv hnl hnp hml hlm hxw hMs
     clear HLM HRV HRE HLDB HBX HGT HG9 HEK
     go_upto_region 10 with fail
     refine AK.region_facts (Rp := Below0) (Kp := Below0) (mtFa bb off n nm c s0 GV Es b d E1 M1) (fun _ _ W => Below W9.heap.size W9 W) [[], [], [], [55], [56], [54, 57], [], [59], [], [61], [53, 58, 60, 62], [63], [52], [52], [64], [65]] [] [[]] [0, 0, 0, 0, 0, 0, 0, 0, 0, 0, 0, 0, 0, 0, 0, 0] [0, 0, 0, 0, 0, 0, 0, 0, 0, 0, 0, 0, 0, 0, 0, 0] [] (fun u => by simp only [mtFa, AK.temps, List.map_cons, List.map_nil, fillL, List.setIfInBounds_toArray, List.set_cons_zero, List.set_cons_succ]; rfl) (by kernel_rfl) (by kernel_rfl) (fun _ _ h => h.size) (fun _ _ h => h) (fun _ _ _ _ hb h => h.trans (hb.mono h.size)) (dc_drew (Below.refl _ _)) ?_ ?_
     ·refine AK.sc (lim := 0) (lo := 0) rfl rfl rfl rfl ?_ ?_
      ·intro k_ u w_ hk_ hl_ hJ hF K hK
       clear hF
       have hb_ := HB9.out.trans (hJ.mono HB9.out.size)
       refine wp_load_is 29 _ rfl (.pointer (some ⟨s0, 0, none⟩)) rfl GV (HLG.out _ hb_) ?_
       exact hK.out _ _ (Below.refl _ _) rfl trivial
      refine AK.sc (lim := 0) (lo := 0) rfl rfl rfl rfl ?_ ?_
      ·intro k_ u w_ hk_ hl_ hJ hF K hK
       clear hF
       go_simp
       exact hK.out _ _ (Below.refl _ _) (rfl) trivial
      refine AK.sc (lim := 0) (lo := 0) rfl rfl rfl rfl ?_ ?_
      ·intro k_ u w_ hk_ hl_ hJ hF K hK
       clear hF
       go_simp
       exact hK.out _ _ (Below.refl _ _) (rfl) trivial
      refine AK.sc (lim := 0) (lo := 0) rfl rfl rfl rfl ?_ ?_
      ·intro k_ u w_ hk_ hl_ hJ hF K hK
       have h55 : u 55 = .slice (some ⟨bb, off, none⟩) n c := AK.facts_get hF 55 (by simp)
       clear hF
       simp only [h55] at hK ⊢
       clear h55
       go_simp
       exact hK.out _ _ (Below.refl _ _) (rfl) trivial
      refine AK.sc (lim := 0) (lo := 0) rfl rfl rfl rfl ?_ ?_
      ·intro k_ u w_ hk_ hl_ hJ hF K hK
       have h56 : u 56 = .int .i64 (n : Int) := AK.facts_get hF 56 (by simp)
       clear hF
       simp only [h56] at hK ⊢
       clear h56
       have a1 := HZ1.out
       go_simp
       exact hK.out _ _ (Below.refl _ _) (rfl) trivial
      refine AK.sc (lim := 0) (lo := 0) rfl rfl rfl rfl ?_ ?_
      ·intro k_ u w_ hk_ hl_ hJ hF K hK
       have h54 : u 54 = .slice (some ⟨bb, off, none⟩) n c := AK.facts_get hF 54 (by simp)
       have h57 : u 57 = .int .i64 (nm : Int) := AK.facts_get hF 57 (by simp)
       clear hF
       simp only [h54, h57] at hK ⊢
       clear h54 h57
       rw [if_pos (by rfl)]
       refine wp_slc_hc (R := lyX) 30 _ _ rfl Tryz.underlying30 i0 hi hz2 (some ⟨bb, off, none⟩) n c nm Es HEN.out rfl rfl HNM.out HCC.out ?_
       intro A2 c2 hk2 hr2
       exact hK.out _ _ (Below.refl _ _) ⟨A2, c2, rfl, hk2, hr2⟩ trivial
      refine AK.sc (lim := 0) (lo := 0) rfl rfl rfl rfl ?_ ?_
      ·intro k_ u w_ hk_ hl_ hJ hF K hK
       clear hF
       go_simp
       exact hK.out _ _ (Below.refl _ _) (rfl) trivial
      refine AK.sc (lim := 0) (lo := 0) rfl rfl rfl rfl ?_ ?_
      ·intro k_ u w_ hk_ hl_ hJ hF K hK
       have h59 : u 59 = .pointer (some ⟨s0 + 1, 1, none⟩) := AK.facts_get hF 59 (by simp)
       clear hF
       simp only [h59] at hK ⊢
       clear h59
       have hb_ := HB9.out.trans (hJ.mono HB9.out.size)
       obtain ⟨r0, r1, r2⟩ := HAT.out _ hb_
       go_simp
       exact hK.out _ _ (Below.refl _ _) (rfl) trivial
      refine AK.sc (lim := 0) (lo := 0) rfl rfl rfl rfl ?_ ?_
      ·intro k_ u w_ hk_ hl_ hJ hF K hK
       clear hF
       go_simp
       exact hK.out _ _ (Below.refl _ _) (rfl) trivial
      refine AK.sc (lim := 0) (lo := 0) rfl rfl rfl rfl ?_ ?_
      ·intro k_ u w_ hk_ hl_ hJ hF K hK
       have h61 : u 61 = .pointer (some ⟨s0 + 1, 2, none⟩) := AK.facts_get hF 61 (by simp)
       clear hF
       simp only [h61] at hK ⊢
       clear h61
       have hb_ := HB9.out.trans (hJ.mono HB9.out.size)
       obtain ⟨r0, r1, r2⟩ := HAT.out _ hb_
       go_simp
       exact hK.out _ _ (Below.refl _ _) (rfl) trivial
      refine AK.sc (lim := 0) (lo := 0) rfl rfl rfl rfl ?_ ?_
      ·intro k_ u w_ hk_ hl_ hJ hF K hK
       have h53 : u 53 = GV := AK.facts_get hF 53 (by simp)
       have h58 : moP58 Es (some ⟨bb, off, none⟩) nm (u 58) := AK.facts_get hF 58 (by simp)
       have h60 : u 60 = .int .i64 b := AK.facts_get hF 60 (by simp)
       have h62 : u 62 = .int .i64 d := AK.facts_get hF 62 (by simp)
       clear hF
       obtain ⟨A2_, c2_, h58, hk2_, hr2_⟩ := h58
       simp only [h53, h58, h60, h62] at hK ⊢
       clear h53 h58 h60 h62
       go_simp
       have hb_ := HB9.out.trans (hJ.mono HB9.out.size)
       refine (H1.out _ _ _ hk2_ hr2_ hb_).mono ?_
       rintro r w6 ⟨⟨A_, c_, rfl, hz_⟩, hb6⟩
       exact hK.out _ _ hb6 ⟨A_, c_, rfl, hz_⟩ trivial
      refine AK.sc (lim := 0) (lo := 0) rfl rfl rfl rfl ?_ ?_
      ·intro k_ u w_ hk_ hl_ hJ hF K hK
       have h63 : trP M1 E1 (u 63) w_ := AK.facts_get hF 63 (by simp)
       clear hF
       obtain ⟨A_, c_, h63, hz_⟩ := h63
       simp only [h63] at hK ⊢
       clear h63
       go_simp
       exact hK.out _ _ (Below.refl _ _) ⟨A_, c_, rfl, hz_⟩ trivial
      refine AK.sc (lim := 0) (lo := 0) rfl rfl rfl rfl ?_ ?_
      ·intro k_ u w_ hk_ hl_ hJ hF K hK
       have h52 : trP M1 E1 (u 52) w_ := AK.facts_get hF 52 (by simp)
       clear hF
       obtain ⟨A_, c_, h52, hz_⟩ := h52
       simp only [h52] at hK ⊢
       clear h52
       go_simp
       exact hK.out _ _ (Below.refl _ _) ⟨A_, c_, rfl, hz_⟩ trivial
      refine AK.sc (lim := 0) (lo := 0) rfl rfl rfl rfl ?_ ?_
      ·intro k_ u w_ hk_ hl_ hJ hF K hK
       have h52 : trP M1 E1 (u 52) w_ := AK.facts_get hF 52 (by simp)
       clear hF
       obtain ⟨A_, c_, h52, hz_⟩ := h52
       simp only [h52] at hK ⊢
       clear h52
       go_simp
       exact hK.out _ _ (Below.refl _ _) (rfl) trivial
      refine AK.sc (lim := 0) (lo := 0) rfl rfl rfl rfl ?_ ?_
      ·intro k_ u w_ hk_ hl_ hJ hF K hK
       have h64 : baP M1 (u 64) w_ := AK.facts_get hF 64 (by simp)
       clear hF
       obtain ⟨A_, c_, h64, hz_⟩ := h64
       simp only [h64] at hK ⊢
       clear h64
       go_simp
       exact hK.out _ _ (Below.refl _ _) ⟨A_, c_, rfl, hz_⟩ trivial
      refine AK.sc (lim := 0) (lo := 0) rfl rfl rfl rfl ?_ ?_
      ·intro k_ u w_ hk_ hl_ hJ hF K hK
       have h65 : u 65 = .int .i64 E1 := AK.facts_get hF 65 (by simp)
       clear hF
       simp only [h65] at hK ⊢
       clear h65
       go_simp
       exact hK.out _ _ (Below.refl _ _) (rfl) trivial
      exact AK.StepsOk.nil
     ·intro u' WA hJA hF
      have h10 : baP M1 (u' 10) WA := AK.facts_get hF 10 (by simp [mtFa, AK.temps])
      have h11 : u' 11 = .int .i64 E1 := AK.facts_get hF 11 (by simp [mtFa, AK.temps])
      clear hF
      obtain ⟨A1, c1, h10, hz1_⟩ := h10
      rw [h10, h11]
      have HZ1_ := Lib.hid hz1_
      have HBA := Lib.hid hJA
      clear HBC h10 h11 hz1_
      have HBC := Lib.hid (HB9.out.trans (hJA.mono HB9.out.size))
      clear hJA
      obtain ⟨q0, q1, q2⟩ := HAT.out _ HBC.out
      have HM2 : True := trivial
      by_cases hE : E2 = 1
      ·obtain rfl := HNLL.out hE
       subst hE
       go_wp2_with (first
        | (clear HM2; refine wpList_load_is rfl 29 _ rfl (.pointer (some ⟨s0, 0, none⟩)) rfl GV (HLG.out _ HBC.out) ?_)
        | (go_at_call 35; refine (H2.out _ HBA.out).mono ?_; rintro r w5 ⟨⟨A2, c2, rfl, hz2⟩, hb⟩; have HZ3 := Lib.hid (HZ1_.out.up hb); have hB3 := Lib.hid (HBC.out.trans (hb.mono HBC.out.size)); clear hb HBC; have HBC := hB3; clear hB3; have HZ2 := Lib.hid hz2; clear hz2))
       go_ret
       exact ⟨by first | rfl | simp, by have h9 := HBW.out _ HBC.out; first | exact h9 | (rw [← HS0.out]; exact h9)⟩
      ·obtain ⟨rfl, rfl⟩ := HRVL.out hE
       have z1 : (E1 == 1) = false := by simp [hE]
       have HSM := Lib.hid (fun A1 A2 c1 c2 W (h1 : BalAt W A1 M1) (h2 : BalAt W A2 M1) => rsameb_any A1 A2 c1 c2 M1 M1 W h1 h2 HML.out HML.out)
       rw [decide_eq_true (rfl : M1 = M1)] at HSM
       clear hE
       go_wp2_with (first
        | (clear HM2; refine wpList_load_is rfl 29 _ rfl (.pointer (some ⟨s0, 0, none⟩)) rfl GV (HLG.out _ HBC.out) ?_)
        | (go_at_call 35; refine (H2.out _ HBA.out).mono ?_; rintro r w5 ⟨⟨A2, c2, rfl, hz2⟩, hb⟩; have HZ3 := Lib.hid (HZ1_.out.up hb); have hB3 := Lib.hid (HBC.out.trans (hb.mono HBC.out.size)); clear hb HBC; have HBC := hB3; clear hB3; have HZ2 := Lib.hid hz2; clear hz2)
        | (go_at_call 37; refine (HSM.out _ _ _ _ _ HZ3.out HZ2.out).mono ?_; rintro r w5 ⟨rfl, hb⟩; have hB3 := Lib.hid (HBC.out.trans (hb.mono HBC.out.size)); clear hb HBC; have HBC := hB3; clear hB3))
       go_ret
       exact ⟨by first | rfl | simp, by have h9 := HBW.out _ HBC.out; first | exact h9 | (rw [← HS0.out]; exact h9)⟩
end Go.Proofs.YthokdplikidhiaaGreat
