/- Contracts of the functions that the statements reach, part 6: what was proved of each, callees first. -/
import Derived.BigRegion
import Derived.BigQuiet
import Derived.Test.YtdfnlakimacbpaaGE5
namespace Go.Proofs.Ytdfnlakimacbpaa
open Go.RowKit
theorem EntBlk.blk {w w' : World} {b : Nat} {G : List Ent} (h : EntBlk w b G) (hk : w'.heap[b]? = w.heap[b]?) (hs : w.heap.size ≤ w'.heap.size) : EntBlk w' b G := by
 refine ⟨fun h0 => ?_, fun i => by simp only [World.frozen?, hk]; exact h.fz i, Nat.lt_of_lt_of_le h.lt hs⟩
 obtain ⟨b', off, e, hlt, hc⟩ := h.at' h0
 cases e
 refine ⟨b, 0, rfl, Nat.lt_of_lt_of_le h.lt hs, fun i hi => ?_⟩
 obtain ⟨c0, c1, c2, c3, c4⟩ := hc i hi
 constructor <;> simp only [World.cell?, hk] <;> assumption
theorem entblk_at {w : World} {b : Nat} {G : List Ent} (h : EntBlk w b G) {i : Nat} (hi : i < G.length) : E5 w b (i * 5) (G.getD i ent0) := by
 obtain ⟨b', off, e, hlt, hc⟩ := h.at' (by omega)
 cases e
 have := hc i hi
 rwa [Nat.zero_add] at this
theorem e5_range {w : World} {b o : Nat} {e : Ent} (h : E5 w b o e) : w.rangeAt b o (entC e) := fun t v ht => by
 match t, ht with
 | 0, ht => injection ht with ht; rw [← ht]; exact h.c0
 | 1, ht => injection ht with ht; rw [← ht]; exact h.c1
 | 2, ht => injection ht with ht; rw [← ht]; exact h.c2
 | 3, ht => injection ht with ht; rw [← ht]; exact h.c3
 | 4, ht => injection ht with ht; rw [← ht]; exact h.c4
theorem range_e5 {w : World} {b o : Nat} {e : Ent} (h : w.rangeAt b o (entC e)) : E5 w b o e := ⟨h 0 _ rfl, h 1 _ rfl, h 2 _ rfl, h 3 _ rfl, h 4 _ rfl⟩
theorem ent_there {w : World} {b : Nat} {G : List Ent} (h : EntBlk w b G) {i : Nat} (hi : i < G.length) : w.there b (i * 5) 5 := fun t ht => by
 refine ⟨?_, h.fz _⟩
 have hl : t < (entC (G.getD i ent0)).length := ht
 rw [e5_range (entblk_at h hi) t _ (List.getElem?_eq_getElem hl)]
 rfl
theorem ents_swap {w : World} {b : Nat} {G : List Ent} (h : EntBlk w b G) {i j : Nat} (hi : i < G.length) (hj : j < G.length) : EntsAt ((w.setCells b (i * 5) (entC (G.getD j ent0))).setCells b (j * 5) (entC (G.getD i ent0))) (some ⟨b, 0, none⟩) (swapG G i j) := fun h0 => by
 refine ⟨b, 0, rfl, by rw [setCells_size, setCells_size]; exact h.lt, fun k hk => ?_⟩
 rw [swap_len] at hk
 rw [Nat.zero_add, swap_at hi hj hk]
 by_cases hkj : k = j
 ·subst hkj
  rw [if_pos rfl]
  exact range_e5 (World.rangeAt_setCells_same _ _ _ _ (World.there_setCells (ent_there h hj) _ _ _))
 ·rw [if_neg hkj]
  refine range_e5 (World.rangeAt_setCells_apart ?_ b (j * 5) _ (.inr (by simp [entC]; omega)))
  by_cases hki : k = i
  ·subst hki
   rw [if_pos rfl]
   exact World.rangeAt_setCells_same _ _ _ _ (ent_there h hi)
  ·rw [if_neg hki]
   exact World.rangeAt_setCells_apart (e5_range (entblk_at h hk)) b (i * 5) _ (.inr (by simp [entC]; omega))
structure Swd (wr wx : World) (s0 p q : Nat) (g : Grp) (E R : Option Addr) (c : Nat) (H : List Ent) : Prop where
 gp : GB wx p (withE0 g E (g.m - 1) g.d)
 gq : GB wx q (withE0 g R g.m c)
 gs : GB wx s0 g
 he : EntsAt wx R H
 below : Below wr.heap.size wr wx
theorem Swd.drew {wr wx : World} {s0 p q : Nat} {g : Grp} {E R : Option Addr} {c : Nat} {H : List Ent} (h : Swd wr wx s0 p q g E R c H) : Swd wr wx.drew s0 p q g E R c H :=
 ⟨h.gp.blk rfl, h.gq.blk rfl, h.gs.blk rfl, h.he.up (dc_drew (Below.refl _ _)), dc_drew h.below⟩
theorem grk_with {w : World} {g : Grp} {L : List Acc} {G H : List Ent} {X : Option Addr} {m d : Nat} (h : GrK w g L G) (hl : H.length = m) (he : EntsAt w X H) (hm : ∀ e, e ∈ H → e ∈ G) : GrK w (withE g X m d) L H := ⟨h.ln, hl, h.hz, he, fun e he => h.hk e (hm e he)⟩
theorem sm_with {g : Grp} {G H : List Ent} {X : Option Addr} {m d : Nat} (h : Sm g G) (h14 : m ≤ 14) (hm : ∀ e, e ∈ H → e ∈ G) : Sm (withE g X m d) H := ⟨h.n, h14, fun e he => h.e e (hm e he)⟩
theorem grp_cap {H : Type} {enc : TypeId × Value → H} {W : World} {g : Grp} {d : DataW H} {P : List MemPlace} (h : DataW.Trod enc Try.prog W 0 (fun _ => true) true 29 (grpV g) d P) : g.m ≤ g.d := by
 obtain ⟨fuel, hf⟩ := h
 have hcs : (grpV g).cells.toList = gC g := rfl
 rw [hcs] at hf
 obtain ⟨xs, n', -, -, -, hxl, hff⟩ := DataW.trod_struct Try.underlying29 hf
 have ke : Try.prog.cellsOf 27 = 1 := by kernel_rfl
 have h4 : DataW.trod enc Try.prog W 0 (fun _ => true) true n' 27 (((gC g).drop 20).take (Try.prog.cellsOf 27)) = xs[4]? := hff 4 _ rfl
 have hxl' : xs.length = 5 := hxl
 obtain ⟨y, e4⟩ : ∃ y, xs[4]? = some y := ⟨_, List.getElem?_eq_getElem (by omega)⟩
 rw [e4, ke] at h4
 have h5 : DataW.trod enc Try.prog W 0 (fun _ => true) true n' 27 [.slice g.E g.m g.d] = some y := h4
 rcases Go.Deep.open_slice Try.underlying27 h5 with ⟨hcs, -⟩ | ⟨a, len, cap, m, n, D, Pl, hcs, -, hl, hm, hmm, -, hx⟩
 ·injection hcs with e1 e2
  injection e1 with e1 e3 e4
  omega
 ·injection hcs with e1 e2
  injection e1 with e1 e3 e4
  omega
theorem setCells_blk (b : Nat) : ∀ (vs : List Value) (o : Nat) (w : World) (k : Nat), k ≠ b → (w.setCells b o vs).heap[k]? = w.heap[k]?
 | [], _, _, _, _ => rfl
 | v :: r, o, w, k, h => by
  rw [World.setCells, setCells_blk b r _ _ k h]
  exact Below.heap_setCell w ⟨b, o, none⟩ v k h
theorem swd_is {wr w : World} {s0 p q r : Nat} {g : Grp} {E : Option Addr} {c : Nat} {G : List Ent} {i j : Nat} (hp : GB w p (withE0 g E (g.m - 1) g.d)) (hq : GB w q (withE0 g (some ⟨r, 0, none⟩) g.m c)) (hs : GB w s0 g) (he : EntBlk w r G) (hb : Below wr.heap.size wr w) (hr : wr.heap.size ≤ r) (n1 : r ≠ s0) (n2 : r ≠ p) (n3 : r ≠ q) (hi : i < G.length) (hj : j < G.length) :
  Swd wr ((w.setCells r (i * 5) (entC (G.getD j ent0))).setCells r (j * 5) (entC (G.getD i ent0))) s0 p q g E (some ⟨r, 0, none⟩) c (swapG G i j) := by
 have k : ∀ b, r ≠ b → ((w.setCells r (i * 5) (entC (G.getD j ent0))).setCells r (j * 5) (entC (G.getD i ent0))).heap[b]? = w.heap[b]? := fun b hb => by
  rw [setCells_blk _ _ _ _ _ hb.symm, setCells_blk _ _ _ _ _ hb.symm]
 exact ⟨hp.blk (k p n2), hq.blk (k q n3), hs.blk (k s0 n1), ents_swap he hi hj, below_setCells hr _ _ (below_setCells hr _ _ hb)⟩
def geFa (X : Value) (g : Grp) (b0 off k s0 : Nat) (x : Ent) : List (Nat × AS.Fact) := [(35, AS.Fact.is (X)), (36, AS.Fact.is (.pointer (some ⟨s0, 20, none⟩))), (37, AS.Fact.is (.slice (some ⟨b0, off, none⟩) g.m g.d)), (38, AS.Fact.is (.int .i64 (k : Int))), (39, AS.Fact.is (.pointer (some ⟨b0, off + k * 5, none⟩))), (40, AS.Fact.is (.pointer (some ⟨b0, off + k * 5, none⟩))), (41, AS.Fact.is (.string x.nm)), (42, AS.Fact.is (.tuple #[.int .i64 (k : Int), .bool true])), (34, AS.Fact.is (.tuple #[.int .i64 (k : Int), .bool true])), (43, AS.Fact.is (.int .i64 (k : Int))), (44, AS.Fact.is (.bool true)), (8, AS.Fact.is (.int .i64 (k : Int))), (9, AS.Fact.is (.bool true))]
set_option maxRecDepth 20000 in
set_option maxHeartbeats 12800000 in
theorem law_grents (g : Grp) (L : List Acc) (G : List Ent) (sa sb : Int) (w : World) (ba : 0 ≤ sa ∧ sa ≤ 255) (bb : 0 ≤ sb ∧ sb ≤ 255) (hk : GrK w g L G) (hw : GrW g L G) (hmx : g.m ≤ 9223372036854775807) (hcap : g.m ≤ g.d) :
  Calls Try.prog 6 #[grpV g, .int .u8 sa, .int .u8 sb] w fun e w' => e = .returned (.bool true) ∧ Below w.heap.size w w' := by
 have hB := below_alloc_new (w := w) (.cells #[.string g.cur, .int .i64 g.cy, .int .i64 g.cm, .int .i64 g.cp, .slice g.A g.n g.c, .int .i64 g.r0, .int .i64 g.r1, .int .i64 g.r2, .int .i64 g.r3, .int .i64 g.r4, .int .i64 g.r5, .int .i64 g.r6, .int .i64 g.r7, .int .i64 g.r8, .int .i64 g.r9, .int .i64 g.r10, .int .i64 g.r11, .int .i64 g.r12, .int .i64 g.r13, .int .i64 g.r14, .slice g.E g.m g.d] 29)
 have hG := gb_new w 29 g
 have hk2 := hk.up hB
 have h1 := fun w h => rfew10_is g G w h hk.lg hmx
 have hsm := few_sm (g := g) (G := G)
 have h2 := fun hs w h => rvalid10_any g L G w h hs hw
 have h3 := fun (hs : Sm g G) nm w h => gfind_any g G nm w h hk.lg (by have := hs.m; omega)
 have h4 := fun (hs : Sm g G) (_ : grpR g L G = true) w h => gvalid_any g L G w h hs hw
 have hes : grpR g L G = true → ensR L g.R G = true := fun h => by unfold grpR at h; rw [Bool.and_eq_true] at h; exact h.2
 have hgr : grpR g L G = true → ∀ (X : Option Addr) (m d : Nat) (H : List Ent), ensR L g.R H = true → grpR (withE g X m d) L H = true := fun h X m d H hH => grp_with h hH
 have hval : ∀ (X : Option Addr) (m d : Nat) (H : List Ent) w, grpR (withE g X m d) L H = true → GrK w (withE g X m d) L H → Sm (withE g X m d) H → (∀ e ∈ H, e ∈ G) → Calls Try.prog 10 #[grpV (withE g X m d)] w fun e' w' => e' = .returned (.bool true) ∧ Below w.heap.size w w' := fun X m d H w hq hk' hs' hm' => by
  have h9 := gvalid_any (withE g X m d) L H w hk' hs' ⟨hw.cur, hw.rol, fun e he => hw.txt e (hm' e he)⟩
  rw [grp_eq, hq] at h9
  exact h9
 simp only [grp_eq] at h4
 have hlg := hk.lg
 obtain ⟨X, hX⟩ : ∃ X : Value, X = grpV g := ⟨_, rfl⟩
 rw [← hX] at h1
 simp only [← hX] at h2 h3 h4
 generalize few10 g G = fb at *
 obtain ⟨q, hq⟩ : ∃ q, grpR g L G = q := ⟨_, rfl⟩
 rw [hq] at hes hgr
 simp only [hq] at h2 h4
 clear hq
 obtain ⟨s0, hs0⟩ : ∃ s0, w.heap.size = s0 := ⟨_, rfl⟩
 have hsz : s0 ≤ (w.alloc (.cells #[.string g.cur, .int .i64 g.cy, .int .i64 g.cm, .int .i64 g.cp, .slice g.A g.n g.c, .int .i64 g.r0, .int .i64 g.r1, .int .i64 g.r2, .int .i64 g.r3, .int .i64 g.r4, .int .i64 g.r5, .int .i64 g.r6, .int .i64 g.r7, .int .i64 g.r8, .int .i64 g.r9, .int .i64 g.r10, .int .i64 g.r11, .int .i64 g.r12, .int .i64 g.r13, .int .i64 g.r14, .slice g.E g.m g.d] 29)).heap.size := by simp; omega
 rw [hs0] at hB hG ⊢
 have HX := Lib.hid hX
 have HG := Lib.hid hG
 have HK := Lib.hid hk2
 have HSZ := Lib.hid hsz
 have HFW := Lib.hid h1
 have H2 := Lib.hid h2
 have H3 := Lib.hid h3
 have H4 := Lib.hid h4
 have HES := Lib.hid hes
 have HGR := Lib.hid hgr
 have HVL := Lib.hid hval
 have HLG := Lib.hid hlg
 have HCD := Lib.hid hcap
 clear hcap hk hw hmx hG hk2 h1 h2 h3 h4 hes hgr hval hX hsz hlg
 cases fb
 ·clear H2 H3 hsm
  go_enter Try.func6, Try.ntmps6
  go_wp2_with (first
   | (refine wpList_load_is rfl 29 _ rfl (.pointer (some ⟨s0, 0, none⟩)) rfl X (gb_lV HG.out HX.out) ?_) | (refine wpList_load_if rfl 29 _ rfl (.pointer (some ⟨s0, 0, none⟩)) rfl X (gb_lV HG.out HX.out) ?_) | (refine wp_load_is 29 _ rfl (.pointer (some ⟨s0, 0, none⟩)) rfl X (gb_lV HG.out HX.out) ?_)
   | (go_at_call 8; refine (grawake_any _).mono ?_; rintro e1 w1 ⟨rfl, hb⟩; have hB2 := hB.trans (hb.mono HSZ.out); have HSZ2 := Lib.hid (Nat.le_trans HSZ.out hb.size); have HG2 := Lib.hid (HG.out.up hb); have HK2 := Lib.hid (HK.out.up hb); clear hb hB HSZ HG HK; have hB := hB2; have HSZ := HSZ2; have HG := HG2; have HK := HK2; clear hB2 HSZ2 HG2 HK2)
   | (go_at_call 9; (with_reducible refine (HFW.out _ HK.out.he).mono ?_); rintro e1 w2 ⟨rfl, hb⟩; have hB2 := hB.trans (hb.mono HSZ.out); have HSZ2 := Lib.hid (Nat.le_trans HSZ.out hb.size); have HG2 := Lib.hid (HG.out.up hb); have HK2 := Lib.hid (HK.out.up hb); clear hb hB HSZ HG HK; have hB := hB2; have HSZ := HSZ2; have HG := HG2; have HK := HK2; clear hB2 HSZ2 HG2 HK2))
  go_ret
  exact ⟨rfl, hB⟩
 have hs := hsm rfl
 have HV := Lib.hid (H2.out hs)
 have HFD := Lib.hid (H3.out hs)
 have HSM := Lib.hid hs
 clear H2 H3 hsm
 cases q
 ·go_enter Try.func6, Try.ntmps6
  go_wp2_with (first
   | (refine wpList_load_is rfl 29 _ rfl (.pointer (some ⟨s0, 0, none⟩)) rfl X (gb_lV HG.out HX.out) ?_) | (refine wpList_load_if rfl 29 _ rfl (.pointer (some ⟨s0, 0, none⟩)) rfl X (gb_lV HG.out HX.out) ?_) | (refine wp_load_is 29 _ rfl (.pointer (some ⟨s0, 0, none⟩)) rfl X (gb_lV HG.out HX.out) ?_)
   | (go_at_call 8; refine (grawake_any _).mono ?_; rintro e1 w1 ⟨rfl, hb⟩; have hB2 := hB.trans (hb.mono HSZ.out); have HSZ2 := Lib.hid (Nat.le_trans HSZ.out hb.size); have HG2 := Lib.hid (HG.out.up hb); have HK2 := Lib.hid (HK.out.up hb); clear hb hB HSZ HG HK; have hB := hB2; have HSZ := HSZ2; have HG := HG2; have HK := HK2; clear hB2 HSZ2 HG2 HK2)
   | (go_at_call 9; (with_reducible refine (HFW.out _ HK.out.he).mono ?_); rintro e1 w2 ⟨rfl, hb⟩; have hB2 := hB.trans (hb.mono HSZ.out); have HSZ2 := Lib.hid (Nat.le_trans HSZ.out hb.size); have HG2 := Lib.hid (HG.out.up hb); have HK2 := Lib.hid (HK.out.up hb); clear hb hB HSZ HG HK; have hB := hB2; have HSZ := HSZ2; have HG := HG2; have HK := HK2; clear hB2 HSZ2 HG2 HK2)
   | (go_at_call 11; (with_reducible refine (HV.out _ HK.out).mono ?_); rintro e1 w3 ⟨rfl, hb⟩; have hB2 := hB.trans (hb.mono HSZ.out); have HSZ2 := Lib.hid (Nat.le_trans HSZ.out hb.size); have HG2 := Lib.hid (HG.out.up hb); have HK2 := Lib.hid (HK.out.up hb); clear hb hB HSZ HG HK; have hB := hB2; have HSZ := HSZ2; have HG := HG2; have HK := HK2; clear hB2 HSZ2 HG2 HK2))
  go_ret
  exact ⟨rfl, hB⟩
 have HEN := Lib.hid (HES.out rfl)
 have HVG := Lib.hid (H4.out hs rfl)
 clear HES hs H4
 obtain ⟨n1, n2, n3, n4, n5⟩ := ens_is.1 HEN.out
 rw [HLG.out] at n1 n2 n5
 have hfd : ∀ k, k < g.m → ∀ w, EntsAt w g.E G → Calls Try.prog 12 #[X, .string (G.getD k ent0).nm] w fun e w' => e = .returned (.tuple #[.int .i64 (k : Int), .bool true]) ∧ Below w.heap.size w w' := fun k hk w h => by
  have h9 := HFD.out (G.getD k ent0).nm w h
  obtain ⟨f1, f2⟩ := fn_at (G := G) (nm := (G.getD k ent0).nm) (k := k) (by rw [HLG.out]; exact hk) (fun j hj e => by have := n5 j k (by omega) hk e; omega) rfl
  rw [f1, f2] at h9
  exact h9
 have HFK := Lib.hid hfd
 clear n3 n4 n5 hfd HFD
 go_enter Try.func6, Try.ntmps6
 go_wp2_with (first
  | (refine wpList_load_is rfl 29 _ rfl (.pointer (some ⟨s0, 0, none⟩)) rfl X (gb_lV HG.out HX.out) ?_) | (refine wpList_load_if rfl 29 _ rfl (.pointer (some ⟨s0, 0, none⟩)) rfl X (gb_lV HG.out HX.out) ?_) | (refine wp_load_is 29 _ rfl (.pointer (some ⟨s0, 0, none⟩)) rfl X (gb_lV HG.out HX.out) ?_)
  | (go_at_call 8; refine (grawake_any _).mono ?_; rintro e1 w1 ⟨rfl, hb⟩; have hB2 := hB.trans (hb.mono HSZ.out); have HSZ2 := Lib.hid (Nat.le_trans HSZ.out hb.size); have HG2 := Lib.hid (HG.out.up hb); have HK2 := Lib.hid (HK.out.up hb); clear hb hB HSZ HG HK; have hB := hB2; have HSZ := HSZ2; have HG := HG2; have HK := HK2; clear hB2 HSZ2 HG2 HK2)
  | (go_at_call 9; (with_reducible refine (HFW.out _ HK.out.he).mono ?_); rintro e1 w2 ⟨rfl, hb⟩; have hB2 := hB.trans (hb.mono HSZ.out); have HSZ2 := Lib.hid (Nat.le_trans HSZ.out hb.size); have HG2 := Lib.hid (HG.out.up hb); have HK2 := Lib.hid (HK.out.up hb); clear hb hB HSZ HG HK; have hB := hB2; have HSZ := HSZ2; have HG := HG2; have HK := HK2; clear hB2 HSZ2 HG2 HK2)
  | (go_at_call 11; (with_reducible refine (HV.out _ HK.out).mono ?_); rintro e1 w3 ⟨rfl, hb⟩; have hB2 := hB.trans (hb.mono HSZ.out); have HSZ2 := Lib.hid (Nat.le_trans HSZ.out hb.size); have HG2 := Lib.hid (HG.out.up hb); have HK2 := Lib.hid (HK.out.up hb); clear hb hB HSZ HG HK; have hB := hB2; have HSZ := HSZ2; have HG := HG2; have HK := HK2; clear hB2 HSZ2 HG2 HK2; have c20 := HG.out.c20))
 clear c20 HFW HV hs0
 have hEE := (HK.out.he) (by rw [HLG.out]; omega)
 obtain ⟨b0, off, eE, hb0, -⟩ := hEE
 have HEE := Lib.hid eE
 rw [eE]
 clear eE hb0
 go_loopg [31] g.m (fun kx s31 wr => ∃ k : Nat, s31 = .int .i64 k ∧ k ≤ g.m ∧ g.m - k ≤ kx ∧ Hid (GB wr s0 g) ∧ Hid (GrK wr g L G) ∧ Below s0 w wr)
 case atStart => exact ⟨0, rfl, by omega, by omega, HG, HK, hB⟩
 case round =>
  clear hB HG HK HSZ
  rename World => wr
  obtain ⟨k, rfl, hk, hkx, HG, HK, hB⟩ := hrel
  have hsz : s0 ≤ wr.heap.size := Nat.le_of_lt HG.out.lt
  by_cases hlt : k < g.m
  ·have hltz : (k : Int) < (g.m : Int) := by omega
   obtain ⟨b', off', e', hbW, hd5⟩ := ent_at HK.out.he (k := k) (by rw [HLG.out]; exact hlt)
   rw [HEE.out] at e'
   cases e'
   have hfi := HFK.out k hlt
   obtain ⟨x, hx⟩ : ∃ x, G.getD k ent0 = x := ⟨_, rfl⟩
   rw [hx] at hd5 hfi
   have HD5 := Lib.hid hd5
   have HFI := Lib.hid hfi
   have HC20 : Hid (∀ w', Below wr.heap.size wr w' → w'.cell? ⟨s0, 20, none⟩ = some (.slice (some ⟨b0, off, none⟩) g.m g.d)) := Lib.hid fun w' h => by rw [← HEE.out]; exact (HG.out.up h).c20
   have hkk : ((k : Int) != (k : Int)) = false := by simp
   clear hd5 hfi hx
   go_wp2_with fail
   refine AS.region_facts (geFa X g b0 off k s0 x) (HNo wr) [[], [], [36], [], [37, 38], [39], [40], [35, 41], [42], [34], [34], [43], [44]] [] [[]] [0, 0, 0, 0, 0, 0, 0, 0, 0, 0, 0, 0, 0] [] (fun u => by simp only [geFa, AS.temps, List.map_cons, List.map_nil, fillL, List.setIfInBounds_toArray, List.set_cons_zero, List.set_cons_succ]; rfl) (by kernel_rfl) (by kernel_rfl) (HNo.st wr) (dc_drew (Below.refl _ _)) ?_ ?_
   ·refine AS.sc rfl rfl rfl ?_ ?_
    ·intro k_ u w_ hk_ hJ hF K hK
     clear hF
     refine wp_load_is 29 _ rfl (.pointer (some ⟨s0, 0, none⟩)) rfl X (gb_lV (HG.out.up (hJ : Below wr.heap.size wr w_)) HX.out) ?_
     exact hK.out _ _ (Below.refl _ _) (rfl) trivial
    refine AS.sc rfl rfl rfl ?_ ?_
    ·intro k_ u w_ hk_ hJ hF K hK
     clear hF
     go_simp
     exact hK.out _ _ (Below.refl _ _) (rfl) trivial
    refine AS.sc rfl rfl rfl ?_ ?_
    ·intro k_ u w_ hk_ hJ hF K hK
     have h36 : u 36 = .pointer (some ⟨s0, 20, none⟩) := AS.facts_get hF 36 (by simp)
     clear hF
     simp only [h36] at hK ⊢
     clear h36
     have c20 := HC20.out w_ (hJ : Below wr.heap.size wr w_)
     go_simp
     exact hK.out _ _ (Below.refl _ _) (rfl) trivial
    refine AS.sc rfl rfl rfl ?_ ?_
    ·intro k_ u w_ hk_ hJ hF K hK
     clear hF
     go_simp
     exact hK.out _ _ (Below.refl _ _) (rfl) trivial
    refine AS.sc rfl rfl rfl ?_ ?_
    ·intro k_ u w_ hk_ hJ hF K hK
     have h37 : u 37 = .slice (some ⟨b0, off, none⟩) g.m g.d := AS.facts_get hF 37 (by simp)
     have h38 : u 38 = .int .i64 (k : Int) := AS.facts_get hF 38 (by simp)
     clear hF
     simp only [h37, h38] at hK ⊢
     clear h37 h38
     go_simp
     exact hK.out _ _ (Below.refl _ _) (rfl) trivial
    refine AS.sc rfl rfl rfl ?_ ?_
    ·intro k_ u w_ hk_ hJ hF K hK
     have h39 : u 39 = .pointer (some ⟨b0, off + k * 5, none⟩) := AS.facts_get hF 39 (by simp)
     clear hF
     simp only [h39] at hK ⊢
     clear h39
     go_simp
     exact hK.out _ _ (Below.refl _ _) (rfl) trivial
    refine AS.sc rfl rfl rfl ?_ ?_
    ·intro k_ u w_ hk_ hJ hF K hK
     have h40 : u 40 = .pointer (some ⟨b0, off + k * 5, none⟩) := AS.facts_get hF 40 (by simp)
     clear hF
     simp only [h40] at hK ⊢
     clear h40
     obtain ⟨d0, d1, d2, d3, d4⟩ := HD5.out.up (hJ : Below wr.heap.size wr w_) hbW
     go_simp
     exact hK.out _ _ (Below.refl _ _) (rfl) trivial
    refine AS.sc rfl rfl rfl ?_ ?_
    ·intro k_ u w_ hk_ hJ hF K hK
     have h35 : u 35 = X := AS.facts_get hF 35 (by simp)
     have h41 : u 41 = .string x.nm := AS.facts_get hF 41 (by simp)
     clear hF
     simp only [h35, h41] at hK ⊢
     clear h35 h41
     have he9 := (HK.out.up (hJ : Below wr.heap.size wr w_)).he
     go_simp
     refine (HFI.out _ he9).mono ?_
     rintro e w3 ⟨rfl, hb⟩
     exact hK.out _ _ hb (rfl) trivial
    refine AS.sc rfl rfl rfl ?_ ?_
    ·intro k_ u w_ hk_ hJ hF K hK
     have h42 : u 42 = .tuple #[.int .i64 (k : Int), .bool true] := AS.facts_get hF 42 (by simp)
     clear hF
     simp only [h42] at hK ⊢
     clear h42
     go_simp
     exact hK.out _ _ (Below.refl _ _) (rfl) trivial
    refine AS.sc rfl rfl rfl ?_ ?_
    ·intro k_ u w_ hk_ hJ hF K hK
     have h34 : u 34 = .tuple #[.int .i64 (k : Int), .bool true] := AS.facts_get hF 34 (by simp)
     clear hF
     simp only [h34] at hK ⊢
     clear h34
     go_simp
     exact hK.out _ _ (Below.refl _ _) (rfl) trivial
    refine AS.sc rfl rfl rfl ?_ ?_
    ·intro k_ u w_ hk_ hJ hF K hK
     have h34 : u 34 = .tuple #[.int .i64 (k : Int), .bool true] := AS.facts_get hF 34 (by simp)
     clear hF
     simp only [h34] at hK ⊢
     clear h34
     go_simp
     exact hK.out _ _ (Below.refl _ _) (rfl) trivial
    refine AS.sc rfl rfl rfl ?_ ?_
    ·intro k_ u w_ hk_ hJ hF K hK
     have h43 : u 43 = .int .i64 (k : Int) := AS.facts_get hF 43 (by simp)
     clear hF
     simp only [h43] at hK ⊢
     clear h43
     go_simp
     exact hK.out _ _ (Below.refl _ _) (rfl) trivial
    refine AS.sc rfl rfl rfl ?_ ?_
    ·intro k_ u w_ hk_ hJ hF K hK
     have h44 : u 44 = .bool true := AS.facts_get hF 44 (by simp)
     clear hF
     simp only [h44] at hK ⊢
     clear h44
     go_simp
     exact hK.out _ _ (Below.refl _ _) (rfl) trivial
    exact AS.StepsOk.nil
   ·intro u W9 hJ9 hF
    have h8 : u 8 = .int .i64 (k : Int) := AS.facts_get hF 8 (by simp [geFa, AS.temps])
    have h9 : u 9 = .bool true := AS.facts_get hF 9 (by simp [geFa, AS.temps])
    have hB9 : Below wr.heap.size wr W9 := hJ9
    clear hF hJ9
    simp only [h8, h9]
    clear h8 h9
    have HG8 := Lib.hid (HG.out.up hB9)
    have HK8 := Lib.hid (HK.out.up hB9)
    have hB8 := hB.trans (hB9.mono hsz)
    clear HG HK HC20 HD5 HFI hB hB9
    go_wp2_with fail
    go_roundg (g.m - (k + 1))
    case measure => omega
    case rel => exact ⟨k + 1, by go_num, by omega, by omega, HG8, HK8, hB8⟩
  ·have hke : k = g.m := by omega
   have hltz : ¬ (k : Int) < (g.m : Int) := by omega
   have HSZ := Lib.hid hsz
   clear hke HFK
   have c20 := HG.out.c20
   by_cases hm1 : g.m = 1
   ·have em : ((g.m : Int) == 1) = true := by rw [hm1]; rfl
    clear hm1
    go_wp2_with (first
     | (refine wpList_load_is rfl 29 _ rfl (.pointer (some ⟨s0, 0, none⟩)) rfl X (gb_lV HG.out HX.out) ?_) | (refine wpList_load_if rfl 29 _ rfl (.pointer (some ⟨s0, 0, none⟩)) rfl X (gb_lV HG.out HX.out) ?_) | (refine wp_load_is 29 _ rfl (.pointer (some ⟨s0, 0, none⟩)) rfl X (gb_lV HG.out HX.out) ?_)
     | (go_at_call 10; (with_reducible refine (HVG.out _ HK.out).mono ?_); rintro e1 w5 ⟨rfl, hb⟩; have hB2 := hB.trans (hb.mono HSZ.out); have HSZ2 := Lib.hid (Nat.le_trans HSZ.out hb.size); have HG2 := Lib.hid (HG.out.up hb); have HK2 := Lib.hid (HK.out.up hb); clear hb hB HSZ HG HK; have hB := hB2; have HSZ := HSZ2; have HG := HG2; have HK := HK2; clear hB2 HSZ2 HG2 HK2))
    go_ret
    exact ⟨rfl, hB⟩
   have em : ((g.m : Int) == 1) = false := beq_eq_false_iff_ne.2 (by omega)
   have hm2 : 2 ≤ g.m := by omega
   clear hm1
   go_upto_region 13 with fail
   go_cut [11, 12] from 60 to 61 (fun v11 v12 wx => ∃ p q, v11 = .pointer (some ⟨p, 0, none⟩) ∧ v12 = .pointer (some ⟨q, 0, none⟩) ∧ Hid (Two wr wx p q g))
   case first =>
    refine wp_region_held_drew (S := fun w9 => Below wr.heap.size wr w9) (by kernel_rfl) (dc_drew (Below.refl _ _)) (fun hH => ?_)
    refine wpAnyH_takeD (i := 0) (v := X) (some 60) rfl rfl (by kernel_rfl) (by kernel_rfl) (by kernel_rfl) (fun _ _ _ h => h) (yieldsIf_load_is (by rfl) 29 _ rfl (.pointer (some ⟨s0, 0, none⟩)) rfl X (fun w9 h9 => gb_lV (HG.out.up h9) HX.out)) hH ?_
    try simp only [Act.put, List.setIfInBounds_toArray, List.set_cons_zero, List.set_cons_succ]
    refine wpAnyH_takeD (i := 1) (v := X) (some 61) rfl rfl (by kernel_rfl) (by kernel_rfl) (by kernel_rfl) (fun _ _ _ h => h) (yieldsIf_load_is (by rfl) 29 _ rfl (.pointer (some ⟨s0, 0, none⟩)) rfl X (fun w9 h9 => gb_lV (HG.out.up h9) HX.out)) hH ?_
    try simp only [Act.put, List.setIfInBounds_toArray, List.set_cons_zero, List.set_cons_succ]
    refine wpAnyH_ready (rs := [2, 3]) (by kernel_rfl) (by simp) ?_
    refine AllReadyH.cons rfl (fun K hK => ?_) (AllReadyH.cons rfl (fun K hK => ?_) AllReadyH.nil)
    ·go_simp
     refine hK.out _ _ (below_new hH _) (fun hH1 => ?_)
     clear hK K
     try simp only [Act.put, List.setIfInBounds_toArray, List.set_cons_zero, List.set_cons_succ]
     refine wpAnyH_ready (rs := [3]) (by kernel_rfl) (by simp) ?_
     refine AllReadyH.cons rfl (fun K hK => ?_) AllReadyH.nil
     go_simp
     refine hK.out _ _ (below_new hH1 _) (fun hH2 => ?_)
     clear hK K
     try simp only [Act.put, List.setIfInBounds_toArray, List.set_cons_zero, List.set_cons_succ]
     have ht0 : ((wr.drew.alloc (.cells zGr 29)).alloc (.cells zGr 29)).there wr.heap.size 0 21 := (World.there_alloc (there_new wr.drew zGr 29) _)
     have ht1 : ((wr.drew.alloc (.cells zGr 29)).alloc (.cells zGr 29)).there (wr.heap.size + 1) 0 21 := there_two wr
     refine wpAnyH_ready (rs := [4]) (by kernel_rfl) (by simp) ?_
     refine AllReadyH.cons rfl (fun K hK => ?_) AllReadyH.nil
     rw [if_pos (by rfl)]
     refine wp_store_grp _ _ rfl wr.heap.size rfl X rfl g HX.out ht0 ?_
     refine hK.out _ _ (below_setCells (by omega) _ _ hH2) (fun hH3 => ?_)
     clear hK K
     try simp only [Act.put, List.setIfInBounds_toArray]
     refine wpAnyH_ready (rs := [5]) (by kernel_rfl) (by simp) ?_
     refine AllReadyH.cons rfl (fun K hK => ?_) AllReadyH.nil
     rw [if_pos (by rfl)]
     refine wp_store_grp _ _ rfl (wr.heap.size + 1) rfl X rfl g HX.out (World.there_setCells ht1 _ _ _) ?_
     refine hK.out _ _ (below_setCells (by omega) _ _ hH3) (fun hH4 => ?_)
     clear hK K
     try simp only [Act.put]
     refine wpAnyH_done (by kernel_rfl) ?_ _
     go_wp2_with fail
     go_meet
     exact ⟨_, _, rfl, rfl, Lib.hid (two_is wr g (.inl ⟨rfl, rfl⟩) (.inl ⟨rfl, rfl⟩))⟩
    ·go_simp
     refine hK.out _ _ (below_new hH _) (fun hH1 => ?_)
     clear hK K
     try simp only [Act.put, List.setIfInBounds_toArray, List.set_cons_zero, List.set_cons_succ]
     refine wpAnyH_ready (rs := [2]) (by kernel_rfl) (by simp) ?_
     refine AllReadyH.cons rfl (fun K hK => ?_) AllReadyH.nil
     go_simp
     refine hK.out _ _ (below_new hH1 _) (fun hH2 => ?_)
     clear hK K
     try simp only [Act.put, List.setIfInBounds_toArray, List.set_cons_zero, List.set_cons_succ]
     have ht0 : ((wr.drew.alloc (.cells zGr 29)).alloc (.cells zGr 29)).there wr.heap.size 0 21 := (World.there_alloc (there_new wr.drew zGr 29) _)
     have ht1 : ((wr.drew.alloc (.cells zGr 29)).alloc (.cells zGr 29)).there (wr.heap.size + 1) 0 21 := there_two wr
     refine wpAnyH_ready (rs := [4]) (by kernel_rfl) (by simp) ?_
     refine AllReadyH.cons rfl (fun K hK => ?_) AllReadyH.nil
     rw [if_pos (by rfl)]
     refine wp_store_grp _ _ rfl (wr.heap.size + 1) rfl X rfl g HX.out ht1 ?_
     refine hK.out _ _ (below_setCells (by omega) _ _ hH2) (fun hH3 => ?_)
     clear hK K
     try simp only [Act.put, List.setIfInBounds_toArray]
     refine wpAnyH_ready (rs := [5]) (by kernel_rfl) (by simp) ?_
     refine AllReadyH.cons rfl (fun K hK => ?_) AllReadyH.nil
     rw [if_pos (by rfl)]
     refine wp_store_grp _ _ rfl wr.heap.size rfl X rfl g HX.out (World.there_setCells ht0 _ _ _) ?_
     refine hK.out _ _ (below_setCells (by omega) _ _ hH3) (fun hH4 => ?_)
     clear hK K
     try simp only [Act.put]
     refine wpAnyH_done (by kernel_rfl) ?_ _
     go_wp2_with fail
     go_meet
     exact ⟨_, _, rfl, rfl, Lib.hid (two_is wr g (.inr ⟨rfl, rfl⟩) (.inl ⟨rfl, rfl⟩))⟩
   case rest =>
   rename World => wc
   obtain ⟨p, q, rfl, rfl, HTW⟩ := hcut
   have hp1 := HTW.out.hp
   have hq1 := HTW.out.hq
   have hne := HTW.out.ne
   have hBc := HTW.out.below
   have HG1 := Lib.hid (HG.out.up hBc)
   have HK1 := Lib.hid (HK.out.up hBc)
   have hsp : s0 < p := by have := HG.out.lt; omega
   have hsq : s0 < q := by have := HG.out.lt; omega
   have c20' : wc.cell? ⟨s0, 20, none⟩ = some (.slice (some ⟨b0, off, none⟩) g.m g.d) := by rw [← HEE.out]; exact HG1.out.c20
   obtain ⟨i20, f20⟩ := HTW.out.fp 20 (by omega)
   rw [Nat.zero_add] at i20 f20
   have z20 : wc.cell? ⟨p, 20, none⟩ = some (.slice (some ⟨b0, off, none⟩) g.m g.d) := by rw [← HEE.out]; exact HTW.out.gp.c20
   have hcd := HCD.out
   have em1 : ((g.m : Int) - 1) = ((g.m - 1 : Nat) : Int) := by omega
   have hm14 := HSM.out.m
   clear c20 HG
   go_upto_region 15 with fail
   have HP1 : Hid (GB (wc.setCell ⟨p, 20, none⟩ (.slice (some ⟨b0, off, none⟩) (g.m - 1) g.d)) p (withE0 g (some ⟨b0, off, none⟩) (g.m - 1) g.d)) := Lib.hid (HTW.out.gp.setE _ _ _)
   have HQ1 := HTW.out.gq.far hne.symm 20 (.slice (some ⟨b0, off, none⟩) (g.m - 1) g.d)
   have HS1 := HG1.out.far (Nat.ne_of_lt hsp) 20 (.slice (some ⟨b0, off, none⟩) (g.m - 1) g.d)
   have hB1 : Below wr.heap.size wr (wc.setCell ⟨p, 20, none⟩ (.slice (some ⟨b0, off, none⟩) (g.m - 1) g.d)) := Below.setCell (p := ⟨p, 20, none⟩) hBc hp1 _
   have hT1 := (World.there_setCells HTW.out.fq p 20 [.slice (some ⟨b0, off, none⟩) (g.m - 1) g.d])
   simp only [World.setCells] at hT1
   obtain ⟨q20, r20⟩ := hT1 20 (by omega)
   rw [Nat.zero_add] at q20 r20
   clear hT1 q20 c20' z20 i20 f20 HG1 HK1 HTW hBc
   generalize wc.setCell ⟨p, 20, none⟩ (.slice (some ⟨b0, off, none⟩) (g.m - 1) g.d) = w1 at *
   have HQ := Lib.hid HQ1
   have HS := Lib.hid HS1
   have HK1 := Lib.hid (HK.out.up hB1)
   have HB1 := Lib.hid hB1
   have c1 : w1.cell? ⟨s0, 20, none⟩ = some (.slice (some ⟨b0, off, none⟩) g.m g.d) := by rw [← HEE.out]; exact HS1.c20
   have hE1 : Hid (EntsAt w1 (some ⟨b0, off, none⟩) G) := Lib.hid (by rw [← HEE.out]; exact HK1.out.he)
   have hsl : s0 < w1.heap.size := HS1.lt
   have hpl : p < w1.heap.size := HP1.out.lt
   have hql : q < w1.heap.size := HQ1.lt
   have y20 : w1.cell? ⟨q, 20, none⟩ = some (.slice (some ⟨b0, off, none⟩) g.m g.d) := by rw [← HEE.out]; exact HQ1.c20
   clear hB1 HQ1 HS1
   go_upto_region 16 with (at_builtin; refine wpList_append_ents w1 rfl (.tmp 68) (.tmp 70) rfl w1.heap.size rfl (by rfl) (some ⟨b0, off, none⟩) g.m g.d (by rfl) G hE1.out HLG.out (by omega) (by omega) ?_; intro w2 r c2 hEB hb2 hr; have hbq := hb2.out.block q hql; have y2 : w2.cell? ⟨q, 20, none⟩ = some (.slice (some ⟨b0, off, none⟩) g.m g.d) := (by simp only [World.cell?, hbq]; exact y20); have r2 : w2.frozen? ⟨q, 20, none⟩ = false := (by simp only [World.frozen?, hbq]; exact r20); clear hbq)
   have hB2 := hb2.out
   have hr2 := hr.out
   have hrl := hEB.out.lt
   have HP3 : GB (w2.setCell ⟨q, 20, none⟩ (.slice (some ⟨r, 0, none⟩) g.m c2)) p (withE0 g (some ⟨b0, off, none⟩) (g.m - 1) g.d) := (HP1.out.up hB2).far hne 20 _
   have HQ3 : GB (w2.setCell ⟨q, 20, none⟩ (.slice (some ⟨r, 0, none⟩) g.m c2)) q (withE0 g (some ⟨r, 0, none⟩) g.m c2) := (HQ.out.up hB2).setE _ _ _
   have HS3 : GB (w2.setCell ⟨q, 20, none⟩ (.slice (some ⟨r, 0, none⟩) g.m c2)) s0 g := (HS.out.up hB2).far (Nat.ne_of_lt hsq) 20 _
   have hw2 : Below wr.heap.size wr w2 := HB1.out.trans (hB2.mono HB1.out.size)
   have hw3 : Below wr.heap.size wr (w2.setCell ⟨q, 20, none⟩ (.slice (some ⟨r, 0, none⟩) g.m c2)) := Below.setCell (p := ⟨q, 20, none⟩) hw2 hq1 _
   have hEB3 : EntBlk (w2.setCell ⟨q, 20, none⟩ (.slice (some ⟨r, 0, none⟩) g.m c2)) r G := hEB.out.blk (Below.heap_setCell w2 ⟨q, 20, none⟩ _ r (by show r ≠ q; omega)) (Nat.le_of_eq (World.size_setCell _ _ _).symm)
   clear y2 r2 c1 y20 r20 hE1 HP1 HQ HS hb2 hr hEB hB2 hw2 HB1 HK1
   generalize w2.setCell ⟨q, 20, none⟩ (.slice (some ⟨r, 0, none⟩) g.m c2) = w3 at *
   obtain ⟨i, hi1, hi2, ei⟩ : ∃ i : Nat, 1 ≤ i ∧ i < g.m ∧ 1 + sa % ((g.m : Int) - 1) = (i : Int) := by
    have z1 := Int.emod_nonneg sa (b := (g.m : Int) - 1) (by omega)
    have z2 := Int.emod_lt_of_pos sa (b := (g.m : Int) - 1) (by omega)
    exact ⟨(1 + sa % ((g.m : Int) - 1)).toNat, by omega, by omega, by omega⟩
   obtain ⟨j, hj1, hj2, ej⟩ : ∃ j : Nat, 1 ≤ j ∧ j < g.m ∧ 1 + sb % ((g.m : Int) - 1) = (j : Int) := by
    have z1 := Int.emod_nonneg sb (b := (g.m : Int) - 1) (by omega)
    have z2 := Int.emod_lt_of_pos sb (b := (g.m : Int) - 1) (by omega)
    exact ⟨(1 + sb % ((g.m : Int) - 1)).toNat, by omega, by omega, by omega⟩
   have HP3 := Lib.hid HP3
   have HQ3 := Lib.hid HQ3
   have HS3 := Lib.hid HS3
   have HW3 := Lib.hid hw3
   have HEB := Lib.hid hEB3
   have HJ := Lib.hid ej
   have HI := Lib.hid ei
   clear ei ej hw3 hEB3 em1
   go_quiet (fail)
   go_upto_region 17 with fail
   have e1 : wrap64 (1 + sa % ((g.m : Int) - 1)) = (i : Int) := by rw [HI.out]; unfold wrap64; omega
   have e2 : wrap64 (1 + sb % ((g.m : Int) - 1)) = (j : Int) := by rw [HJ.out]; unfold wrap64; omega
   rw [e1, e2]
   clear e1 e2 HI HJ
   have HP4 := Lib.hid (HP3.out.up (below_drewN (Below.refl _ _) nq))
   have HQ4 := Lib.hid (HQ3.out.up (below_drewN (Below.refl _ _) nq))
   have HS4 := Lib.hid (HS3.out.up (below_drewN (Below.refl _ _) nq))
   have HEB4 : Hid (EntBlk (w3.drewN nq) r G) := Lib.hid (HEB.out.blk rfl (Nat.le_refl _))
   have HW4 := Lib.hid (below_drewN HW3.out nq)
   clear HP3 HQ3 HS3 HW3 HEB
   generalize World.drewN _ nq = w4 at *
   obtain ⟨x, hx⟩ : ∃ x, G.getD i ent0 = x := ⟨_, rfl⟩
   obtain ⟨y, hy⟩ : ∃ y, G.getD j ent0 = y := ⟨_, rfl⟩
   obtain ⟨x0, x1, x2, x3, x4⟩ := entblk_at HEB4.out (i := i) (by rw [HLG.out]; exact hi2)
   obtain ⟨y0, y1, y2, y3, y4⟩ := entblk_at HEB4.out (i := j) (by rw [HLG.out]; exact hj2)
   rw [hx] at x0 x1 x2 x3 x4
   rw [hy] at y0 y1 y2 y3 y4
   have d20 := HQ4.out.c20
   have hfz := HEB4.out.fz
   have hii : (i : Int) < (g.m : Int) := by omega
   have hjj : (j : Int) < (g.m : Int) := by omega
   have hli : i < G.length := by rw [HLG.out]; exact hi2
   have hlj : j < G.length := by rw [HLG.out]; exact hj2
   have hrp : r ≠ p := by omega
   have hrq : r ≠ q := by omega
   have hrs : r ≠ s0 := by omega
   have hend : Hid (Swd wr ((w4.setCells r (i * 5) (entC y)).setCells r (j * 5) (entC x)) s0 p q g (some ⟨b0, off, none⟩) (some ⟨r, 0, none⟩) c2 (swapG G i j)) := Lib.hid (by
    rw [← hx, ← hy]
    exact swd_is HP4.out HQ4.out HS4.out HEB4.out HW4.out (by omega) hrs hrp hrq hli hlj)
   go_cut [12] from 85 to 102 (fun v12 wx => v12 = .pointer (some ⟨q, 0, none⟩) ∧ Hid (Swd wr wx s0 p q g (some ⟨b0, off, none⟩) (some ⟨r, 0, none⟩) c2 (swapG G i j)))
   case first =>
    rename_i J K' hJ hKK
    by_cases hij : i = j
    ·subst hij
     obtain rfl : x = y := hx.symm.trans hy
     go_region
     refine hKK _ _ (Met.intro (hJ _ _ ?_))
     repeat apply Exists.intro
     refine ⟨⟨rfl, ?_⟩, rfl⟩
     exact Lib.hid hend.out.drew
    ·go_region
     refine hKK _ _ (Met.intro (hJ _ _ ?_))
     repeat apply Exists.intro
     refine ⟨⟨rfl, ?_⟩, rfl⟩
     exact Lib.hid hend.out.drew
   case rest =>
   rename World => w5
   obtain ⟨rfl, HSW⟩ := hcut
   have HG5 := Lib.hid HSW.out.gs
   have HP5 := Lib.hid HSW.out.gp
   have HQ5 := Lib.hid HSW.out.gq
   have HK5 := Lib.hid (HK.out.up HSW.out.below)
   have HB5 := Lib.hid (hB.trans (HSW.out.below.mono hsz))
   have HL5 : Hid (s0 ≤ w5.heap.size) := Lib.hid (Nat.le_of_lt HSW.out.gs.lt)
   have HKP : Hid (GrK w5 (withE g (some ⟨b0, off, none⟩) (g.m - 1) g.d) L (lessG G)) := Lib.hid (grk_with HK5.out (by rw [less_len, HLG.out]) (by rw [← HEE.out]; exact HK5.out.he.take _) (fun e => less_mem))
   have HKQ : Hid (GrK w5 (withE g (some ⟨r, 0, none⟩) g.m c2) L (swapG G i j)) := Lib.hid (grk_with HK5.out (by rw [swap_len, HLG.out]) HSW.out.he (fun e => swap_mem hli hlj))
   obtain ⟨XP, hXP⟩ : ∃ XP : Value, XP = grpV (withE g (some ⟨b0, off, none⟩) (g.m - 1) g.d) := ⟨_, rfl⟩
   obtain ⟨XQ, hXQ⟩ : ∃ XQ : Value, XQ = grpV (withE g (some ⟨r, 0, none⟩) g.m c2) := ⟨_, rfl⟩
   have hV2 : ∀ w, GrK w (withE g (some ⟨b0, off, none⟩) (g.m - 1) g.d) L (lessG G) → Calls Try.prog 10 #[XP] w fun e' w' => e' = .returned (.bool true) ∧ Below w.heap.size w w' := fun w h => by
    rw [hXP]
    exact HVL.out _ _ _ _ w (HGR.out trivial _ _ _ _ (less_ok HEN.out (by rw [HLG.out]; exact hm2))) h (sm_with HSM.out (by omega) (fun e => less_mem)) (fun e => less_mem)
   have hV3 : ∀ w, GrK w (withE g (some ⟨r, 0, none⟩) g.m c2) L (swapG G i j) → Calls Try.prog 10 #[XQ] w fun e' w' => e' = .returned (.bool true) ∧ Below w.heap.size w w' := fun w h => by
    rw [hXQ]
    exact HVL.out _ _ _ _ w (HGR.out trivial _ _ _ _ (swap_ok HEN.out ⟨hi1, hli⟩ ⟨hj1, hlj⟩)) h (sm_with HSM.out hm14 (fun e => swap_mem hli hlj)) (fun e => swap_mem hli hlj)
   have HV2 := Lib.hid hV2
   have HV3 := Lib.hid hV3
   have HXP := Lib.hid hXP
   have HXQ := Lib.hid hXQ
   clear hV2 hV3 hXP hXQ HSW hB HK HGR HVL hend HP4 HQ4 HS4 HEB4 HW4 x0 x1 x2 x3 x4 y0 y1 y2 y3 y4 d20 hfz hx hy HP3 HQ3 HS3 HSZ hsz HLG HEN HSM
   go_wp2_with (first
    | (refine wpList_load_is rfl 29 _ rfl (.pointer (some ⟨s0, 0, none⟩)) rfl X (gb_lV HG5.out HX.out) ?_) | (refine wpList_load_if rfl 29 _ rfl (.pointer (some ⟨s0, 0, none⟩)) rfl X (gb_lV HG5.out HX.out) ?_)
    | (refine wpList_load_is rfl 29 _ rfl (.pointer (some ⟨p, 0, none⟩)) rfl XP (gb_lV HP5.out HXP.out) ?_) | (refine wpList_load_if rfl 29 _ rfl (.pointer (some ⟨p, 0, none⟩)) rfl XP (gb_lV HP5.out HXP.out) ?_)
    | (refine wpList_load_is rfl 29 _ rfl (.pointer (some ⟨q, 0, none⟩)) rfl XQ (gb_lV HQ5.out HXQ.out) ?_) | (refine wpList_load_if rfl 29 _ rfl (.pointer (some ⟨q, 0, none⟩)) rfl XQ (gb_lV HQ5.out HXQ.out) ?_)
    | (go_at_call 10; (with_reducible refine (HVG.out _ HK5.out).mono ?_); rintro e1 w6 ⟨rfl, hb⟩; (have hZ := HB5.out.trans (hb.mono HL5.out)); (have HL9 := Lib.hid (Nat.le_trans HL5.out hb.size)); (replace HG5 := Lib.hid (HG5.out.up hb)); (replace HP5 := Lib.hid (HP5.out.up hb)); (replace HQ5 := Lib.hid (HQ5.out.up hb)); (replace HK5 := Lib.hid (HK5.out.up hb)); (replace HKP := Lib.hid (HKP.out.up hb)); (replace HKQ := Lib.hid (HKQ.out.up hb)); (replace HB5 := Lib.hid hZ); (replace HL5 := HL9); clear hb hZ HL9)
    | (go_at_call 10; (with_reducible refine (HV2.out _ HKP.out).mono ?_); rintro e1 w7 ⟨rfl, hb⟩; (have hZ := HB5.out.trans (hb.mono HL5.out)); (have HL9 := Lib.hid (Nat.le_trans HL5.out hb.size)); (replace HG5 := Lib.hid (HG5.out.up hb)); (replace HP5 := Lib.hid (HP5.out.up hb)); (replace HQ5 := Lib.hid (HQ5.out.up hb)); (replace HK5 := Lib.hid (HK5.out.up hb)); (replace HKP := Lib.hid (HKP.out.up hb)); (replace HKQ := Lib.hid (HKQ.out.up hb)); (replace HB5 := Lib.hid hZ); (replace HL5 := HL9); clear hb hZ HL9)
    | (go_at_call 10; (with_reducible refine (HV3.out _ HKQ.out).mono ?_); rintro e1 w8 ⟨rfl, hb⟩; (have hZ := HB5.out.trans (hb.mono HL5.out)); (have HL9 := Lib.hid (Nat.le_trans HL5.out hb.size)); (replace HG5 := Lib.hid (HG5.out.up hb)); (replace HP5 := Lib.hid (HP5.out.up hb)); (replace HQ5 := Lib.hid (HQ5.out.up hb)); (replace HK5 := Lib.hid (HK5.out.up hb)); (replace HKP := Lib.hid (HKP.out.up hb)); (replace HKQ := Lib.hid (HKQ.out.up hb)); (replace HB5 := Lib.hid hZ); (replace HL5 := HL9); clear hb hZ HL9))
   go_ret
   exact ⟨rfl, HB5.out⟩
end Go.Proofs.Ytdfnlakimacbpaa
