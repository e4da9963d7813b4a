/- Contracts of the functions that the statements reach, part 5: what was proved of each, callees first. -/
import Derived.Lib.SmallJoins
import Derived.Test.YtbcphcheomojdaaJN4
namespace Go.Proofs.Ytbcphcheomojdaa
open Go.RowKit
theorem acc_row2 {w : World} {A : Option Addr} {L : List Acc} (h : AccAt w A L) : RowAt lyA w A L := by
 intro h0
 obtain ⟨b, off, e, hlt, hc⟩ := h h0
 refine ⟨b, off, e, hlt, fun j v hj => ?_⟩
 have hjl : j < L.length * 4 := by
  have := lyA.all_len L
  rw [show lyA.s = 4 from rfl] at this
  rw [← this]
  exact (List.getElem?_eq_some_iff.1 hj).1
 rw [show lyA.all L = L.flatMap celA from rfl] at hj
 obtain ⟨q, r, hr, rfl⟩ : ∃ q r, r < 4 ∧ j = q * 4 + r := ⟨j / 4, j % 4, Nat.mod_lt _ (by omega), by omega⟩
 obtain ⟨k0, k1, k2, k3⟩ := celA_get L q (by omega)
 obtain ⟨d0, d1, d2, d3⟩ := hc q (by omega)
 match r, hr with
 | 0, _ => rw [Nat.add_zero] at hj ⊢; rw [k0] at hj; injection hj with hj; subst hj; exact d0
 | 1, _ => rw [k1] at hj; injection hj with hj; subst hj; rw [← Nat.add_assoc]; exact d1
 | 2, _ => rw [k2] at hj; injection hj with hj; subst hj; rw [← Nat.add_assoc]; exact d2
 | 3, _ => rw [k3] at hj; injection hj with hj; subst hj; rw [← Nat.add_assoc]; exact d3
theorem ents_row2 {w : World} {A : Option Addr} {G : List Ent} (h : EntsAt w A G) : RowAt lyE w A G := by
 intro h0
 obtain ⟨b, off, e, hlt, hc⟩ := h h0
 refine ⟨b, off, e, hlt, fun j v hj => ?_⟩
 have hjl : j < G.length * 5 := by
  have := lyE.all_len G
  rw [show lyE.s = 5 from rfl] at this
  rw [← this]
  exact (List.getElem?_eq_some_iff.1 hj).1
 rw [show lyE.all G = G.flatMap entC from rfl] at hj
 obtain ⟨q, r, hr, rfl⟩ : ∃ q r, r < 5 ∧ j = q * 5 + r := ⟨j / 5, j % 5, Nat.mod_lt _ (by omega), by omega⟩
 rw [entC_get G q (by omega) r hr] at hj
 obtain ⟨d0, d1, d2, d3, d4⟩ := hc q (by omega)
 match r, hr with
 | 0, _ => injection hj with hj; subst hj; exact d0
 | 1, _ => injection hj with hj; subst hj; rw [← Nat.add_assoc]; exact d1
 | 2, _ => injection hj with hj; subst hj; rw [← Nat.add_assoc]; exact d2
 | 3, _ => injection hj with hj; subst hj; rw [← Nat.add_assoc]; exact d3
 | 4, _ => injection hj with hj; subst hj; rw [← Nat.add_assoc]; exact d4
theorem own_put5 {e : TypeId} {w : World} {base g n c i : Nat} {L : List Ent} {a : Ent} (h : OwnR lyE e w base (.slice (some ⟨g, 0, none⟩) n c) L) (hi : L[i]? = some a) (a' : Ent) : OwnR lyE e (w.setCells g (i * 5) (entC a')) base (.slice (some ⟨g, 0, none⟩) n c) (L.set i a') := by
 have hil : i < L.length := (List.getElem?_eq_some_iff.1 hi).1
 have st : ∀ (b : Ent), (L.set i b)[i]? = some b := fun b => by rw [List.getElem?_set_self hil]
 have h0 := h.setf (j := 0) (a' := { a with nm := a'.nm }) hi (by decide) (.string a'.nm) rfl
 have h1 := h0.setf (j := 1) (a' := { a with nm := a'.nm, cur := a'.cur }) (st _) (by decide) (.string a'.cur) rfl
 rw [List.set_set] at h1
 have h2 := h1.setf (j := 2) (a' := { a with nm := a'.nm, cur := a'.cur, A := a'.A, n := a'.n, c := a'.c }) (st _) (by decide) (.slice a'.A a'.n a'.c) rfl
 rw [List.set_set] at h2
 have h3 := h2.setf (j := 3) (a' := { a with nm := a'.nm, cur := a'.cur, A := a'.A, n := a'.n, c := a'.c, B := a'.B, m := a'.m, d := a'.d }) (st _) (by decide) (.slice a'.B a'.m a'.d) rfl
 rw [List.set_set] at h3
 have h4 := h3.setf (j := 4) (a' := a') (st _) (by decide) (.bool a'.jt) rfl
 rw [List.set_set] at h4
 exact h4
def bareE (e : Ent) (A : Option Addr) (c : Nat) : Ent := ⟨e.nm, e.cur, A, e.n, c, none, 0, 0, e.jt, e.L.map noPar, []⟩
def strE (e : Ent) : Ent := ⟨e.nm, e.cur, none, e.n, 0, none, e.m, 0, e.jt, e.L, e.K⟩
def Bar (P G : List Ent) : Prop := P.map strE = G.map fun e => strE (bareE e none 0)
theorem Bar.snoc {P G : List Ent} {k : Nat} {e : Ent} (h : Bar P (G.take k)) (he : G[k]? = some e) (A : Option Addr) (c : Nat) : Bar (P ++ [bareE e A c]) (G.take (k + 1)) := by
 unfold Bar at h ⊢
 rw [List.map_append, h, List.take_add_one, he, List.map_append]
 rfl
def PRow (B : Nat) (P : List Ent) (w : World) : Prop := ∀ e ∈ P, OwnR lyA 82 w B (.slice e.A e.n e.c) e.L ∧ e.K = [] ∧ e.m = 0 ∧ WfC e.L
theorem PRow.up {B : Nat} {P : List Ent} {w w' : World} (h : PRow B P w) (hb : Below w.heap.size w w') : PRow B P w' := fun e he => ⟨(h e he).1.up hb, (h e he).2⟩
theorem rowA_only {B g : Nat} {v : Value} {L : List Acc} {w w' : World} (h : OwnR lyA 82 w B v L) (hb : Only (fun k => k = g) w w') (hg : g < B ∨ (∃ (cs : Array Value) (t : TypeId), w.heap[g]? = some (.cells cs t (0, 0)) ∧ t ≠ 82) ∨ w.heap.size ≤ g) : OwnR lyA 82 w' B v L := by
 refine h.blk fun j hj => hb.blk j (h.lt hj).2 ?_
 intro ej
 have ej2 : j = g := ej
 rcases hg with hg | ⟨cs, t, ht, hne⟩ | hg
 ·have := (h.lt hj).1; omega
 ·rcases h.2 with ⟨h1, _⟩ | ⟨g', cap, cur, h1, _, h2, _⟩
  ·rw [h1] at hj; cases hj
  ·rw [h1] at hj
   have h3 : g' = j := by injection hj
   rw [h3, ej2, ht] at h2
   injection h2 with h2
   injection h2 with _ h4
   exact hne h4
 ·have := (h.lt hj).2; omega
theorem PRow.only {B g : Nat} {P : List Ent} {w w' : World} (h : PRow B P w) (hb : Only (fun k => k = g) w w') (hg : g < B ∨ (∃ (cs : Array Value) (t : TypeId), w.heap[g]? = some (.cells cs t (0, 0)) ∧ t ≠ 82) ∨ w.heap.size ≤ g) : PRow B P w' := fun e he => ⟨rowA_only (h e he).1 hb hg, (h e he).2⟩
theorem row_blk {α : Type} {R : Lay α} {e : TypeId} {w : World} {base g n c : Nat} {L : List α} (h : OwnR R e w base (.slice (some ⟨g, 0, none⟩) n c) L) : ∃ cur, w.heap[g]? = some (.cells cur e (0, 0)) := by
 rcases h.2 with ⟨h1, _⟩ | ⟨g', cap, cur, h1, _, hg, _⟩
 ·cases h1
 ·injection h1 with h1 _ _
  injection h1 with h1
  injection h1 with h1 _ _
  subst h1
  exact ⟨cur, hg⟩
theorem wfc_nopar {L : List Acc} (h : WfC L) : WfC (L.map noPar) := fun a ha => by
 obtain ⟨b, hb, rfl⟩ := List.mem_map.1 ha
 exact h b hb
theorem wpList_store_at {P : Program} {ops : Array Oper} {rest : List Oper} {o : Oper} {a : Act} {w : World} {Q : Exit → Act → World → Prop} (hg : o.guard = none) (ty : TypeId) (x y : Operand) (hop : o.op = .store ty x y)
  (b off : Nat) (hx : a.eval x = .pointer (some ⟨b, off, none⟩)) (vs : List Value) (hy : a.eval y = .agg vs.toArray) (ht : w.there b off vs.length)
  (hi : (P.info? ty).map (·.size) = some vs.toArray.size) (h1 : vs.toArray.all (·.oneCell') = true)
  (h : ∀ W, Hid (W = w.setCells b off vs) → wpList P ops Q rest (a.put o.dst undef) W) : wpList P ops Q (o :: rest) a w :=
 wpList_store_mid hg ty x y hop b off vs.toArray hx hy (by simpa using ht) hi h1 (h _ (Lib.hid rfl))
abbrev gAE (g : Grp) (A : Option Addr) (c : Nat) (E : Option Addr) (d : Nat) : Grp := { g with A := A, c := c, E := E, d := d }
def BareP (g : Grp) (L : List Acc) (G : List Ent) (e : Ending) (w' : World) : Prop := ∃ A c E d P, e = .returned (grpV (gAE g A c E d)) ∧ GrK w' (gAE g A c E d) (L.map noPar) P ∧ Bar P G
set_option maxRecDepth 100000 in
set_option maxHeartbeats 12800000 in
theorem bare_any (g : Grp) (L : List Acc) (G : List Ent) (w : World) (hk : GrK w g L G) (hs : Sm g G) : Calls Try.prog 29 #[grpV g] w fun e w' => BareP g L G e w' ∧ Below w.heap.size w w' := by
 obtain ⟨s0, hs0⟩ : ∃ s0, w.heap.size = s0 := ⟨_, rfl⟩
 obtain ⟨w2, hw2⟩ : ∃ w2, (w.alloc (.cells #[.string g.cur, .int .i64 g.cy, .int .i64 g.cm, .int .i64 g.cp, .slice g.A g.n g.c, .int .i64 g.r0, .int .i64 g.r1, .int .i64 g.r2, .int .i64 g.r3, .int .i64 g.r4, .int .i64 g.r5, .int .i64 g.r6, .int .i64 g.r7, .int .i64 g.r8, .int .i64 g.r9, .int .i64 g.r10, .int .i64 g.r11, .int .i64 g.r12, .int .i64 g.r13, .int .i64 g.r14, .slice g.E g.m g.d] 52)).alloc (.cells #[.string ⟨#[]⟩, .int .i64 0, .int .i64 0, .int .i64 0, .slice none 0 0, .int .i64 0, .int .i64 0, .int .i64 0, .int .i64 0, .int .i64 0, .int .i64 0, .int .i64 0, .int .i64 0, .int .i64 0, .int .i64 0, .int .i64 0, .int .i64 0, .int .i64 0, .int .i64 0, .int .i64 0, .slice none 0 0] 52) = w2 := ⟨_, rfl⟩
 have hGB : Wh 52 w2 s0 (grpC g) := by rw [← hw2, ← hs0]; exact (Wh.new w 52 (grpC g)).up (below_alloc_new _)
 have HZB : Hid (Wh 52 w2 (s0 + 1) [.string ⟨#[]⟩, .int .i64 0, .int .i64 0, .int .i64 0, .slice none 0 0, .int .i64 0, .int .i64 0, .int .i64 0, .int .i64 0, .int .i64 0, .int .i64 0, .int .i64 0, .int .i64 0, .int .i64 0, .int .i64 0, .int .i64 0, .int .i64 0, .int .i64 0, .int .i64 0, .int .i64 0, .slice none 0 0]) := Lib.hid (by
  rw [← hw2, ← hs0]
  have h9 := Wh.new (w.alloc (.cells #[.string g.cur, .int .i64 g.cy, .int .i64 g.cm, .int .i64 g.cp, .slice g.A g.n g.c, .int .i64 g.r0, .int .i64 g.r1, .int .i64 g.r2, .int .i64 g.r3, .int .i64 g.r4, .int .i64 g.r5, .int .i64 g.r6, .int .i64 g.r7, .int .i64 g.r8, .int .i64 g.r9, .int .i64 g.r10, .int .i64 g.r11, .int .i64 g.r12, .int .i64 g.r13, .int .i64 g.r14, .slice g.E g.m g.d] 52)) 52 [.string ⟨#[]⟩, .int .i64 0, .int .i64 0, .int .i64 0, .slice none 0 0, .int .i64 0, .int .i64 0, .int .i64 0, .int .i64 0, .int .i64 0, .int .i64 0, .int .i64 0, .int .i64 0, .int .i64 0, .int .i64 0, .int .i64 0, .int .i64 0, .int .i64 0, .int .i64 0, .int .i64 0, .slice none 0 0]
  rw [World.size_alloc] at h9
  exact h9)
 have HB2 : Hid (Below s0 w w2) := Lib.hid (by rw [← hw2, ← hs0]; exact below_new (below_alloc_new _) _)
 have HS2 : Hid (w2.heap.size = s0 + 2) := Lib.hid (by rw [← hw2, ← hs0]; simp)
 have HK2 := Lib.hid (hk.up (HB2.out.mono (Nat.le_of_eq hs0)))
 have HWC := Lib.hid (fun W (h : AccAt W g.A L) => wop_any g.A g.c L W (acc_row2 h) (by rw [hk.ln]; have := hs.n; omega))
 have HCE := Lib.hid (fun W (h : EntsAt W g.E G) => cloneE_any g.E g.d G W (ents_row2 h) (by rw [hk.lg]; have := hs.m; omega))
 rw [hk.ln] at HWC
 rw [hk.lg] at HCE
 have HKW := Lib.hid hk
 have HLG := Lib.hid hk.lg
 have HLN := Lib.hid hk.ln
 have HSM := Lib.hid hs
 have HS0 := Lib.hid hs0
 have c4 := hGB.at 4 _ rfl
 have HGB := Lib.hid hGB
 clear hk hs hGB
 go_enter Try.func29, Try.ntmps29
 go_upto_region 2 with (go_at_call 41; refine (HWC.out _ HK2.out.hz).mono ?_; rintro e w3 ⟨⟨A3, c3, rfl, ho⟩, hb⟩; have hg3 := HGB.out.up hb; have z4 := hg3.at 4 _ rfl; have y4 := hg3.frozen 4; have HG3 := Lib.hid hg3; have HO3 := Lib.hid ho; have HB3 := Lib.hid hb; clear hg3 ho hb)
 have hG4 := HG3.out.set 4 (.slice A3 g.n c3)
 have hO4 : OwnR lyA 82 (w3.setCell ⟨s0, 4, none⟩ (.slice A3 g.n c3)) (s0 + 2) (.slice A3 g.n c3) (L.map noPar) := (HO3.out.blk fun j hj => Below.heap_setCell w3 ⟨s0, 4, none⟩ _ j (by have := (HO3.out.lt hj).1; have := HS2.out; show j ≠ s0; omega)).low (Nat.le_of_eq HS2.out.symm)
 have hZ4 := (HZB.out.up HB3.out).same (Below.heap_setCell w3 ⟨s0, 4, none⟩ (.slice A3 g.n c3) (s0 + 1) (by show s0 + 1 ≠ s0; omega))
 have hB4 : Below s0 w (w3.setCell ⟨s0, 4, none⟩ (.slice A3 g.n c3)) := Below.setCell (p := ⟨s0, 4, none⟩) (HB2.out.trans (HB3.out.mono (by have := HS2.out; omega))) (Nat.le_refl _) _
 have hs4 : s0 + 2 ≤ (w3.setCell ⟨s0, 4, none⟩ (.slice A3 g.n c3)).heap.size := by rw [World.size_setCell]; have := HB3.out.size; have := HS2.out; omega
 clear z4 y4 c4 HG3 HO3 HB3 HGB HZB HWC hw2
 generalize w3.setCell ⟨s0, 4, none⟩ (.slice A3 g.n c3) = w4 at *
 have HG4 := Lib.hid hG4
 have HO4 := Lib.hid hO4
 have HZ4 := Lib.hid hZ4
 have HB4 := Lib.hid hB4
 have HS4 := Lib.hid hs4
 have HE4 : Hid (EntsAt w4 g.E G ∧ EntsK w4 G) := Lib.hid ⟨HKW.out.he.up (hB4.mono (Nat.le_of_eq HS0.out)), HKW.out.hk.up (hB4.mono (Nat.le_of_eq HS0.out))⟩
 have c20 := hG4.at 20 _ rfl
 clear hG4 hO4 hZ4 hB4 hs4 HK2
 go_upto_region 3 with (go_at_call 42; refine (HCE.out _ HE4.out.1).mono ?_; rintro e w5 ⟨⟨E5, d5, rfl, ho⟩, hb⟩; have hg5 := HG4.out.up hb; have z20 := hg5.at 20 _ rfl; have y20 := hg5.frozen 20; have HG5 := Lib.hid hg5; have HO5 := Lib.hid ho; have HB5 := Lib.hid hb; clear hg5 ho hb)
 have hG6 : Wh 52 (w5.setCell ⟨s0, 20, none⟩ (.slice E5 g.m d5)) s0 (grpC (gAE g A3 c3 E5 d5)) := HG5.out.set 20 (.slice E5 g.m d5)
 have hON : Only (fun k => k = s0) w5 (w5.setCell ⟨s0, 20, none⟩ (.slice E5 g.m d5)) := Only.setCell (S := fun k => k = s0) _ (a := ⟨s0, 20, none⟩) rfl _
 have hs5 : s0 + 2 ≤ w5.heap.size := Nat.le_trans HS4.out HB5.out.size
 have hO6 := rowA_only (HO4.out.up HB5.out) hON (.inl (by omega))
 have hZ6 := (HZ4.out.up HB5.out).only hON (by show ¬ s0 + 1 = s0; omega)
 have hE6 : OwnR lyE 71 (w5.setCell ⟨s0, 20, none⟩ (.slice E5 g.m d5)) (s0 + 2) (.slice E5 g.m d5) G := (HO5.out.blk fun j hj => hON.blk j (HO5.out.lt hj).2 (by have := (HO5.out.lt hj).1; have := HS4.out; show ¬ j = s0; omega)).low HS4.out
 have hB6 : Below s0 w (w5.setCell ⟨s0, 20, none⟩ (.slice E5 g.m d5)) := Below.setCell (p := ⟨s0, 20, none⟩) (HB4.out.trans (HB5.out.mono (by have := HS4.out; omega))) (Nat.le_refl _) _
 have c20 := hG6.at 20 _ rfl
 clear z20 y20 HG5 HO5 HB5 HG4 HO4 HZ4 HB4 HS4 hON HE4 HCE
 generalize w5.setCell ⟨s0, 20, none⟩ (.slice E5 g.m d5) = w6 at *
 have HG6 := Lib.hid hG6
 have HO6 := Lib.hid hO6
 have HZ6 := Lib.hid hZ6
 have HE6 := Lib.hid hE6
 have HB6 := Lib.hid hB6
 have HS6 : Hid (s0 + 2 ≤ w6.heap.size) := Lib.hid (Nat.le_of_lt_succ (Nat.lt_succ_of_le (hZ6.lt)))
 clear hG6 hO6 hZ6 hE6 hB6 hs5
 go_wp2_with fail
 clear c20
 go_loopg [16] g.m (fun kx s16 wr => ∃ k : Nat, s16 = .int .i64 k ∧ k ≤ g.m ∧ g.m - k ≤ kx ∧ (∃ P, Hid (P.length = k ∧ Bar P (G.take k)) ∧ Hid (OwnR lyE 71 wr (s0 + 2) (.slice E5 g.m d5) (P ++ G.drop k)) ∧ Hid (PRow (s0 + 2) P wr)) ∧ Hid (Wh 52 wr s0 (grpC (gAE g A3 c3 E5 d5))) ∧ Hid (Wh 52 wr (s0 + 1) [.string ⟨#[]⟩, .int .i64 0, .int .i64 0, .int .i64 0, .slice none 0 0, .int .i64 0, .int .i64 0, .int .i64 0, .int .i64 0, .int .i64 0, .int .i64 0, .int .i64 0, .int .i64 0, .int .i64 0, .int .i64 0, .int .i64 0, .int .i64 0, .int .i64 0, .int .i64 0, .int .i64 0, .slice none 0 0]) ∧ Hid (OwnR lyA 82 wr (s0 + 2) (.slice A3 g.n c3) (L.map noPar)) ∧ Hid (Below s0 w wr))
 case atStart => exact ⟨0, rfl, by omega, by omega, ⟨[], Lib.hid ⟨rfl, rfl⟩, Lib.hid HE6.out, Lib.hid (fun e he => by cases he)⟩, HG6, HZ6, HO6, HB6⟩
 case round =>
  clear HG6 HZ6 HO6 HB6 HE6 HS6
  obtain ⟨k, rfl, hk, hkx, ⟨P, HP, HE, HR⟩, HG, HZ, HO, HB⟩ := hrel
  by_cases hlt : k < g.m
  ·have hltz : (k : Int) < (g.m : Int) := by omega
   obtain ⟨e, he⟩ : ∃ e, G[k]? = some e := ⟨_, List.getElem?_eq_getElem (by rw [HLG.out]; exact hlt)⟩
   have hPk : (P ++ G.drop k)[k]? = some e := by
    rw [List.getElem?_append_right (by rw [HP.out.1]; exact Nat.le_refl _), HP.out.1, Nat.sub_self, List.getElem?_drop, Nat.add_zero]; exact he
   have hset : ∀ b, (P ++ G.drop k).set k b = (P ++ [b]) ++ G.drop (k + 1) := fun b => by
    have h2 : G.drop k = e :: G.drop (k + 1) := by
     rw [List.drop_eq_getElem_cons (by rw [HLG.out]; exact hlt)]
     rw [List.getElem?_eq_getElem (by rw [HLG.out]; exact hlt)] at he
     injection he with he
     rw [he]
    rw [List.set_append_right _ _ (by rw [HP.out.1]; exact Nat.le_refl _), HP.out.1, Nat.sub_self, h2, List.set_cons_zero, List.append_assoc]; rfl
   have hek := HKW.out.hk e (List.mem_of_getElem? he)
   have hsm := (HSM.out.e e (List.mem_of_getElem? he)).1
   obtain ⟨E9, d9, e9, hr, hown⟩ := HE.out.reads
   injection e9 with e9 q1 q2
   subst e9
   clear q1 q2
   obtain ⟨gE, off, rfl, hgl, hrg⟩ := hr.at hPk
   obtain ⟨-, rfl⟩ := hown gE off rfl
   rw [Nat.zero_add] at hrg
   have HRG : Hid (wr.rangeAt gE (k * 5) (entC e)) := Lib.hid hrg
   have HLE : Hid ((Instr.loadAt 71 (.pointer (some ⟨gE, k * 5, none⟩))).run Try.prog wr = .ok (eV e) wr) := Lib.hid (run_loadAt_mid wr gE (k * 5) 71 (entC e) _ hrg Try.underlying71 rfl (by kernel_rfl))
   obtain ⟨g4, hg4⟩ : ∃ g4, wr.heap.size = g4 := ⟨_, rfl⟩
   have HG4 := Lib.hid hg4
   have HZQ : Hid (Wh 71 (wr.alloc (.cells #[.string ⟨#[]⟩, .string ⟨#[]⟩, .slice none 0 0, .slice none 0 0, .bool false] 71)) g4 [.string ⟨#[]⟩, .string ⟨#[]⟩, .slice none 0 0, .slice none 0 0, .bool false]) := Lib.hid (by rw [← hg4]; exact Wh.new wr 71 [.string ⟨#[]⟩, .string ⟨#[]⟩, .slice none 0 0, .slice none 0 0, .bool false])
   have HPK := Lib.hid hPk
   have HST := Lib.hid hset
   have HEK := Lib.hid hek
   have HCW := Lib.hid (fun W (h : AccAt W e.A e.L) => wop_any e.A e.c e.L W (acc_row2 h) (by rw [hek.ln]; omega))
   rw [hek.ln] at HCW
   have HHE := Lib.hid he
   have hE0 : Hid (gE < g4) := Lib.hid (by rw [← hg4]; exact hgl)
   have hgE0 : Hid (s0 + 2 ≤ gE) := Lib.hid (HE.out.lt rfl).1
   clear hr hown hrg hgl hPk hset hek hsm he
   have HM1 : True := trivial
   go_upto_region 6 with (first
    | (clear HM1; refine wpList_load_is rfl 71 _ rfl (.pointer (some ⟨gE, k * 5, none⟩)) rfl (eV e) HLE.out ?_)
    | (refine wpList_store_wh rfl 71 _ _ rfl g4 rfl 71 [.string ⟨#[]⟩, .string ⟨#[]⟩, .slice none 0 0, .slice none 0 0, .bool false] (entC e) rfl HZQ.out rfl (by kernel_rfl) (by kernel_rfl) ?_; intro w7 hr7 ho7 hz7; have HR7 := Lib.hid hr7.out; have HB7 : Hid (Below g4 wr w7) := Lib.hid (by rw [← HG4.out]; exact only_new (by rw [HG4.out]; exact ho7.out)); have HS7 : Hid (w7.heap.size = g4 + 1) := Lib.hid (by rw [hz7, World.size_alloc, HG4.out]); clear ho7 hz7 hg4; have c2 := hr7.out.at 2 _ rfl; clear hr7))
   have HAC : Hid (AccAt w7 e.A e.L) := Lib.hid (HEK.out.hz.up ((HB.out.trans (HB7.out.mono (by have := HZ.out.lt; have := HG4.out; omega))).mono (Nat.le_of_eq HS0.out)))
   go_upto_region 7 with (go_at_call 41; refine (HCW.out _ HAC.out).mono ?_; rintro e8 w8 ⟨⟨A8, c8, rfl, ho⟩, hb⟩; have hr8 := HR7.out.up hb; have z2 := hr8.at 2 _ rfl; have y2 := hr8.frozen 2; have z3 := hr8.at 3 _ rfl; have y3 := hr8.frozen 3; have HR8 := Lib.hid hr8; have HO8 := Lib.hid ho; have HB8 := Lib.hid hb; clear hr8 ho hb)
   have hs8 : g4 + 1 ≤ w8.heap.size := by have := HB8.out.size; have := HS7.out; omega
   have hR9 : Wh 71 ((w8.setCell ⟨g4, 2, none⟩ (.slice A8 e.n c8)).setCell ⟨g4, 3, none⟩ (.slice none 0 0)) g4 (entC (bareE e A8 c8)) := (HR8.out.set 2 (.slice A8 e.n c8)).set 3 (.slice none 0 0)
   have hON : Only (fun k => k = g4) w8 ((w8.setCell ⟨g4, 2, none⟩ (.slice A8 e.n c8)).setCell ⟨g4, 3, none⟩ (.slice none 0 0)) := (Only.setCell (S := fun k => k = g4) _ (a := ⟨g4, 2, none⟩) rfl _).trans (Only.setCell (S := fun k => k = g4) _ (a := ⟨g4, 3, none⟩) rfl _)
   have hty : g4 < s0 + 2 ∨ (∃ (cs : Array Value) (t : TypeId), w8.heap[g4]? = some (.cells cs t (0, 0)) ∧ t ≠ 82) ∨ w8.heap.size ≤ g4 := .inr (.inl ⟨_, 71, HR8.out.blk, by decide⟩)
   have hb17 : Below wr.heap.size wr w8 := by rw [HG4.out]; exact HB7.out.trans (HB8.out.mono (by have := HS7.out; omega))
   have hPR : PRow (s0 + 2) (P ++ [bareE e A8 c8]) w8 := fun x hx => by
    rcases List.mem_append.1 hx with hx | hx
    ·exact HR.out.up hb17 x hx
    ·simp at hx
     subst hx
     exact ⟨HO8.out.low (by have := HS7.out; have := HZ.out.lt; have := HG4.out; omega), rfl, rfl, wfc_nopar HEK.out.wa⟩
   have hPR9 := hPR.only hON hty
   have hO9 := rowA_only (HO.out.up hb17) hON hty
   have hG9 := (HG.out.up hb17).only hON (by have := hE0.out; have := hgE0.out; show ¬ s0 = g4; omega)
   have hZ9 := (HZ.out.up hb17).only hON (by have := hE0.out; have := hgE0.out; show ¬ s0 + 1 = g4; omega)
   have hE9 : OwnR lyE 71 ((w8.setCell ⟨g4, 2, none⟩ (.slice A8 e.n c8)).setCell ⟨g4, 3, none⟩ (.slice none 0 0)) (s0 + 2) (.slice (some ⟨gE, 0, none⟩) g.m d5) (P ++ G.drop k) := (HE.out.up hb17).blk fun j hj => hON.blk j ((HE.out.up hb17).lt hj).2 (by have h1 : gE = j := Option.some.inj hj; have := hE0.out; show ¬ j = g4; omega)
   have hB9 : Below s0 w ((w8.setCell ⟨g4, 2, none⟩ (.slice A8 e.n c8)).setCell ⟨g4, 3, none⟩ (.slice none 0 0)) := (HB.out.trans (hb17.mono (by have := HZ.out.lt; omega))).trans (hON.below (B := s0) (fun k hk => by have h1 : k = g4 := hk; have := hE0.out; have := hgE0.out; omega) (by have := hE0.out; have := hgE0.out; omega))
   clear z2 y2 z3 y3 c2 HR8 HO8 HB8 HR7 HB7 HAC hON hty hPR hb17 HCW HZQ HLE HRG
   generalize (w8.setCell ⟨g4, 2, none⟩ (.slice A8 e.n c8)).setCell ⟨g4, 3, none⟩ (.slice none 0 0) = w9 at *
   have HL9 : Hid ((Instr.loadAt 71 (.pointer (some ⟨g4, 0, none⟩))).run Try.prog w9 = .ok (eV (bareE e A8 c8)) w9) := Lib.hid (hR9.rg.load 0 71 (entC (bareE e A8 c8)) rfl _ Try.underlying71 rfl (by kernel_rfl))
   have HT9 : Hid (w9.there gE (k * 5) 5) := Lib.hid (fun j hj => by
    obtain ⟨E7, d7, e7, hr7, -⟩ := hE9.reads
    injection e7 with e7 _ _
    obtain ⟨b7, o7, e8, -, hrg⟩ := hr7.at HPK.out
    rw [← e7] at e8
    injection e8 with e8
    injection e8 with e8 e6 _
    subst e8 e6
    rw [Nat.zero_add] at hrg
    exact ⟨World.rangeAt.isSome hrg j hj, hE9.frozen _⟩)
   have c20 := hG9.at 20 _ rfl
   have HON2 : Hid (Only (fun k => k = gE) w9 (w9.setCells gE (k * 5) (entC (bareE e A8 c8)))) := Lib.hid (Only.setCells (S := fun k => k = gE) rfl _ _ _)
   have hty : gE < s0 + 2 ∨ (∃ (cs : Array Value) (t : TypeId), w9.heap[gE]? = some (.cells cs t (0, 0)) ∧ t ≠ 82) ∨ w9.heap.size ≤ gE := by
    obtain ⟨cur, hc⟩ := row_blk hE9
    exact .inr (.inl ⟨cur, 71, hc, by decide⟩)
   have HE2 : Hid (OwnR lyE 71 (w9.setCells gE (k * 5) (entC (bareE e A8 c8))) (s0 + 2) (.slice (some ⟨gE, 0, none⟩) g.m d5) ((P ++ [bareE e A8 c8]) ++ G.drop (k + 1))) := Lib.hid (by rw [← HST.out]; exact own_put5 hE9 HPK.out _)
   have HP2 : Hid ((P ++ [bareE e A8 c8]).length = k + 1 ∧ Bar (P ++ [bareE e A8 c8]) (G.take (k + 1))) := Lib.hid ⟨by rw [List.length_append, HP.out.1]; rfl, HP.out.2.snoc HHE.out _ _⟩
   have HPR2 := Lib.hid (hPR9.only HON2.out hty)
   have HO2 := Lib.hid (rowA_only hO9 HON2.out hty)
   have HG2 := Lib.hid (hG9.only HON2.out (by have := hgE0.out; show ¬ s0 = gE; omega))
   have HZ2 := Lib.hid (hZ9.only HON2.out (by have := hgE0.out; show ¬ s0 + 1 = gE; omega))
   have HB2' := Lib.hid (hB9.trans (HON2.out.below (B := s0) (fun k hk => by have h1 : k = gE := hk; have := hgE0.out; omega) (by have := hZ9.lt; omega)))
   clear hR9 hPR9 hO9 hG9 hZ9 hE9 hB9 hty HE HR HO HG HZ HB HP HST HPK HHE hs8
   have hm14 := HSM.out.m
   have HM2 : True := trivial
   go_wp2_with (first
    | (clear HM2; refine wpList_load_is rfl 71 _ rfl (.pointer (some ⟨g4, 0, none⟩)) rfl (eV (bareE e A8 c8)) HL9.out ?_)
    | (refine wpList_store_at rfl 71 _ _ rfl gE (k * 5) rfl (entC (bareE e A8 c8)) rfl HT9.out (by kernel_rfl) (by kernel_rfl) ?_; intro wx hwx; rw [← hwx.out] at HE2 HPR2 HO2 HG2 HZ2 HB2'; clear hwx HON2))
   go_roundg (g.m - (k + 1))
   case measure => omega
   case rel => exact ⟨k + 1, by go_num, by omega, by omega, ⟨_, HP2, HE2, HPR2⟩, HG2, HZ2, HO2, HB2'⟩
  ·obtain rfl : k = g.m := by omega
   have hltz : ¬ (g.m : Int) < (g.m : Int) := by omega
   have HL9 : Hid ((Instr.loadAt 52 (.pointer (some ⟨s0, 0, none⟩))).run Try.prog wr = .ok (grpV (gAE g A3 c3 E5 d5)) wr) := Lib.hid (HG.out.rg.load 0 52 (grpC (gAE g A3 c3 E5 d5)) rfl _ Try.underlying52 rfl (by kernel_rfl))
   have HM2 : True := trivial
   go_wp2_with (first
    | (clear HM2; refine wpList_load_is rfl 52 _ rfl (.pointer (some ⟨s0, 0, none⟩)) rfl (grpV (gAE g A3 c3 E5 d5)) HL9.out ?_)
    | (refine wpList_store_wh rfl 52 _ _ rfl (s0 + 1) rfl 52 [.string ⟨#[]⟩, .int .i64 0, .int .i64 0, .int .i64 0, .slice none 0 0, .int .i64 0, .int .i64 0, .int .i64 0, .int .i64 0, .int .i64 0, .int .i64 0, .int .i64 0, .int .i64 0, .int .i64 0, .int .i64 0, .int .i64 0, .int .i64 0, .int .i64 0, .int .i64 0, .int .i64 0, .slice none 0 0] (grpC (gAE g A3 c3 E5 d5)) rfl HZ.out rfl (by kernel_rfl) (by kernel_rfl) ?_; intro w9 hr9 ho9 hz9))
   refine bodyPost_ret (v := grpV (gAE g A3 c3 E5 d5)) (results_cell_mid Try.results29 _ _ (s0 + 1) (grpC (gAE g A3 c3 E5 d5)) _ rfl hr9.out.range Try.underlying52 rfl (by kernel_rfl)) rfl ⟨⟨A3, c3, E5, d5, P, rfl, ?_, ?_⟩, ?_⟩
   ·have hPR := HR.out.only ho9.out (.inl (by omega))
    have hO := rowA_only HO.out ho9.out (.inl (by omega))
    have hE := HE.out.blk fun j hj => ho9.out.blk j (HE.out.lt hj).2 (by have := (HE.out.lt hj).1; show ¬ j = s0 + 1; omega)
    rw [List.drop_of_length_le (by rw [HLG.out]; exact Nat.le_refl _), List.append_nil] at hE
    obtain ⟨A', c', e1, hA, -⟩ := hO.reads
    injection e1 with e1 _ _
    obtain ⟨E', d', e2, hE', -⟩ := hE.reads
    injection e2 with e2 _ _
    refine ⟨by rw [List.length_map]; exact HLN.out, HP.out.1, by show AccAt _ A3 _; rw [e1]; exact acc_row hA, by show EntsAt _ E5 _; rw [e2]; exact ents_row hE', fun x hx => ?_⟩
    obtain ⟨h1, h2, h3, h4⟩ := hPR x hx
    obtain ⟨A7, c7, e7, h7, -⟩ := h1.reads
    injection e7 with e7 e8 _
    exact ⟨e8.symm, by rw [h2, h3]; rfl, by rw [e7]; exact acc_row h7, by rw [h2]; exact LnkAt.nil, h4, fun l hl => by rw [h2] at hl; cases hl⟩
   ·have := HP.out.2
    rwa [List.take_of_length_le (by rw [HLG.out]; exact Nat.le_refl _)] at this
   ·have h9 := HB.out.trans (ho9.out.below (B := s0) (fun k hk => by have h8 : k = s0 + 1 := hk; omega) (by have := HZ.out.lt; omega))
    first | exact h9 | (rw [HS0.out]; exact h9)
theorem wpList_box_wh {P : Program} {w : World} {ops : Array Oper} {rest : List Oper} {o : Oper} {a : Act} {Q : Exit → Act → World → Prop} (hg : o.guard = none) (ty : TypeId) (x : Operand) (hop : o.op = .box ty x) (V : Value) (hx : a.eval x = V) (cs : List Value) (hV : V = .agg cs.toArray)
  (h : ∀ b W, Hid (Wh ty W b cs) → Hid (Below w.heap.size w W) → Hid (b = w.heap.size) → wpList P ops Q rest (a.put o.dst (.pointer (some ⟨b, 0, none⟩))) W) : wpList P ops Q (o :: rest) a w := by
 refine wpList_plain hg fun K hK => ?_
 have hrun : (Instr.box ty V).run P w = .ok (.pointer (some ⟨w.heap.size, 0, none⟩)) (w.alloc (.cells cs.toArray ty)) := by
  rw [hV]
  simp [Instr.box, newVar, newRow, Value.cells]
 unfold Oper.wp execOp
 simp only [hop, hx, Sem.run_bind, hrun, Sem.run_pure, Result.andThen_ok]
 exact hK _ _ (h _ _ (Lib.hid (Wh.new w ty cs)) (Lib.hid (below_alloc_new _)) (Lib.hid rfl))
def BareD (g : Grp) (L : List Acc) (G : List Ent) (j : JD) : Prop := ∃ A c E d, j.g = gAE g A c E d ∧ j.L = L.map noPar ∧ Bar j.G G
def NewP (g : Grp) (L : List Acc) (G : List Ent) (B : Nat) (e : Ending) (w' : World) : Prop :=
 if grpP g L G = true then ∃ j M, e = .returned (.tuple #[.pointer (some ⟨j.b, 0, none⟩), .int .i64 0]) ∧ JK M B w' j ∧ j.Xs = [] ∧ (∀ k, M k → B ≤ k) ∧ BareD g L G j
 else e = .returned (.tuple #[.pointer none, .int .i64 1])
theorem bar_mem {P G : List Ent} (h : Bar P G) {e : Ent} (he : e ∈ P) : ∃ x ∈ G, e.nm = x.nm ∧ e.cur = x.cur ∧ e.n = x.n ∧ e.m = 0 := by
 have h1 : strE e ∈ P.map strE := List.mem_map_of_mem he
 rw [h] at h1
 obtain ⟨x, hx, e1⟩ := List.mem_map.1 h1
 refine ⟨x, hx, ?_, ?_, ?_, ?_⟩
 ·have := congrArg Ent.nm e1; exact this.symm
 ·have := congrArg Ent.cur e1; exact this.symm
 ·have := congrArg Ent.n e1; exact this.symm
 ·have := congrArg Ent.m e1; exact this.symm
def jnC (g : Grp) (v : Value) (a b : Nat) : List Value := grpC g ++ [v, .map (some a), .map (some b)]
set_option maxRecDepth 100000 in
theorem jn_build (g : Grp) (a b : Nat) (w : World) : (Instr.build 59 #[(0, grpV g), (2, .map (some a)), (3, .map (some b))]).run Try.prog w = .ok (.agg (jnC g (.slice none 0 0) a b).toArray) w :=
 run_build w 59 _ _ (by kernel_rfl)
set_option maxRecDepth 100000 in
set_option maxHeartbeats 6400000 in
theorem new_any (g : Grp) (L : List Acc) (G : List Ent) (w : World) (hk : GrK w g L G) (hs : Sm g G) (hw : GrW g L G) : Calls Try.prog 14 #[grpV g] w fun e w' => NewP g L G w.heap.size e w' ∧ Below w.heap.size w w' := by
 have HV := Lib.hid (fun W (h : GrK W g L G) => gvalid_any g L G W h hs hw)
 have HBA := Lib.hid (fun W (h : GrK W g L G) => bare_any g L G W h hs)
 obtain ⟨s0, hs0⟩ : ∃ s0, w.heap.size = s0 := ⟨_, rfl⟩
 obtain ⟨w2, hw2⟩ : ∃ w2, w.alloc (.cells #[.string g.cur, .int .i64 g.cy, .int .i64 g.cm, .int .i64 g.cp, .slice g.A g.n g.c, .int .i64 g.r0, .int .i64 g.r1, .int .i64 g.r2, .int .i64 g.r3, .int .i64 g.r4, .int .i64 g.r5, .int .i64 g.r6, .int .i64 g.r7, .int .i64 g.r8, .int .i64 g.r9, .int .i64 g.r10, .int .i64 g.r11, .int .i64 g.r12, .int .i64 g.r13, .int .i64 g.r14, .slice g.E g.m g.d] 52) = w2 := ⟨_, rfl⟩
 have HGB : Hid (Wh 52 w2 s0 (grpC g)) := Lib.hid (by rw [← hw2, ← hs0]; exact Wh.new w 52 (grpC g))
 have HB2 : Hid (Below s0 w w2) := Lib.hid (by rw [← hw2, ← hs0]; exact below_alloc_new _)
 have HS2 : Hid (w2.heap.size = s0 + 1) := Lib.hid (by rw [← hw2, ← hs0]; simp)
 have HK2 := Lib.hid (hk.up (HB2.out.mono (Nat.le_of_eq hs0)))
 have HS0 := Lib.hid hs0
 obtain ⟨GV, hGV⟩ : ∃ GV, GV = grpV g := ⟨_, rfl⟩
 have HLG : Hid (∀ w9, Below w2.heap.size w2 w9 → (Instr.loadAt 52 (.pointer (some ⟨s0, 0, none⟩))).run Try.prog w9 = .ok GV w9) := Lib.hid (fun w9 h9 => by rw [hGV, grpV_is]; exact (HGB.out.up h9).rg.load 0 52 (grpC g) rfl _ Try.underlying52 rfl (by kernel_rfl))
 rw [← hGV] at HV HBA
 have hNP : NewP g L G w.heap.size = fun e w' => if grpP g L G = true then ∃ j M, e = .returned (.tuple #[.pointer (some ⟨j.b, 0, none⟩), .int .i64 0]) ∧ JK M w.heap.size w' j ∧ j.Xs = [] ∧ (∀ k, M k → w.heap.size ≤ k) ∧ BareD g L G j else e = .returned (.tuple #[.pointer none, .int .i64 1]) := rfl
 have HSM := Lib.hid hs
 have HW := Lib.hid hw
 clear hk hGV hs hw
 have hmm := @run_makeMap Try.prog
 cases hq : grpP g L G
 ·rw [hq] at HV
  have HNP : Hid (∀ w', NewP g L G s0 (.returned (.tuple #[.pointer none, .int .i64 1])) w') := Lib.hid (fun w' => by unfold NewP; rw [hq]; rfl)
  clear hNP hq
  have HM1 : True := trivial
  go_enter Try.func14, Try.ntmps14
  go_wp2_with (first
   | (clear HM1; refine wpList_load_is rfl 52 _ rfl (.pointer (some ⟨s0, 0, none⟩)) rfl GV (HLG.out _ (Below.refl _ _)) ?_)
   | (go_at_call 28; refine (HV.out _ HK2.out).mono ?_; rintro e w3 ⟨rfl, hb⟩; have HB3 := Lib.hid hb; clear hb))
  go_ret2
  exact ⟨by rw [HS0.out]; exact HNP.out _, by rw [HS0.out]; exact HB2.out.trans (HB3.out.mono (by have := HS2.out; omega))⟩
 ·rw [hq] at HV
  have HQ := Lib.hid hq
  clear hNP hq
  have HM1 : True := trivial
  have HM2 : True := trivial
  have HM3 : True := trivial
  have HM4 : True := trivial
  go_enter Try.func14, Try.ntmps14
  go_wp2_with (first
   | (clear HM1; refine wpList_load_is rfl 52 _ rfl (.pointer (some ⟨s0, 0, none⟩)) rfl GV (HLG.out _ (Below.refl _ _)) ?_)
   | (clear HM2; refine wpList_load_is rfl 52 _ rfl (.pointer (some ⟨s0, 0, none⟩)) rfl GV (HLG.out _ HB3.out) ?_)
   | (go_at_call 28; refine (HV.out _ HK2.out).mono ?_; rintro e w3 ⟨rfl, hb⟩; have HB3 := Lib.hid hb; clear hb)
   | (go_at_call 29; refine (HBA.out _ (HK2.out.up HB3.out)).mono ?_; rintro e w4 ⟨⟨A, c, E, d, P, rfl, hk4, hbar⟩, hb⟩; have HK4 := Lib.hid hk4; have HBAR := Lib.hid hbar; have HB4 := Lib.hid hb; clear hk4 hbar hb; obtain ⟨s4, hs4⟩ : ∃ s4, w4.heap.size = s4 := ⟨_, rfl⟩; have HS4 := Lib.hid hs4; obtain ⟨w5, hw5⟩ : ∃ w5, (w4.alloc (.map #[] 0)).alloc (.map #[] 0) = w5 := ⟨_, rfl⟩; have HI : Hid (MapV w5 s4 0 (fun _ => none)) := Lib.hid (by rw [← hw5, ← hs4]; exact (MapV.made w4).up (below_alloc_new _)); have HR : Hid (MapV w5 (s4 + 1) 0 (fun _ => none)) := Lib.hid (by rw [← hw5, ← hs4]; have h9 := MapV.made (w4.alloc (.map #[] 0)); rw [World.size_alloc] at h9; exact h9); have HB5 : Hid (Below w4.heap.size w4 w5) := Lib.hid (by rw [← hw5]; exact below_new (below_alloc_new _) _); have HS5 : Hid (w5.heap.size = s4 + 2) := Lib.hid (by rw [← hw5, ← hs4]; simp))
   | (clear HM3; refine wpList_build_is rfl 59 _ rfl [(0, grpV (gAE g A c E d)), (2, .map (some s4)), (3, .map (some (s4 + 1)))] rfl (.agg (jnC (gAE g A c E d) (.slice none 0 0) s4 (s4 + 1)).toArray) (jn_build _ _ _ _) ?_)
   | (clear HM4; refine wpList_box_wh rfl 59 _ rfl (.agg (jnC (gAE g A c E d) (.slice none 0 0) s4 (s4 + 1)).toArray) rfl _ rfl ?_; intro jb w6 hj6 hb6 hjb; have HJ6 := Lib.hid hj6.out; have HB6 := Lib.hid hb6.out; have HJB := Lib.hid hjb.out; clear hj6 hb6 hjb))
  go_ret2
  have h4 := HB4.out
  have h5 := HB5.out
  have h6 := HB6.out
  have s4e := HS4.out
  have s5e := HS5.out
  have hjb : jb = s4 + 2 := by rw [HJB.out, s5e]
  have hb46 : Below w4.heap.size w4 w6 := h5.trans (h6.mono (by omega))
  have hM : ∀ k, (k = jb ∨ k = s4 ∨ k = s4 + 1) → w4.heap.size ≤ k := fun k hk => by omega
  have h34 : w3.heap.size ≤ w4.heap.size := h4.size
  have h23 : s0 + 1 ≤ w3.heap.size := by have := HB3.out.size; have := HS2.out; omega
  refine ⟨?_, ?_⟩
  ·unfold NewP
   rw [HQ.out, if_pos rfl]
   refine ⟨⟨jb, gAE g A c E d, L.map noPar, P, none, 0, 0, [], s4, s4 + 1⟩, fun k => k = jb ∨ k = s4 ∨ k = s4 + 1, rfl, ⟨HJ6.out, OwnR.nil, rfl, (HI.out.up h6).ext fun c => rfl, (HR.out.up h6).ext fun c => rfl, ?_, ?_, .inl rfl, .inr (.inl rfl), .inr (.inr rfl), (fun k hk => by cases hk), (by show s4 ≠ s4 + 1; omega), ?_, ?_, ⟨(fun e he => by cases he), (fun e he => by cases he)⟩⟩, rfl, (fun k hk => by have := hM k hk; rw [HS0.out]; omega), ⟨A, c, E, d, rfl, rfl, HBAR.out⟩⟩
   ·exact Im.of (B := w4.heap.size) (fun w' hb => HK4.out.up (hb46.trans hb)) hM hb46.size
   ·exact fun w' _ p hp => by cases hp
   ·refine ⟨HSM.out.n, HSM.out.m, fun e he => ?_⟩
    obtain ⟨x, hx, -, -, h9, h8⟩ := bar_mem HBAR.out he
    have := HSM.out.e x hx
    exact ⟨by rw [h9]; exact this.1, by rw [h8]; omega⟩
   ·refine ⟨HW.out.cur, HW.out.rol, fun e he => ?_⟩
    obtain ⟨x, hx, h9, h8, -, -⟩ := bar_mem HBAR.out he
    have := HW.out.txt x hx
    exact ⟨by rw [h9]; exact this.1, by rw [h8]; exact this.2⟩
  ·have h9 : Below s0 w w6 := (HB2.out.trans (HB3.out.mono (by have := HS2.out; omega))).trans ((h4.mono (by omega)).trans (hb46.mono (by omega)))
   rw [HS0.out]
   exact h9
theorem results_cell2 {P : Program} {fn : Func} {p u : Tmp} {ty : TypeId} (h : fn.results = #[.cell p ty, .tmp u]) (tmps : Array Value) (w : World) (b : Nat) (cs : List Value) (d : TypeDesc) (v : Value)
  (hp : tmps.getD p undef = .pointer (some ⟨b, 0, none⟩)) (hv : tmps.getD u undef = v) (hc : w.rangeAt b 0 cs) (hu : P.underlying ty = some d) (hd : d.isRow = true) (hi : (P.info? ty).map (·.size) = some cs.length) :
  (results fn tmps).run P w = .ok (.tuple #[.agg cs.toArray, v]) w := by
 have hp' : tmps[p]?.getD undef = .pointer (some ⟨b, 0, none⟩) := by simpa using hp
 have hv' : tmps[u]?.getD undef = v := by simpa using hv
 rw [results_cell_tmp h]
 simp [hp', hv', asAddr, run_loadVar_mid w b 0 ty cs d hc hu hd hi]
set_option maxRecDepth 100000 in
set_option maxHeartbeats 3200000 in
theorem findnil_any (id : Int) (w : World) : Calls Try.prog 15 #[.pointer none, .int .i64 id] w fun e w' => e = .returned (.tuple #[etyV ety0, .bool false]) ∧ Below w.heap.size w w' := by
 obtain ⟨s0, hs0⟩ : ∃ s0, w.heap.size = s0 := ⟨_, rfl⟩
 obtain ⟨w2, hw2⟩ : ∃ w2, w.alloc (.cells #[.int .i64 0, .int .i64 0, .int .i64 0, .int .i64 0, .int .i64 0, .string ⟨#[]⟩, .slice none 0 0] 24) = w2 := ⟨_, rfl⟩
 have HZ : Hid (Wh 24 w2 s0 [.int .i64 0, .int .i64 0, .int .i64 0, .int .i64 0, .int .i64 0, .string ⟨#[]⟩, .slice none 0 0]) := Lib.hid (by rw [← hw2, ← hs0]; exact Wh.new w 24 [.int .i64 0, .int .i64 0, .int .i64 0, .int .i64 0, .int .i64 0, .string ⟨#[]⟩, .slice none 0 0])
 have HON := Lib.hid (fun W (h : Only (fun k => k = s0) w2 W) => only_new (w := w) (o := .cells #[.int .i64 0, .int .i64 0, .int .i64 0, .int .i64 0, .int .i64 0, .string ⟨#[]⟩, .slice none 0 0] 24) (W := W) (by rw [hw2, hs0]; exact h))
 go_enter Try.func15, Try.ntmps15
 go_wp2_with (refine wpList_store_wh rfl 24 _ _ rfl s0 rfl 24 [.int .i64 0, .int .i64 0, .int .i64 0, .int .i64 0, .int .i64 0, .string ⟨#[]⟩, .slice none 0 0] (etyC ety0) rfl HZ.out rfl (by kernel_rfl) (by kernel_rfl) ?_; intro W8 hr8 ho8 hz8)
 exact bodyPost_ret (v := .tuple #[etyV ety0, .bool false]) (results_cell2 Try.results15 _ _ s0 (etyC ety0) _ _ rfl rfl hr8.out.range Try.underlying24 rfl (by kernel_rfl)) rfl ⟨rfl, HON.out _ ho8.out⟩
set_option maxRecDepth 100000 in
theorem allnil_any (w : World) : Calls Try.prog 21 #[.pointer none] w fun e w' => e = .returned (.slice none 0 0) ∧ w = w' := by
 go_enter Try.func21, Try.ntmps21
 go_wp2_with fail
 go_ret
 exact ⟨rfl, rfl⟩
set_option maxRecDepth 100000 in
theorem all_any {M : Nat → Prop} {B : Nat} (j : JD) (w : World) (hj : JK M B w j) : Calls Try.prog 21 #[.pointer (some ⟨j.b, 0, none⟩)] w fun e w' => e = .returned (.slice j.A j.n j.c) ∧ w = w' := by
 have c21 := hj.box.at 21 _ rfl
 clear hj
 go_enter Try.func21, Try.ntmps21
 go_wp2_with fail
 go_ret
 exact ⟨rfl, rfl⟩
set_option maxRecDepth 100000 in
theorem lennil_any (w : World) : Calls Try.prog 10 #[.pointer none] w fun e w' => e = .returned (.int .i64 0) ∧ w = w' := by
 go_enter Try.func10, Try.ntmps10
 go_wp2_with (go_at_call 21; refine (allnil_any _).mono ?_; rintro e w3 ⟨rfl, rfl⟩)
 go_ret
 exact ⟨rfl, rfl⟩
set_option maxRecDepth 100000 in
theorem jlen_any {M : Nat → Prop} {B : Nat} (j : JD) (w : World) (hj : JK M B w j) : Calls Try.prog 10 #[.pointer (some ⟨j.b, 0, none⟩)] w fun e w' => e = .returned (.int .i64 j.n) ∧ w = w' := by
 have HA := Lib.hid (all_any j w hj)
 clear hj
 go_enter Try.func10, Try.ntmps10
 go_wp2_with (go_at_call 21; refine HA.out.mono ?_; rintro e w3 ⟨rfl, rfl⟩)
 go_ret
 exact ⟨rfl, rfl⟩
set_option maxRecDepth 100000 in
theorem revnil_any (id : Int) (w : World) : Calls Try.prog 7 #[.pointer none, .int .i64 id] w fun e w' => e = .returned (.tuple #[.int .i64 0, .bool false]) ∧ w = w' := by
 go_enter Try.func7, Try.ntmps7
 go_wp2_with fail
 go_ret2
 exact ⟨rfl, rfl⟩
theorem box_grp {M : Nat → Prop} {B : Nat} {w : World} {j : JD} (h : JK M B w j) : w.rangeAt j.b 0 (grpC j.g) := fun i v hi => h.box.range i v (by unfold JC; rw [List.getElem?_append_left (List.getElem?_eq_some_iff.1 hi).1]; exact hi)
def jceF (j : JD) (_s0 : Nat) (GV XV : Value) (cc : Int) : List (Nat × AK.Fact (Below0)) := [(5, AK.Fact.is (.pointer (some ⟨j.b, 0, none⟩))), (6, AK.Fact.is (.pointer (some ⟨j.b, 0, none⟩))), (7, AK.Fact.is (.pointer (some ⟨j.b, 0, none⟩))), (8, AK.Fact.is (GV)), (9, AK.Fact.is (XV)), (10, AK.Fact.is (.int .i64 cc)), (4, AK.Fact.is (.int .i64 cc))]
set_option maxRecDepth 100000 in
set_option maxHeartbeats 3200000 in
theorem jce_any {M : Nat → Prop} {B : Nat} (j : JD) (x : Ety) (X : List Lnk) (w : World) (hj : JK M B w j) (hx : EtyK w x X) (hn : x.n ≤ 1000) : Calls Try.prog 31 #[.pointer (some ⟨j.b, 0, none⟩), etyV x] w fun e w' => e = .returned (.int .i64 (chkN j.g x X j.L j.G)) ∧ Below w.heap.size w w' := by
 obtain ⟨GV, hGV⟩ : ∃ GV, GV = grpV j.g := ⟨_, rfl⟩
 obtain ⟨XV, hXV⟩ : ∃ XV, XV = etyV x := ⟨_, rfl⟩
 have HCK := Lib.hid (fun W (h : GrK W j.g j.L j.G) (h9 : EtyK W x X) => gcheck_any j.g x X j.L j.G W h hj.hs hj.hw h9 hn)
 generalize chkN j.g x X j.L j.G = cc at *
 rw [← hGV, ← hXV] at HCK
 obtain ⟨xs, hxs⟩ : ∃ xs, (etyC x).toArray = xs := ⟨_, rfl⟩
 have hxV : etyV x = .agg xs := by rw [etyV_is, hxs]
 rw [hxV]
 obtain ⟨s0, hs0⟩ : ∃ s0, w.heap.size = s0 := ⟨_, rfl⟩
 obtain ⟨w2, hw2⟩ : ∃ w2, w.alloc (.cells xs 24) = w2 := ⟨_, rfl⟩
 have hXB : Wh 24 w2 s0 (etyC x) := by rw [← hw2, ← hs0, ← hxs]; exact Wh.new w _ _
 have hb2 : Below w.heap.size w w2 := by rw [← hw2]; exact below_alloc_new _
 have hj2 := hj.up hb2
 have hx2 := hx.up hb2
 have HLG : Hid (∀ w9, Below w2.heap.size w2 w9 → (Instr.loadAt 52 (.pointer (some ⟨j.b, 0, none⟩))).run Try.prog w9 = .ok GV w9) := Lib.hid (fun w9 h9 => by rw [hGV, grpV_is]; exact run_loadAt_mid w9 j.b 0 52 (grpC j.g) _ (box_grp (hj2.up h9)) Try.underlying52 rfl (by kernel_rfl))
 have HLX : Hid (∀ w9, Below w2.heap.size w2 w9 → (Instr.loadAt 24 (.pointer (some ⟨s0, 0, none⟩))).run Try.prog w9 = .ok XV w9) := Lib.hid (fun w9 h9 => by rw [hXV, etyV_is]; exact (hXB.up h9).rg.load 0 24 (etyC x) rfl _ Try.underlying24 rfl (by kernel_rfl))
 have HB2 := Lib.hid hb2
 have HK2 := Lib.hid hj2.grp
 have HX2 := Lib.hid hx2
 clear hj hj2 hx hx2 hXB hb2 hxV hXV hGV
 go_enter Try.func31, Try.ntmps31
 go_wp2_with fail
 refine AK.region_facts (Rp := Below0) (Kp := Below0) (jceF j s0 GV XV cc) (fun _ _ W => Below w2.heap.size w2 W) [[], [5], [6], [7], [], [8, 9], [10]] [] [[]] [0, 0, 0, 0, 0, 0, 0] [0, 0, 0, 0, 0, 0, 0] [] (fun u => by simp only [jceF, AK.temps, List.map_cons, List.map_nil, fillL, List.setIfInBounds_toArray, List.set_cons_zero, List.set_cons_succ]; rfl) (by kernel_rfl) (by kernel_rfl) (fun _ _ h => h.size) (fun _ _ h => h) (fun _ _ _ _ hb h => h.trans (hb.mono h.size)) (dc_drew (Below.refl _ _)) ?_ ?_
 ·refine AK.sc (lim := 0) (lo := 0) rfl rfl rfl rfl ?_ ?_
  ·intro k_ u w_ hk_ hl_ hJ hF K hK
   clear hF
   go_simp
   exact hK.out _ _ (Below.refl _ _) (rfl) trivial
  refine AK.sc (lim := 0) (lo := 0) rfl rfl rfl rfl ?_ ?_
  ·intro k_ u w_ hk_ hl_ hJ hF K hK
   have h5 : u 5 = .pointer (some ⟨j.b, 0, none⟩) := AK.facts_get hF 5 (by simp)
   clear hF
   simp only [h5] at hK ⊢
   clear h5
   go_simp
   exact hK.out _ _ (Below.refl _ _) (rfl) trivial
  refine AK.sc (lim := 0) (lo := 0) rfl rfl rfl rfl ?_ ?_
  ·intro k_ u w_ hk_ hl_ hJ hF K hK
   have h6 : u 6 = .pointer (some ⟨j.b, 0, none⟩) := AK.facts_get hF 6 (by simp)
   clear hF
   simp only [h6] at hK ⊢
   clear h6
   go_simp
   exact hK.out _ _ (Below.refl _ _) (rfl) trivial
  refine AK.sc (lim := 0) (lo := 0) rfl rfl rfl rfl ?_ ?_
  ·intro k_ u w_ hk_ hl_ hJ hF K hK
   have h7 : u 7 = .pointer (some ⟨j.b, 0, none⟩) := AK.facts_get hF 7 (by simp)
   clear hF
   simp only [h7] at hK ⊢
   clear h7
   refine wp_load_is 52 _ rfl (.pointer (some ⟨j.b, 0, none⟩)) rfl GV (HLG.out _ hJ) ?_
   exact hK.out _ _ (Below.refl _ _) (rfl) trivial
  refine AK.sc (lim := 0) (lo := 0) rfl rfl rfl rfl ?_ ?_
  ·intro k_ u w_ hk_ hl_ hJ hF K hK
   clear hF
   refine wp_load_is 24 _ rfl (.pointer (some ⟨s0, 0, none⟩)) rfl XV (HLX.out _ hJ) ?_
   exact hK.out _ _ (Below.refl _ _) (rfl) trivial
  refine AK.sc (lim := 0) (lo := 0) rfl rfl rfl rfl ?_ ?_
  ·intro k_ u w_ hk_ hl_ hJ hF K hK
   have h8 : u 8 = GV := AK.facts_get hF 8 (by simp)
   have h9 : u 9 = XV := AK.facts_get hF 9 (by simp)
   clear hF
   simp only [h8, h9] at hK ⊢
   clear h8 h9
   have hk9 := HK2.out.on (Only.of hJ)
   have hx9 := HX2.out.up hJ
   go_simp
   refine (HCK.out _ hk9.now hx9).mono ?_
   rintro e w3 ⟨rfl, hb⟩
   exact hK.out _ _ hb (rfl) trivial
  refine AK.sc (lim := 0) (lo := 0) rfl rfl rfl rfl ?_ ?_
  ·intro k_ u w_ hk_ hl_ hJ hF K hK
   have h10 : u 10 = .int .i64 cc := AK.facts_get hF 10 (by simp)
   clear hF
   simp only [h10] at hK ⊢
   clear h10
   go_simp
   exact hK.out _ _ (Below.refl _ _) (rfl) trivial
  exact AK.StepsOk.nil
 ·intro u W9 hJ9 hF
  have h4 : u 4 = .int .i64 cc := AK.facts_get hF 4 (by simp [jceF, AK.temps])
  clear hF
  go_wp2_with fail
  go_ret
  exact ⟨by first | rfl | simp [h4], HB2.out.trans (hJ9.mono HB2.out.size)⟩
set_option maxRecDepth 100000 in
theorem jchecks_any (b : Nat) (w : World) : Calls Try.prog 17 #[.pointer (some ⟨b, 0, none⟩)] w fun e w' => e = .returned (.slice (some ⟨w.heap.size, 0, none⟩) 4 4) ∧ w' = w.alloc (.cells #[.func (.func 31) #[.pointer (some ⟨b, 0, none⟩)] #[], .func (.func 32) #[.pointer (some ⟨b, 0, none⟩)] #[], .func (.func 33) #[.pointer (some ⟨b, 0, none⟩)] #[], .func (.func 34) #[.pointer (some ⟨b, 0, none⟩)] #[]] 38) := by
 go_enter Try.func17, Try.ntmps17
 go_wp2_with fail
 go_ret
 exact ⟨rfl, rfl⟩
set_option maxRecDepth 100000 in
theorem postnil_any (x : Ety) (w : World) : Calls Try.prog 8 #[.pointer none, etyV x] w fun e w' => e = .returned (.int .i64 7) ∧ Below w.heap.size w w' := by
 obtain ⟨xs, hxs⟩ : ∃ xs, (etyC x).toArray = xs := ⟨_, rfl⟩
 have hxV : etyV x = .agg xs := by rw [etyV_is, hxs]
 rw [hxV]
 obtain ⟨w2, hw2⟩ : ∃ w2, w.alloc (.cells xs 24) = w2 := ⟨_, rfl⟩
 have HB2 : Hid (Below w.heap.size w w2) := Lib.hid (by rw [← hw2]; exact below_alloc_new _)
 go_enter Try.func8, Try.ntmps8
 go_wp2_with fail
 go_ret
 exact ⟨rfl, HB2.out⟩
set_option maxRecDepth 100000 in
set_option maxHeartbeats 3200000 in
theorem post1_any {M : Nat → Prop} {B : Nat} (j : JD) (x : Ety) (X : List Lnk) (w : World) (hj : JK M B w j) (hx : EtyK w x X) (hn : x.n ≤ 1000) (hc : chkN j.g x X j.L j.G ≠ 0) : Calls Try.prog 8 #[.pointer (some ⟨j.b, 0, none⟩), etyV x] w fun e w' => e = .returned (.int .i64 (chkN j.g x X j.L j.G)) ∧ Below w.heap.size w w' := by
 have HCE := Lib.hid (fun W (h : Below w.heap.size w W) => jce_any j x X W (hj.up h) (hx.up h) hn)
 generalize chkN j.g x X j.L j.G = cc at *
 obtain ⟨XV, hXV⟩ : ∃ XV, XV = etyV x := ⟨_, rfl⟩
 rw [← hXV] at HCE
 obtain ⟨xs, hxs⟩ : ∃ xs, (etyC x).toArray = xs := ⟨_, rfl⟩
 have hxV : etyV x = .agg xs := by rw [etyV_is, hxs]
 rw [hxV]
 obtain ⟨s0, hs0⟩ : ∃ s0, w.heap.size = s0 := ⟨_, rfl⟩
 obtain ⟨w2, hw2⟩ : ∃ w2, w.alloc (.cells xs 24) = w2 := ⟨_, rfl⟩
 have HX2 : Hid (Wh 24 w2 s0 (etyC x)) := Lib.hid (by rw [← hw2, ← hs0, ← hxs]; exact Wh.new w _ _)
 have HB2 : Hid (Below w.heap.size w w2) := Lib.hid (by rw [← hw2]; exact below_alloc_new _)
 have HXV := Lib.hid hXV
 have e0 : (cc != 0) = true := by simp [hc]
 clear hj hx hxV hXV hc
 go_enter Try.func8, Try.ntmps8
 go_wp2_with (go_at_call 17; refine (jchecks_any _ _).mono ?_; rintro e w3 ⟨rfl, hw3⟩; have HW3 := Lib.hid hw3; clear hw3)
 have HF3 : Hid (Rg w3 w2.heap.size [.func (.func 31) #[.pointer (some ⟨j.b, 0, none⟩)] #[], .func (.func 32) #[.pointer (some ⟨j.b, 0, none⟩)] #[], .func (.func 33) #[.pointer (some ⟨j.b, 0, none⟩)] #[], .func (.func 34) #[.pointer (some ⟨j.b, 0, none⟩)] #[]]) := Lib.hid (by rw [HW3.out]; exact rg_new w2 _ _)
 have hB3 : Below w2.heap.size w2 w3 := by rw [HW3.out]; exact below_alloc_new _
 have HB3 := Lib.hid (HB2.out.trans (hB3.mono HB2.out.size))
 have HX3 := Lib.hid (HX2.out.up hB3)
 clear hB3 HX2 HB2 HW3
 go_loopg [13] 1 (fun kx s13 wr => s13 = .int .i64 0 ∧ Below w3.heap.size w3 wr)
 case atStart => exact ⟨rfl, Below.refl _ _⟩
 case round =>
  obtain ⟨rfl, hBi⟩ := hrel
  have c0 := (HF3.out.up hBi).cell 0 _ rfl
  have HBW := Lib.hid (HB3.out.trans (hBi.mono HB3.out.size))
  have HBI := Lib.hid hBi
  have HLX : Hid ((Instr.loadAt 24 (.pointer (some ⟨s0, 0, none⟩))).run Try.prog wr = .ok XV wr) := Lib.hid (by rw [HXV.out, etyV_is]; exact (HX3.out.up hBi).rg.load 0 24 (etyC x) rfl _ Try.underlying24 rfl (by kernel_rfl))
  clear hBi
  go_wp2_with (first
   | (refine wpList_load_is rfl 24 _ rfl (.pointer (some ⟨s0, 0, none⟩)) rfl XV HLX.out ?_)
   | (go_at_call 31; refine (HCE.out _ HBW.out).mono ?_; rintro e w5 ⟨rfl, hb5⟩; have HB5 := Lib.hid (HBI.out.trans (hb5.mono HBI.out.size)); clear hb5))
  go_ret
  exact ⟨rfl, HB3.out.trans (HB5.out.mono HB3.out.size)⟩
theorem smp_sm (A : Option Addr) (c : Nat) (E : Option Addr) (p0 p1 p2 p3 : EAd) : Sm (smpG A c E) (smpEs p0 p1 p2 p3) := ⟨by show 26 ≤ 60; omega, by show 4 ≤ 14; omega, fun e he => by
 simp [smpEs] at he
 rcases he with rfl | rfl | rfl | rfl <;> exact ⟨by show 14 ≤ 60; omega, by show 14 ≤ 60; omega⟩⟩
theorem smp_w (A : Option Addr) (c : Nat) (E : Option Addr) (p0 p1 p2 p3 : EAd) : GrW (smpG A c E) smpL (smpEs p0 p1 p2 p3) := ⟨by show 3 ≤ maxLen; unfold maxLen; omega, (by
 have h : ((smpG A c E).R.all fun x => (Lit.int .i64 x).wf) = true := by kernel_rfl
 exact fun x hx => List.all_eq_true.1 h x hx), fun e he => by
 simp [smpEs] at he
 rcases he with rfl | rfl | rfl | rfl
 ·exact ⟨by show 6 ≤ maxLen; unfold maxLen; omega, by show 3 ≤ maxLen; unfold maxLen; omega⟩
 ·exact ⟨by show 5 ≤ maxLen; unfold maxLen; omega, by show 3 ≤ maxLen; unfold maxLen; omega⟩
 ·exact ⟨by show 4 ≤ maxLen; unfold maxLen; omega, by show 3 ≤ maxLen; unfold maxLen; omega⟩
 ·exact ⟨by show 5 ≤ maxLen; unfold maxLen; omega, by show 3 ≤ maxLen; unfold maxLen; omega⟩⟩
def ety1 : Ety := ⟨1, 0, 0, 0, 0, ⟨#[]⟩, none, 0, 0⟩
theorem ety1_k (w : World) : EtyK w ety1 [] := ⟨rfl, LnkAt.nil, fun l hl => by cases hl⟩
theorem ety1_chk (g : Grp) (L : List Acc) (G : List Ent) : chkN g ety1 [] L G = 1 := by
 have h1 : hdN g ety1 L G = 1 := by
  unfold hdN
  have h2 : orgB ety1.kind ety1.of_ = false := rfl
  rw [h2]
  simp
 unfold chkN fst6
 rw [h1]
 rfl
theorem ety1_build (w : World) : (Instr.build 24 #[(0, .int .i64 1)]).run Try.prog w = .ok (etyV ety1) w := run_build w 24 _ _ (by kernel_rfl)
theorem snew_any (A : Option Addr) (c : Nat) (E : Option Addr) (p0 p1 p2 p3 : EAd) (w : World) (hk : GrK w (smpG A c E) smpL (smpEs p0 p1 p2 p3)) : Calls Try.prog 14 #[grpV (smpG A c E)] w fun e w' => (∃ j M B, e = .returned (.tuple #[.pointer (some ⟨j.b, 0, none⟩), .int .i64 0]) ∧ JK M B w' j ∧ j.n = 0) ∧ Below w.heap.size w w' := by
 refine (new_any (smpG A c E) smpL (smpEs p0 p1 p2 p3) w hk (smp_sm A c E p0 p1 p2 p3) (smp_w A c E p0 p1 p2 p3)).mono ?_
 rintro e w' ⟨h, hb⟩
 unfold NewP at h
 rw [smp_ok, if_pos rfl] at h
 obtain ⟨j, M, h1, h2, h3, -, -⟩ := h
 exact ⟨⟨j, M, _, h1, h2, by rw [← h2.ln, h3]; rfl⟩, hb⟩
set_option maxRecDepth 100000 in
set_option maxHeartbeats 6400000 in
theorem jawake_any (w : World) : Calls Try.prog 4 #[] w fun e w' => e = .returned (.bool true) ∧ Below w.heap.size w w' := by
 have HN := Lib.hid snew_any
 have HP := Lib.hid (fun (M : Nat → Prop) (B : Nat) (j : JD) (W : World) (h : JK M B W j) => by have h9 := post1_any j ety1 [] W h (ety1_k W) (Nat.zero_le _) (by rw [ety1_chk]; decide); rw [ety1_chk] at h9; exact h9)
 go_enter Try.func4, Try.ntmps4
 go_upto_region 2 with (first
  | (go_at_call 13; refine (spgrp_any _).mono ?_; rintro e w3 ⟨⟨A, c, E, p0, p1, p2, p3, rfl, hk⟩, hb⟩; have HK3 := Lib.hid hk; have HB3 := Lib.hid hb; clear hk hb; obtain ⟨s3, hs3⟩ : ∃ s3, w3.heap.size = s3 := ⟨_, rfl⟩; have HS3 := Lib.hid hs3)
  | (refine wpList_store_wh rfl 52 _ _ rfl s3 rfl 52 [.string ⟨#[]⟩, .int .i64 0, .int .i64 0, .int .i64 0, .slice none 0 0, .int .i64 0, .int .i64 0, .int .i64 0, .int .i64 0, .int .i64 0, .int .i64 0, .int .i64 0, .int .i64 0, .int .i64 0, .int .i64 0, .int .i64 0, .int .i64 0, .int .i64 0, .int .i64 0, .int .i64 0, .slice none 0 0] (grpC (smpG A c E)) rfl (by rw [← HS3.out]; exact Wh.new w3 52 [.string ⟨#[]⟩, .int .i64 0, .int .i64 0, .int .i64 0, .slice none 0 0, .int .i64 0, .int .i64 0, .int .i64 0, .int .i64 0, .int .i64 0, .int .i64 0, .int .i64 0, .int .i64 0, .int .i64 0, .int .i64 0, .int .i64 0, .int .i64 0, .int .i64 0, .int .i64 0, .int .i64 0, .slice none 0 0]) rfl (by kernel_rfl) (by kernel_rfl) ?_; intro w5 hr5 ho5 hz5; have HG5 := Lib.hid hr5.out; have hb5 : Below w3.heap.size w3 w5 := only_new (by rw [HS3.out]; exact ho5.out); have HK5 := Lib.hid (HK3.out.up hb5); have HB5 := Lib.hid (HB3.out.trans (hb5.mono HB3.out.size)); clear hr5 ho5 hz5 hb5 hs3 HK3 HB3))
 have HLG : Hid ((Instr.loadAt 52 (.pointer (some ⟨s3, 0, none⟩))).run Try.prog w5 = .ok (grpV (smpG A c E)) w5) := Lib.hid (by rw [grpV_is]; exact HG5.out.rg.load 0 52 (grpC (smpG A c E)) rfl _ Try.underlying52 rfl (by kernel_rfl))
 obtain ⟨GV, hGV⟩ : ∃ GV, GV = grpV (smpG A c E) := ⟨_, rfl⟩
 rw [← hGV] at HLG
 have HGV := Lib.hid hGV
 clear hGV
 go_wp2_with (first
  | (refine wpList_load_is rfl 52 _ rfl (.pointer (some ⟨s3, 0, none⟩)) rfl GV HLG.out ?_)
  | (go_at_call 14; rw [HGV.out]; refine (HN.out A c E p0 p1 p2 p3 _ HK5.out).mono ?_; rintro e w6 ⟨⟨j, M, B, rfl, hj, hj0⟩, hb⟩; have HJ6 := Lib.hid hj; have hn0 : j.n = 0 := hj0; have HB6 := Lib.hid (HB5.out.trans (hb.mono HB5.out.size)); clear hj hb hj0)
  | (refine wpList_build_is rfl 24 _ rfl [(0, .int .i64 1)] rfl (etyV ety1) (ety1_build _) ?_)
  | (go_at_call 8; refine (HP.out M B j _ HJ6.out).mono ?_; rintro e w7 ⟨rfl, hb⟩; have HJ7 := Lib.hid (HJ6.out.up hb); have HB7 := Lib.hid (HB6.out.trans (hb.mono HB6.out.size)); clear hb HJ6 HB6)
  | (go_at_call 10; refine (jlen_any j _ HJ7.out).mono ?_; rintro e w8 ⟨rfl, rfl⟩; rw [hn0]))
 go_ret
 exact ⟨rfl, HB7.out⟩
set_option maxRecDepth 100000 in
theorem copnil_any (f : Value) (w : World) : Calls Try.prog 22 #[.slice none 0 0, f] w fun e w' => e = .returned (.slice none 0 0) ∧ w = w' := by
 go_enter Try.func22, Try.ntmps22
 go_wp2_with fail
 go_loopg [5, 10] 0 (fun kx s5 s10 wr => s5 = .slice none 0 0 ∧ s10 = .int .i64 0 ∧ w = wr)
 case atStart => exact ⟨rfl, rfl, rfl⟩
 case round =>
  obtain ⟨rfl, rfl, rfl⟩ := hrel
  go_wp2_with fail
  go_ret
  exact ⟨rfl, rfl⟩
set_option maxRecDepth 100000 in
theorem entnil_any (w : World) : Calls Try.prog 11 #[.pointer none] w fun e w' => e = .returned (.slice none 0 0) ∧ w = w' := by
 go_enter Try.func11, Try.ntmps11
 go_wp2_with (first
  | (go_at_call 21; refine (allnil_any _).mono ?_; rintro e w3 ⟨rfl, rfl⟩)
  | (go_at_call 22; refine (copnil_any _ _).mono ?_; rintro e w4 ⟨rfl, rfl⟩))
 go_ret
 exact ⟨rfl, rfl⟩
set_option maxRecDepth 100000 in
theorem ofnil_any (k : Int) (w : World) : Calls Try.prog 12 #[.pointer none, .int .i64 k] w fun e w' => e = .returned (.slice none 0 0) ∧ Below w.heap.size w w' := by
 have HB := Lib.hid (fun o => below_alloc_new (w := w) o)
 go_enter Try.func12, Try.ntmps12
 go_wp2_with (first
  | (go_at_call 21; refine (allnil_any _).mono ?_; rintro e w3 ⟨rfl, rfl⟩)
  | (go_at_call 22; refine (copnil_any _ _).mono ?_; rintro e w4 ⟨rfl, rfl⟩))
 go_ret
 exact ⟨rfl, HB.out _⟩
set_option maxRecDepth 100000 in
theorem clonenil_any (w : World) : Calls Try.prog 9 #[.pointer none] w fun e w' => e = .returned (.pointer none) ∧ w = w' := by
 go_enter Try.func9, Try.ntmps9
 go_wp2_with fail
 go_ret
 exact ⟨rfl, rfl⟩
set_option maxRecDepth 100000 in
set_option maxHeartbeats 3200000 in
theorem getnil_any (id : Int) (w : World) : Calls Try.prog 5 #[.pointer none, .int .i64 id] w fun e w' => (∃ A c, e = .returned (.tuple #[etyV (ety0.at A c), .bool false])) ∧ Below w.heap.size w w' := by
 obtain ⟨s0, hs0⟩ : ∃ s0, w.heap.size = s0 := ⟨_, rfl⟩
 obtain ⟨w2, hw2⟩ : ∃ w2, w.alloc (.cells #[.int .i64 0, .int .i64 0, .int .i64 0, .int .i64 0, .int .i64 0, .string ⟨#[]⟩, .slice none 0 0] 24) = w2 := ⟨_, rfl⟩
 have HZ : Hid (Wh 24 w2 s0 [.int .i64 0, .int .i64 0, .int .i64 0, .int .i64 0, .int .i64 0, .string ⟨#[]⟩, .slice none 0 0]) := Lib.hid (by rw [← hw2, ← hs0]; exact Wh.new w 24 [.int .i64 0, .int .i64 0, .int .i64 0, .int .i64 0, .int .i64 0, .string ⟨#[]⟩, .slice none 0 0])
 have HB2 : Hid (Below s0 w w2) := Lib.hid (by rw [← hw2, ← hs0]; exact below_alloc_new _)
 have HS2 : Hid (w2.heap.size = s0 + 1) := Lib.hid (by rw [← hw2, ← hs0]; simp)
 have HS0 := Lib.hid hs0
 go_enter Try.func5, Try.ntmps5
 go_upto_region 2 with (first
  | (go_at_call 15; refine (findnil_any _ _).mono ?_; rintro e w3 ⟨rfl, hb⟩; have HB3 := Lib.hid hb; clear hb; obtain ⟨s3, hs3⟩ : ∃ s3, w3.heap.size = s3 := ⟨_, rfl⟩; have HS3 := Lib.hid hs3)
  | (refine wpList_store_wh rfl 24 _ _ rfl s3 rfl 24 [.int .i64 0, .int .i64 0, .int .i64 0, .int .i64 0, .int .i64 0, .string ⟨#[]⟩, .slice none 0 0] (etyC ety0) rfl (by rw [← HS3.out]; exact Wh.new w3 24 [.int .i64 0, .int .i64 0, .int .i64 0, .int .i64 0, .int .i64 0, .string ⟨#[]⟩, .slice none 0 0]) rfl (by kernel_rfl) (by kernel_rfl) ?_; intro w5 hr5 ho5 hz5; have HR5 := Lib.hid hr5.out; have hb5 : Below w3.heap.size w3 w5 := only_new (by rw [HS3.out]; exact ho5.out); have HB5 := Lib.hid (HB3.out.trans (hb5.mono HB3.out.size)); clear hr5 ho5 hz5 hb5 hs3 HB3))
 have HLE : Hid ((Instr.loadAt 24 (.pointer (some ⟨s3, 0, none⟩))).run Try.prog w5 = .ok (etyV ety0) w5) := Lib.hid (HR5.out.rg.load 0 24 (etyC ety0) rfl _ Try.underlying24 rfl (by kernel_rfl))
 have HM1 : True := trivial
 have HM2 : True := trivial
 go_wp2_with (first
  | (clear HM1; refine wpList_load_is rfl 24 _ rfl (.pointer (some ⟨s3, 0, none⟩)) rfl (etyV ety0) HLE.out ?_)
  | (go_at_call 16; refine (copyof_any ety0 [] _ (ety0_k _) (Nat.zero_le _)).mono ?_; rintro e w6 ⟨⟨A6, c6, rfl, -⟩, hb⟩; have HB6 := Lib.hid (HB5.out.trans (hb.mono HB5.out.size)); clear hb; have HZ6 := Lib.hid (HZ.out.up HB6.out))
  | (clear HM2; refine wpList_store_wh rfl 24 _ _ rfl s0 rfl 24 [.int .i64 0, .int .i64 0, .int .i64 0, .int .i64 0, .int .i64 0, .string ⟨#[]⟩, .slice none 0 0] (etyC (ety0.at A6 c6)) rfl HZ6.out rfl (by kernel_rfl) (by kernel_rfl) ?_; intro w8 hr8 ho8 hz8))
 refine bodyPost_ret (v := .tuple #[etyV (ety0.at A6 c6), .bool false]) (results_cell2 Try.results5 _ _ s0 (etyC (ety0.at A6 c6)) _ _ rfl rfl hr8.out.range Try.underlying24 rfl (by kernel_rfl)) rfl ⟨⟨A6, c6, rfl⟩, ?_⟩
 have h9 : Below s0 w w8 := (HB2.out.trans (HB6.out.mono (by have := HS2.out; omega))).trans (ho8.out.below (B := s0) (fun k hk => Nat.le_of_eq hk.symm) (by have := HB6.out.size; have := HS2.out; omega))
 first | exact h9 | (rw [HS0.out]; exact h9)
set_option maxRecDepth 100000 in
set_option maxHeartbeats 3200000 in
theorem linenil_any (a b : Int) (w : World) : Calls Try.prog 6 #[.pointer none, .agg #[.int .i64 a, .int .i64 b]] w fun e w' => e = .returned (.tuple #[.agg #[.int .i64 0, .int .i64 0, .int .i64 0], .bool false]) ∧ Below w.heap.size w w' := by
 obtain ⟨s0, hs0⟩ : ∃ s0, w.heap.size = s0 := ⟨_, rfl⟩
 obtain ⟨w2, hw2⟩ : ∃ w2, (w.alloc (.cells #[.int .i64 a, .int .i64 b] 26)).alloc (.cells #[.int .i64 0, .int .i64 0, .int .i64 0] 32) = w2 := ⟨_, rfl⟩
 have HAB : Hid (Wh 26 w2 s0 [.int .i64 a, .int .i64 b]) := Lib.hid (by rw [← hw2, ← hs0]; exact (Wh.new w _ _).up (below_alloc_new _))
 have HZ : Hid (Wh 32 w2 (s0 + 1) [.int .i64 0, .int .i64 0, .int .i64 0]) := Lib.hid (by
  rw [← hw2, ← hs0]
  have h9 := Wh.new (w.alloc (.cells #[.int .i64 a, .int .i64 b] 26)) 32 [.int .i64 0, .int .i64 0, .int .i64 0]
  rw [World.size_alloc] at h9
  exact h9)
 have HB2 : Hid (Below s0 w w2) := Lib.hid (by rw [← hw2, ← hs0]; exact below_new (below_alloc_new _) _)
 have HS2 : Hid (w2.heap.size = s0 + 2) := Lib.hid (by rw [← hw2, ← hs0]; simp)
 have HS0 := Lib.hid hs0
 have HBD : Hid (∀ W, (Instr.build 32 #[]).run Try.prog W = .ok (.agg #[.int .i64 0, .int .i64 0, .int .i64 0]) W) := Lib.hid (fun W => run_build W 32 _ _ (by kernel_rfl))
 have q0 := HAB.out.at 0 _ rfl
 have HM1 : True := trivial
 have HM2 : True := trivial
 by_cases hb0 : b < 0
 ·have hb1 : ¬ (0 : Int) ≤ b := by omega
  go_enter Try.func6, Try.ntmps6
  go_wp2_with (first
   | (go_at_call 15; refine (findnil_any _ _).mono ?_; rintro e w3 ⟨rfl, hb⟩; have HB3 := Lib.hid hb; clear hb; obtain ⟨s3, hs3⟩ : ∃ s3, w3.heap.size = s3 := ⟨_, rfl⟩; have HS3 := Lib.hid hs3)
   | (clear HM1; refine wpList_store_wh rfl 24 _ _ rfl s3 rfl 24 [.int .i64 0, .int .i64 0, .int .i64 0, .int .i64 0, .int .i64 0, .string ⟨#[]⟩, .slice none 0 0] (etyC ety0) rfl (by rw [← HS3.out]; exact Wh.new w3 24 [.int .i64 0, .int .i64 0, .int .i64 0, .int .i64 0, .int .i64 0, .string ⟨#[]⟩, .slice none 0 0]) rfl (by kernel_rfl) (by kernel_rfl) ?_; intro w5 hr5 ho5 hz5; have q6 : w5.cell? ⟨s3, 6, none⟩ = some (.slice none 0 0) := hr5.out.at 6 _ rfl; have hb5 : Below w3.heap.size w3 w5 := only_new (by rw [HS3.out]; exact ho5.out); have HB5 := Lib.hid (HB3.out.trans (hb5.mono HB3.out.size)); have q1 := (HAB.out.up HB5.out).at 1 _ rfl; have HZ5 := Lib.hid (HZ.out.up HB5.out); clear hr5 ho5 hz5 hb5 hs3 HB3)
   | (refine wpList_build_is rfl 32 _ rfl [] rfl (.agg #[.int .i64 0, .int .i64 0, .int .i64 0]) (HBD.out _) ?_)
   | (clear HM2; refine wpList_store_wh rfl 32 _ _ rfl (s0 + 1) rfl 32 [.int .i64 0, .int .i64 0, .int .i64 0] [.int .i64 0, .int .i64 0, .int .i64 0] rfl HZ5.out rfl (by kernel_rfl) (by kernel_rfl) ?_; intro w8 hr8 ho8 hz8))
  refine bodyPost_ret (v := .tuple #[.agg #[.int .i64 0, .int .i64 0, .int .i64 0], .bool false]) (results_cell2 Try.results6 _ _ (s0 + 1) [.int .i64 0, .int .i64 0, .int .i64 0] _ _ rfl rfl hr8.out.range Try.underlying32 rfl (by kernel_rfl)) rfl ⟨rfl, ?_⟩
  have h9 : Below s0 w w8 := (HB2.out.trans (HB5.out.mono (by have := HS2.out; omega))).trans (ho8.out.below (B := s0) (fun k hk => by have h8 : k = s0 + 1 := hk; omega) (by have := HB5.out.size; have := HS2.out; omega))
  first | exact h9 | (rw [HS0.out]; exact h9)
 ·have hb1 : (0 : Int) ≤ b := by omega
  go_enter Try.func6, Try.ntmps6
  go_wp2_with (first
   | (go_at_call 15; refine (findnil_any _ _).mono ?_; rintro e w3 ⟨rfl, hb⟩; have HB3 := Lib.hid hb; clear hb; obtain ⟨s3, hs3⟩ : ∃ s3, w3.heap.size = s3 := ⟨_, rfl⟩; have HS3 := Lib.hid hs3)
   | (clear HM1; refine wpList_store_wh rfl 24 _ _ rfl s3 rfl 24 [.int .i64 0, .int .i64 0, .int .i64 0, .int .i64 0, .int .i64 0, .string ⟨#[]⟩, .slice none 0 0] (etyC ety0) rfl (by rw [← HS3.out]; exact Wh.new w3 24 [.int .i64 0, .int .i64 0, .int .i64 0, .int .i64 0, .int .i64 0, .string ⟨#[]⟩, .slice none 0 0]) rfl (by kernel_rfl) (by kernel_rfl) ?_; intro w5 hr5 ho5 hz5; have q6 : w5.cell? ⟨s3, 6, none⟩ = some (.slice none 0 0) := hr5.out.at 6 _ rfl; have hb5 : Below w3.heap.size w3 w5 := only_new (by rw [HS3.out]; exact ho5.out); have HB5 := Lib.hid (HB3.out.trans (hb5.mono HB3.out.size)); have q1 := (HAB.out.up HB5.out).at 1 _ rfl; have HZ5 := Lib.hid (HZ.out.up HB5.out); clear hr5 ho5 hz5 hb5 hs3 HB3)
   | (refine wpList_build_is rfl 32 _ rfl [] rfl (.agg #[.int .i64 0, .int .i64 0, .int .i64 0]) (HBD.out _) ?_)
   | (clear HM2; refine wpList_store_wh rfl 32 _ _ rfl (s0 + 1) rfl 32 [.int .i64 0, .int .i64 0, .int .i64 0] [.int .i64 0, .int .i64 0, .int .i64 0] rfl HZ5.out rfl (by kernel_rfl) (by kernel_rfl) ?_; intro w8 hr8 ho8 hz8))
  refine bodyPost_ret (v := .tuple #[.agg #[.int .i64 0, .int .i64 0, .int .i64 0], .bool false]) (results_cell2 Try.results6 _ _ (s0 + 1) [.int .i64 0, .int .i64 0, .int .i64 0] _ _ rfl rfl hr8.out.range Try.underlying32 rfl (by kernel_rfl)) rfl ⟨rfl, ?_⟩
  have h9 : Below s0 w w8 := (HB2.out.trans (HB5.out.mono (by have := HS2.out; omega))).trans (ho8.out.below (B := s0) (fun k hk => by have h8 : k = s0 + 1 := hk; omega) (by have := HB5.out.size; have := HS2.out; omega))
  first | exact h9 | (rw [HS0.out]; exact h9)
set_option maxRecDepth 100000 in
set_option maxHeartbeats 6400000 in
theorem law_jnil (x : Ety) (X : List Lnk) (a b : Int) (w : World) (_hx : EtyK w x X) (_hn : x.n ≤ 9223372036854775807) (_ht : x.txt.size ≤ maxLen) : Calls Try.prog 3 #[etyV x, .agg #[.int .i64 a, .int .i64 b]] w fun e w' => e = .returned (.bool true) ∧ Below w.heap.size w w' := by
 have HPN := Lib.hid (fun W => postnil_any x W)
 obtain ⟨XV, hXV⟩ : ∃ XV, XV = etyV x := ⟨_, rfl⟩
 rw [← hXV] at HPN
 obtain ⟨xs, hxs⟩ : ∃ xs, (etyC x).toArray = xs := ⟨_, rfl⟩
 have hxV : etyV x = .agg xs := by rw [etyV_is, hxs]
 rw [hxV]
 obtain ⟨s0, hs0⟩ : ∃ s0, w.heap.size = s0 := ⟨_, rfl⟩
 obtain ⟨w2, hw2⟩ : ∃ w2, (w.alloc (.cells xs 24)).alloc (.cells #[.int .i64 a, .int .i64 b] 26) = w2 := ⟨_, rfl⟩
 have HXB : Hid (Wh 24 w2 s0 (etyC x)) := Lib.hid (by rw [← hw2, ← hs0, ← hxs]; exact (Wh.new w _ _).up (below_alloc_new _))
 have HAB : Hid (Wh 26 w2 (s0 + 1) [.int .i64 a, .int .i64 b]) := Lib.hid (by
  rw [← hw2, ← hs0]
  have h9 := Wh.new (w.alloc (.cells xs 24)) 26 [.int .i64 a, .int .i64 b]
  rw [World.size_alloc] at h9
  exact h9)
 have HB2 : Hid (Below s0 w w2) := Lib.hid (by rw [← hw2, ← hs0]; exact below_new (below_alloc_new _) _)
 have HS2 : Hid (w2.heap.size = s0 + 2) := Lib.hid (by rw [← hw2, ← hs0]; simp)
 have HS0 := Lib.hid hs0
 have HLX : Hid (∀ w9, Below w2.heap.size w2 w9 → (Instr.loadAt 24 (.pointer (some ⟨s0, 0, none⟩))).run Try.prog w9 = .ok XV w9) := Lib.hid (fun w9 h9 => by rw [hXV, etyV_is]; exact (HXB.out.up h9).rg.load 0 24 (etyC x) rfl _ Try.underlying24 rfl (by kernel_rfl))
 have HLR : Hid (∀ w9, Below w2.heap.size w2 w9 → (Instr.loadAt 26 (.pointer (some ⟨s0 + 1, 0, none⟩))).run Try.prog w9 = .ok (.agg #[.int .i64 a, .int .i64 b]) w9) := Lib.hid (fun w9 h9 => (HAB.out.up h9).rg.load 0 26 [.int .i64 a, .int .i64 b] rfl _ Try.underlying26 rfl (by kernel_rfl))
 have HBC : Hid (Below w2.heap.size w2 w2) := Lib.hid (Below.refl _ _)
 clear hXV hxV hxs
 have HM1 : True := trivial
 have HM2 : True := trivial
 have HM3 : True := trivial
 have HM4 : True := trivial
 go_enter Try.func3, Try.ntmps3
 go_wp2_with (first
  | (go_at_call 4; refine (jawake_any _).mono ?_; rintro e w3 ⟨rfl, hb⟩; have hB3 := Lib.hid (HBC.out.trans (hb.mono HBC.out.size)); clear hb HBC; have HBC := hB3; clear hB3; have q0 := (HAB.out.up HBC.out).at 0 _ rfl; have q1 := (HAB.out.up HBC.out).at 1 _ rfl)
  | (go_at_call 5; refine (getnil_any _ _).mono ?_; rintro e w4 ⟨⟨A4, c4, rfl⟩, hb⟩; have hB3 := Lib.hid (HBC.out.trans (hb.mono HBC.out.size)); clear hb HBC; have HBC := hB3; clear hB3; clear q0 q1; obtain ⟨g4, hg4⟩ : ∃ g4, w4.heap.size = g4 := ⟨_, rfl⟩; have HG4 := Lib.hid hg4)
  | (clear HM1; refine wpList_store_wh rfl 24 _ _ rfl g4 rfl 24 [.int .i64 0, .int .i64 0, .int .i64 0, .int .i64 0, .int .i64 0, .string ⟨#[]⟩, .slice none 0 0] (etyC (ety0.at A4 c4)) rfl (by rw [← HG4.out]; exact Wh.new w4 24 [.int .i64 0, .int .i64 0, .int .i64 0, .int .i64 0, .int .i64 0, .string ⟨#[]⟩, .slice none 0 0]) rfl (by kernel_rfl) (by kernel_rfl) ?_; intro w5 hr5 ho5 hz5; have hb : Below w4.heap.size w4 w5 := only_new (by rw [HG4.out]; exact ho5.out); clear hr5 ho5 hz5 hg4; have hB3 := Lib.hid (HBC.out.trans (hb.mono HBC.out.size)); clear hb HBC; have HBC := hB3; clear hB3; have q0 := (HAB.out.up HBC.out).at 0 _ rfl; have q1 := (HAB.out.up HBC.out).at 1 _ rfl)
  | (clear HM2; refine wpList_load_is rfl 26 _ rfl (.pointer (some ⟨s0 + 1, 0, none⟩)) rfl (.agg #[.int .i64 a, .int .i64 b]) (HLR.out _ HBC.out) ?_)
  | (go_at_call 6; refine (linenil_any _ _ _).mono ?_; rintro e w6 ⟨rfl, hb⟩; have hB3 := Lib.hid (HBC.out.trans (hb.mono HBC.out.size)); clear hb HBC; have HBC := hB3; clear hB3; clear q0 q1; obtain ⟨g6, hg6⟩ : ∃ g6, w6.heap.size = g6 := ⟨_, rfl⟩; have HG6 := Lib.hid hg6)
  | (clear HM3; refine wpList_store_wh rfl 32 _ _ rfl g6 rfl 32 [.int .i64 0, .int .i64 0, .int .i64 0] [.int .i64 0, .int .i64 0, .int .i64 0] rfl (by rw [← HG6.out]; exact Wh.new w6 32 [.int .i64 0, .int .i64 0, .int .i64 0]) rfl (by kernel_rfl) (by kernel_rfl) ?_; intro w7 hr7 ho7 hz7; have hb : Below w6.heap.size w6 w7 := only_new (by rw [HG6.out]; exact ho7.out); clear hr7 ho7 hz7 hg6; have hB3 := Lib.hid (HBC.out.trans (hb.mono HBC.out.size)); clear hb HBC; have HBC := hB3; clear hB3; have q0 := (HAB.out.up HBC.out).at 0 _ rfl; have q1 := (HAB.out.up HBC.out).at 1 _ rfl)
  | (go_at_call 7; refine (revnil_any _ _).mono ?_; rintro e w8 ⟨rfl, rfl⟩)
  | (clear HM4; refine wpList_load_is rfl 24 _ rfl (.pointer (some ⟨s0, 0, none⟩)) rfl XV (HLX.out _ HBC.out) ?_)
  | (go_at_call 8; refine (HPN.out _).mono ?_; rintro e w9 ⟨rfl, hb⟩; have hB3 := Lib.hid (HBC.out.trans (hb.mono HBC.out.size)); clear hb HBC; have HBC := hB3; clear hB3; clear q0 q1; have q0 := (HAB.out.up HBC.out).at 0 _ rfl; have q1 := (HAB.out.up HBC.out).at 1 _ rfl)
  | (go_at_call 9; refine (clonenil_any _).mono ?_; rintro e w8 ⟨rfl, rfl⟩)
  | (go_at_call 10; refine (lennil_any _).mono ?_; rintro e w8 ⟨rfl, rfl⟩)
  | (go_at_call 11; refine (entnil_any _).mono ?_; rintro e w8 ⟨rfl, rfl⟩)
  | (go_at_call 12; refine (ofnil_any _ _).mono ?_; rintro e w10 ⟨rfl, hb⟩; have hB3 := Lib.hid (HBC.out.trans (hb.mono HBC.out.size)); clear hb HBC; have HBC := hB3; clear hB3; clear q0 q1))
 go_ret
 refine ⟨by first | rfl | simp, ?_⟩
 have h9 : Below s0 w _ := HB2.out.trans (HBC.out.mono (by have := HS2.out; omega))
 first | exact h9 | (rw [HS0.out]; exact h9)
open Go.ChangeShapes Go.WideShapes Go.ChangeAt Go.WideMaps Go.WideElems Go.RowKit Go.Deep Go.Joins
theorem open_wlineK {H : Type} {enc : TypeId × Value → H} {W : World} {fuel : Nat} {cs : List Value} {x : DataW H × List MemPlace} (hf : DataW.trod enc Try.prog W 0 (fun _ => true) true fuel 22 cs = some x) :
  ∃ A len cap K, cs = [.slice A len cap] ∧ K.length = len ∧ len ≤ 9223372036854775807 ∧ LnkAt W A K ∧ ∀ l ∈ K, okK (kOf l) ∧ (Lit.int .i64 l.tgt).wf = true := by
 obtain ⟨A, len, cap, K, hcs, hlen, hmax, hz, hw⟩ := open_wlnks Try.underlying22 Try.underlying32 (by kernel_rfl) (by kernel_rfl) (by kernel_rfl) Try.underlying3 hf
 exact ⟨A, len, cap, K, hcs, hlen, hmax, hz, fun l hl => ⟨⟨(hw l hl).frm, (hw l hl).since⟩, (hw l hl).tgt⟩⟩
theorem cellsE7 {cs : List Value} (h : cs.length = 7) : ∃ c0 c1 c2 c3 c4 c5 c6, cs = [c0, c1, c2, c3, c4, c5, c6] := by
 match cs, h with
 | [c0, c1, c2, c3, c4, c5, c6], _ => exact ⟨c0, c1, c2, c3, c4, c5, c6, rfl⟩
section
variable {H : Type} {enc : TypeId × Value → H} {W : World}
set_option maxRecDepth 100000 in
theorem open_iety {b0 : Nat} {v : Value} {d : DataW H} {p : List MemPlace} (hval : Value.okWide Try.prog W .any b0 24 v) (h : DataW.Trod enc Try.prog W 0 (fun _ => true) true 24 v d p) :
  ∃ x X, v = etyV x ∧ EtyK W x X ∧ x.n ≤ 9223372036854775807 ∧ x.txt.size ≤ maxLen := by
 obtain ⟨cs, rfl, hsz⟩ := okWide_struct Try.underlying24 hval
 obtain ⟨fuel, hf⟩ := h
 have hcs : (Value.agg cs).cells.toList = cs.toList := by simp [Value.cells]
 rw [hcs] at hf
 obtain ⟨xs, n', -, -, hlen, hxl, hff⟩ := DataW.trod_struct Try.underlying24 hf
 have hC : Try.prog.cellsOf 24 = 7 := by kernel_rfl
 rw [hC] at hlen
 obtain ⟨c0, c1, c2, c3, c4, c5, c6, e7⟩ := cellsE7 hlen
 have k9 : Try.prog.cellsOf 9 = 1 := by kernel_rfl
 have ki : Try.prog.cellsOf 3 = 1 := by kernel_rfl
 have kl : Try.prog.cellsOf 22 = 1 := by kernel_rfl
 have hxl' : xs.length = 7 := hxl
 have hget : ∀ i, i < 7 → ∃ y, xs[i]? = some y := fun i hi => ⟨_, List.getElem?_eq_getElem (by omega)⟩
 have h0 : DataW.trod enc Try.prog W 0 (fun _ => true) true n' 3 ((cs.toList.drop 0).take (Try.prog.cellsOf 3)) = xs[0]? := hff 0 _ rfl
 have h1 : DataW.trod enc Try.prog W 0 (fun _ => true) true n' 3 ((cs.toList.drop 1).take (Try.prog.cellsOf 3)) = xs[1]? := hff 1 _ rfl
 have h2 : DataW.trod enc Try.prog W 0 (fun _ => true) true n' 3 ((cs.toList.drop 2).take (Try.prog.cellsOf 3)) = xs[2]? := hff 2 _ rfl
 have h3 : DataW.trod enc Try.prog W 0 (fun _ => true) true n' 3 ((cs.toList.drop 3).take (Try.prog.cellsOf 3)) = xs[3]? := hff 3 _ rfl
 have h4 : DataW.trod enc Try.prog W 0 (fun _ => true) true n' 3 ((cs.toList.drop 4).take (Try.prog.cellsOf 3)) = xs[4]? := hff 4 _ rfl
 have h5 : DataW.trod enc Try.prog W 0 (fun _ => true) true n' 9 ((cs.toList.drop 5).take (Try.prog.cellsOf 9)) = xs[5]? := hff 5 _ rfl
 have h6 : DataW.trod enc Try.prog W 0 (fun _ => true) true n' 22 ((cs.toList.drop 6).take (Try.prog.cellsOf 22)) = xs[6]? := hff 6 _ rfl
 obtain ⟨y0, e0⟩ := hget 0 (by omega)
 obtain ⟨y1, e1⟩ := hget 1 (by omega)
 obtain ⟨y2, e2⟩ := hget 2 (by omega)
 obtain ⟨y3, e3⟩ := hget 3 (by omega)
 obtain ⟨y4, e4⟩ := hget 4 (by omega)
 obtain ⟨y5, e5⟩ := hget 5 (by omega)
 obtain ⟨y6, e6⟩ := hget 6 (by omega)
 rw [e0, ki, e7] at h0
 rw [e1, ki, e7] at h1
 rw [e2, ki, e7] at h2
 rw [e3, ki, e7] at h3
 rw [e4, ki, e7] at h4
 rw [e5, k9, e7] at h5
 rw [e6, kl, e7] at h6
 obtain ⟨z0, q0, -, -⟩ := DataW.trod_int Try.underlying3 h0
 obtain ⟨z1, q1, -, -⟩ := DataW.trod_int Try.underlying3 h1
 obtain ⟨z2, q2, -, -⟩ := DataW.trod_int Try.underlying3 h2
 obtain ⟨z3, q3, -, -⟩ := DataW.trod_int Try.underlying3 h3
 obtain ⟨z4, q4, -, -⟩ := DataW.trod_int Try.underlying3 h4
 obtain ⟨tx, q5, -, bt⟩ := DataW.trod_string Try.underlying9 h5
 obtain ⟨A, n, c, X, q6, lx, hmx, hz, ok⟩ := open_wlineK h6
 have a0 : c0 = .int .i64 z0 := by simpa using q0
 have a1 : c1 = .int .i64 z1 := by simpa using q1
 have a2 : c2 = .int .i64 z2 := by simpa using q2
 have a3 : c3 = .int .i64 z3 := by simpa using q3
 have a4 : c4 = .int .i64 z4 := by simpa using q4
 have a5 : c5 = .string tx := by simpa using q5
 have a6 : c6 = .slice A n c := by simpa using q6
 subst a0 a1 a2 a3 a4 a5 a6
 refine ⟨⟨z0, z1, z2, z3, z4, tx, A, n, c⟩, X, ?_, ⟨lx, hz, ok⟩, hmx, bt⟩
 rw [← Array.toArray_toList (xs := cs), e7]
end
open Go.ChangeShapes Go.WideShapes Go.ChangeAt Go.WideMaps Go.WideElems Go.RowKit Go.Joins Go.Deep
theorem open_ipair {H : Type} {enc : TypeId × Value → H} {P : Program} {w : World} {base b0 : Nat} {sp : Nat → Bool} {held : Bool} {r : Reach} {t e : TypeId} {f0 f1 : Field} {v : Value} {d : DataW H} {p : List MemPlace} (hs : P.underlying t = some (.struct #[f0, f1])) (h0 : f0.type = e) (h1 : f1.type = e) (hone : oneCellFields P #[f0, f1] = true) (hC : P.cellsOf t = 2)
  (he : P.underlying e = some (.int .i64)) (hv : Value.okWide P w r b0 t v) (h : DataW.Trod enc P w base sp held t v d p) :
  ∃ x y, v = .agg #[.int .i64 x, .int .i64 y] ∧ (Lit.int .i64 x).wf = true ∧ (Lit.int .i64 y).wf = true := by
 obtain ⟨v0, v1, y0, y1, n, rfl, _, _, k0, k1⟩ := open_agg2 hs hone hC hv h
 rw [h0] at k0
 rw [h1] at k1
 obtain ⟨x, e0, _, w0⟩ := DataW.trod_int he k0
 obtain ⟨y, e1, _, w1⟩ := DataW.trod_int he k1
 simp at e0 e1
 subst e0 e1
 exact ⟨x, y, rfl, w0, w1⟩
end Go.Proofs.Ytbcphcheomojdaa
