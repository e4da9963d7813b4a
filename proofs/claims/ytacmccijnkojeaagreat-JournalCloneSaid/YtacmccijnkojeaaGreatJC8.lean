/- Contracts of the functions that the statements reach, part 8: what was proved of each, callees first. -/
import Derived.Outline
import Derived.Test.YtacmccijnkojeaaGreatJC7
namespace Go.Proofs.YtacmccijnkojeaaGreat
open Go.RowKit
def seK (i : Nat) : Int := [1, 1, 1, 1, 1, 2, 2, 3, 3, 4, 4, 4, 5, 5].getD i 0
def seT (i : Nat) : Int := [1010, 1100, 1200, 1300, 1500, 2000, 2100, 3000, 3300, 4000, 4100, 4700, 5000, 5100].getD i 0
def seA (i : Nat) : List Acc := (List.range i).map fun (j : Nat) => ⟨10 * ((j : Int) + 1), seK j, 0, 0⟩
def seL (i : Nat) : List Lnk := (List.range i).map fun (j : Nat) => ⟨10 * ((j : Int) + 1), seT j, -25567⟩
theorem seA_s (i : Nat) : seA (i + 1) = seA i ++ [⟨10 * ((i : Int) + 1), seK i, 0, 0⟩] := by simp [seA, List.range_succ]
theorem seL_s (i : Nat) : seL (i + 1) = seL i ++ [⟨10 * ((i : Int) + 1), seT i, -25567⟩] := by simp [seL, List.range_succ]
theorem infoLk : (Tryz.prog.info? 101).map (fun i => (i.zero, i.size, i.bytes)) = some (some (.agg #[.int .i64 0, .int .i64 0, .int .i64 0]), 3, 24) := by kernel_rfl
def seS (s0 : Nat) (v : Value) (k : Nat) : Prop := v.ownBlock = some k ∨ k = s0 + 3
def seC (nm cu : ByteArray) (va vl : Value) (f : Nat) (v : Value) : List Value := [.string nm, .string cu, va, vl, .bool false].set f v
section
variable {α : Type} (R : Lay α) (e : TypeId) (wr : World) (s0 : Nat) (vs : Value) (nm cu : ByteArray) (va vl : Value) (f : Nat) (L : List α) (x : α)
def seP (v : Value) (w : World) : Prop := ∃ b, v = .slice (some ⟨b, 0, none⟩) 1 1 ∧ wr.heap.size ≤ b ∧ (∀ k, seS s0 vs k → k < wr.heap.size) ∧ RowAt R w (some ⟨b, 0, none⟩) [x]
def seF : AK.Fact (Only (seS s0 vs)) := ⟨seP R wr s0 vs x, fun _ w w' hb ⟨b, h1, h2, h3, h4⟩ => ⟨b, h1, h2, h3, h4.same fun g o hg => by
 cases hg
 obtain ⟨b', o', e', hlt, _⟩ := h4 (by simp)
 cases e'
 exact hb.blk _ hlt fun hs => by have := h3 _ hs; omega⟩⟩
def seJ (k : Nat) (l : List Value) (W : World) : Prop := Only (seS s0 vs) wr W ∧ match k with
 | 0 => Wh 82 W (s0 + 3) [.string nm, .string cu, va, vl, .bool false] ∧ OwnR R e W (s0 + 4) vs L
 | 1 => Wh 82 W (s0 + 3) [.string nm, .string cu, va, vl, .bool false] ∧ ∀ v, l = [v] → OwnR R e W (s0 + 4) v (L ++ [x])
 | _ => ∀ v, l = [v] → Wh 82 W (s0 + 3) (seC nm cu va vl f v) ∧ OwnR R e W (s0 + 4) v (L ++ [x])
theorem seJ.st (k : Nat) (l : List Value) (W W' : World) (hb : Below W.heap.size W W') (h : seJ R e wr s0 vs nm cu va vl f L x k l W) : seJ R e wr s0 vs nm cu va vl f L x k l W' := by
 refine ⟨h.1.trans (Only.of hb), ?_⟩
 match k, h.2 with
 | 0, ⟨h1, h2⟩ => exact ⟨h1.up hb, h2.up hb⟩
 | 1, ⟨h1, h2⟩ => exact ⟨h1.up hb, fun v hv => (h2 v hv).up hb⟩
 | _ + 2, h2 => exact fun v hv => ⟨(h2 v hv).1.up hb, (h2 v hv).2.up hb⟩
end
section
variable {α : Type} {R : Lay α} {e : TypeId} {wr : World} {s0 : Nat} {vs : Value} {nm cu : ByteArray} {va vl : Value} {f : Nat} {L : List α} {x : α} {l : List Value} {v : Value} {W : World}
theorem seJ.mk1 (h : Only (seS s0 vs) wr W) (hl : l = [v]) (h1 : Wh 82 W (s0 + 3) [.string nm, .string cu, va, vl, .bool false]) (h2 : OwnR R e W (s0 + 4) v (L ++ [x])) : seJ R e wr s0 vs nm cu va vl f L x 1 l W :=
 ⟨h, h1, fun v' h' => by rw [hl] at h'; cases h'; exact h2⟩
theorem seJ.mk2 (h : Only (seS s0 vs) wr W) (hl : l = [v]) (h1 : Wh 82 W (s0 + 3) (seC nm cu va vl f v)) (h2 : OwnR R e W (s0 + 4) v (L ++ [x])) : seJ R e wr s0 vs nm cu va vl f L x 2 l W :=
 ⟨h, fun v' h' => by rw [hl] at h'; cases h'; exact ⟨h1, h2⟩⟩
end
def seFa2 (s0 i : Nat) (wr : World) (va : Value) (q : Int) : List (Nat × AK.Fact (Only (seS s0 va))) := [(20, AK.Fact.is (.pointer (some ⟨s0 + 3, 2, none⟩))), (21, AK.Fact.is (va)), (22, AK.Fact.is (.int .i64 (i : Int))), (23, AK.Fact.is (.int .i64 ((i : Int) + 1))), (24, AK.Fact.is (.int .i64 (10 * ((i : Int) + 1)))), (25, AK.Fact.is (.slice (some ⟨s0 + 2, 0, none⟩) 14 14)), (26, AK.Fact.is (.int .i64 (i : Int))), (27, AK.Fact.is (.pointer (some ⟨s0 + 2, i, none⟩))), (28, AK.Fact.is (.int .i64 q)), (29, AK.Fact.is (.agg #[.int .i64 (10 * ((i : Int) + 1)), .int .i64 q, .int .i64 0, .int .i64 0])), (30, seF lyA wr s0 va ⟨10 * ((i : Int) + 1), q, 0, 0⟩), (31, AK.Fact.triv), (32, AK.Fact.is (.pointer (some ⟨s0 + 3, 2, none⟩)))]
def seFa3 (s0 i : Nat) (wr : World) (vl : Value) (q : Int) : List (Nat × AK.Fact (Only (seS s0 vl))) := [(33, AK.Fact.is (.pointer (some ⟨s0 + 3, 3, none⟩))), (34, AK.Fact.is (vl)), (35, AK.Fact.is (.int .i64 (i : Int))), (36, AK.Fact.is (.int .i64 ((i : Int) + 1))), (37, AK.Fact.is (.int .i64 (10 * ((i : Int) + 1)))), (38, AK.Fact.is (.slice (some ⟨s0 + 1, 0, none⟩) 14 14)), (39, AK.Fact.is (.int .i64 (i : Int))), (40, AK.Fact.is (.pointer (some ⟨s0 + 1, i, none⟩))), (41, AK.Fact.is (.int .i64 q)), (42, AK.Fact.is (.agg #[.int .i64 (10 * ((i : Int) + 1)), .int .i64 q, .int .i64 (-25567)])), (43, seF lyL wr s0 vl ⟨10 * ((i : Int) + 1), q, -25567⟩), (44, AK.Fact.triv), (45, AK.Fact.is (.pointer (some ⟨s0 + 3, 3, none⟩)))]
set_option maxRecDepth 100000 in
set_option maxHeartbeats 12800000 in
theorem spent_any (nm cu : ByteArray) (w : World) : Calls Tryz.prog 37 #[.string nm, .string cu] w fun e w' => (∃ A c B d, e = .returned (.agg #[.string nm, .string cu, .slice A 14 c, .slice B 14 d, .bool false]) ∧ OwnR lyA 91 w' w.heap.size (.slice A 14 c) (seA 14) ∧ OwnR lyL 101 w' w.heap.size (.slice B 14 d) (seL 14)) ∧ Below w.heap.size w w' := by
 obtain ⟨s0, hs0⟩ : ∃ s0, w.heap.size = s0 := ⟨_, rfl⟩
 obtain ⟨w3, hw3⟩ : ∃ w3, ((((w.alloc (.cells #[.string ⟨#[]⟩, .string ⟨#[]⟩, .slice none 0 0, .slice none 0 0, .bool false] 82)).alloc (.cells #[.int .i64 1010, .int .i64 1100, .int .i64 1200, .int .i64 1300, .int .i64 1500, .int .i64 2000, .int .i64 2100, .int .i64 3000, .int .i64 3300, .int .i64 4000, .int .i64 4100, .int .i64 4700, .int .i64 5000, .int .i64 5100] 3)).alloc (.cells #[.int .i64 1, .int .i64 1, .int .i64 1, .int .i64 1, .int .i64 1, .int .i64 2, .int .i64 2, .int .i64 3, .int .i64 3, .int .i64 4, .int .i64 4, .int .i64 4, .int .i64 5, .int .i64 5] 3)).alloc (.cells #[.string ⟨#[]⟩, .string ⟨#[]⟩, .slice none 0 0, .slice none 0 0, .bool false] 82)) = w3 := ⟨_, rfl⟩
 have hw3' : [.cells #[.string ⟨#[]⟩, .string ⟨#[]⟩, .slice none 0 0, .slice none 0 0, .bool false] 82, .cells #[.int .i64 1010, .int .i64 1100, .int .i64 1200, .int .i64 1300, .int .i64 1500, .int .i64 2000, .int .i64 2100, .int .i64 3000, .int .i64 3300, .int .i64 4000, .int .i64 4100, .int .i64 4700, .int .i64 5000, .int .i64 5100] 3, .cells #[.int .i64 1, .int .i64 1, .int .i64 1, .int .i64 1, .int .i64 1, .int .i64 2, .int .i64 2, .int .i64 3, .int .i64 3, .int .i64 4, .int .i64 4, .int .i64 4, .int .i64 5, .int .i64 5] 3, .cells #[.string ⟨#[]⟩, .string ⟨#[]⟩, .slice none 0 0, .slice none 0 0, .bool false] 82].foldl World.alloc w = w3 := hw3
 obtain ⟨i0, hi, hz1, hz2, hz3⟩ := info_parts infoAc
 obtain ⟨j0, hj, hy1, hy2, hy3⟩ := info_parts infoLk
 have HBK : ∀ i o, [.cells #[.string ⟨#[]⟩, .string ⟨#[]⟩, .slice none 0 0, .slice none 0 0, .bool false] 82, .cells #[.int .i64 1010, .int .i64 1100, .int .i64 1200, .int .i64 1300, .int .i64 1500, .int .i64 2000, .int .i64 2100, .int .i64 3000, .int .i64 3300, .int .i64 4000, .int .i64 4100, .int .i64 4700, .int .i64 5000, .int .i64 5100] 3, .cells #[.int .i64 1, .int .i64 1, .int .i64 1, .int .i64 1, .int .i64 1, .int .i64 2, .int .i64 2, .int .i64 3, .int .i64 3, .int .i64 4, .int .i64 4, .int .i64 4, .int .i64 5, .int .i64 5] 3, .cells #[.string ⟨#[]⟩, .string ⟨#[]⟩, .slice none 0 0, .slice none 0 0, .bool false] 82][i]? = some o → w3.heap[s0 + i]? = some o := fun i o h => by
  have := allocs_at [.cells #[.string ⟨#[]⟩, .string ⟨#[]⟩, .slice none 0 0, .slice none 0 0, .bool false] 82, .cells #[.int .i64 1010, .int .i64 1100, .int .i64 1200, .int .i64 1300, .int .i64 1500, .int .i64 2000, .int .i64 2100, .int .i64 3000, .int .i64 3300, .int .i64 4000, .int .i64 4100, .int .i64 4700, .int .i64 5000, .int .i64 5100] 3, .cells #[.int .i64 1, .int .i64 1, .int .i64 1, .int .i64 1, .int .i64 1, .int .i64 2, .int .i64 2, .int .i64 3, .int .i64 3, .int .i64 4, .int .i64 4, .int .i64 4, .int .i64 5, .int .i64 5] 3, .cells #[.string ⟨#[]⟩, .string ⟨#[]⟩, .slice none 0 0, .slice none 0 0, .bool false] 82] w i o h
  rw [hw3', hs0] at this
  exact this
 have HT : Hid (Wh 3 w3 (s0 + 1) [.int .i64 1010, .int .i64 1100, .int .i64 1200, .int .i64 1300, .int .i64 1500, .int .i64 2000, .int .i64 2100, .int .i64 3000, .int .i64 3300, .int .i64 4000, .int .i64 4100, .int .i64 4700, .int .i64 5000, .int .i64 5100]) := Lib.hid ⟨HBK 1 _ rfl⟩
 have HD : Hid (Wh 3 w3 (s0 + 2) [.int .i64 1, .int .i64 1, .int .i64 1, .int .i64 1, .int .i64 1, .int .i64 2, .int .i64 2, .int .i64 3, .int .i64 3, .int .i64 4, .int .i64 4, .int .i64 4, .int .i64 5, .int .i64 5]) := Lib.hid ⟨HBK 2 _ rfl⟩
 have HZ0 : Hid (Wh 82 w3 s0 [.string ⟨#[]⟩, .string ⟨#[]⟩, .slice none 0 0, .slice none 0 0, .bool false]) := Lib.hid ⟨HBK 0 _ rfl⟩
 have HZ : Hid (Wh 82 w3 (s0 + 3) [.string ⟨#[]⟩, .string ⟨#[]⟩, .slice none 0 0, .slice none 0 0, .bool false]) := Lib.hid ⟨HBK 3 _ rfl⟩
 have HB3 : Hid (Below s0 w w3) := Lib.hid (by rw [← hw3', ← hs0]; exact allocs_below _ _)
 have HS3 : Hid (w3.heap.size = s0 + 4) := Lib.hid (by rw [← hw3, ← hs0]; simp)
 have HS0 := Lib.hid hs0
 clear HBK hw3'
 go_enter Tryz.func37, Tryz.ntmps37
 go_wp2_with (refine wpList_store_wh rfl 82 _ _ rfl (s0 + 3) rfl 82 [.string ⟨#[]⟩, .string ⟨#[]⟩, .slice none 0 0, .slice none 0 0, .bool false] [.string nm, .string cu, .slice none 0 0, .slice none 0 0, .bool false] rfl HZ.out rfl (by kernel_rfl) (by kernel_rfl) ?_; intro W8 hr8 ho8 hz8)
 clear hw3 hs0
 have HB8 : Hid (Below (s0 + 3) w3 W8) := Lib.hid (ho8.out.below (fun k hk => Nat.le_of_eq hk.symm) (by have := HS3.out; omega))
 have HS8 : Hid (W8.heap.size = s0 + 4) := Lib.hid (hz8.trans HS3.out)
 clear hz8 ho8
 go_loopg [8] 14 (fun kx s8 wr => ∃ i : Nat, s8 = .int .i64 i ∧ i ≤ 14 ∧ 14 - i ≤ kx ∧ (∃ va vl, Hid (Wh 82 wr (s0 + 3) [.string nm, .string cu, va, vl, .bool false]) ∧ Hid (OwnR lyA 91 wr (s0 + 4) va (seA i)) ∧ Hid (OwnR lyL 101 wr (s0 + 4) vl (seL i))) ∧ Hid (Below (s0 + 3) w3 wr) ∧ Hid (s0 + 4 ≤ wr.heap.size))
 case atStart => exact ⟨0, rfl, by omega, by omega, ⟨_, _, Lib.hid hr8.out, Lib.hid OwnR.nil, Lib.hid OwnR.nil⟩, HB8, Lib.hid (Nat.le_of_eq HS8.out.symm)⟩
 case round =>
  clear hr8 HB8 HS8
  obtain ⟨i, rfl, hil, hkx, ⟨va, vl, HG, HA, HV⟩, HB, HW1⟩ := hrel
  by_cases hlt : i < 14
  ·have hltz : (i : Int) < 14 := by omega
   have HLN2 : Hid ((seA i).length = i) := Lib.hid (by simp [seA])
   have HLN3 : Hid ((seL i).length = i) := Lib.hid (by simp [seL])
   have HSW : Hid (∀ k, seS s0 va k → k < wr.heap.size) := Lib.hid (fun k hk => by rcases hk with hk | hk; exact (HA.out.lt hk).2; have := HW1.out; omega)
   have HA1 : Hid (IntKind.i64.wrap ((i : Int) + 1) = (i : Int) + 1) := Lib.hid (IntWalk.i64_in _ (by omega))
   have HA2_ : Hid (IntKind.i64.wrap (10 * ((i : Int) + 1)) = 10 * ((i : Int) + 1)) := Lib.hid (IntWalk.i64_in _ (by omega))
   have HI := Lib.hid (seA_s i)
   have HJ := Lib.hid (seL_s i)
   have hq2 : ∀ W, Only (seS s0 va) wr W → W.cell? ⟨s0 + 2, i, none⟩ = some (.int .i64 (seK i)) := fun W hb => by
    rw [hb.cell (by have := HW1.out; omega) (fun hs => by rcases hs with hs | hs; have := (HA.out.lt hs).1; omega; omega)]
    refine ((HB.out.cell (p := ⟨s0 + 2, i, none⟩) (by show s0 + 2 < s0 + 3; omega)).trans (HD.out.at i _ ?_))
    match i, hlt with
    | 0, _ | 1, _ | 2, _ | 3, _ | 4, _ | 5, _ | 6, _ | 7, _ | 8, _ | 9, _ | 10, _ | 11, _ | 12, _ | 13, _ => rfl
   obtain ⟨q, hq⟩ : ∃ q, seK i = q := ⟨_, rfl⟩
   rw [hq] at hq2 HI
   have HQ2 := Lib.hid hq2
   clear hq2 hq
   go_wp2_with fail
   refine AK.region_facts (Rp := Below0) (Kp := Only (seS s0 va)) (seFa2 s0 i wr va q) (seJ lyA 91 wr s0 va nm cu va vl 2 (seA i) ⟨10 * ((i : Int) + 1), q, 0, 0⟩) [[], [20], [], [22], [23], [], [], [25, 26], [27], [24, 28], [29], [21, 30], [], [32]] [11, 13] [[], [31], [31]] [0, 0, 2, 2, 2, 2, 2, 2, 2, 0, 0, 2, 1, 2] [0, 0, 0, 0, 0, 0, 0, 0, 0, 0, 0, 0, 0, 0] [] (fun u => by simp only [seFa2, AK.temps, List.map_cons, List.map_nil, fillL, List.setIfInBounds_toArray, List.set_cons_zero, List.set_cons_succ]; rfl) (by kernel_rfl) (by kernel_rfl) (fun _ _ h => h.size) (fun _ _ h => Only.of h) (seJ.st lyA 91 wr s0 va nm cu va vl 2 (seA i) ⟨10 * ((i : Int) + 1), q, 0, 0⟩) (⟨(Only.refl _).drew, HG.out.same rfl, HA.out.blk fun _ _ => rfl⟩) ?_ ?_
   ·refine AK.sc (lim := 0) (lo := 0) rfl rfl rfl rfl ?_ ?_
    ·intro k_ u w_ hk_ hl_ hJ hF K hK
     obtain rfl : k_ = 0 := by omega
     clear hF
     go_simp
     exact hK.out _ _ bR (rfl) trivial
    refine AK.sc (lim := 0) (lo := 0) rfl rfl rfl rfl ?_ ?_
    ·intro k_ u w_ hk_ hl_ hJ hF K hK
     obtain rfl : k_ = 0 := by omega
     have h20 : u 20 = .pointer (some ⟨s0 + 3, 2, none⟩) := AK.facts_get hF 20 (by simp)
     clear hF
     simp only [h20] at hK ⊢
     clear h20
     have c_ := hJ.2.1.at 2 _ rfl
     go_simp
     exact hK.out _ _ bR (rfl) trivial
    refine AK.sc (lim := 2) (lo := 0) rfl rfl rfl rfl ?_ ?_
    ·intro k_ u w_ hk_ hl_ hJ hF K hK
     clear hF
     go_simp
     exact hK.out _ _ bR (rfl) trivial
    refine AK.sc (lim := 2) (lo := 0) rfl rfl rfl rfl ?_ ?_
    ·intro k_ u w_ hk_ hl_ hJ hF K hK
     have h22 : u 22 = .int .i64 (i : Int) := AK.facts_get hF 22 (by simp)
     clear hF
     simp only [h22] at hK ⊢
     clear h22
     have a1 : IntKind.i64.wrap ((i : Int) + 1) = (i : Int) + 1 := HA1.out
     go_simp
     exact hK.out _ _ bR (rfl) trivial
    refine AK.sc (lim := 2) (lo := 0) rfl rfl rfl rfl ?_ ?_
    ·intro k_ u w_ hk_ hl_ hJ hF K hK
     have h23 : u 23 = .int .i64 ((i : Int) + 1) := AK.facts_get hF 23 (by simp)
     clear hF
     simp only [h23] at hK ⊢
     clear h23
     have a1 : IntKind.i64.wrap (10 * ((i : Int) + 1)) = 10 * ((i : Int) + 1) := HA2_.out
     go_simp
     exact hK.out _ _ bR (rfl) trivial
    refine AK.sc (lim := 2) (lo := 0) rfl rfl rfl rfl ?_ ?_
    ·intro k_ u w_ hk_ hl_ hJ hF K hK
     clear hF
     go_simp
     exact hK.out _ _ bR (rfl) trivial
    refine AK.sc (lim := 2) (lo := 0) rfl rfl rfl rfl ?_ ?_
    ·intro k_ u w_ hk_ hl_ hJ hF K hK
     clear hF
     go_simp
     exact hK.out _ _ bR (rfl) trivial
    refine AK.sc (lim := 2) (lo := 0) rfl rfl rfl rfl ?_ ?_
    ·intro k_ u w_ hk_ hl_ hJ hF K hK
     have h25 : u 25 = .slice (some ⟨s0 + 2, 0, none⟩) 14 14 := AK.facts_get hF 25 (by simp)
     have h26 : u 26 = .int .i64 (i : Int) := AK.facts_get hF 26 (by simp)
     clear hF
     simp only [h25, h26] at hK ⊢
     clear h25 h26
     go_simp
     exact hK.out _ _ bR (rfl) trivial
    refine AK.sc (lim := 2) (lo := 0) rfl rfl rfl rfl ?_ ?_
    ·intro k_ u w_ hk_ hl_ hJ hF K hK
     have h27 : u 27 = .pointer (some ⟨s0 + 2, i, none⟩) := AK.facts_get hF 27 (by simp)
     clear hF
     simp only [h27] at hK ⊢
     clear h27
     have q_ := HQ2.out _ hJ.1
     go_simp
     exact hK.out _ _ bR (rfl) trivial
    refine AK.sc (lim := 0) (lo := 0) rfl rfl rfl rfl ?_ ?_
    ·intro k_ u w_ hk_ hl_ hJ hF K hK
     obtain rfl : k_ = 0 := by omega
     have h24 : u 24 = .int .i64 (10 * ((i : Int) + 1)) := AK.facts_get hF 24 (by simp)
     have h28 : u 28 = .int .i64 q := AK.facts_get hF 28 (by simp)
     clear hF
     simp only [h24, h28] at hK ⊢
     clear h24 h28
     go_simp
     exact hK.out _ _ bR (rfl) trivial
    refine AK.sc (lim := 0) (lo := 0) rfl rfl rfl rfl ?_ ?_
    ·intro k_ u w_ hk_ hl_ hJ hF K hK
     obtain rfl : k_ = 0 := by omega
     have h29 : u 29 = .agg #[.int .i64 (10 * ((i : Int) + 1)), .int .i64 q, .int .i64 0, .int .i64 0] := AK.facts_get hF 29 (by simp)
     clear hF
     simp only [h29] at hK ⊢
     clear h29
     go_simp
     exact hK.out _ _ (below_alloc_new _) ⟨w_.heap.size, rfl, hJ.1.size, HSW.out, row_one (R := lyA) (x := ⟨10 * ((i : Int) + 1), q, 0, 0⟩) (Wh.new w_ _ [.int .i64 (10 * ((i : Int) + 1)), .int .i64 q, .int .i64 0, .int .i64 0])⟩ trivial
    refine AK.ss rfl rfl ?_ ?_
    ·intro u w_ hJ hA_ hF K hK
     have h21 : u 21 = va := AK.facts_get hF 21 (by simp)
     have h30 : seP lyA wr s0 va ⟨10 * ((i : Int) + 1), q, 0, 0⟩ (u 30) w_ := AK.facts_get hF 30 (by simp)
     clear hF
     obtain ⟨b9, h30, hb9, -, hr9⟩ := h30
     simp only [h21, h30] at hK ⊢
     clear h21 h30
     have hS1 : s0 + 4 ≤ w_.heap.size := Nat.le_trans HW1.out hJ.1.size
     rw [if_pos (by rfl)]
     refine wp_app_row (R := lyA) (v := va) (.tmp 21) (.tmp 30) 24 rfl i0 _ 32 Tryz.underlying24 hi hz1 hz2 hz3 (by omega) rfl rfl (hJ.2.2) (some ⟨b9, 0, none⟩) 1 1 [⟨10 * ((i : Int) + 1), q, 0, 0⟩] rfl rfl hr9 (by have := HLN2.out; simp; omega) hS1 ?_
     intro v' w' ho' hg' hn'
     exact hK.out _ _ (seJ.mk1 (v := v') (hJ.1.trans (Only.grown hg'.out (fun k hk => .inl hk))) rfl (hJ.2.1.same (hg'.out.block _ hJ.2.1.lt (fun e => by have := (hJ.2.2.lt e.symm).1; omega))) ho'.out) (Only.grown hg'.out (fun k hk => .inl hk)) trivial
    refine AK.sc (lim := 1) (lo := 0) rfl rfl rfl rfl ?_ ?_
    ·intro k_ u w_ hk_ hl_ hJ hF K hK
     clear hF
     go_simp
     exact hK.out _ _ bR (rfl) trivial
    refine AK.ss rfl rfl ?_ ?_
    ·intro u w_ hJ hA_ hF K hK
     have h32 : u 32 = .pointer (some ⟨s0 + 3, 2, none⟩) := AK.facts_get hF 32 (by simp)
     clear hF
     simp only [h32] at hK ⊢
     clear h32
     have hO9 := hJ.2.2 _ rfl
     obtain ⟨A9, c9, h9_, -, -⟩ := hO9.reads
     have hO9 : OwnR lyA 91 w_ (s0 + 4) (u 31) (seA i ++ [⟨10 * ((i : Int) + 1), q, 0, 0⟩]) := hO9
     have h9_ : u 31 = _ := h9_
     obtain ⟨n9, hn9⟩ : ∃ n, (seA i ++ [(⟨10 * ((i : Int) + 1), q, 0, 0⟩ : Acc)]).length = n := ⟨_, rfl⟩
     rw [hn9] at h9_
     clear hn9
     rw [h9_] at hO9
     simp only [h9_] at hK ⊢
     have c_ := hJ.2.1.at 2 _ rfl
     have z_ := hJ.2.1.frozen 2
     go_simp
     exact hK.out undef _ (seJ.mk2 (v := u 31) (hJ.1.trans (Only.setCell _ (a := ⟨s0 + 3, 2, none⟩) (.inr rfl) _)) rfl (by rw [h9_]; exact hJ.2.1.set 2 _) (by rw [h9_]; exact hO9.blk (fun g hg => Below.heap_setCell _ _ _ _ (by have := (hO9.lt hg).1; show g ≠ s0 + 3; omega)))) (Only.setCell _ (a := ⟨s0 + 3, 2, none⟩) (.inr rfl) _) trivial
    exact AK.StepsOk.nil
   ·intro u W9 hJ9 hF
    clear hF
    have hB9 := hJ9.1
    obtain ⟨hG9, hA9⟩ := hJ9.2 _ rfl
    clear hJ9
    generalize u 31 = va2 at *
    have HG2 : Hid (Wh 82 W9 (s0 + 3) [.string nm, .string cu, va2, vl, .bool false]) := Lib.hid hG9
    have HA2 := Lib.hid hA9
    have HV2 : Hid (OwnR lyL 101 W9 (s0 + 4) vl (seL i)) := Lib.hid (HV.out.blk fun g hg => hB9.blk g (HV.out.lt hg).2 (fun hs => by
     rcases hs with hs | hs
     ·exact own_apart HA.out HV.out (by decide) hs hg
     ·have := (HV.out.lt hg).1; omega))
    have HB2 : Hid (Below (s0 + 3) w3 W9) := Lib.hid (HB.out.trans (hB9.below (fun k hk => by rcases hk with hk | hk; have := (HA.out.lt hk).1; omega; omega) (by have := HW1.out; omega)))
    have HW2 : Hid (s0 + 4 ≤ W9.heap.size) := Lib.hid (Nat.le_trans HW1.out hB9.size)
    clear hB9 hG9 hA9 HG HA HV HB HW1 HSW HQ2
    rename World => wr
    have HG := HG2
    have HA : Hid (OwnR lyA 91 wr (s0 + 4) va2 (seA (i + 1))) := Lib.hid (by rw [HI.out]; exact HA2.out)
    have HV := HV2
    have HB := HB2
    have HW1 := HW2
    clear HG2 HA2 HV2 HB2 HW2 HI
    have va := va2
    clear va
    have HSW : Hid (∀ k, seS s0 vl k → k < wr.heap.size) := Lib.hid (fun k hk => by rcases hk with hk | hk; exact (HV.out.lt hk).2; have := HW1.out; omega)
    have hq3 : ∀ W, Only (seS s0 vl) wr W → W.cell? ⟨s0 + 1, i, none⟩ = some (.int .i64 (seT i)) := fun W hb => by
     rw [hb.cell (by have := HW1.out; omega) (fun hs => by rcases hs with hs | hs; have := (HV.out.lt hs).1; omega; omega)]
     refine ((HB.out.cell (p := ⟨s0 + 1, i, none⟩) (by show s0 + 1 < s0 + 3; omega)).trans (HT.out.at i _ ?_))
     match i, hlt with
     | 0, _ | 1, _ | 2, _ | 3, _ | 4, _ | 5, _ | 6, _ | 7, _ | 8, _ | 9, _ | 10, _ | 11, _ | 12, _ | 13, _ => rfl
    obtain ⟨q, hq⟩ : ∃ q, seT i = q := ⟨_, rfl⟩
    rw [hq] at hq3 HJ
    have HQ3 := Lib.hid hq3
    clear hq3 hq
    go_wp2_with fail
    refine AK.region_facts (Rp := Below0) (Kp := Only (seS s0 vl)) (seFa3 s0 i wr vl q) (seJ lyL 101 wr s0 vl nm cu va2 vl 3 (seL i) ⟨10 * ((i : Int) + 1), q, -25567⟩) [[], [33], [], [35], [36], [], [], [38, 39], [40], [37, 41], [42], [34, 43], [], [45]] [11, 13] [[], [44], [44]] [0, 0, 2, 2, 2, 2, 2, 2, 2, 0, 0, 2, 1, 2] [0, 0, 0, 0, 0, 0, 0, 0, 0, 0, 0, 0, 0, 0] [] (fun u => by simp only [seFa3, AK.temps, List.map_cons, List.map_nil, fillL, List.setIfInBounds_toArray, List.set_cons_zero, List.set_cons_succ]; rfl) (by kernel_rfl) (by kernel_rfl) (fun _ _ h => h.size) (fun _ _ h => Only.of h) (seJ.st lyL 101 wr s0 vl nm cu va2 vl 3 (seL i) ⟨10 * ((i : Int) + 1), q, -25567⟩) (⟨(Only.refl _).drew, HG.out.same rfl, HV.out.blk fun _ _ => rfl⟩) ?_ ?_
    ·refine AK.sc (lim := 0) (lo := 0) rfl rfl rfl rfl ?_ ?_
     ·intro k_ u w_ hk_ hl_ hJ hF K hK
      obtain rfl : k_ = 0 := by omega
      clear hF
      go_simp
      exact hK.out _ _ bR (rfl) trivial
     refine AK.sc (lim := 0) (lo := 0) rfl rfl rfl rfl ?_ ?_
     ·intro k_ u w_ hk_ hl_ hJ hF K hK
      obtain rfl : k_ = 0 := by omega
      have h33 : u 33 = .pointer (some ⟨s0 + 3, 3, none⟩) := AK.facts_get hF 33 (by simp)
      clear hF
      simp only [h33] at hK ⊢
      clear h33
      have c_ := hJ.2.1.at 3 _ rfl
      go_simp
      exact hK.out _ _ bR (rfl) trivial
     refine AK.sc (lim := 2) (lo := 0) rfl rfl rfl rfl ?_ ?_
     ·intro k_ u w_ hk_ hl_ hJ hF K hK
      clear hF
      go_simp
      exact hK.out _ _ bR (rfl) trivial
     refine AK.sc (lim := 2) (lo := 0) rfl rfl rfl rfl ?_ ?_
     ·intro k_ u w_ hk_ hl_ hJ hF K hK
      have h35 : u 35 = .int .i64 (i : Int) := AK.facts_get hF 35 (by simp)
      clear hF
      simp only [h35] at hK ⊢
      clear h35
      have a1 : IntKind.i64.wrap ((i : Int) + 1) = (i : Int) + 1 := HA1.out
      go_simp
      exact hK.out _ _ bR (rfl) trivial
     refine AK.sc (lim := 2) (lo := 0) rfl rfl rfl rfl ?_ ?_
     ·intro k_ u w_ hk_ hl_ hJ hF K hK
      have h36 : u 36 = .int .i64 ((i : Int) + 1) := AK.facts_get hF 36 (by simp)
      clear hF
      simp only [h36] at hK ⊢
      clear h36
      have a1 : IntKind.i64.wrap (10 * ((i : Int) + 1)) = 10 * ((i : Int) + 1) := HA2_.out
      go_simp
      exact hK.out _ _ bR (rfl) trivial
     refine AK.sc (lim := 2) (lo := 0) rfl rfl rfl rfl ?_ ?_
     ·intro k_ u w_ hk_ hl_ hJ hF K hK
      clear hF
      go_simp
      exact hK.out _ _ bR (rfl) trivial
     refine AK.sc (lim := 2) (lo := 0) rfl rfl rfl rfl ?_ ?_
     ·intro k_ u w_ hk_ hl_ hJ hF K hK
      clear hF
      go_simp
      exact hK.out _ _ bR (rfl) trivial
     refine AK.sc (lim := 2) (lo := 0) rfl rfl rfl rfl ?_ ?_
     ·intro k_ u w_ hk_ hl_ hJ hF K hK
      have h38 : u 38 = .slice (some ⟨s0 + 1, 0, none⟩) 14 14 := AK.facts_get hF 38 (by simp)
      have h39 : u 39 = .int .i64 (i : Int) := AK.facts_get hF 39 (by simp)
      clear hF
      simp only [h38, h39] at hK ⊢
      clear h38 h39
      go_simp
      exact hK.out _ _ bR (rfl) trivial
     refine AK.sc (lim := 2) (lo := 0) rfl rfl rfl rfl ?_ ?_
     ·intro k_ u w_ hk_ hl_ hJ hF K hK
      have h40 : u 40 = .pointer (some ⟨s0 + 1, i, none⟩) := AK.facts_get hF 40 (by simp)
      clear hF
      simp only [h40] at hK ⊢
      clear h40
      have q_ := HQ3.out _ hJ.1
      go_simp
      exact hK.out _ _ bR (rfl) trivial
     refine AK.sc (lim := 0) (lo := 0) rfl rfl rfl rfl ?_ ?_
     ·intro k_ u w_ hk_ hl_ hJ hF K hK
      obtain rfl : k_ = 0 := by omega
      have h37 : u 37 = .int .i64 (10 * ((i : Int) + 1)) := AK.facts_get hF 37 (by simp)
      have h41 : u 41 = .int .i64 q := AK.facts_get hF 41 (by simp)
      clear hF
      simp only [h37, h41] at hK ⊢
      clear h37 h41
      go_simp
      exact hK.out _ _ bR (rfl) trivial
     refine AK.sc (lim := 0) (lo := 0) rfl rfl rfl rfl ?_ ?_
     ·intro k_ u w_ hk_ hl_ hJ hF K hK
      obtain rfl : k_ = 0 := by omega
      have h42 : u 42 = .agg #[.int .i64 (10 * ((i : Int) + 1)), .int .i64 q, .int .i64 (-25567)] := AK.facts_get hF 42 (by simp)
      clear hF
      simp only [h42] at hK ⊢
      clear h42
      go_simp
      exact hK.out _ _ (below_alloc_new _) ⟨w_.heap.size, rfl, hJ.1.size, HSW.out, row_one (R := lyL) (x := ⟨10 * ((i : Int) + 1), q, -25567⟩) (Wh.new w_ _ [.int .i64 (10 * ((i : Int) + 1)), .int .i64 q, .int .i64 (-25567)])⟩ trivial
     refine AK.ss rfl rfl ?_ ?_
     ·intro u w_ hJ hA_ hF K hK
      have h34 : u 34 = vl := AK.facts_get hF 34 (by simp)
      have h43 : seP lyL wr s0 vl ⟨10 * ((i : Int) + 1), q, -25567⟩ (u 43) w_ := AK.facts_get hF 43 (by simp)
      clear hF
      obtain ⟨b9, h43, hb9, -, hr9⟩ := h43
      simp only [h34, h43] at hK ⊢
      clear h34 h43
      have hS1 : s0 + 4 ≤ w_.heap.size := Nat.le_trans HW1.out hJ.1.size
      rw [if_pos (by rfl)]
      refine wp_app_row (R := lyL) (v := vl) (.tmp 34) (.tmp 43) 80 rfl j0 _ 24 Tryz.underlying80 hj hy1 hy2 hy3 (by omega) rfl rfl (hJ.2.2) (some ⟨b9, 0, none⟩) 1 1 [⟨10 * ((i : Int) + 1), q, -25567⟩] rfl rfl hr9 (by have := HLN3.out; simp; omega) hS1 ?_
      intro v' w' ho' hg' hn'
      exact hK.out _ _ (seJ.mk1 (v := v') (hJ.1.trans (Only.grown hg'.out (fun k hk => .inl hk))) rfl (hJ.2.1.same (hg'.out.block _ hJ.2.1.lt (fun e => by have := (hJ.2.2.lt e.symm).1; omega))) ho'.out) (Only.grown hg'.out (fun k hk => .inl hk)) trivial
     refine AK.sc (lim := 1) (lo := 0) rfl rfl rfl rfl ?_ ?_
     ·intro k_ u w_ hk_ hl_ hJ hF K hK
      clear hF
      go_simp
      exact hK.out _ _ bR (rfl) trivial
     refine AK.ss rfl rfl ?_ ?_
     ·intro u w_ hJ hA_ hF K hK
      have h45 : u 45 = .pointer (some ⟨s0 + 3, 3, none⟩) := AK.facts_get hF 45 (by simp)
      clear hF
      simp only [h45] at hK ⊢
      clear h45
      have hO9 := hJ.2.2 _ rfl
      obtain ⟨A9, c9, h9_, -, -⟩ := hO9.reads
      have hO9 : OwnR lyL 101 w_ (s0 + 4) (u 44) (seL i ++ [⟨10 * ((i : Int) + 1), q, -25567⟩]) := hO9
      have h9_ : u 44 = _ := h9_
      obtain ⟨n9, hn9⟩ : ∃ n, (seL i ++ [(⟨10 * ((i : Int) + 1), q, -25567⟩ : Lnk)]).length = n := ⟨_, rfl⟩
      rw [hn9] at h9_
      clear hn9
      rw [h9_] at hO9
      simp only [h9_] at hK ⊢
      have c_ := hJ.2.1.at 3 _ rfl
      have z_ := hJ.2.1.frozen 3
      go_simp
      exact hK.out undef _ (seJ.mk2 (v := u 44) (hJ.1.trans (Only.setCell _ (a := ⟨s0 + 3, 3, none⟩) (.inr rfl) _)) rfl (by rw [h9_]; exact hJ.2.1.set 3 _) (by rw [h9_]; exact hO9.blk (fun g hg => Below.heap_setCell _ _ _ _ (by have := (hO9.lt hg).1; show g ≠ s0 + 3; omega)))) (Only.setCell _ (a := ⟨s0 + 3, 3, none⟩) (.inr rfl) _) trivial
     exact AK.StepsOk.nil
    ·intro u W9 hJ9 hF
     clear hF
     have hB9 := hJ9.1
     obtain ⟨hG9, hA9⟩ := hJ9.2 _ rfl
     clear hJ9
     generalize u 44 = vl2 at *
     have HG2 : Hid (Wh 82 W9 (s0 + 3) [.string nm, .string cu, va2, vl2, .bool false]) := Lib.hid hG9
     have HV2 : Hid (OwnR lyL 101 W9 (s0 + 4) vl2 (seL (i + 1))) := Lib.hid (by rw [HJ.out]; exact hA9)
     have HA2 : Hid (OwnR lyA 91 W9 (s0 + 4) va2 (seA (i + 1))) := Lib.hid (HA.out.blk fun g hg => hB9.blk g (HA.out.lt hg).2 (fun hs => by
      rcases hs with hs | hs
      ·exact own_apart HA.out HV.out (by decide) hg hs
      ·have := (HA.out.lt hg).1; omega))
     have HB2 : Hid (Below (s0 + 3) w3 W9) := Lib.hid (HB.out.trans (hB9.below (fun k hk => by rcases hk with hk | hk; have := (HV.out.lt hk).1; omega; omega) (by have := HW1.out; omega)))
     have HW2 : Hid (s0 + 4 ≤ W9.heap.size) := Lib.hid (Nat.le_trans HW1.out hB9.size)
     clear hB9 hG9 hA9 HG HA HV HB HW1 HSW HQ3 HJ
     go_wp2_with fail
     go_roundg (14 - (i + 1))
     case measure => omega
     case rel => exact ⟨i + 1, by go_num, by omega, by omega, ⟨_, _, HG2, HA2, HV2⟩, HB2, HW2⟩
  ·obtain rfl : i = 14 := by omega
   obtain ⟨A, c, e1, -, -⟩ := HA.out.reads
   obtain ⟨B, d, e2, -, -⟩ := HV.out.reads
   rw [show (seA 14).length = 14 from rfl] at e1
   rw [show (seL 14).length = 14 from rfl] at e2
   subst e1 e2
   have HL : Hid ((Instr.loadAt 82 (.pointer (some ⟨s0 + 3, 0, none⟩))).run Tryz.prog wr = .ok (.agg #[.string nm, .string cu, .slice A 14 c, .slice B 14 d, .bool false]) wr) := Lib.hid (HG.out.rg.load 0 82 [.string nm, .string cu, .slice A 14 c, .slice B 14 d, .bool false] rfl _ Tryz.underlying82 rfl (by kernel_rfl))
   have HZ9 : Hid (Wh 82 wr s0 [.string ⟨#[]⟩, .string ⟨#[]⟩, .slice none 0 0, .slice none 0 0, .bool false]) := Lib.hid (HZ0.out.same (HB.out.block s0 (by omega)))
   have HM1 : True := trivial
   go_wp2_with (first
    | (clear HM1; refine wpList_load_is rfl 82 _ rfl (.pointer (some ⟨s0 + 3, 0, none⟩)) rfl (.agg #[.string nm, .string cu, .slice A 14 c, .slice B 14 d, .bool false]) HL.out ?_)
    | (refine wpList_store_wh rfl 82 _ _ rfl s0 (by first | rfl | (rw [← HS0.out]; rfl)) 82 [.string ⟨#[]⟩, .string ⟨#[]⟩, .slice none 0 0, .slice none 0 0, .bool false] [.string nm, .string cu, .slice A 14 c, .slice B 14 d, .bool false] rfl HZ9.out rfl (by kernel_rfl) (by kernel_rfl) ?_; intro W8 hr8 ho8 hz8))
   refine bodyPost_ret (v := .agg #[.string nm, .string cu, .slice A 14 c, .slice B 14 d, .bool false]) (results_cell_mid Tryz.results37 _ _ s0 [.string nm, .string cu, .slice A 14 c, .slice B 14 d, .bool false] _ (by first | rfl | (rw [← HS0.out]; rfl)) hr8.out.range Tryz.underlying82 rfl (by kernel_rfl)) rfl ⟨⟨A, c, B, d, rfl, ?_, ?_⟩, ?_⟩
   ·exact (HA.out.blk fun g hg => ho8.out.blk g (HA.out.lt hg).2 (by have := (HA.out.lt hg).1; show ¬ g = s0; omega)).low (by have := HS0.out; omega)
   ·exact (HV.out.blk fun g hg => ho8.out.blk g (HV.out.lt hg).2 (by have := (HV.out.lt hg).1; show ¬ g = s0; omega)).low (by have := HS0.out; omega)
   ·have h9 := (HB3.out.trans (HB.out.mono (by omega))).trans (ho8.out.below (B := s0) (fun k hk => Nat.le_of_eq hk.symm) (by have := HW1.out; omega))
    rw [HS0.out]
    exact h9
open Go.RowKit
def smpG (A : Option Addr) (c : Nat) (E : Option Addr) : Grp := ⟨⟨#[69, 85, 82]⟩, 2026, 1, 36, A, 26, c, 1500, 1600, 1700, 1200, 3100, 3200, 3300, 3400, 3500, 4500, 4600, 4700, 5500, 5600, 5700, E, 4, 4⟩
def smpN (i : Nat) : ByteArray := ([⟨#[112, 97, 114, 101, 110, 116]⟩, ⟨#[110, 111, 114, 116, 104]⟩, ⟨#[119, 101, 115, 116]⟩, ⟨#[106, 111, 105, 110, 116]⟩] : List ByteArray).getD i ⟨#[]⟩
def smpC (i : Nat) : ByteArray := ([⟨#[69, 85, 82]⟩, ⟨#[69, 85, 82]⟩, ⟨#[85, 83, 68]⟩, ⟨#[85, 83, 68]⟩] : List ByteArray).getD i ⟨#[]⟩
structure EAd where
 A : Option Addr
 c : Nat
 B : Option Addr
 d : Nat
def smpE (i : Nat) (jt : Bool) (p : EAd) : Ent := ⟨smpN i, smpC i, p.A, 14, p.c, p.B, 14, p.d, jt, seA 14, seL 14⟩
def smpEs (p0 p1 p2 p3 : EAd) : List Ent := [smpE 0 false p0, smpE 1 false p1, smpE 2 false p2, smpE 3 true p3]
set_option maxRecDepth 100000 in
theorem smp_len : smpL.length = 26 := by decide
set_option maxRecDepth 100000 in
theorem smp_ok (A : Option Addr) (c : Nat) (E : Option Addr) (p0 p1 p2 p3 : EAd) : grpP (smpG A c E) smpL (smpEs p0 p1 p2 p3) = true := by
 kernel_rfl
theorem acc_row {w : World} {A : Option Addr} {L : List Acc} (h : RowAt lyA w A L) : AccAt w A L := by
 intro h0
 obtain ⟨b, off, e, hlt, hc⟩ := h h0
 refine ⟨b, off, e, hlt, fun i hi => ?_⟩
 obtain ⟨k0, k1, k2, k3⟩ := celA_get L i hi
 exact ⟨hc _ _ k0, by rw [Nat.add_assoc]; exact hc _ _ k1, by rw [Nat.add_assoc]; exact hc _ _ k2, by rw [Nat.add_assoc]; exact hc _ _ k3⟩
theorem ents_row {w : World} {A : Option Addr} {G : List Ent} (h : RowAt lyE w A G) : EntsAt w A G := by
 intro h0
 obtain ⟨b, off, e, hlt, hc⟩ := h h0
 refine ⟨b, off, e, hlt, fun i hi => ?_⟩
 have k := fun j v hj (hv : (entC (G.getD i ent0))[j]? = some v) => hc (i * 5 + j) v ((entC_get G i hi j hj).trans hv)
 exact ⟨k 0 _ (by omega) rfl, by rw [Nat.add_assoc]; exact k 1 _ (by omega) rfl, by rw [Nat.add_assoc]; exact k 2 _ (by omega) rfl, by rw [Nat.add_assoc]; exact k 3 _ (by omega) rfl, by rw [Nat.add_assoc]; exact k 4 _ (by omega) rfl⟩
def EOw (base : Nat) (p : EAd) (w : World) : Prop := OwnR lyA 91 w base (.slice p.A 14 p.c) (seA 14) ∧ OwnR lyL 101 w base (.slice p.B 14 p.d) (seL 14)
theorem EOw.up {base : Nat} {p : EAd} {w w' : World} (h : EOw base p w) (hb : Below w.heap.size w w') : EOw base p w' := ⟨h.1.up hb, h.2.up hb⟩
theorem EOw.low {b base : Nat} {p : EAd} {w : World} (h : EOw base p w) (hb : b ≤ base) : EOw b p w := ⟨h.1.low hb, h.2.low hb⟩
theorem EOw.k {base : Nat} {p : EAd} {w : World} (h : EOw base p w) : EntK w p.A 14 (seA 14) p.B 14 (seL 14) := by
 obtain ⟨A, c, e1, h1, -⟩ := h.1.reads
 obtain ⟨B, d, e2, h2, -⟩ := h.2.reads
 injection e1 with e1 _ _
 injection e2 with e2 _ _
 rw [← e1] at h1
 rw [← e2] at h2
 exact ⟨rfl, rfl, acc_row h1, lnk_row.1 h2, by unfold WfC; decide +kernel, by
  have : ∀ l ∈ seL 14, (Lit.int .i64 l.frm).wf = true ∧ (Lit.int .i64 l.tgt).wf = true ∧ (Lit.int .i64 l.since).wf = true := by decide +kernel
  exact fun l hl => ⟨(this l hl).1, (this l hl).2.1, (this l hl).2.2⟩⟩
theorem sp_fin {w9 : World} {g1 gE : Nat} {C ecs : List Value} (hG : Wh 29 w9 g1 C) (hgE : w9.heap.size = gE) (vE : Value) :
  Wh 29 (((w9.alloc (.cells ecs.toArray 82)).setCell ⟨g1, 20, none⟩ vE).setCell ⟨gE, 19, none⟩ (.bool true)) g1 (C.set 20 vE) ∧ Wh 82 (((w9.alloc (.cells ecs.toArray 82)).setCell ⟨g1, 20, none⟩ vE).setCell ⟨gE, 19, none⟩ (.bool true)) gE (ecs.set 19 (.bool true)) ∧
  (∀ j, j ≠ g1 → j < gE → (((w9.alloc (.cells ecs.toArray 82)).setCell ⟨g1, 20, none⟩ vE).setCell ⟨gE, 19, none⟩ (.bool true)).heap[j]? = w9.heap[j]?) ∧ (((w9.alloc (.cells ecs.toArray 82)).setCell ⟨g1, 20, none⟩ vE).setCell ⟨gE, 19, none⟩ (.bool true)).heap.size = gE + 1 ∧
  Below g1 w9 (((w9.alloc (.cells ecs.toArray 82)).setCell ⟨g1, 20, none⟩ vE).setCell ⟨gE, 19, none⟩ (.bool true)) ∧ g1 < gE := by
 have hlt := hG.lt
 subst hgE
 have hE0 := Wh.new w9 82 ecs
 have hG0 := (hG.up (below_alloc_new (.cells ecs.toArray 82))).set 20 vE
 have hE1 := (hE0.same (Below.heap_setCell _ ⟨g1, 20, none⟩ vE w9.heap.size (by show w9.heap.size ≠ g1; omega))).set 19 (.bool true)
 have hG1 := hG0.same (Below.heap_setCell _ ⟨w9.heap.size, 19, none⟩ (.bool true) g1 (by show g1 ≠ w9.heap.size; omega))
 refine ⟨hG1, hE1, fun j h1 h2 => ?_, by rw [World.size_setCell, World.size_setCell, World.size_alloc], ?_, hlt⟩
 ·exact (Below.heap_setCell _ ⟨w9.heap.size, 19, none⟩ (.bool true) j (by show j ≠ w9.heap.size; omega)).trans ((Below.heap_setCell _ ⟨g1, 20, none⟩ vE j h1).trans (Below.heap_alloc _ _ _ h2))
 ·exact Below.setCell (p := ⟨w9.heap.size, 19, none⟩) (Below.setCell (p := ⟨g1, 20, none⟩) ((below_alloc_new (w := w9) (.cells ecs.toArray 82)).mono (Nat.le_of_lt hlt)) (Nat.le_refl _) _) (by show g1 ≤ w9.heap.size; omega) _
theorem spent_p (nm cu : ByteArray) (w : World) : Calls Tryz.prog 37 #[.string nm, .string cu] w fun e w' => (∃ p : EAd, e = .returned (.agg #[.string nm, .string cu, .slice p.A 14 p.c, .slice p.B 14 p.d, .bool false]) ∧ EOw w.heap.size p w') ∧ Below w.heap.size w w' :=
 (spent_any nm cu w).mono fun _ _ ⟨⟨A, c, B, d, he, h1, h2⟩, hb⟩ => ⟨⟨⟨A, c, B, d⟩, he, h1, h2⟩, hb⟩
set_option maxRecDepth 100000 in
set_option maxHeartbeats 3200000 in
theorem sprol_any (w : World) : Calls Tryz.prog 36 #[] w fun e w' => e = .returned (.agg #[.int .i64 1500, .int .i64 1600, .int .i64 1700, .int .i64 1200, .int .i64 3100, .int .i64 3200, .int .i64 3300, .int .i64 3400, .int .i64 3500, .int .i64 4500, .int .i64 4600, .int .i64 4700, .int .i64 5500, .int .i64 5600, .int .i64 5700]) ∧ Below w.heap.size w w' := by
 obtain ⟨s0, hs0⟩ : ∃ s0, w.heap.size = s0 := ⟨_, rfl⟩
 obtain ⟨w2, hw2⟩ : ∃ w2, w.alloc (.cells #[.int .i64 0, .int .i64 0, .int .i64 0, .int .i64 0, .int .i64 0, .int .i64 0, .int .i64 0, .int .i64 0, .int .i64 0, .int .i64 0, .int .i64 0, .int .i64 0, .int .i64 0, .int .i64 0, .int .i64 0] 26) = w2 := ⟨_, rfl⟩
 have HZ : Hid (Wh 26 w2 s0 [.int .i64 0, .int .i64 0, .int .i64 0, .int .i64 0, .int .i64 0, .int .i64 0, .int .i64 0, .int .i64 0, .int .i64 0, .int .i64 0, .int .i64 0, .int .i64 0, .int .i64 0, .int .i64 0, .int .i64 0]) := Lib.hid (by rw [← hw2, ← hs0]; exact Wh.new w 26 [.int .i64 0, .int .i64 0, .int .i64 0, .int .i64 0, .int .i64 0, .int .i64 0, .int .i64 0, .int .i64 0, .int .i64 0, .int .i64 0, .int .i64 0, .int .i64 0, .int .i64 0, .int .i64 0, .int .i64 0])
 have HON := Lib.hid (fun W (h : Only (fun k => k = w.heap.size) w2 W) => only_new (w := w) (by rw [hw2]; exact h))
 rw [hs0] at HON
 have HS0 := Lib.hid hs0
 go_enter Tryz.func36, Tryz.ntmps36
 go_wp2_with (refine wpList_store_wh rfl 26 _ _ rfl s0 rfl 26 [.int .i64 0, .int .i64 0, .int .i64 0, .int .i64 0, .int .i64 0, .int .i64 0, .int .i64 0, .int .i64 0, .int .i64 0, .int .i64 0, .int .i64 0, .int .i64 0, .int .i64 0, .int .i64 0, .int .i64 0] [.int .i64 1500, .int .i64 1600, .int .i64 1700, .int .i64 1200, .int .i64 3100, .int .i64 3200, .int .i64 3300, .int .i64 3400, .int .i64 3500, .int .i64 4500, .int .i64 4600, .int .i64 4700, .int .i64 5500, .int .i64 5600, .int .i64 5700] rfl HZ.out rfl (by kernel_rfl) (by kernel_rfl) ?_; intro W8 hr8 ho8 hz8)
 exact bodyPost_ret (v := .agg #[.int .i64 1500, .int .i64 1600, .int .i64 1700, .int .i64 1200, .int .i64 3100, .int .i64 3200, .int .i64 3300, .int .i64 3400, .int .i64 3500, .int .i64 4500, .int .i64 4600, .int .i64 4700, .int .i64 5500, .int .i64 5600, .int .i64 5700]) (results_cell_mid Tryz.results36 _ _ s0 [.int .i64 1500, .int .i64 1600, .int .i64 1700, .int .i64 1200, .int .i64 3100, .int .i64 3200, .int .i64 3300, .int .i64 3400, .int .i64 3500, .int .i64 4500, .int .i64 4600, .int .i64 4700, .int .i64 5500, .int .i64 5600, .int .i64 5700] _ rfl hr8.out.range Tryz.underlying26 rfl (by kernel_rfl)) rfl ⟨rfl, by have h9 := HON.out _ ho8.out; first | exact h9 | (rw [HS0.out]; exact h9)⟩
set_option maxRecDepth 100000 in
set_option maxHeartbeats 12800000 in
theorem spgrp_any (w : World) : Calls Tryz.prog 12 #[] w fun e w' => (∃ A c E p0 p1 p2 p3, e = .returned (grpV (smpG A c E)) ∧ GrK w' (smpG A c E) smpL (smpEs p0 p1 p2 p3)) ∧ Below w.heap.size w w' := by
 obtain ⟨s0, hs0⟩ : ∃ s0, w.heap.size = s0 := ⟨_, rfl⟩
 obtain ⟨w2, hw2⟩ : ∃ w2, w.alloc (.cells #[.string ⟨#[]⟩, .int .i64 0, .int .i64 0, .int .i64 0, .slice none 0 0, .int .i64 0, .int .i64 0, .int .i64 0, .int .i64 0, .int .i64 0, .int .i64 0, .int .i64 0, .int .i64 0, .int .i64 0, .int .i64 0, .int .i64 0, .int .i64 0, .int .i64 0, .int .i64 0, .int .i64 0, .slice none 0 0] 29) = w2 := ⟨_, rfl⟩
 have HZ : Hid (Wh 29 w2 s0 [.string ⟨#[]⟩, .int .i64 0, .int .i64 0, .int .i64 0, .slice none 0 0, .int .i64 0, .int .i64 0, .int .i64 0, .int .i64 0, .int .i64 0, .int .i64 0, .int .i64 0, .int .i64 0, .int .i64 0, .int .i64 0, .int .i64 0, .int .i64 0, .int .i64 0, .int .i64 0, .int .i64 0, .slice none 0 0]) := Lib.hid (by rw [← hw2, ← hs0]; exact Wh.new w 29 [.string ⟨#[]⟩, .int .i64 0, .int .i64 0, .int .i64 0, .slice none 0 0, .int .i64 0, .int .i64 0, .int .i64 0, .int .i64 0, .int .i64 0, .int .i64 0, .int .i64 0, .int .i64 0, .int .i64 0, .int .i64 0, .int .i64 0, .int .i64 0, .int .i64 0, .int .i64 0, .int .i64 0, .slice none 0 0])
 have HB2 : Hid (Below s0 w w2) := Lib.hid (by rw [← hw2, ← hs0]; exact below_alloc_new _)
 have HS2 : Hid (w2.heap.size = s0 + 1) := Lib.hid (by rw [← hw2, ← hs0]; simp)
 have HS0 := Lib.hid hs0
 have HBD : Hid (∀ A c W, (Instr.build 29 #[(0, .string ⟨#[69, 85, 82]⟩), (1, .agg #[.int .i64 2026, .int .i64 1, .int .i64 36]), (2, .slice A 26 c), (3, .agg #[.int .i64 1500, .int .i64 1600, .int .i64 1700, .int .i64 1200, .int .i64 3100, .int .i64 3200, .int .i64 3300, .int .i64 3400, .int .i64 3500, .int .i64 4500, .int .i64 4600, .int .i64 4700, .int .i64 5500, .int .i64 5600, .int .i64 5700])]).run Tryz.prog W = .ok (.agg #[.string ⟨#[69, 85, 82]⟩, .int .i64 2026, .int .i64 1, .int .i64 36, .slice A 26 c, .int .i64 1500, .int .i64 1600, .int .i64 1700, .int .i64 1200, .int .i64 3100, .int .i64 3200, .int .i64 3300, .int .i64 3400, .int .i64 3500, .int .i64 4500, .int .i64 4600, .int .i64 4700, .int .i64 5500, .int .i64 5600, .int .i64 5700, .slice none 0 0]) W) := Lib.hid (fun A c W => run_build W 29 _ _ (by kernel_rfl))
 have HM1 : True := trivial
 have HM2 : True := trivial
 have HM3 : True := trivial
 have HM4 : True := trivial
 have HM5 : True := trivial
 have HM6 : True := trivial
 have HM7 : True := trivial
 go_enter Tryz.func12, Tryz.ntmps12
 go_upto_region 4 with (first
  | (go_at_call 35; refine (spchart_any _).mono ?_; rintro e w3 ⟨⟨A, c, rfl, B3, hB3, ho3⟩, hb3⟩; rw [smp_len] at ho3; have HO3 := Lib.hid (ho3.low hB3); have HB3 := Lib.hid hb3; clear ho3 hb3 hB3; rw [smp_len])
  | (go_at_call 36; refine (sprol_any _).mono ?_; rintro e w4 ⟨rfl, hb4⟩; have HO4 := Lib.hid (HO3.out.up hb4); have HB4 := Lib.hid (HB3.out.trans (hb4.mono HB3.out.size)); clear hb4 HO3 HB3; obtain ⟨g1, hg1⟩ : ∃ g1, w4.heap.size = g1 := ⟨_, rfl⟩; have HG1 := Lib.hid hg1; have HB4_ : Hid (w2.heap.size ≤ g1) := Lib.hid (by rw [← hg1]; exact HB4.out.size); have HOL : Hid (∀ j, (Value.slice A 26 c).ownBlock = some j → w2.heap.size ≤ j ∧ j < g1) := Lib.hid (fun j hj => by rw [← hg1]; exact HO4.out.lt hj))
  | (clear HM1; refine wpList_build_is rfl 29 _ rfl [(0, .string ⟨#[69, 85, 82]⟩), (1, .agg #[.int .i64 2026, .int .i64 1, .int .i64 36]), (2, .slice A 26 c), (3, .agg #[.int .i64 1500, .int .i64 1600, .int .i64 1700, .int .i64 1200, .int .i64 3100, .int .i64 3200, .int .i64 3300, .int .i64 3400, .int .i64 3500, .int .i64 4500, .int .i64 4600, .int .i64 4700, .int .i64 5500, .int .i64 5600, .int .i64 5700])] rfl (.agg #[.string ⟨#[69, 85, 82]⟩, .int .i64 2026, .int .i64 1, .int .i64 36, .slice A 26 c, .int .i64 1500, .int .i64 1600, .int .i64 1700, .int .i64 1200, .int .i64 3100, .int .i64 3200, .int .i64 3300, .int .i64 3400, .int .i64 3500, .int .i64 4500, .int .i64 4600, .int .i64 4700, .int .i64 5500, .int .i64 5600, .int .i64 5700, .slice none 0 0]) (HBD.out A c _) ?_)
  | (clear HM2; refine wpList_store_wh rfl 29 _ _ rfl g1 rfl 29 [.string ⟨#[]⟩, .int .i64 0, .int .i64 0, .int .i64 0, .slice none 0 0, .int .i64 0, .int .i64 0, .int .i64 0, .int .i64 0, .int .i64 0, .int .i64 0, .int .i64 0, .int .i64 0, .int .i64 0, .int .i64 0, .int .i64 0, .int .i64 0, .int .i64 0, .int .i64 0, .int .i64 0, .slice none 0 0] [.string ⟨#[69, 85, 82]⟩, .int .i64 2026, .int .i64 1, .int .i64 36, .slice A 26 c, .int .i64 1500, .int .i64 1600, .int .i64 1700, .int .i64 1200, .int .i64 3100, .int .i64 3200, .int .i64 3300, .int .i64 3400, .int .i64 3500, .int .i64 4500, .int .i64 4600, .int .i64 4700, .int .i64 5500, .int .i64 5600, .int .i64 5700, .slice none 0 0] rfl (by rw [← HG1.out]; exact Wh.new w4 29 [.string ⟨#[]⟩, .int .i64 0, .int .i64 0, .int .i64 0, .slice none 0 0, .int .i64 0, .int .i64 0, .int .i64 0, .int .i64 0, .int .i64 0, .int .i64 0, .int .i64 0, .int .i64 0, .int .i64 0, .int .i64 0, .int .i64 0, .int .i64 0, .int .i64 0, .int .i64 0, .int .i64 0, .slice none 0 0]) rfl (by kernel_rfl) (by kernel_rfl) ?_; intro w5 hr5 ho5 hz5; have HG5 := Lib.hid hr5.out; have hb5 : Below w4.heap.size w4 w5 := only_new (by rw [HG1.out]; exact ho5.out); have HO5 := Lib.hid (HO4.out.up hb5); have HB5 := Lib.hid (HB4.out.trans (hb5.mono HB4.out.size)); have HS5 : Hid (w5.heap.size = g1 + 1) := Lib.hid (by rw [hz5]; simp [HG1.out]); clear hr5 ho5 hz5 hb5 hg1 HO4 HB4)
  | (go_at_call 37; first
    | (clear HM3; refine (spent_p _ _ _).mono ?_; rintro e w6 ⟨⟨p0, rfl, hp⟩, hb⟩; have HP0 : Hid (EOw w5.heap.size p0 w6) := Lib.hid hp; have HC6 := Lib.hid hb; clear hp hb)
    | (clear HM4; refine (spent_p _ _ _).mono ?_; rintro e w7 ⟨⟨p1, rfl, hp⟩, hb⟩; have HP1 : Hid (EOw w5.heap.size p1 w7) := Lib.hid (EOw.low hp HC6.out.size); have HQ0 := Lib.hid (HP0.out.up hb); have HC7 := Lib.hid (HC6.out.trans (hb.mono HC6.out.size)); clear hp hb HC6 HP0)
    | (clear HM5; refine (spent_p _ _ _).mono ?_; rintro e w8 ⟨⟨p2, rfl, hp⟩, hb⟩; have HP2 : Hid (EOw w5.heap.size p2 w8) := Lib.hid (EOw.low hp HC7.out.size); have HQ1 := Lib.hid (HP1.out.up hb); have HR0 := Lib.hid (HQ0.out.up hb); have HC8 := Lib.hid (HC7.out.trans (hb.mono HC7.out.size)); clear hp hb HC7 HP1 HQ0)
    | (clear HM6; refine (spent_p _ _ _).mono ?_; rintro e w9 ⟨⟨p3, rfl, hp⟩, hb⟩; have HP3 : Hid (EOw w5.heap.size p3 w9) := Lib.hid (EOw.low hp HC8.out.size); have HQ2 := Lib.hid (HP2.out.up hb); have HR1 := Lib.hid (HQ1.out.up hb); have HT0 := Lib.hid (HR0.out.up hb); have HC9 := Lib.hid (HC8.out.trans (hb.mono HC8.out.size)); clear hp hb HC8 HP2 HQ1 HR0; have hgr := HG5.out.up HC9.out; have z20 := fun o => (hgr.up (below_alloc_new o)).at 20 _ rfl; have y20 := fun o => (hgr.up (below_alloc_new o)).frozen 20; obtain ⟨gE, hgE⟩ : ∃ gE, w9.heap.size = gE := ⟨_, rfl⟩; have HGE := Lib.hid hgE; obtain ⟨hG1, hE1, hkp, hsf, hbf, hne1⟩ := sp_fin (ecs := [.string ⟨#[112, 97, 114, 101, 110, 116]⟩, .string ⟨#[69, 85, 82]⟩, .slice p0.A 14 p0.c, .slice p0.B 14 p0.d, .bool false, .string ⟨#[110, 111, 114, 116, 104]⟩, .string ⟨#[69, 85, 82]⟩, .slice p1.A 14 p1.c, .slice p1.B 14 p1.d, .bool false, .string ⟨#[119, 101, 115, 116]⟩, .string ⟨#[85, 83, 68]⟩, .slice p2.A 14 p2.c, .slice p2.B 14 p2.d, .bool false, .string ⟨#[106, 111, 105, 110, 116]⟩, .string ⟨#[85, 83, 68]⟩, .slice p3.A 14 p3.c, .slice p3.B 14 p3.d, .bool false]) hgr hgE (.slice (some ⟨gE, 0, none⟩) 4 4); have HKP := Lib.hid hkp; have HSF := Lib.hid hsf; have HBF := Lib.hid hbf; clear hkp hsf hbf; have HNE := Lib.hid hne1; have HG1F := Lib.hid hG1; have HE1F := Lib.hid hE1; clear hgr hG1 hE1 hne1; obtain ⟨wf, hwf⟩ : ∃ wf, ((w9.alloc (.cells #[.string ⟨#[112, 97, 114, 101, 110, 116]⟩, .string ⟨#[69, 85, 82]⟩, .slice p0.A 14 p0.c, .slice p0.B 14 p0.d, .bool false, .string ⟨#[110, 111, 114, 116, 104]⟩, .string ⟨#[69, 85, 82]⟩, .slice p1.A 14 p1.c, .slice p1.B 14 p1.d, .bool false, .string ⟨#[119, 101, 115, 116]⟩, .string ⟨#[85, 83, 68]⟩, .slice p2.A 14 p2.c, .slice p2.B 14 p2.d, .bool false, .string ⟨#[106, 111, 105, 110, 116]⟩, .string ⟨#[85, 83, 68]⟩, .slice p3.A 14 p3.c, .slice p3.B 14 p3.d, .bool false] 82)).setCell ⟨g1, 20, none⟩ (.slice (some ⟨gE, 0, none⟩) 4 4)).setCell ⟨gE, 19, none⟩ (.bool true) = wf := ⟨_, rfl⟩; rw [hwf] at HKP HSF HG1F HE1F HBF; have HLG : Hid ((Instr.loadAt 29 (.pointer (some ⟨g1, 0, none⟩))).run Tryz.prog wf = .ok (.agg #[.string ⟨#[69, 85, 82]⟩, .int .i64 2026, .int .i64 1, .int .i64 36, .slice A 26 c, .int .i64 1500, .int .i64 1600, .int .i64 1700, .int .i64 1200, .int .i64 3100, .int .i64 3200, .int .i64 3300, .int .i64 3400, .int .i64 3500, .int .i64 4500, .int .i64 4600, .int .i64 4700, .int .i64 5500, .int .i64 5600, .int .i64 5700, .slice (some ⟨gE, 0, none⟩) 4 4]) wf) := Lib.hid (HG1F.out.rg.load 0 29 [.string ⟨#[69, 85, 82]⟩, .int .i64 2026, .int .i64 1, .int .i64 36, .slice A 26 c, .int .i64 1500, .int .i64 1600, .int .i64 1700, .int .i64 1200, .int .i64 3100, .int .i64 3200, .int .i64 3300, .int .i64 3400, .int .i64 3500, .int .i64 4500, .int .i64 4600, .int .i64 4700, .int .i64 5500, .int .i64 5600, .int .i64 5700, .slice (some ⟨gE, 0, none⟩) 4 4] rfl _ Tryz.underlying29 rfl (by kernel_rfl)); have HZF : Hid (Wh 29 wf s0 [.string ⟨#[]⟩, .int .i64 0, .int .i64 0, .int .i64 0, .slice none 0 0, .int .i64 0, .int .i64 0, .int .i64 0, .int .i64 0, .int .i64 0, .int .i64 0, .int .i64 0, .int .i64 0, .int .i64 0, .int .i64 0, .int .i64 0, .int .i64 0, .int .i64 0, .int .i64 0, .int .i64 0, .slice none 0 0]) := Lib.hid (HZ.out.same ((HKP.out s0 (by have := HG1.out; have := HS2.out; have := HB4_.out; omega) (by have := HNE.out; have := HB4_.out; have := HS2.out; omega)).trans ((HC9.out.block s0 (by have := HS5.out; have := HB4_.out; have := HS2.out; omega)).trans (HB5.out.block s0 (by have := HS2.out; omega))))))))
 go_wp2_with (first
  | (clear HM7; refine wpList_load_is rfl 29 _ rfl (.pointer (some ⟨g1, 0, none⟩)) rfl (.agg #[.string ⟨#[69, 85, 82]⟩, .int .i64 2026, .int .i64 1, .int .i64 36, .slice A 26 c, .int .i64 1500, .int .i64 1600, .int .i64 1700, .int .i64 1200, .int .i64 3100, .int .i64 3200, .int .i64 3300, .int .i64 3400, .int .i64 3500, .int .i64 4500, .int .i64 4600, .int .i64 4700, .int .i64 5500, .int .i64 5600, .int .i64 5700, .slice (some ⟨gE, 0, none⟩) 4 4]) HLG.out ?_)
  | (refine wpList_store_wh rfl 29 _ _ rfl s0 rfl 29 [.string ⟨#[]⟩, .int .i64 0, .int .i64 0, .int .i64 0, .slice none 0 0, .int .i64 0, .int .i64 0, .int .i64 0, .int .i64 0, .int .i64 0, .int .i64 0, .int .i64 0, .int .i64 0, .int .i64 0, .int .i64 0, .int .i64 0, .int .i64 0, .int .i64 0, .int .i64 0, .int .i64 0, .slice none 0 0] [.string ⟨#[69, 85, 82]⟩, .int .i64 2026, .int .i64 1, .int .i64 36, .slice A 26 c, .int .i64 1500, .int .i64 1600, .int .i64 1700, .int .i64 1200, .int .i64 3100, .int .i64 3200, .int .i64 3300, .int .i64 3400, .int .i64 3500, .int .i64 4500, .int .i64 4600, .int .i64 4700, .int .i64 5500, .int .i64 5600, .int .i64 5700, .slice (some ⟨gE, 0, none⟩) 4 4] rfl HZF.out rfl (by kernel_rfl) (by kernel_rfl) ?_; intro w10 hr10 ho10 hz10))
 refine bodyPost_ret (v := .agg #[.string ⟨#[69, 85, 82]⟩, .int .i64 2026, .int .i64 1, .int .i64 36, .slice A 26 c, .int .i64 1500, .int .i64 1600, .int .i64 1700, .int .i64 1200, .int .i64 3100, .int .i64 3200, .int .i64 3300, .int .i64 3400, .int .i64 3500, .int .i64 4500, .int .i64 4600, .int .i64 4700, .int .i64 5500, .int .i64 5600, .int .i64 5700, .slice (some ⟨gE, 0, none⟩) 4 4]) (results_cell_mid Tryz.results12 _ _ s0 [.string ⟨#[69, 85, 82]⟩, .int .i64 2026, .int .i64 1, .int .i64 36, .slice A 26 c, .int .i64 1500, .int .i64 1600, .int .i64 1700, .int .i64 1200, .int .i64 3100, .int .i64 3200, .int .i64 3300, .int .i64 3400, .int .i64 3500, .int .i64 4500, .int .i64 4600, .int .i64 4700, .int .i64 5500, .int .i64 5600, .int .i64 5700, .slice (some ⟨gE, 0, none⟩) 4 4] _ rfl hr10.out.range Tryz.underlying29 rfl (by kernel_rfl)) rfl ⟨⟨A, c, some ⟨gE, 0, none⟩, p0, p1, p2, p3, rfl, ?_⟩, ?_⟩
 ·have hS2 := HS2.out
  have hS5 := HS5.out
  have k : ∀ j, s0 + 1 ≤ j → j ≠ g1 → j < gE → w10.heap[j]? = w9.heap[j]? := fun j h0 h1 h2 => (ho10.out.blk j (by rw [HSF.out]; omega) (by show ¬ j = s0; omega)).trans (HKP.out j h1 h2)
  have hO9 := HO5.out.up HC9.out
  have hO := hO9.blk (w' := w10) fun j hj => by
   have h9 := HOL.out j hj
   exact k j (by omega) (by omega) (by have := HNE.out; omega)
  obtain ⟨A', c', e1, hA, -⟩ := hO.reads
  injection e1 with e1 _ _
  rw [← e1] at hA
  have key : ∀ p, EOw w5.heap.size p w9 → EOw w5.heap.size p w10 := fun p h => ⟨h.1.blk fun j hj => k j (by have := (h.1.lt hj).1; have := HB4_.out; omega) (by have := (h.1.lt hj).1; omega) (by have := (h.1.lt hj).2; rw [HGE.out] at this; exact this), h.2.blk fun j hj => k j (by have := (h.2.lt hj).1; have := HB4_.out; omega) (by have := (h.2.lt hj).1; omega) (by have := (h.2.lt hj).2; rw [HGE.out] at this; exact this)⟩
  have hE : Wh 82 w10 gE [.string ⟨#[112, 97, 114, 101, 110, 116]⟩, .string ⟨#[69, 85, 82]⟩, .slice p0.A 14 p0.c, .slice p0.B 14 p0.d, .bool false, .string ⟨#[110, 111, 114, 116, 104]⟩, .string ⟨#[69, 85, 82]⟩, .slice p1.A 14 p1.c, .slice p1.B 14 p1.d, .bool false, .string ⟨#[119, 101, 115, 116]⟩, .string ⟨#[85, 83, 68]⟩, .slice p2.A 14 p2.c, .slice p2.B 14 p2.d, .bool false, .string ⟨#[106, 111, 105, 110, 116]⟩, .string ⟨#[85, 83, 68]⟩, .slice p3.A 14 p3.c, .slice p3.B 14 p3.d, .bool true] := HE1F.out.same (ho10.out.blk gE HE1F.out.lt (by show ¬ gE = s0; have := HNE.out; have := HB4_.out; omega))
  refine ⟨smp_len, rfl, acc_row hA, ents_row (fun _ => ⟨gE, 0, rfl, hE.lt, hE.range⟩), fun e he => ?_⟩
  simp [smpEs] at he
  rcases he with rfl | rfl | rfl | rfl
  ·exact (key _ HT0.out).k
  ·exact (key _ HR1.out).k
  ·exact (key _ HQ2.out).k
  ·exact (key _ HP3.out).k
 ·have h9 := (HB2.out.trans (HB5.out.mono (by have := HS2.out; omega))).trans ((HC9.out.mono (by have := HS5.out; have := HB4_.out; have := HS2.out; omega)).trans ((HBF.out.mono (by have := HB4_.out; have := HS2.out; omega)).trans (ho10.out.below (B := s0) (fun k hk => Nat.le_of_eq hk.symm) (by rw [HSF.out]; have := HNE.out; have := HB4_.out; have := HS2.out; omega))))
  rw [HS0.out]
  exact h9
theorem acc_row2 {w : World} {A : Option Addr} {L : List Acc} (h : AccAt w A L) : RowAt lyA w A L := by
 intro h0
 obtain ⟨b, off, e, hlt, hc⟩ := h h0
 refine ⟨b, off, e, hlt, fun j v hj => ?_⟩
 have hjl : j < L.length * 4 := by
  have := lyA.all_len L
  rw [show lyA.s = 4 from rfl] at this
  rw [← this]
  exact (List.getElem?_eq_some_iff.1 hj).1
 rw [show lyA.all L = L.flatMap celA from rfl] at hj
 obtain ⟨q, r, hr, rfl⟩ : ∃ q r, r < 4 ∧ j = q * 4 + r := ⟨j / 4, j % 4, Nat.mod_lt _ (by omega), by omega⟩
 obtain ⟨k0, k1, k2, k3⟩ := celA_get L q (by omega)
 obtain ⟨d0, d1, d2, d3⟩ := hc q (by omega)
 match r, hr with
 | 0, _ => rw [Nat.add_zero] at hj ⊢; rw [k0] at hj; injection hj with hj; subst hj; exact d0
 | 1, _ => rw [k1] at hj; injection hj with hj; subst hj; rw [← Nat.add_assoc]; exact d1
 | 2, _ => rw [k2] at hj; injection hj with hj; subst hj; rw [← Nat.add_assoc]; exact d2
 | 3, _ => rw [k3] at hj; injection hj with hj; subst hj; rw [← Nat.add_assoc]; exact d3
theorem ents_row2 {w : World} {A : Option Addr} {G : List Ent} (h : EntsAt w A G) : RowAt lyE w A G := by
 intro h0
 obtain ⟨b, off, e, hlt, hc⟩ := h h0
 refine ⟨b, off, e, hlt, fun j v hj => ?_⟩
 have hjl : j < G.length * 5 := by
  have := lyE.all_len G
  rw [show lyE.s = 5 from rfl] at this
  rw [← this]
  exact (List.getElem?_eq_some_iff.1 hj).1
 rw [show lyE.all G = G.flatMap entC from rfl] at hj
 obtain ⟨q, r, hr, rfl⟩ : ∃ q r, r < 5 ∧ j = q * 5 + r := ⟨j / 5, j % 5, Nat.mod_lt _ (by omega), by omega⟩
 rw [entC_get G q (by omega) r hr] at hj
 obtain ⟨d0, d1, d2, d3, d4⟩ := hc q (by omega)
 match r, hr with
 | 0, _ => injection hj with hj; subst hj; exact d0
 | 1, _ => injection hj with hj; subst hj; rw [← Nat.add_assoc]; exact d1
 | 2, _ => injection hj with hj; subst hj; rw [← Nat.add_assoc]; exact d2
 | 3, _ => injection hj with hj; subst hj; rw [← Nat.add_assoc]; exact d3
 | 4, _ => injection hj with hj; subst hj; rw [← Nat.add_assoc]; exact d4
theorem own_put5 {e : TypeId} {w : World} {base g n c i : Nat} {L : List Ent} {a : Ent} (h : OwnR lyE e w base (.slice (some ⟨g, 0, none⟩) n c) L) (hi : L[i]? = some a) (a' : Ent) : OwnR lyE e (w.setCells g (i * 5) (entC a')) base (.slice (some ⟨g, 0, none⟩) n c) (L.set i a') := by
 have hil : i < L.length := (List.getElem?_eq_some_iff.1 hi).1
 have st : ∀ (b : Ent), (L.set i b)[i]? = some b := fun b => by rw [List.getElem?_set_self hil]
 have h0 := h.setf (j := 0) (a' := { a with nm := a'.nm }) hi (by decide) (.string a'.nm) rfl
 have h1 := h0.setf (j := 1) (a' := { a with nm := a'.nm, cur := a'.cur }) (st _) (by decide) (.string a'.cur) rfl
 rw [List.set_set] at h1
 have h2 := h1.setf (j := 2) (a' := { a with nm := a'.nm, cur := a'.cur, A := a'.A, n := a'.n, c := a'.c }) (st _) (by decide) (.slice a'.A a'.n a'.c) rfl
 rw [List.set_set] at h2
 have h3 := h2.setf (j := 3) (a' := { a with nm := a'.nm, cur := a'.cur, A := a'.A, n := a'.n, c := a'.c, B := a'.B, m := a'.m, d := a'.d }) (st _) (by decide) (.slice a'.B a'.m a'.d) rfl
 rw [List.set_set] at h3
 have h4 := h3.setf (j := 4) (a' := a') (st _) (by decide) (.bool a'.jt) rfl
 rw [List.set_set] at h4
 exact h4
def bareE (e : Ent) (A : Option Addr) (c : Nat) : Ent := ⟨e.nm, e.cur, A, e.n, c, none, 0, 0, e.jt, e.L.map noPar, []⟩
def strE (e : Ent) : Ent := ⟨e.nm, e.cur, none, e.n, 0, none, e.m, 0, e.jt, e.L, e.K⟩
def Bar (P G : List Ent) : Prop := P.map strE = G.map fun e => strE (bareE e none 0)
theorem Bar.len {P G : List Ent} (h : Bar P G) : P.length = G.length := by have := congrArg List.length h; simpa using this
theorem Bar.snoc {P G : List Ent} {k : Nat} {e : Ent} (h : Bar P (G.take k)) (he : G[k]? = some e) (A : Option Addr) (c : Nat) : Bar (P ++ [bareE e A c]) (G.take (k + 1)) := by
 unfold Bar at h ⊢
 rw [List.map_append, h, List.take_add_one, he, List.map_append]
 rfl
def PRow (B : Nat) (P : List Ent) (w : World) : Prop := ∀ e ∈ P, OwnR lyA 91 w B (.slice e.A e.n e.c) e.L ∧ e.K = [] ∧ e.m = 0 ∧ WfC e.L
theorem PRow.up {B : Nat} {P : List Ent} {w w' : World} (h : PRow B P w) (hb : Below w.heap.size w w') : PRow B P w' := fun e he => ⟨(h e he).1.up hb, (h e he).2⟩
theorem rowA_only {B g : Nat} {v : Value} {L : List Acc} {w w' : World} (h : OwnR lyA 91 w B v L) (hb : Only (fun k => k = g) w w') (hg : g < B ∨ (∃ (cs : Array Value) (t : TypeId), w.heap[g]? = some (.cells cs t (0, 0)) ∧ t ≠ 91) ∨ w.heap.size ≤ g) : OwnR lyA 91 w' B v L := by
 refine h.blk fun j hj => hb.blk j (h.lt hj).2 ?_
 intro ej
 have ej2 : j = g := ej
 rcases hg with hg | ⟨cs, t, ht, hne⟩ | hg
 ·have := (h.lt hj).1; omega
 ·rcases h.2 with ⟨h1, _⟩ | ⟨g', cap, cur, h1, _, h2, _⟩
  ·rw [h1] at hj; cases hj
  ·rw [h1] at hj
   have h3 : g' = j := by injection hj
   rw [h3, ej2, ht] at h2
   injection h2 with h2
   injection h2 with _ h4
   exact hne h4
 ·have := (h.lt hj).2; omega
theorem PRow.only {B g : Nat} {P : List Ent} {w w' : World} (h : PRow B P w) (hb : Only (fun k => k = g) w w') (hg : g < B ∨ (∃ (cs : Array Value) (t : TypeId), w.heap[g]? = some (.cells cs t (0, 0)) ∧ t ≠ 91) ∨ w.heap.size ≤ g) : PRow B P w' := fun e he => ⟨rowA_only (h e he).1 hb hg, (h e he).2⟩
theorem row_blk {α : Type} {R : Lay α} {e : TypeId} {w : World} {base g n c : Nat} {L : List α} (h : OwnR R e w base (.slice (some ⟨g, 0, none⟩) n c) L) : ∃ cur, w.heap[g]? = some (.cells cur e (0, 0)) := by
 rcases h.2 with ⟨h1, _⟩ | ⟨g', cap, cur, h1, _, hg, _⟩
 ·cases h1
 ·injection h1 with h1 _ _
  injection h1 with h1
  injection h1 with h1 _ _
  subst h1
  exact ⟨cur, hg⟩
theorem wfc_nopar {L : List Acc} (h : WfC L) : WfC (L.map noPar) := fun a ha => by
 obtain ⟨b, hb, rfl⟩ := List.mem_map.1 ha
 exact h b hb
theorem wpList_store_at {P : Program} {ops : Array Oper} {rest : List Oper} {o : Oper} {a : Act} {w : World} {Q : Exit → Act → World → Prop} (hg : o.guard = none) (ty : TypeId) (x y : Operand) (hop : o.op = .store ty x y)
  (b off : Nat) (hx : a.eval x = .pointer (some ⟨b, off, none⟩)) (vs : List Value) (hy : a.eval y = .agg vs.toArray) (ht : w.there b off vs.length)
  (hi : (P.info? ty).map (·.size) = some vs.toArray.size) (h1 : vs.toArray.all (·.oneCell') = true)
  (h : ∀ W, Hid (W = w.setCells b off vs) → wpList P ops Q rest (a.put o.dst undef) W) : wpList P ops Q (o :: rest) a w :=
 wpList_store_mid hg ty x y hop b off vs.toArray hx hy (by simpa using ht) hi h1 (h _ (Lib.hid rfl))
abbrev gAE (g : Grp) (A : Option Addr) (c : Nat) (E : Option Addr) (d : Nat) : Grp := { g with A := A, c := c, E := E, d := d }
def BareP (g : Grp) (L : List Acc) (G : List Ent) (e : Ending) (w' : World) : Prop := ∃ A c E d P, e = .returned (grpV (gAE g A c E d)) ∧ GrK w' (gAE g A c E d) (L.map noPar) P ∧ Bar P G
set_option maxRecDepth 100000 in
set_option maxHeartbeats 12800000 in
theorem bare_any (g : Grp) (L : List Acc) (G : List Ent) (w : World) (hk : GrK w g L G) (hs : Sm g G) : Calls Tryz.prog 39 #[grpV g] w fun e w' => BareP g L G e w' ∧ Below w.heap.size w w' := by
 obtain ⟨s0, hs0⟩ : ∃ s0, w.heap.size = s0 := ⟨_, rfl⟩
 obtain ⟨w2, hw2⟩ : ∃ w2, (w.alloc (.cells #[.string g.cur, .int .i64 g.cy, .int .i64 g.cm, .int .i64 g.cp, .slice g.A g.n g.c, .int .i64 g.r0, .int .i64 g.r1, .int .i64 g.r2, .int .i64 g.r3, .int .i64 g.r4, .int .i64 g.r5, .int .i64 g.r6, .int .i64 g.r7, .int .i64 g.r8, .int .i64 g.r9, .int .i64 g.r10, .int .i64 g.r11, .int .i64 g.r12, .int .i64 g.r13, .int .i64 g.r14, .slice g.E g.m g.d] 29)).alloc (.cells #[.string ⟨#[]⟩, .int .i64 0, .int .i64 0, .int .i64 0, .slice none 0 0, .int .i64 0, .int .i64 0, .int .i64 0, .int .i64 0, .int .i64 0, .int .i64 0, .int .i64 0, .int .i64 0, .int .i64 0, .int .i64 0, .int .i64 0, .int .i64 0, .int .i64 0, .int .i64 0, .int .i64 0, .slice none 0 0] 29) = w2 := ⟨_, rfl⟩
 have hGB : Wh 29 w2 s0 (grpC g) := by rw [← hw2, ← hs0]; exact (Wh.new w 29 (grpC g)).up (below_alloc_new _)
 have HZB : Hid (Wh 29 w2 (s0 + 1) [.string ⟨#[]⟩, .int .i64 0, .int .i64 0, .int .i64 0, .slice none 0 0, .int .i64 0, .int .i64 0, .int .i64 0, .int .i64 0, .int .i64 0, .int .i64 0, .int .i64 0, .int .i64 0, .int .i64 0, .int .i64 0, .int .i64 0, .int .i64 0, .int .i64 0, .int .i64 0, .int .i64 0, .slice none 0 0]) := Lib.hid (by
  rw [← hw2, ← hs0]
  have h9 := Wh.new (w.alloc (.cells #[.string g.cur, .int .i64 g.cy, .int .i64 g.cm, .int .i64 g.cp, .slice g.A g.n g.c, .int .i64 g.r0, .int .i64 g.r1, .int .i64 g.r2, .int .i64 g.r3, .int .i64 g.r4, .int .i64 g.r5, .int .i64 g.r6, .int .i64 g.r7, .int .i64 g.r8, .int .i64 g.r9, .int .i64 g.r10, .int .i64 g.r11, .int .i64 g.r12, .int .i64 g.r13, .int .i64 g.r14, .slice g.E g.m g.d] 29)) 29 [.string ⟨#[]⟩, .int .i64 0, .int .i64 0, .int .i64 0, .slice none 0 0, .int .i64 0, .int .i64 0, .int .i64 0, .int .i64 0, .int .i64 0, .int .i64 0, .int .i64 0, .int .i64 0, .int .i64 0, .int .i64 0, .int .i64 0, .int .i64 0, .int .i64 0, .int .i64 0, .int .i64 0, .slice none 0 0]
  rw [World.size_alloc] at h9
  exact h9)
 have HB2 : Hid (Below s0 w w2) := Lib.hid (by rw [← hw2, ← hs0]; exact below_new (below_alloc_new _) _)
 have HS2 : Hid (w2.heap.size = s0 + 2) := Lib.hid (by rw [← hw2, ← hs0]; simp)
 have HK2 := Lib.hid (hk.up (HB2.out.mono (Nat.le_of_eq hs0)))
 have HWC := Lib.hid (fun W (h : AccAt W g.A L) => wop_any g.A g.c L W (acc_row2 h) (by rw [hk.ln]; have := hs.n; omega))
 have HCE := Lib.hid (fun W (h : EntsAt W g.E G) => cloneE_any g.E g.d G W (ents_row2 h) (by rw [hk.lg]; have := hs.m; omega))
 rw [hk.ln] at HWC
 rw [hk.lg] at HCE
 have HKW := Lib.hid hk
 have HLG := Lib.hid hk.lg
 have HLN := Lib.hid hk.ln
 have HSM := Lib.hid hs
 have HS0 := Lib.hid hs0
 have c4 := hGB.at 4 _ rfl
 have HGB := Lib.hid hGB
 clear hk hs hGB
 go_enter Tryz.func39, Tryz.ntmps39
 go_upto_region 2 with (go_at_call 60; refine (HWC.out _ HK2.out.hz).mono ?_; rintro e w3 ⟨⟨A3, c3, rfl, ho⟩, hb⟩; have hg3 := HGB.out.up hb; have z4 := hg3.at 4 _ rfl; have y4 := hg3.frozen 4; have HG3 := Lib.hid hg3; have HO3 := Lib.hid ho; have HB3 := Lib.hid hb; clear hg3 ho hb)
 have hG4 := HG3.out.set 4 (.slice A3 g.n c3)
 have hO4 : OwnR lyA 91 (w3.setCell ⟨s0, 4, none⟩ (.slice A3 g.n c3)) (s0 + 2) (.slice A3 g.n c3) (L.map noPar) := (HO3.out.blk fun j hj => Below.heap_setCell w3 ⟨s0, 4, none⟩ _ j (by have := (HO3.out.lt hj).1; have := HS2.out; show j ≠ s0; omega)).low (Nat.le_of_eq HS2.out.symm)
 have hZ4 := (HZB.out.up HB3.out).same (Below.heap_setCell w3 ⟨s0, 4, none⟩ (.slice A3 g.n c3) (s0 + 1) (by show s0 + 1 ≠ s0; omega))
 have hB4 : Below s0 w (w3.setCell ⟨s0, 4, none⟩ (.slice A3 g.n c3)) := Below.setCell (p := ⟨s0, 4, none⟩) (HB2.out.trans (HB3.out.mono (by have := HS2.out; omega))) (Nat.le_refl _) _
 have hs4 : s0 + 2 ≤ (w3.setCell ⟨s0, 4, none⟩ (.slice A3 g.n c3)).heap.size := by rw [World.size_setCell]; have := HB3.out.size; have := HS2.out; omega
 clear z4 y4 c4 HG3 HO3 HB3 HGB HZB HWC hw2
 generalize w3.setCell ⟨s0, 4, none⟩ (.slice A3 g.n c3) = w4 at *
 have HG4 := Lib.hid hG4
 have HO4 := Lib.hid hO4
 have HZ4 := Lib.hid hZ4
 have HB4 := Lib.hid hB4
 have HS4 := Lib.hid hs4
 have HE4 : Hid (EntsAt w4 g.E G ∧ EntsK w4 G) := Lib.hid ⟨HKW.out.he.up (hB4.mono (Nat.le_of_eq HS0.out)), HKW.out.hk.up (hB4.mono (Nat.le_of_eq HS0.out))⟩
 have c20 := hG4.at 20 _ rfl
 clear hG4 hO4 hZ4 hB4 hs4 HK2
 go_upto_region 3 with (go_at_call 61; refine (HCE.out _ HE4.out.1).mono ?_; rintro e w5 ⟨⟨E5, d5, rfl, ho⟩, hb⟩; have hg5 := HG4.out.up hb; have z20 := hg5.at 20 _ rfl; have y20 := hg5.frozen 20; have HG5 := Lib.hid hg5; have HO5 := Lib.hid ho; have HB5 := Lib.hid hb; clear hg5 ho hb)
 have hG6 : Wh 29 (w5.setCell ⟨s0, 20, none⟩ (.slice E5 g.m d5)) s0 (grpC (gAE g A3 c3 E5 d5)) := HG5.out.set 20 (.slice E5 g.m d5)
 have hON : Only (fun k => k = s0) w5 (w5.setCell ⟨s0, 20, none⟩ (.slice E5 g.m d5)) := Only.setCell (S := fun k => k = s0) _ (a := ⟨s0, 20, none⟩) rfl _
 have hs5 : s0 + 2 ≤ w5.heap.size := Nat.le_trans HS4.out HB5.out.size
 have hO6 := rowA_only (HO4.out.up HB5.out) hON (.inl (by omega))
 have hZ6 := (HZ4.out.up HB5.out).only hON (by show ¬ s0 + 1 = s0; omega)
 have hE6 : OwnR lyE 82 (w5.setCell ⟨s0, 20, none⟩ (.slice E5 g.m d5)) (s0 + 2) (.slice E5 g.m d5) G := (HO5.out.blk fun j hj => hON.blk j (HO5.out.lt hj).2 (by have := (HO5.out.lt hj).1; have := HS4.out; show ¬ j = s0; omega)).low HS4.out
 have hB6 : Below s0 w (w5.setCell ⟨s0, 20, none⟩ (.slice E5 g.m d5)) := Below.setCell (p := ⟨s0, 20, none⟩) (HB4.out.trans (HB5.out.mono (by have := HS4.out; omega))) (Nat.le_refl _) _
 have c20 := hG6.at 20 _ rfl
 clear z20 y20 HG5 HO5 HB5 HG4 HO4 HZ4 HB4 HS4 hON HE4 HCE
 generalize w5.setCell ⟨s0, 20, none⟩ (.slice E5 g.m d5) = w6 at *
 have HG6 := Lib.hid hG6
 have HO6 := Lib.hid hO6
 have HZ6 := Lib.hid hZ6
 have HE6 := Lib.hid hE6
 have HB6 := Lib.hid hB6
 have HS6 : Hid (s0 + 2 ≤ w6.heap.size) := Lib.hid (Nat.le_of_lt_succ (Nat.lt_succ_of_le (hZ6.lt)))
 clear hG6 hO6 hZ6 hE6 hB6 hs5
 go_wp2_with fail
 clear c20
 go_loopg [16] g.m (fun kx s16 wr => ∃ k : Nat, s16 = .int .i64 k ∧ k ≤ g.m ∧ g.m - k ≤ kx ∧ (∃ P, Hid (P.length = k ∧ Bar P (G.take k)) ∧ Hid (OwnR lyE 82 wr (s0 + 2) (.slice E5 g.m d5) (P ++ G.drop k)) ∧ Hid (PRow (s0 + 2) P wr)) ∧ Hid (Wh 29 wr s0 (grpC (gAE g A3 c3 E5 d5))) ∧ Hid (Wh 29 wr (s0 + 1) [.string ⟨#[]⟩, .int .i64 0, .int .i64 0, .int .i64 0, .slice none 0 0, .int .i64 0, .int .i64 0, .int .i64 0, .int .i64 0, .int .i64 0, .int .i64 0, .int .i64 0, .int .i64 0, .int .i64 0, .int .i64 0, .int .i64 0, .int .i64 0, .int .i64 0, .int .i64 0, .int .i64 0, .slice none 0 0]) ∧ Hid (OwnR lyA 91 wr (s0 + 2) (.slice A3 g.n c3) (L.map noPar)) ∧ Hid (Below s0 w wr))
 case atStart => exact ⟨0, rfl, by omega, by omega, ⟨[], Lib.hid ⟨rfl, rfl⟩, Lib.hid HE6.out, Lib.hid (fun e he => by cases he)⟩, HG6, HZ6, HO6, HB6⟩
 case round =>
  clear HG6 HZ6 HO6 HB6 HE6 HS6
  obtain ⟨k, rfl, hk, hkx, ⟨P, HP, HE, HR⟩, HG, HZ, HO, HB⟩ := hrel
  by_cases hlt : k < g.m
  ·have hltz : (k : Int) < (g.m : Int) := by omega
   obtain ⟨e, he⟩ : ∃ e, G[k]? = some e := ⟨_, List.getElem?_eq_getElem (by rw [HLG.out]; exact hlt)⟩
   have hPk : (P ++ G.drop k)[k]? = some e := by
    rw [List.getElem?_append_right (by rw [HP.out.1]; exact Nat.le_refl _), HP.out.1, Nat.sub_self, List.getElem?_drop, Nat.add_zero]; exact he
   have hset : ∀ b, (P ++ G.drop k).set k b = (P ++ [b]) ++ G.drop (k + 1) := fun b => by
    have h2 : G.drop k = e :: G.drop (k + 1) := by
     rw [List.drop_eq_getElem_cons (by rw [HLG.out]; exact hlt)]
     rw [List.getElem?_eq_getElem (by rw [HLG.out]; exact hlt)] at he
     injection he with he
     rw [he]
    rw [List.set_append_right _ _ (by rw [HP.out.1]; exact Nat.le_refl _), HP.out.1, Nat.sub_self, h2, List.set_cons_zero, List.append_assoc]; rfl
   have hek := HKW.out.hk e (List.mem_of_getElem? he)
   have hsm := (HSM.out.e e (List.mem_of_getElem? he)).1
   obtain ⟨E9, d9, e9, hr, hown⟩ := HE.out.reads
   injection e9 with e9 q1 q2
   subst e9
   clear q1 q2
   obtain ⟨gE, off, rfl, hgl, hrg⟩ := hr.at hPk
   obtain ⟨-, rfl⟩ := hown gE off rfl
   rw [Nat.zero_add] at hrg
   have HRG : Hid (wr.rangeAt gE (k * 5) (entC e)) := Lib.hid hrg
   have HLE : Hid ((Instr.loadAt 82 (.pointer (some ⟨gE, k * 5, none⟩))).run Tryz.prog wr = .ok (eV e) wr) := Lib.hid (run_loadAt_mid wr gE (k * 5) 82 (entC e) _ hrg Tryz.underlying82 rfl (by kernel_rfl))
   obtain ⟨g4, hg4⟩ : ∃ g4, wr.heap.size = g4 := ⟨_, rfl⟩
   have HG4 := Lib.hid hg4
   have HZQ : Hid (Wh 82 (wr.alloc (.cells #[.string ⟨#[]⟩, .string ⟨#[]⟩, .slice none 0 0, .slice none 0 0, .bool false] 82)) g4 [.string ⟨#[]⟩, .string ⟨#[]⟩, .slice none 0 0, .slice none 0 0, .bool false]) := Lib.hid (by rw [← hg4]; exact Wh.new wr 82 [.string ⟨#[]⟩, .string ⟨#[]⟩, .slice none 0 0, .slice none 0 0, .bool false])
   have HPK := Lib.hid hPk
   have HST := Lib.hid hset
   have HEK := Lib.hid hek
   have HCW := Lib.hid (fun W (h : AccAt W e.A e.L) => wop_any e.A e.c e.L W (acc_row2 h) (by rw [hek.ln]; omega))
   rw [hek.ln] at HCW
   have HHE := Lib.hid he
   have hE0 : Hid (gE < g4) := Lib.hid (by rw [← hg4]; exact hgl)
   have hgE0 : Hid (s0 + 2 ≤ gE) := Lib.hid (HE.out.lt rfl).1
   clear hr hown hrg hgl hPk hset hek hsm he
   have HM1 : True := trivial
   go_upto_region 6 with (first
    | (clear HM1; refine wpList_load_is rfl 82 _ rfl (.pointer (some ⟨gE, k * 5, none⟩)) rfl (eV e) HLE.out ?_)
    | (refine wpList_store_wh rfl 82 _ _ rfl g4 rfl 82 [.string ⟨#[]⟩, .string ⟨#[]⟩, .slice none 0 0, .slice none 0 0, .bool false] (entC e) rfl HZQ.out rfl (by kernel_rfl) (by kernel_rfl) ?_; intro w7 hr7 ho7 hz7; have HR7 := Lib.hid hr7.out; have HB7 : Hid (Below g4 wr w7) := Lib.hid (by rw [← HG4.out]; exact only_new (by rw [HG4.out]; exact ho7.out)); have HS7 : Hid (w7.heap.size = g4 + 1) := Lib.hid (by rw [hz7, World.size_alloc, HG4.out]); clear ho7 hz7 hg4; have c2 := hr7.out.at 2 _ rfl; clear hr7))
   have HAC : Hid (AccAt w7 e.A e.L) := Lib.hid (HEK.out.hz.up ((HB.out.trans (HB7.out.mono (by have := HZ.out.lt; have := HG4.out; omega))).mono (Nat.le_of_eq HS0.out)))
   go_upto_region 7 with (go_at_call 60; refine (HCW.out _ HAC.out).mono ?_; rintro e8 w8 ⟨⟨A8, c8, rfl, ho⟩, hb⟩; have hr8 := HR7.out.up hb; have z2 := hr8.at 2 _ rfl; have y2 := hr8.frozen 2; have z3 := hr8.at 3 _ rfl; have y3 := hr8.frozen 3; have HR8 := Lib.hid hr8; have HO8 := Lib.hid ho; have HB8 := Lib.hid hb; clear hr8 ho hb)
   have hs8 : g4 + 1 ≤ w8.heap.size := by have := HB8.out.size; have := HS7.out; omega
   have hR9 : Wh 82 ((w8.setCell ⟨g4, 2, none⟩ (.slice A8 e.n c8)).setCell ⟨g4, 3, none⟩ (.slice none 0 0)) g4 (entC (bareE e A8 c8)) := (HR8.out.set 2 (.slice A8 e.n c8)).set 3 (.slice none 0 0)
   have hON : Only (fun k => k = g4) w8 ((w8.setCell ⟨g4, 2, none⟩ (.slice A8 e.n c8)).setCell ⟨g4, 3, none⟩ (.slice none 0 0)) := (Only.setCell (S := fun k => k = g4) _ (a := ⟨g4, 2, none⟩) rfl _).trans (Only.setCell (S := fun k => k = g4) _ (a := ⟨g4, 3, none⟩) rfl _)
   have hty : g4 < s0 + 2 ∨ (∃ (cs : Array Value) (t : TypeId), w8.heap[g4]? = some (.cells cs t (0, 0)) ∧ t ≠ 91) ∨ w8.heap.size ≤ g4 := .inr (.inl ⟨_, 82, HR8.out.blk, by decide⟩)
   have hb17 : Below wr.heap.size wr w8 := by rw [HG4.out]; exact HB7.out.trans (HB8.out.mono (by have := HS7.out; omega))
   have hPR : PRow (s0 + 2) (P ++ [bareE e A8 c8]) w8 := fun x hx => by
    rcases List.mem_append.1 hx with hx | hx
    ·exact HR.out.up hb17 x hx
    ·simp at hx
     subst hx
     exact ⟨HO8.out.low (by have := HS7.out; have := HZ.out.lt; have := HG4.out; omega), rfl, rfl, wfc_nopar HEK.out.wa⟩
   have hPR9 := hPR.only hON hty
   have hO9 := rowA_only (HO.out.up hb17) hON hty
   have hG9 := (HG.out.up hb17).only hON (by have := hE0.out; have := hgE0.out; show ¬ s0 = g4; omega)
   have hZ9 := (HZ.out.up hb17).only hON (by have := hE0.out; have := hgE0.out; show ¬ s0 + 1 = g4; omega)
   have hE9 : OwnR lyE 82 ((w8.setCell ⟨g4, 2, none⟩ (.slice A8 e.n c8)).setCell ⟨g4, 3, none⟩ (.slice none 0 0)) (s0 + 2) (.slice (some ⟨gE, 0, none⟩) g.m d5) (P ++ G.drop k) := (HE.out.up hb17).blk fun j hj => hON.blk j ((HE.out.up hb17).lt hj).2 (by have h1 : gE = j := Option.some.inj hj; have := hE0.out; show ¬ j = g4; omega)
   have hB9 : Below s0 w ((w8.setCell ⟨g4, 2, none⟩ (.slice A8 e.n c8)).setCell ⟨g4, 3, none⟩ (.slice none 0 0)) := (HB.out.trans (hb17.mono (by have := HZ.out.lt; omega))).trans (hON.below (B := s0) (fun k hk => by have h1 : k = g4 := hk; have := hE0.out; have := hgE0.out; omega) (by have := hE0.out; have := hgE0.out; omega))
   clear z2 y2 z3 y3 c2 HR8 HO8 HB8 HR7 HB7 HAC hON hty hPR hb17 HCW HZQ HLE HRG
   generalize (w8.setCell ⟨g4, 2, none⟩ (.slice A8 e.n c8)).setCell ⟨g4, 3, none⟩ (.slice none 0 0) = w9 at *
   have HL9 : Hid ((Instr.loadAt 82 (.pointer (some ⟨g4, 0, none⟩))).run Tryz.prog w9 = .ok (eV (bareE e A8 c8)) w9) := Lib.hid (hR9.rg.load 0 82 (entC (bareE e A8 c8)) rfl _ Tryz.underlying82 rfl (by kernel_rfl))
   have HT9 : Hid (w9.there gE (k * 5) 5) := Lib.hid (fun j hj => by
    obtain ⟨E7, d7, e7, hr7, -⟩ := hE9.reads
    injection e7 with e7 _ _
    obtain ⟨b7, o7, e8, -, hrg⟩ := hr7.at HPK.out
    rw [← e7] at e8
    injection e8 with e8
    injection e8 with e8 e6 _
    subst e8 e6
    rw [Nat.zero_add] at hrg
    exact ⟨World.rangeAt.isSome hrg j hj, hE9.frozen _⟩)
   have c20 := hG9.at 20 _ rfl
   have HON2 : Hid (Only (fun k => k = gE) w9 (w9.setCells gE (k * 5) (entC (bareE e A8 c8)))) := Lib.hid (Only.setCells (S := fun k => k = gE) rfl _ _ _)
   have hty : gE < s0 + 2 ∨ (∃ (cs : Array Value) (t : TypeId), w9.heap[gE]? = some (.cells cs t (0, 0)) ∧ t ≠ 91) ∨ w9.heap.size ≤ gE := by
    obtain ⟨cur, hc⟩ := row_blk hE9
    exact .inr (.inl ⟨cur, 82, hc, by decide⟩)
   have HE2 : Hid (OwnR lyE 82 (w9.setCells gE (k * 5) (entC (bareE e A8 c8))) (s0 + 2) (.slice (some ⟨gE, 0, none⟩) g.m d5) ((P ++ [bareE e A8 c8]) ++ G.drop (k + 1))) := Lib.hid (by rw [← HST.out]; exact own_put5 hE9 HPK.out _)
   have HP2 : Hid ((P ++ [bareE e A8 c8]).length = k + 1 ∧ Bar (P ++ [bareE e A8 c8]) (G.take (k + 1))) := Lib.hid ⟨by rw [List.length_append, HP.out.1]; rfl, HP.out.2.snoc HHE.out _ _⟩
   have HPR2 := Lib.hid (hPR9.only HON2.out hty)
   have HO2 := Lib.hid (rowA_only hO9 HON2.out hty)
   have HG2 := Lib.hid (hG9.only HON2.out (by have := hgE0.out; show ¬ s0 = gE; omega))
   have HZ2 := Lib.hid (hZ9.only HON2.out (by have := hgE0.out; show ¬ s0 + 1 = gE; omega))
   have HB2' := Lib.hid (hB9.trans (HON2.out.below (B := s0) (fun k hk => by have h1 : k = gE := hk; have := hgE0.out; omega) (by have := hZ9.lt; omega)))
   clear hR9 hPR9 hO9 hG9 hZ9 hE9 hB9 hty HE HR HO HG HZ HB HP HST HPK HHE hs8
   have hm14 := HSM.out.m
   have HM2 : True := trivial
   go_wp2_with (first
    | (clear HM2; refine wpList_load_is rfl 82 _ rfl (.pointer (some ⟨g4, 0, none⟩)) rfl (eV (bareE e A8 c8)) HL9.out ?_)
    | (refine wpList_store_at rfl 82 _ _ rfl gE (k * 5) rfl (entC (bareE e A8 c8)) rfl HT9.out (by kernel_rfl) (by kernel_rfl) ?_; intro wx hwx; rw [← hwx.out] at HE2 HPR2 HO2 HG2 HZ2 HB2'; clear hwx HON2))
   go_roundg (g.m - (k + 1))
   case measure => omega
   case rel => exact ⟨k + 1, by go_num, by omega, by omega, ⟨_, HP2, HE2, HPR2⟩, HG2, HZ2, HO2, HB2'⟩
  ·obtain rfl : k = g.m := by omega
   have hltz : ¬ (g.m : Int) < (g.m : Int) := by omega
   have HL9 : Hid ((Instr.loadAt 29 (.pointer (some ⟨s0, 0, none⟩))).run Tryz.prog wr = .ok (grpV (gAE g A3 c3 E5 d5)) wr) := Lib.hid (HG.out.rg.load 0 29 (grpC (gAE g A3 c3 E5 d5)) rfl _ Tryz.underlying29 rfl (by kernel_rfl))
   have HM2 : True := trivial
   go_wp2_with (first
    | (clear HM2; refine wpList_load_is rfl 29 _ rfl (.pointer (some ⟨s0, 0, none⟩)) rfl (grpV (gAE g A3 c3 E5 d5)) HL9.out ?_)
    | (refine wpList_store_wh rfl 29 _ _ rfl (s0 + 1) rfl 29 [.string ⟨#[]⟩, .int .i64 0, .int .i64 0, .int .i64 0, .slice none 0 0, .int .i64 0, .int .i64 0, .int .i64 0, .int .i64 0, .int .i64 0, .int .i64 0, .int .i64 0, .int .i64 0, .int .i64 0, .int .i64 0, .int .i64 0, .int .i64 0, .int .i64 0, .int .i64 0, .int .i64 0, .slice none 0 0] (grpC (gAE g A3 c3 E5 d5)) rfl HZ.out rfl (by kernel_rfl) (by kernel_rfl) ?_; intro w9 hr9 ho9 hz9))
   refine bodyPost_ret (v := grpV (gAE g A3 c3 E5 d5)) (results_cell_mid Tryz.results39 _ _ (s0 + 1) (grpC (gAE g A3 c3 E5 d5)) _ rfl hr9.out.range Tryz.underlying29 rfl (by kernel_rfl)) rfl ⟨⟨A3, c3, E5, d5, P, rfl, ?_, ?_⟩, ?_⟩
   ·have hPR := HR.out.only ho9.out (.inl (by omega))
    have hO := rowA_only HO.out ho9.out (.inl (by omega))
    have hE := HE.out.blk fun j hj => ho9.out.blk j (HE.out.lt hj).2 (by have := (HE.out.lt hj).1; show ¬ j = s0 + 1; omega)
    rw [List.drop_of_length_le (by rw [HLG.out]; exact Nat.le_refl _), List.append_nil] at hE
    obtain ⟨A', c', e1, hA, -⟩ := hO.reads
    injection e1 with e1 _ _
    obtain ⟨E', d', e2, hE', -⟩ := hE.reads
    injection e2 with e2 _ _
    refine ⟨by rw [List.length_map]; exact HLN.out, HP.out.1, by show AccAt _ A3 _; rw [e1]; exact acc_row hA, by show EntsAt _ E5 _; rw [e2]; exact ents_row hE', fun x hx => ?_⟩
    obtain ⟨h1, h2, h3, h4⟩ := hPR x hx
    obtain ⟨A7, c7, e7, h7, -⟩ := h1.reads
    injection e7 with e7 e8 _
    exact ⟨e8.symm, by rw [h2, h3]; rfl, by rw [e7]; exact acc_row h7, by rw [h2]; exact LnkAt.nil, h4, fun l hl => by rw [h2] at hl; cases hl⟩
   ·have := HP.out.2
    rwa [List.take_of_length_le (by rw [HLG.out]; exact Nat.le_refl _)] at this
   ·have h9 := HB.out.trans (ho9.out.below (B := s0) (fun k hk => by have h8 : k = s0 + 1 := hk; omega) (by have := HZ.out.lt; omega))
    first | exact h9 | (rw [HS0.out]; exact h9)
theorem wpList_box_wh {P : Program} {w : World} {ops : Array Oper} {rest : List Oper} {o : Oper} {a : Act} {Q : Exit → Act → World → Prop} (hg : o.guard = none) (ty : TypeId) (x : Operand) (hop : o.op = .box ty x) (V : Value) (hx : a.eval x = V) (cs : List Value) (hV : V = .agg cs.toArray)
  (h : ∀ b W, Hid (Wh ty W b cs) → Hid (Below w.heap.size w W) → Hid (b = w.heap.size) → wpList P ops Q rest (a.put o.dst (.pointer (some ⟨b, 0, none⟩))) W) : wpList P ops Q (o :: rest) a w := by
 refine wpList_plain hg fun K hK => ?_
 have hrun : (Instr.box ty V).run P w = .ok (.pointer (some ⟨w.heap.size, 0, none⟩)) (w.alloc (.cells cs.toArray ty)) := by
  rw [hV]
  simp [Instr.box, newVar, newRow, Value.cells]
 unfold Oper.wp execOp
 simp only [hop, hx, Sem.run_bind, hrun, Sem.run_pure, Result.andThen_ok]
 exact hK _ _ (h _ _ (Lib.hid (Wh.new w ty cs)) (Lib.hid (below_alloc_new _)) (Lib.hid rfl))
def BareD (g : Grp) (L : List Acc) (G : List Ent) (j : JD) : Prop := ∃ A c E d, j.g = gAE g A c E d ∧ j.L = L.map noPar ∧ Bar j.G G
def NewP (g : Grp) (L : List Acc) (G : List Ent) (B : Nat) (e : Ending) (w' : World) : Prop :=
 if grpP g L G = true then ∃ j M, e = .returned (.tuple #[.pointer (some ⟨j.b, 0, none⟩), .int .i64 0]) ∧ JK M B w' j ∧ j.Xs = [] ∧ (∀ k, M k → B ≤ k ∧ k < w'.heap.size) ∧ BareD g L G j
 else e = .returned (.tuple #[.pointer none, .int .i64 1])
theorem bar_mem {P G : List Ent} (h : Bar P G) {e : Ent} (he : e ∈ P) : ∃ x ∈ G, e.nm = x.nm ∧ e.cur = x.cur ∧ e.n = x.n ∧ e.m = 0 := by
 have h1 : strE e ∈ P.map strE := List.mem_map_of_mem he
 rw [h] at h1
 obtain ⟨x, hx, e1⟩ := List.mem_map.1 h1
 refine ⟨x, hx, ?_, ?_, ?_, ?_⟩
 ·have := congrArg Ent.nm e1; exact this.symm
 ·have := congrArg Ent.cur e1; exact this.symm
 ·have := congrArg Ent.n e1; exact this.symm
 ·have := congrArg Ent.m e1; exact this.symm
def jnC (g : Grp) (v : Value) (a b : Nat) : List Value := grpC g ++ [v, .map (some a), .map (some b)]
set_option maxRecDepth 100000 in
theorem jn_build (g : Grp) (a b : Nat) (w : World) : (Instr.build 57 #[(0, grpV g), (2, .map (some a)), (3, .map (some b))]).run Tryz.prog w = .ok (.agg (jnC g (.slice none 0 0) a b).toArray) w :=
 run_build w 57 _ _ (by kernel_rfl)
set_option maxRecDepth 100000 in
set_option maxHeartbeats 6400000 in
theorem new_any (g : Grp) (L : List Acc) (G : List Ent) (w : World) (hk : GrK w g L G) (hs : Sm g G) (hw : GrW g L G) : Calls Tryz.prog 13 #[grpV g] w fun e w' => NewP g L G w.heap.size e w' ∧ Below w.heap.size w w' := by
 have HV := Lib.hid (fun W (h : GrK W g L G) => gvalid_any g L G W h hs hw)
 have HBA := Lib.hid (fun W (h : GrK W g L G) => bare_any g L G W h hs)
 obtain ⟨s0, hs0⟩ : ∃ s0, w.heap.size = s0 := ⟨_, rfl⟩
 obtain ⟨w2, hw2⟩ : ∃ w2, w.alloc (.cells #[.string g.cur, .int .i64 g.cy, .int .i64 g.cm, .int .i64 g.cp, .slice g.A g.n g.c, .int .i64 g.r0, .int .i64 g.r1, .int .i64 g.r2, .int .i64 g.r3, .int .i64 g.r4, .int .i64 g.r5, .int .i64 g.r6, .int .i64 g.r7, .int .i64 g.r8, .int .i64 g.r9, .int .i64 g.r10, .int .i64 g.r11, .int .i64 g.r12, .int .i64 g.r13, .int .i64 g.r14, .slice g.E g.m g.d] 29) = w2 := ⟨_, rfl⟩
 have HGB : Hid (Wh 29 w2 s0 (grpC g)) := Lib.hid (by rw [← hw2, ← hs0]; exact Wh.new w 29 (grpC g))
 have HB2 : Hid (Below s0 w w2) := Lib.hid (by rw [← hw2, ← hs0]; exact below_alloc_new _)
 have HS2 : Hid (w2.heap.size = s0 + 1) := Lib.hid (by rw [← hw2, ← hs0]; simp)
 have HK2 := Lib.hid (hk.up (HB2.out.mono (Nat.le_of_eq hs0)))
 have HS0 := Lib.hid hs0
 obtain ⟨GV, hGV⟩ : ∃ GV, GV = grpV g := ⟨_, rfl⟩
 have HLG : Hid (∀ w9, Below w2.heap.size w2 w9 → (Instr.loadAt 29 (.pointer (some ⟨s0, 0, none⟩))).run Tryz.prog w9 = .ok GV w9) := Lib.hid (fun w9 h9 => by rw [hGV, grpV_is]; exact (HGB.out.up h9).rg.load 0 29 (grpC g) rfl _ Tryz.underlying29 rfl (by kernel_rfl))
 rw [← hGV] at HV HBA
 have hNP : NewP g L G w.heap.size = fun e w' => if grpP g L G = true then ∃ j M, e = .returned (.tuple #[.pointer (some ⟨j.b, 0, none⟩), .int .i64 0]) ∧ JK M w.heap.size w' j ∧ j.Xs = [] ∧ (∀ k, M k → w.heap.size ≤ k ∧ k < w'.heap.size) ∧ BareD g L G j else e = .returned (.tuple #[.pointer none, .int .i64 1]) := rfl
 have HSM := Lib.hid hs
 have HW := Lib.hid hw
 clear hk hGV hs hw
 have hmm := @run_makeMap Tryz.prog
 cases hq : grpP g L G
 ·rw [hq] at HV
  have HNP : Hid (∀ w', NewP g L G s0 (.returned (.tuple #[.pointer none, .int .i64 1])) w') := Lib.hid (fun w' => by unfold NewP; rw [hq]; rfl)
  clear hNP hq
  have HM1 : True := trivial
  go_enter Tryz.func13, Tryz.ntmps13
  go_wp2_with (first
   | (clear HM1; refine wpList_load_is rfl 29 _ rfl (.pointer (some ⟨s0, 0, none⟩)) rfl GV (HLG.out _ (Below.refl _ _)) ?_)
   | (go_at_call 38; refine (HV.out _ HK2.out).mono ?_; rintro e w3 ⟨rfl, hb⟩; have HB3 := Lib.hid hb; clear hb))
  go_ret2
  exact ⟨by rw [HS0.out]; exact HNP.out _, by rw [HS0.out]; exact HB2.out.trans (HB3.out.mono (by have := HS2.out; omega))⟩
 ·rw [hq] at HV
  have HQ := Lib.hid hq
  clear hNP hq
  have HM1 : True := trivial
  have HM2 : True := trivial
  have HM3 : True := trivial
  have HM4 : True := trivial
  go_enter Tryz.func13, Tryz.ntmps13
  go_wp2_with (first
   | (clear HM1; refine wpList_load_is rfl 29 _ rfl (.pointer (some ⟨s0, 0, none⟩)) rfl GV (HLG.out _ (Below.refl _ _)) ?_)
   | (clear HM2; refine wpList_load_is rfl 29 _ rfl (.pointer (some ⟨s0, 0, none⟩)) rfl GV (HLG.out _ HB3.out) ?_)
   | (go_at_call 38; refine (HV.out _ HK2.out).mono ?_; rintro e w3 ⟨rfl, hb⟩; have HB3 := Lib.hid hb; clear hb)
   | (go_at_call 39; refine (HBA.out _ (HK2.out.up HB3.out)).mono ?_; rintro e w4 ⟨⟨A, c, E, d, P, rfl, hk4, hbar⟩, hb⟩; have HK4 := Lib.hid hk4; have HBAR := Lib.hid hbar; have HB4 := Lib.hid hb; clear hk4 hbar hb; obtain ⟨s4, hs4⟩ : ∃ s4, w4.heap.size = s4 := ⟨_, rfl⟩; have HS4 := Lib.hid hs4; obtain ⟨w5, hw5⟩ : ∃ w5, (w4.alloc (.map #[] 0)).alloc (.map #[] 0) = w5 := ⟨_, rfl⟩; have HI : Hid (MapV w5 s4 0 (fun _ => none)) := Lib.hid (by rw [← hw5, ← hs4]; exact (MapV.made w4).up (below_alloc_new _)); have HR : Hid (MapV w5 (s4 + 1) 0 (fun _ => none)) := Lib.hid (by rw [← hw5, ← hs4]; have h9 := MapV.made (w4.alloc (.map #[] 0)); rw [World.size_alloc] at h9; exact h9); have HB5 : Hid (Below w4.heap.size w4 w5) := Lib.hid (by rw [← hw5]; exact below_new (below_alloc_new _) _); have HS5 : Hid (w5.heap.size = s4 + 2) := Lib.hid (by rw [← hw5, ← hs4]; simp))
   | (clear HM3; refine wpList_build_is rfl 57 _ rfl [(0, grpV (gAE g A c E d)), (2, .map (some s4)), (3, .map (some (s4 + 1)))] rfl (.agg (jnC (gAE g A c E d) (.slice none 0 0) s4 (s4 + 1)).toArray) (jn_build _ _ _ _) ?_)
   | (clear HM4; refine wpList_box_wh rfl 57 _ rfl (.agg (jnC (gAE g A c E d) (.slice none 0 0) s4 (s4 + 1)).toArray) rfl _ rfl ?_; intro jb w6 hj6 hb6 hjb; have HJ6 := Lib.hid hj6.out; have HB6 := Lib.hid hb6.out; have HJB := Lib.hid hjb.out; clear hj6 hb6 hjb))
  go_ret2
  have h4 := HB4.out
  have h5 := HB5.out
  have h6 := HB6.out
  have s4e := HS4.out
  have s5e := HS5.out
  have hjb : jb = s4 + 2 := by rw [HJB.out, s5e]
  have hb46 : Below w4.heap.size w4 w6 := h5.trans (h6.mono (by omega))
  have hM : ∀ k, (k = jb ∨ k = s4 ∨ k = s4 + 1) → w4.heap.size ≤ k := fun k hk => by omega
  have h34 : w3.heap.size ≤ w4.heap.size := h4.size
  have h23 : s0 + 1 ≤ w3.heap.size := by have := HB3.out.size; have := HS2.out; omega
  refine ⟨?_, ?_⟩
  ·unfold NewP
   rw [HQ.out, if_pos rfl]
   refine ⟨⟨jb, gAE g A c E d, L.map noPar, P, none, 0, 0, [], s4, s4 + 1⟩, fun k => k = jb ∨ k = s4 ∨ k = s4 + 1, rfl, ⟨HJ6.out, OwnR.nil, rfl, (HI.out.up h6).ext fun c => rfl, (HR.out.up h6).ext fun c => rfl, ?_, ?_, .inl rfl, .inr (.inl rfl), .inr (.inr rfl), (fun k hk => by cases hk), (by show s4 ≠ s4 + 1; omega), ?_, ?_, ⟨(fun e he => by cases he), (fun e he => by cases he), (fun e he => by cases he)⟩⟩, rfl, (fun k hk => ⟨by have := hM k hk; rw [HS0.out]; omega, by have h9 := HJ6.out.lt; have h8 : k = jb ∨ k = s4 ∨ k = s4 + 1 := hk; omega⟩), ⟨A, c, E, d, rfl, rfl, HBAR.out⟩⟩
   ·exact Im.of (B := w4.heap.size) (fun w' hb => HK4.out.up (hb46.trans hb)) hM hb46.size
   ·exact fun w' _ p hp => by cases hp
   ·refine ⟨HSM.out.n, HSM.out.m, fun e he => ?_⟩
    obtain ⟨x, hx, -, -, h9, h8⟩ := bar_mem HBAR.out he
    have := HSM.out.e x hx
    exact ⟨by rw [h9]; exact this.1, by rw [h8]; omega⟩
   ·refine ⟨HW.out.cur, HW.out.rol, fun e he => ?_⟩
    obtain ⟨x, hx, h9, h8, -, -⟩ := bar_mem HBAR.out he
    have := HW.out.txt x hx
    exact ⟨by rw [h9]; exact this.1, by rw [h8]; exact this.2⟩
  ·have h9 : Below s0 w w6 := (HB2.out.trans (HB3.out.mono (by have := HS2.out; omega))).trans ((h4.mono (by omega)).trans (hb46.mono (by omega)))
   rw [HS0.out]
   exact h9
theorem results_cell2 {P : Program} {fn : Func} {p u : Tmp} {ty : TypeId} (h : fn.results = #[.cell p ty, .tmp u]) (tmps : Array Value) (w : World) (b : Nat) (cs : List Value) (d : TypeDesc) (v : Value)
  (hp : tmps.getD p undef = .pointer (some ⟨b, 0, none⟩)) (hv : tmps.getD u undef = v) (hc : w.rangeAt b 0 cs) (hu : P.underlying ty = some d) (hd : d.isRow = true) (hi : (P.info? ty).map (·.size) = some cs.length) :
  (results fn tmps).run P w = .ok (.tuple #[.agg cs.toArray, v]) w := by
 have hp' : tmps[p]?.getD undef = .pointer (some ⟨b, 0, none⟩) := by simpa using hp
 have hv' : tmps[u]?.getD undef = v := by simpa using hv
 rw [results_cell_tmp h]
 simp [hp', hv', asAddr, run_loadVar_mid w b 0 ty cs d hc hu hd hi]
def fndX (Xs : List Etl) (id : Int) : Etl := Xs.getD (idxP (Xs.map pe) id) (ety0, [])
def fndB (Xs : List Etl) (id : Int) : Bool := decide (idxP (Xs.map pe) id < Xs.length)
theorem fndX_no {Xs : List Etl} {id : Int} (h : fndB Xs id = false) : fndX Xs id = (ety0, []) := by
 unfold fndB at h
 have h1 : ¬ idxP (Xs.map pe) id < Xs.length := of_decide_eq_false h
 unfold fndX
 rw [List.getD_eq_getElem?_getD, List.getElem?_eq_none (by omega)]
 rfl
theorem fndX_yes {Xs : List Etl} {id : Int} (h : fndB Xs id = true) : Xs[idxP (Xs.map pe) id]? = some (fndX Xs id) := by
 unfold fndB at h
 have h1 : idxP (Xs.map pe) id < Xs.length := of_decide_eq_true h
 unfold fndX
 rw [List.getD_eq_getElem?_getD, List.getElem?_eq_getElem h1]
 rfl
theorem fndX_k {w : World} {Xs : List Etl} (h : EtysK w Xs) (id : Int) : EtyK w (fndX Xs id).1 (fndX Xs id).2 := by
 cases hb : fndB Xs id with
 | false => rw [fndX_no hb]; exact ety0_k w
 | true => exact h _ (List.mem_of_getElem? (fndX_yes hb))
set_option maxRecDepth 100000 in
set_option maxHeartbeats 3200000 in
theorem find_any {M : Nat → Prop} {B : Nat} (j : JD) (id : Int) (w : World) (hj : JK M B w j) (hi : (Lit.int .i64 id).wf = true) (hn : j.n ≤ 100000) : Calls Tryz.prog 44 #[.pointer (some ⟨j.b, 0, none⟩), .int .i64 id] w fun e w' => e = .returned (.tuple #[etyV (fndX j.Xs id).1, .bool (fndB j.Xs id)]) ∧ Below w.heap.size w w' := by
 obtain ⟨s0, hs0⟩ : ∃ s0, w.heap.size = s0 := ⟨_, rfl⟩
 obtain ⟨w2, hw2⟩ : ∃ w2, w.alloc (.cells #[.int .i64 0, .int .i64 0, .int .i64 0, .int .i64 0, .int .i64 0, .string ⟨#[]⟩, .slice none 0 0] 42) = w2 := ⟨_, rfl⟩
 have HZ : Hid (Wh 42 w2 s0 [.int .i64 0, .int .i64 0, .int .i64 0, .int .i64 0, .int .i64 0, .string ⟨#[]⟩, .slice none 0 0]) := Lib.hid (by rw [← hw2, ← hs0]; exact Wh.new w 42 [.int .i64 0, .int .i64 0, .int .i64 0, .int .i64 0, .int .i64 0, .string ⟨#[]⟩, .slice none 0 0])
 have HON := Lib.hid (fun W (h : Only (fun k => k = s0) w2 W) => only_new (w := w) (o := .cells #[.int .i64 0, .int .i64 0, .int .i64 0, .int .i64 0, .int .i64 0, .string ⟨#[]⟩, .slice none 0 0] 42) (W := W) (by rw [hw2, hs0]; exact h))
 have hj2 : JK M B w2 j := hj.up (by rw [← hw2]; exact below_alloc_new _)
 have HJ2 := Lib.hid hj2
 have HS0 := Lib.hid hs0
 have HI := Lib.hid hi
 have HN := Lib.hid hn
 have c22 := hj2.box.at 22 _ rfl
 have c21 := hj2.box.at 21 _ rfl
 have hfx := fndX_no (Xs := j.Xs) (id := id)
 have hfy := fndX_yes (Xs := j.Xs) (id := id)
 have hF : idxF j.Es id = if fndB j.Xs id = true then some (.int .i64 (idxP (j.Xs.map pe) id : Nat)) else none := by
  unfold idxF fndB JD.Es
  rw [List.length_map]
  by_cases h : idxP (j.Xs.map pe) id < j.Xs.length
  ·rw [if_pos h, if_pos (decide_eq_true h)]
  ·rw [if_neg h, if_neg (by simpa using h)]
 clear hj hj2 hi hn
 cases hb : fndB j.Xs id
 ·rw [hb, if_neg (by simp)] at hF
  rw [hfx hb]
  have HF := Lib.hid hF
  clear hF hfx hfy hb
  go_enter Tryz.func44, Tryz.ntmps44
  go_wp2_with (first
   | (refine wpList_mapv_ok rfl _ _ rfl j.bi j.n (idxF j.Es) rfl HJ2.out.idx id rfl HI.out ?_; rw [HF.out])
   | (refine wpList_store_wh rfl 42 _ _ rfl s0 rfl 42 [.int .i64 0, .int .i64 0, .int .i64 0, .int .i64 0, .int .i64 0, .string ⟨#[]⟩, .slice none 0 0] (etyC ety0) rfl HZ.out rfl (by kernel_rfl) (by kernel_rfl) ?_; intro W8 hr8 ho8 hz8))
  exact bodyPost_ret (v := .tuple #[etyV ety0, .bool false]) (results_cell2 Tryz.results44 _ _ s0 (etyC ety0) _ _ rfl rfl hr8.out.range Tryz.underlying42 rfl (by kernel_rfl)) rfl ⟨rfl, HON.out _ ho8.out⟩
 ·rw [hb, if_pos rfl] at hF
  have hy := hfy hb
  obtain ⟨x, hx⟩ : ∃ x, (fndX j.Xs id).1 = x := ⟨_, rfl⟩
  rw [hx]
  obtain ⟨i, hi⟩ : ∃ i, idxP (j.Xs.map pe) id = i := ⟨_, rfl⟩
  rw [hi] at hF hy
  have hil : i < j.n := by rw [← HJ2.out.ln]; exact (List.getElem?_eq_some_iff.1 hy).1
  have hxi : (j.Xs.map (·.1))[i]? = some x := by rw [List.getElem?_map, hy, ← hx]; rfl
  obtain ⟨A9, c9, e9, hr, -⟩ := HJ2.out.row.reads
  rw [List.length_map, HJ2.out.ln] at e9
  obtain ⟨g, off, e8, hgl, hrg⟩ := hr.at hxi
  injection e9 with e9 _ _
  rw [← e9] at e8
  rw [e8] at c21
  have HLX : Hid ((Instr.loadAt 42 (.pointer (some ⟨g, off + i * 7, none⟩))).run Tryz.prog w2 = .ok (etyV x) w2) := Lib.hid (run_loadAt_mid w2 g (off + i * 7) 42 (etyC x) _ hrg Tryz.underlying42 rfl (by kernel_rfl))
  have HF := Lib.hid hF
  have hiz : (i : Int) < (j.n : Int) := by omega
  have hnm := HN.out
  clear hF hfx hfy hb hy hx hxi hi hr hrg e9 e8
  have HM1 : True := trivial
  go_enter Tryz.func44, Tryz.ntmps44
  go_wp2_with (first
   | (refine wpList_mapv_ok rfl _ _ rfl j.bi j.n (idxF j.Es) rfl HJ2.out.idx id rfl HI.out ?_; rw [HF.out])
   | (clear HM1; refine wpList_load_is rfl 42 _ rfl (.pointer (some ⟨g, off + i * 7, none⟩)) rfl (etyV x) HLX.out ?_)
   | (refine wpList_store_wh rfl 42 _ _ rfl s0 rfl 42 [.int .i64 0, .int .i64 0, .int .i64 0, .int .i64 0, .int .i64 0, .string ⟨#[]⟩, .slice none 0 0] (etyC x) rfl HZ.out rfl (by kernel_rfl) (by kernel_rfl) ?_; intro W8 hr8 ho8 hz8))
  exact bodyPost_ret (v := .tuple #[etyV x, .bool true]) (results_cell2 Tryz.results44 _ _ s0 (etyC x) _ _ rfl rfl hr8.out.range Tryz.underlying42 rfl (by kernel_rfl)) rfl ⟨rfl, by have h9 := HON.out _ ho8.out; first | exact h9 | (rw [← HS0.out]; exact h9)⟩
set_option maxRecDepth 100000 in
theorem all_any {M : Nat → Prop} {B : Nat} (j : JD) (w : World) (hj : JK M B w j) : Calls Tryz.prog 31 #[.pointer (some ⟨j.b, 0, none⟩)] w fun e w' => e = .returned (.slice j.A j.n j.c) ∧ w = w' := by
 have c21 := hj.box.at 21 _ rfl
 clear hj
 go_enter Tryz.func31, Tryz.ntmps31
 go_wp2_with fail
 go_ret
 exact ⟨rfl, rfl⟩
set_option maxRecDepth 100000 in
theorem jlen_any {M : Nat → Prop} {B : Nat} (j : JD) (w : World) (hj : JK M B w j) : Calls Tryz.prog 14 #[.pointer (some ⟨j.b, 0, none⟩)] w fun e w' => e = .returned (.int .i64 j.n) ∧ w = w' := by
 have HA := Lib.hid (all_any j w hj)
 clear hj
 go_enter Tryz.func14, Tryz.ntmps14
 go_wp2_with (go_at_call 31; refine HA.out.mono ?_; rintro e w3 ⟨rfl, rfl⟩)
 go_ret
 exact ⟨rfl, rfl⟩
set_option maxRecDepth 100000 in
theorem jrev_any {M : Nat → Prop} {B : Nat} (j : JD) (id : Int) (w : World) (hj : JK M B w j) (hi : (Lit.int .i64 id).wf = true) : Calls Tryz.prog 24 #[.pointer (some ⟨j.b, 0, none⟩), .int .i64 id] w fun e w' => e = .returned (.tuple #[.int .i64 (revP j.Es id), .bool (revO j.Es id).isSome]) ∧ w = w' := by
 have c23 := hj.box.at 23 _ rfl
 have HJ := Lib.hid hj
 have HI := Lib.hid hi
 have HV : Hid ((revF j.Es id).getD (.int .i64 0) = .int .i64 (revP j.Es id) ∧ (revF j.Es id).isSome = (revO j.Es id).isSome) := Lib.hid (by
  unfold revF revP
  cases revO j.Es id <;> exact ⟨rfl, rfl⟩)
 clear hj hi
 go_enter Tryz.func24, Tryz.ntmps24
 go_wp2_with (refine wpList_mapv_ok rfl _ _ rfl j.br j.n (revF j.Es) rfl HJ.out.rev id rfl HI.out ?_; rw [HV.out.1, HV.out.2])
 go_ret2
 exact ⟨rfl, rfl⟩
theorem box_grp {M : Nat → Prop} {B : Nat} {w : World} {j : JD} (h : JK M B w j) : w.rangeAt j.b 0 (grpC j.g) := fun i v hi => h.box.range i v (by unfold JC; rw [List.getElem?_append_left (List.getElem?_eq_some_iff.1 hi).1]; exact hi)
def jceF (j : JD) (_s0 : Nat) (GV XV : Value) (cc : Int) : List (Nat × AK.Fact (Below0)) := [(5, AK.Fact.is (.pointer (some ⟨j.b, 0, none⟩))), (6, AK.Fact.is (.pointer (some ⟨j.b, 0, none⟩))), (7, AK.Fact.is (.pointer (some ⟨j.b, 0, none⟩))), (8, AK.Fact.is (GV)), (9, AK.Fact.is (XV)), (10, AK.Fact.is (.int .i64 cc)), (4, AK.Fact.is (.int .i64 cc))]
set_option maxRecDepth 100000 in
set_option maxHeartbeats 3200000 in
theorem jce_any {M : Nat → Prop} {B : Nat} (j : JD) (x : Ety) (X : List Lnk) (w : World) (hj : JK M B w j) (hx : EtyK w x X) (hn : x.n ≤ 1000) : Calls Tryz.prog 46 #[.pointer (some ⟨j.b, 0, none⟩), etyV x] w fun e w' => e = .returned (.int .i64 (chkN j.g x X j.L j.G)) ∧ Below w.heap.size w w' := by
 obtain ⟨GV, hGV⟩ : ∃ GV, GV = grpV j.g := ⟨_, rfl⟩
 obtain ⟨XV, hXV⟩ : ∃ XV, XV = etyV x := ⟨_, rfl⟩
 have HCK := Lib.hid (fun W (h : GrK W j.g j.L j.G) (h9 : EtyK W x X) => gcheck_any j.g x X j.L j.G W h hj.hs hj.hw h9 hn)
 generalize chkN j.g x X j.L j.G = cc at *
 rw [← hGV, ← hXV] at HCK
 obtain ⟨xs, hxs⟩ : ∃ xs, (etyC x).toArray = xs := ⟨_, rfl⟩
 have hxV : etyV x = .agg xs := by rw [etyV_is, hxs]
 rw [hxV]
 obtain ⟨s0, hs0⟩ : ∃ s0, w.heap.size = s0 := ⟨_, rfl⟩
 obtain ⟨w2, hw2⟩ : ∃ w2, w.alloc (.cells xs 42) = w2 := ⟨_, rfl⟩
 have hXB : Wh 42 w2 s0 (etyC x) := by rw [← hw2, ← hs0, ← hxs]; exact Wh.new w _ _
 have hb2 : Below w.heap.size w w2 := by rw [← hw2]; exact below_alloc_new _
 have hj2 := hj.up hb2
 have hx2 := hx.up hb2
 have HLG : Hid (∀ w9, Below w2.heap.size w2 w9 → (Instr.loadAt 29 (.pointer (some ⟨j.b, 0, none⟩))).run Tryz.prog w9 = .ok GV w9) := Lib.hid (fun w9 h9 => by rw [hGV, grpV_is]; exact run_loadAt_mid w9 j.b 0 29 (grpC j.g) _ (box_grp (hj2.up h9)) Tryz.underlying29 rfl (by kernel_rfl))
 have HLX : Hid (∀ w9, Below w2.heap.size w2 w9 → (Instr.loadAt 42 (.pointer (some ⟨s0, 0, none⟩))).run Tryz.prog w9 = .ok XV w9) := Lib.hid (fun w9 h9 => by rw [hXV, etyV_is]; exact (hXB.up h9).rg.load 0 42 (etyC x) rfl _ Tryz.underlying42 rfl (by kernel_rfl))
 have HB2 := Lib.hid hb2
 have HK2 := Lib.hid hj2.grp
 have HX2 := Lib.hid hx2
 clear hj hj2 hx hx2 hXB hb2 hxV hXV hGV
 go_enter Tryz.func46, Tryz.ntmps46
 go_wp2_with fail
 refine AK.region_facts (Rp := Below0) (Kp := Below0) (jceF j s0 GV XV cc) (fun _ _ W => Below w2.heap.size w2 W) [[], [5], [6], [7], [], [8, 9], [10]] [] [[]] [0, 0, 0, 0, 0, 0, 0] [0, 0, 0, 0, 0, 0, 0] [] (fun u => by simp only [jceF, AK.temps, List.map_cons, List.map_nil, fillL, List.setIfInBounds_toArray, List.set_cons_zero, List.set_cons_succ]; rfl) (by kernel_rfl) (by kernel_rfl) (fun _ _ h => h.size) (fun _ _ h => h) (fun _ _ _ _ hb h => h.trans (hb.mono h.size)) (dc_drew (Below.refl _ _)) ?_ ?_
 ·refine AK.sc (lim := 0) (lo := 0) rfl rfl rfl rfl ?_ ?_
  ·intro k_ u w_ hk_ hl_ hJ hF K hK
   clear hF
   go_simp
   exact hK.out _ _ bR (rfl) trivial
  refine AK.sc (lim := 0) (lo := 0) rfl rfl rfl rfl ?_ ?_
  ·intro k_ u w_ hk_ hl_ hJ hF K hK
   have h5 : u 5 = .pointer (some ⟨j.b, 0, none⟩) := AK.facts_get hF 5 (by simp)
   clear hF
   simp only [h5] at hK ⊢
   clear h5
   go_simp
   exact hK.out _ _ bR (rfl) trivial
  refine AK.sc (lim := 0) (lo := 0) rfl rfl rfl rfl ?_ ?_
  ·intro k_ u w_ hk_ hl_ hJ hF K hK
   have h6 : u 6 = .pointer (some ⟨j.b, 0, none⟩) := AK.facts_get hF 6 (by simp)
   clear hF
   simp only [h6] at hK ⊢
   clear h6
   go_simp
   exact hK.out _ _ bR (rfl) trivial
  refine AK.sc (lim := 0) (lo := 0) rfl rfl rfl rfl ?_ ?_
  ·intro k_ u w_ hk_ hl_ hJ hF K hK
   have h7 : u 7 = .pointer (some ⟨j.b, 0, none⟩) := AK.facts_get hF 7 (by simp)
   clear hF
   simp only [h7] at hK ⊢
   clear h7
   refine wp_load_is 29 _ rfl (.pointer (some ⟨j.b, 0, none⟩)) rfl GV (HLG.out _ hJ) ?_
   exact hK.out _ _ bR (rfl) trivial
  refine AK.sc (lim := 0) (lo := 0) rfl rfl rfl rfl ?_ ?_
  ·intro k_ u w_ hk_ hl_ hJ hF K hK
   clear hF
   refine wp_load_is 42 _ rfl (.pointer (some ⟨s0, 0, none⟩)) rfl XV (HLX.out _ hJ) ?_
   exact hK.out _ _ bR (rfl) trivial
  refine AK.sc (lim := 0) (lo := 0) rfl rfl rfl rfl ?_ ?_
  ·intro k_ u w_ hk_ hl_ hJ hF K hK
   have h8 : u 8 = GV := AK.facts_get hF 8 (by simp)
   have h9 : u 9 = XV := AK.facts_get hF 9 (by simp)
   clear hF
   simp only [h8, h9] at hK ⊢
   clear h8 h9
   have hk9 := HK2.out.on (Only.of hJ)
   have hx9 := HX2.out.up hJ
   go_simp
   refine (HCK.out _ hk9.now hx9).mono ?_
   rintro e w3 ⟨rfl, hb⟩
   exact hK.out _ _ hb (rfl) trivial
  refine AK.sc (lim := 0) (lo := 0) rfl rfl rfl rfl ?_ ?_
  ·intro k_ u w_ hk_ hl_ hJ hF K hK
   have h10 : u 10 = .int .i64 cc := AK.facts_get hF 10 (by simp)
   clear hF
   simp only [h10] at hK ⊢
   clear h10
   go_simp
   exact hK.out _ _ bR (rfl) trivial
  exact AK.StepsOk.nil
 ·intro u W9 hJ9 hF
  have h4 : u 4 = .int .i64 cc := AK.facts_get hF 4 (by simp [jceF, AK.temps])
  clear hF
  go_wp2_with fail
  go_ret
  exact ⟨by first | rfl | simp [h4], HB2.out.trans (hJ9.mono HB2.out.size)⟩
set_option maxRecDepth 100000 in
theorem jchecks_any (b : Nat) (w : World) : Calls Tryz.prog 27 #[.pointer (some ⟨b, 0, none⟩)] w fun e w' => e = .returned (.slice (some ⟨w.heap.size, 0, none⟩) 4 4) ∧ w' = w.alloc (.cells #[.func (.func 46) #[.pointer (some ⟨b, 0, none⟩)] #[], .func (.func 47) #[.pointer (some ⟨b, 0, none⟩)] #[], .func (.func 48) #[.pointer (some ⟨b, 0, none⟩)] #[], .func (.func 49) #[.pointer (some ⟨b, 0, none⟩)] #[]] 44) := by
 go_enter Tryz.func27, Tryz.ntmps27
 go_wp2_with fail
 go_ret
 exact ⟨rfl, rfl⟩
set_option maxRecDepth 100000 in
set_option maxHeartbeats 3200000 in
theorem post1_any {M : Nat → Prop} {B : Nat} (j : JD) (x : Ety) (X : List Lnk) (w : World) (hj : JK M B w j) (hx : EtyK w x X) (hn : x.n ≤ 1000) (hc : chkN j.g x X j.L j.G ≠ 0) : Calls Tryz.prog 9 #[.pointer (some ⟨j.b, 0, none⟩), etyV x] w fun e w' => e = .returned (.int .i64 (chkN j.g x X j.L j.G)) ∧ Below w.heap.size w w' := by
 have HCE := Lib.hid (fun W (h : Below w.heap.size w W) => jce_any j x X W (hj.up h) (hx.up h) hn)
 generalize chkN j.g x X j.L j.G = cc at *
 obtain ⟨XV, hXV⟩ : ∃ XV, XV = etyV x := ⟨_, rfl⟩
 rw [← hXV] at HCE
 obtain ⟨xs, hxs⟩ : ∃ xs, (etyC x).toArray = xs := ⟨_, rfl⟩
 have hxV : etyV x = .agg xs := by rw [etyV_is, hxs]
 rw [hxV]
 obtain ⟨s0, hs0⟩ : ∃ s0, w.heap.size = s0 := ⟨_, rfl⟩
 obtain ⟨w2, hw2⟩ : ∃ w2, w.alloc (.cells xs 42) = w2 := ⟨_, rfl⟩
 have HX2 : Hid (Wh 42 w2 s0 (etyC x)) := Lib.hid (by rw [← hw2, ← hs0, ← hxs]; exact Wh.new w _ _)
 have HB2 : Hid (Below w.heap.size w w2) := Lib.hid (by rw [← hw2]; exact below_alloc_new _)
 have HXV := Lib.hid hXV
 have e0 : (cc != 0) = true := by simp [hc]
 clear hj hx hxV hXV hc
 go_enter Tryz.func9, Tryz.ntmps9
 go_wp2_with (go_at_call 27; refine (jchecks_any _ _).mono ?_; rintro e w3 ⟨rfl, hw3⟩; have HW3 := Lib.hid hw3; clear hw3)
 have HF3 : Hid (Rg w3 w2.heap.size [.func (.func 46) #[.pointer (some ⟨j.b, 0, none⟩)] #[], .func (.func 47) #[.pointer (some ⟨j.b, 0, none⟩)] #[], .func (.func 48) #[.pointer (some ⟨j.b, 0, none⟩)] #[], .func (.func 49) #[.pointer (some ⟨j.b, 0, none⟩)] #[]]) := Lib.hid (by rw [HW3.out]; exact rg_new w2 _ _)
 have hB3 : Below w2.heap.size w2 w3 := by rw [HW3.out]; exact below_alloc_new _
 have HB3 := Lib.hid (HB2.out.trans (hB3.mono HB2.out.size))
 have HX3 := Lib.hid (HX2.out.up hB3)
 clear hB3 HX2 HB2 HW3
 go_loopg [13] 1 (fun kx s13 wr => s13 = .int .i64 0 ∧ Below w3.heap.size w3 wr)
 case atStart => exact ⟨rfl, Below.refl _ _⟩
 case round =>
  obtain ⟨rfl, hBi⟩ := hrel
  have c0 := (HF3.out.up hBi).cell 0 _ rfl
  have HBW := Lib.hid (HB3.out.trans (hBi.mono HB3.out.size))
  have HBI := Lib.hid hBi
  have HLX : Hid ((Instr.loadAt 42 (.pointer (some ⟨s0, 0, none⟩))).run Tryz.prog wr = .ok XV wr) := Lib.hid (by rw [HXV.out, etyV_is]; exact (HX3.out.up hBi).rg.load 0 42 (etyC x) rfl _ Tryz.underlying42 rfl (by kernel_rfl))
  clear hBi
  go_wp2_with (first
   | (refine wpList_load_is rfl 42 _ rfl (.pointer (some ⟨s0, 0, none⟩)) rfl XV HLX.out ?_)
   | (go_at_call 46; refine (HCE.out _ HBW.out).mono ?_; rintro e w5 ⟨rfl, hb5⟩; have HB5 := Lib.hid (HBI.out.trans (hb5.mono HBI.out.size)); clear hb5))
  go_ret
  exact ⟨rfl, HB3.out.trans (HB5.out.mono HB3.out.size)⟩
theorem fndB_is (Xs : List Etl) (id : Int) (a b : Int) : (if fndB Xs id = true then a else b) = if idxP (Xs.map pe) id < (Xs.map pe).length then a else b := by
 unfold fndB
 rw [List.length_map]
 by_cases h : idxP (Xs.map pe) id < Xs.length
 ·rw [if_pos h, if_pos (decide_eq_true h)]
 ·rw [if_neg h, if_neg (by simpa using h)]
set_option maxRecDepth 100000 in
set_option maxHeartbeats 3200000 in
theorem jci_any {M : Nat → Prop} {B : Nat} (j : JD) (x : Ety) (w : World) (hj : JK M B w j) (hi : (Lit.int .i64 x.id).wf = true) (hn : j.n ≤ 100000) : Calls Tryz.prog 47 #[.pointer (some ⟨j.b, 0, none⟩), etyV x] w fun e w' => e = .returned (.int .i64 (if fndB j.Xs x.id = true then 9 else 0)) ∧ Below w.heap.size w w' := by
 obtain ⟨xs, hxs⟩ : ∃ xs, (etyC x).toArray = xs := ⟨_, rfl⟩
 have hxV : etyV x = .agg xs := by rw [etyV_is, hxs]
 rw [hxV]
 obtain ⟨s0, hs0⟩ : ∃ s0, w.heap.size = s0 := ⟨_, rfl⟩
 obtain ⟨w2, hw2⟩ : ∃ w2, w.alloc (.cells xs 42) = w2 := ⟨_, rfl⟩
 have HXB : Hid (Wh 42 w2 s0 (etyC x)) := Lib.hid (by rw [← hw2, ← hs0, ← hxs]; exact Wh.new w _ _)
 have HB2 : Hid (Below w.heap.size w w2) := Lib.hid (by rw [← hw2]; exact below_alloc_new _)
 have HJ2 := Lib.hid (hj.up HB2.out)
 have HS0 := Lib.hid hs0
 have HF := Lib.hid (find_any j x.id w2 HJ2.out hi hn)
 have p0 := HXB.out.at 0 _ rfl
 generalize fndX j.Xs x.id = yy at *
 generalize fndB j.Xs x.id = bb at *
 obtain ⟨y, Y⟩ := yy
 clear hj hi hn hxV hxs
 cases bb
 ·go_enter Tryz.func47, Tryz.ntmps47
  go_wp2_with (first
   | (go_at_call 44; refine HF.out.mono ?_; rintro e w3 ⟨rfl, hb⟩; have HB3 := Lib.hid hb; clear hb; obtain ⟨s3, hs3⟩ : ∃ s3, w3.heap.size = s3 := ⟨_, rfl⟩; have HS3 := Lib.hid hs3)
   | (refine wpList_store_wh rfl 42 _ _ rfl s3 rfl 42 [.int .i64 0, .int .i64 0, .int .i64 0, .int .i64 0, .int .i64 0, .string ⟨#[]⟩, .slice none 0 0] (etyC y) rfl (by rw [← HS3.out]; exact Wh.new w3 42 [.int .i64 0, .int .i64 0, .int .i64 0, .int .i64 0, .int .i64 0, .string ⟨#[]⟩, .slice none 0 0]) rfl (by kernel_rfl) (by kernel_rfl) ?_; intro w5 hr5 ho5 hz5; have hb5 : Below w3.heap.size w3 w5 := only_new (by rw [HS3.out]; exact ho5.out); have HB5 := Lib.hid (HB3.out.trans (hb5.mono HB3.out.size)); clear hr5 ho5 hz5 hb5 hs3 HB3))
  go_ret
  exact ⟨rfl, by have h9 := HB2.out.trans (HB5.out.mono HB2.out.size); first | exact h9 | (rw [← HS0.out]; exact h9)⟩
 ·go_enter Tryz.func47, Tryz.ntmps47
  go_wp2_with (first
   | (go_at_call 44; refine HF.out.mono ?_; rintro e w3 ⟨rfl, hb⟩; have HB3 := Lib.hid hb; clear hb; obtain ⟨s3, hs3⟩ : ∃ s3, w3.heap.size = s3 := ⟨_, rfl⟩; have HS3 := Lib.hid hs3)
   | (refine wpList_store_wh rfl 42 _ _ rfl s3 rfl 42 [.int .i64 0, .int .i64 0, .int .i64 0, .int .i64 0, .int .i64 0, .string ⟨#[]⟩, .slice none 0 0] (etyC y) rfl (by rw [← HS3.out]; exact Wh.new w3 42 [.int .i64 0, .int .i64 0, .int .i64 0, .int .i64 0, .int .i64 0, .string ⟨#[]⟩, .slice none 0 0]) rfl (by kernel_rfl) (by kernel_rfl) ?_; intro w5 hr5 ho5 hz5; have hb5 : Below w3.heap.size w3 w5 := only_new (by rw [HS3.out]; exact ho5.out); have HB5 := Lib.hid (HB3.out.trans (hb5.mono HB3.out.size)); clear hr5 ho5 hz5 hb5 hs3 HB3))
  go_ret
  exact ⟨rfl, by have h9 := HB2.out.trans (HB5.out.mono HB2.out.size); first | exact h9 | (rw [← HS0.out]; exact h9)⟩
set_option maxRecDepth 100000 in
set_option maxHeartbeats 3200000 in
theorem jcl_any {M : Nat → Prop} {B : Nat} (j : JD) (x : Ety) (w : World) (hj : JK M B w j) : Calls Tryz.prog 49 #[.pointer (some ⟨j.b, 0, none⟩), etyV x] w fun e w' => e = .returned (.int .i64 (if 2000 ≤ j.n then 6 else 0)) ∧ Below w.heap.size w w' := by
 obtain ⟨xs, hxs⟩ : ∃ xs, (etyC x).toArray = xs := ⟨_, rfl⟩
 have hxV : etyV x = .agg xs := by rw [etyV_is, hxs]
 rw [hxV]
 obtain ⟨s0, hs0⟩ : ∃ s0, w.heap.size = s0 := ⟨_, rfl⟩
 obtain ⟨w2, hw2⟩ : ∃ w2, w.alloc (.cells xs 42) = w2 := ⟨_, rfl⟩
 have HXB : Hid (Wh 42 w2 s0 (etyC x)) := Lib.hid (by rw [← hw2, ← hs0, ← hxs]; exact Wh.new w _ _)
 have HB2 : Hid (Below w.heap.size w w2) := Lib.hid (by rw [← hw2]; exact below_alloc_new _)
 have HJ2 := Lib.hid (hj.up HB2.out)
 have HS0 := Lib.hid hs0
 have c21 := HJ2.out.box.at 21 _ rfl
 clear hj hxV hxs
 by_cases hq : 2000 ≤ j.n
 ·have hqz : (2000 : Int) ≤ (j.n : Int) := by omega
  rw [if_pos hq]
  go_enter Tryz.func49, Tryz.ntmps49
  go_wp2_with fail
  go_ret
  exact ⟨rfl, by have h9 := HB2.out; first | exact h9 | (rw [← HS0.out]; exact h9)⟩
 ·have hqz : ¬ (2000 : Int) ≤ (j.n : Int) := by omega
  rw [if_neg hq]
  go_enter Tryz.func49, Tryz.ntmps49
  go_wp2_with fail
  go_ret
  exact ⟨rfl, by have h9 := HB2.out; first | exact h9 | (rw [← HS0.out]; exact h9)⟩
theorem rvE_no {Xs : List Etl} {x : PE} (h : x.kind ≠ 3) : rvE (Xs.map pe) x = 0 := by unfold rvE; rw [if_neg h]
theorem rvE_none {Xs : List Etl} {x : PE} (h : x.kind = 3) (hf : fndB Xs x.of_ = false) : rvE (Xs.map pe) x = 8 := by
 unfold rvE
 unfold fndB at hf
 have h1 : ¬ idxP (Xs.map pe) x.of_ < Xs.length := of_decide_eq_false hf
 rw [if_pos h, List.getElem?_eq_none (by rw [List.length_map]; omega)]
theorem rvE_some {Xs : List Etl} {x : PE} {y : Ety} {Y : List Lnk} (h : x.kind = 3) (hf : fndB Xs x.of_ = true) (hy : fndX Xs x.of_ = (y, Y)) (hg : GoodP (Xs.map pe)) : y.id = x.of_ ∧ (y, Y) ∈ Xs ∧ rvE (Xs.map pe) x = if (decide (y.kind = 3) || (revO (Xs.map pe) x.of_).isSome) = true then 7 else if (decide (y.ent ≠ x.ent) || (decide (x.day < y.day) || !oppB x.ls Y)) = true then 18 else 0 := by
 have h1 := fndX_yes hf
 rw [hy] at h1
 have h2 : idxP (Xs.map pe) x.of_ < (Xs.map pe).length := by rw [List.length_map]; exact (List.getElem?_eq_some_iff.1 h1).1
 obtain ⟨e, h3, h4⟩ := idxP_some h2
 have h5 : (Xs.map pe)[idxP (Xs.map pe) x.of_]? = some (pe (y, Y)) := by rw [List.getElem?_map, h1]; rfl
 have h6 : pe (y, Y) = e := by rw [h5] at h3; injection h3
 refine ⟨by rw [← h4, ← h6]; rfl, List.mem_of_getElem? h1, ?_⟩
 unfold rvE
 rw [if_pos h, h5]
 have h7 := revP_ne hg x.of_
 have h8 : decide (revP (Xs.map pe) x.of_ ≠ 0) = (revO (Xs.map pe) x.of_).isSome := by
  cases hr : (revO (Xs.map pe) x.of_).isSome with
  | true => exact decide_eq_true (h7.2 hr)
  | false => exact decide_eq_false fun h9 => by rw [h7.1 h9] at hr; cases hr
 dsimp only
 rw [h8]
 rfl
set_option maxRecDepth 100000 in
set_option maxHeartbeats 6400000 in
theorem jcr_any {M : Nat → Prop} {B : Nat} (j : JD) (x : Ety) (X : List Lnk) (w : World) (hj : JK M B w j) (hx : EtyK w x X) (hxn : x.n ≤ 1000) (hi : (Lit.int .i64 x.of_).wf = true) (hn : j.n ≤ 100000) : Calls Tryz.prog 48 #[.pointer (some ⟨j.b, 0, none⟩), etyV x] w fun e w' => e = .returned (.int .i64 (rvE j.Es (pe (x, X)))) ∧ Below w.heap.size w w' := by
 obtain ⟨xs, hxs⟩ : ∃ xs, (etyC x).toArray = xs := ⟨_, rfl⟩
 have hxV : etyV x = .agg xs := by rw [etyV_is, hxs]
 rw [hxV]
 obtain ⟨s0, hs0⟩ : ∃ s0, w.heap.size = s0 := ⟨_, rfl⟩
 obtain ⟨w2, hw2⟩ : ∃ w2, w.alloc (.cells xs 42) = w2 := ⟨_, rfl⟩
 have HXB : Hid (Wh 42 w2 s0 (etyC x)) := Lib.hid (by rw [← hw2, ← hs0, ← hxs]; exact Wh.new w _ _)
 have HB2 : Hid (Below w.heap.size w w2) := Lib.hid (by rw [← hw2]; exact below_alloc_new _)
 have HJ2 := Lib.hid (hj.up HB2.out)
 have HS0 := Lib.hid hs0
 have HF := Lib.hid (find_any j x.of_ w2 HJ2.out hi hn)
 have HX2 := Lib.hid (hx.up HB2.out)
 have p3 := HXB.out.at 3 _ rfl
 have p4 := HXB.out.at 4 _ rfl
 have hEs : j.Es = j.Xs.map pe := rfl
 have HXN := Lib.hid hxn
 have HGD := HJ2.out.good
 clear hxV hxs hj hx hxn
 by_cases hk : x.kind = 3
 ·rw [hk] at p3
  cases hb : fndB j.Xs x.of_
  ·have hr : rvE j.Es (pe (x, X)) = 8 := rvE_none (x := pe (x, X)) hk hb
   rw [hr]
   rw [hb] at HF
   obtain ⟨⟨y, Y⟩, hy⟩ : ∃ yy, fndX j.Xs x.of_ = yy := ⟨_, rfl⟩
   rw [hy] at HF
   clear hr hb hy hk HGD hi hEs
   go_enter Tryz.func48, Tryz.ntmps48
   go_wp2_with (first
    | (go_at_call 44; refine HF.out.mono ?_; rintro e w3 ⟨rfl, hb⟩; have HB3 := Lib.hid hb; clear hb; obtain ⟨s3, hs3⟩ : ∃ s3, w3.heap.size = s3 := ⟨_, rfl⟩; have HS3 := Lib.hid hs3)
    | (refine wpList_store_wh rfl 42 _ _ rfl s3 rfl 42 [.int .i64 0, .int .i64 0, .int .i64 0, .int .i64 0, .int .i64 0, .string ⟨#[]⟩, .slice none 0 0] (etyC y) rfl (by rw [← HS3.out]; exact Wh.new w3 42 [.int .i64 0, .int .i64 0, .int .i64 0, .int .i64 0, .int .i64 0, .string ⟨#[]⟩, .slice none 0 0]) rfl (by kernel_rfl) (by kernel_rfl) ?_; intro w5 hr5 ho5 hz5; have hb5 : Below w3.heap.size w3 w5 := only_new (by rw [HS3.out]; exact ho5.out); have HB5 := Lib.hid (HB3.out.trans (hb5.mono HB3.out.size)); have q0 := hr5.out.at 0 _ rfl; have q1 := hr5.out.at 1 _ rfl; have q2 := hr5.out.at 2 _ rfl; have q3 := hr5.out.at 3 _ rfl; have q6 := hr5.out.at 6 _ rfl; have hx5 := HXB.out.up HB5.out; have p1 := hx5.at 1 _ rfl; have p2 := hx5.at 2 _ rfl; have p6 := hx5.at 6 _ rfl; clear hx5 hr5 ho5 hz5 hb5 hs3 HB3; skip)
    | (go_at_call 24; refine (jrev_any j y.id _ (HJ2.out.up HB5.out) HIW.out).mono ?_; rintro e w6 ⟨rfl, rfl⟩)
    | (go_at_call 71; refine (HOP.out _ (HX2.out.up HB5.out).hz (HY2.out.up HB5.out).hz).mono ?_; rintro e w7 ⟨rfl, hb⟩; have HB7 := Lib.hid (HB5.out.trans (hb.mono HB5.out.size)); clear hb))
   go_ret
   exact ⟨by first | rfl | simp, by have h9 := HB2.out.trans (HB5.out.mono HB2.out.size); first | exact h9 | (rw [← HS0.out]; exact h9)⟩
  ·obtain ⟨⟨y, Y⟩, hy⟩ : ∃ yy, fndX j.Xs x.of_ = yy := ⟨_, rfl⟩
   obtain ⟨hid, hmem, hr⟩ := rvE_some (x := pe (x, X)) hk hb hy HGD
   have hid' : y.id = x.of_ := hid
   have HIW : Hid ((Lit.int .i64 y.id).wf = true) := Lib.hid (by rw [hid']; exact hi)
   rw [hy, hb] at HF
   have hYK := HJ2.out.ets.now _ hmem
   have hYln : Y.length = y.n := hYK.ln
   have HY2 : Hid (EtyK w2 y Y) := Lib.hid hYK
   have hYn : Y.length ≤ 1000 := HGD.ln _ (List.mem_map_of_mem hmem)
   have HOP := Lib.hid (fun W (h : LnkAt W x.A X) (h2 : LnkAt W y.A Y) => eopp_any x.A y.A x.c y.c X Y W h h2 (by have := HX2.out.ln; have := HXN.out; omega) (by omega))
   rw [HX2.out.ln, hYln] at HOP
   have hor : (revO j.Es x.of_).isSome = (revO j.Es y.id).isSome := by rw [hid']
   rw [show (pe (x, X)).of_ = x.of_ from rfl, show j.Xs.map pe = j.Es from rfl, hor] at hr
   have hr2 : rvE j.Es (pe (x, X)) = if (decide (y.kind = 3) || (revO j.Es y.id).isSome) = true then 7 else if (decide (y.ent ≠ x.ent) || (decide (x.day < y.day) || !oppB X Y)) = true then 18 else 0 := hr
   rw [hr2]
   clear hr hr2 hmem hYK hYn hYln hid hid' hor hb hy hk HGD hi hEs
   have HRB := Lib.hid (fun W (h : JK M B W j) => jrev_any j y.id W h HIW.out)
   generalize oppB X Y = ob at *
   cases hv : (revO j.Es y.id).isSome
   ·rw [hv] at HRB
    by_cases hk : y.kind = 3
    ·rw [if_pos (by simp [hk])]
     have hkq : (y.kind == 3) = true := by simp [hk]
     go_enter Tryz.func48, Tryz.ntmps48
     go_wp2_with (first
      | (go_at_call 44; refine HF.out.mono ?_; rintro e w3 ⟨rfl, hb⟩; have HB3 := Lib.hid hb; clear hb; obtain ⟨s3, hs3⟩ : ∃ s3, w3.heap.size = s3 := ⟨_, rfl⟩; have HS3 := Lib.hid hs3)
      | (refine wpList_store_wh rfl 42 _ _ rfl s3 rfl 42 [.int .i64 0, .int .i64 0, .int .i64 0, .int .i64 0, .int .i64 0, .string ⟨#[]⟩, .slice none 0 0] (etyC y) rfl (by rw [← HS3.out]; exact Wh.new w3 42 [.int .i64 0, .int .i64 0, .int .i64 0, .int .i64 0, .int .i64 0, .string ⟨#[]⟩, .slice none 0 0]) rfl (by kernel_rfl) (by kernel_rfl) ?_; intro w5 hr5 ho5 hz5; have hb5 : Below w3.heap.size w3 w5 := only_new (by rw [HS3.out]; exact ho5.out); have HB5 := Lib.hid (HB3.out.trans (hb5.mono HB3.out.size)); have q0 := hr5.out.at 0 _ rfl; have q1 := hr5.out.at 1 _ rfl; have q2 := hr5.out.at 2 _ rfl; have q3 := hr5.out.at 3 _ rfl; have q6 := hr5.out.at 6 _ rfl; have hx5 := HXB.out.up HB5.out; have p1 := hx5.at 1 _ rfl; have p2 := hx5.at 2 _ rfl; have p6 := hx5.at 6 _ rfl; clear hx5 hr5 ho5 hz5 hb5 hs3 HB3; rw [hk] at q3)
      | (go_at_call 24; refine (HRB.out _ (HJ2.out.up HB5.out)).mono ?_; rintro e w6 ⟨rfl, rfl⟩)
      | (go_at_call 71; refine (HOP.out _ (HX2.out.up HB5.out).hz (HY2.out.up HB5.out).hz).mono ?_; rintro e w7 ⟨rfl, hb⟩; have HB7 := Lib.hid (HB5.out.trans (hb.mono HB5.out.size)); clear hb))
     go_ret
     exact ⟨by first | rfl | simp, by have h9 := HB2.out.trans (HB5.out.mono HB2.out.size); first | exact h9 | (rw [← HS0.out]; exact h9)⟩
    ·rw [if_neg (by simp [hk])]
     have hkq : (y.kind == 3) = false := by simp [hk]
     by_cases he : y.ent = x.ent
     ·by_cases hd : x.day < y.day
      ·rw [if_pos (by simp [hd])]
       go_enter Tryz.func48, Tryz.ntmps48
       go_wp2_with (first
        | (go_at_call 44; refine HF.out.mono ?_; rintro e w3 ⟨rfl, hb⟩; have HB3 := Lib.hid hb; clear hb; obtain ⟨s3, hs3⟩ : ∃ s3, w3.heap.size = s3 := ⟨_, rfl⟩; have HS3 := Lib.hid hs3)
        | (refine wpList_store_wh rfl 42 _ _ rfl s3 rfl 42 [.int .i64 0, .int .i64 0, .int .i64 0, .int .i64 0, .int .i64 0, .string ⟨#[]⟩, .slice none 0 0] (etyC y) rfl (by rw [← HS3.out]; exact Wh.new w3 42 [.int .i64 0, .int .i64 0, .int .i64 0, .int .i64 0, .int .i64 0, .string ⟨#[]⟩, .slice none 0 0]) rfl (by kernel_rfl) (by kernel_rfl) ?_; intro w5 hr5 ho5 hz5; have hb5 : Below w3.heap.size w3 w5 := only_new (by rw [HS3.out]; exact ho5.out); have HB5 := Lib.hid (HB3.out.trans (hb5.mono HB3.out.size)); have q0 := hr5.out.at 0 _ rfl; have q1 := hr5.out.at 1 _ rfl; have q2 := hr5.out.at 2 _ rfl; have q3 := hr5.out.at 3 _ rfl; have q6 := hr5.out.at 6 _ rfl; have hx5 := HXB.out.up HB5.out; have p1 := hx5.at 1 _ rfl; have p2 := hx5.at 2 _ rfl; have p6 := hx5.at 6 _ rfl; clear hx5 hr5 ho5 hz5 hb5 hs3 HB3; rw [he] at q1)
        | (go_at_call 24; refine (HRB.out _ (HJ2.out.up HB5.out)).mono ?_; rintro e w6 ⟨rfl, rfl⟩)
        | (go_at_call 71; refine (HOP.out _ (HX2.out.up HB5.out).hz (HY2.out.up HB5.out).hz).mono ?_; rintro e w7 ⟨rfl, hb⟩; have HB7 := Lib.hid (HB5.out.trans (hb.mono HB5.out.size)); clear hb))
       go_ret
       exact ⟨by first | rfl | simp, by have h9 := HB2.out.trans (HB5.out.mono HB2.out.size); first | exact h9 | (rw [← HS0.out]; exact h9)⟩
      ·cases ob
       ·rw [if_pos (by simp)]
        go_enter Tryz.func48, Tryz.ntmps48
        go_wp2_with (first
         | (go_at_call 44; refine HF.out.mono ?_; rintro e w3 ⟨rfl, hb⟩; have HB3 := Lib.hid hb; clear hb; obtain ⟨s3, hs3⟩ : ∃ s3, w3.heap.size = s3 := ⟨_, rfl⟩; have HS3 := Lib.hid hs3)
         | (refine wpList_store_wh rfl 42 _ _ rfl s3 rfl 42 [.int .i64 0, .int .i64 0, .int .i64 0, .int .i64 0, .int .i64 0, .string ⟨#[]⟩, .slice none 0 0] (etyC y) rfl (by rw [← HS3.out]; exact Wh.new w3 42 [.int .i64 0, .int .i64 0, .int .i64 0, .int .i64 0, .int .i64 0, .string ⟨#[]⟩, .slice none 0 0]) rfl (by kernel_rfl) (by kernel_rfl) ?_; intro w5 hr5 ho5 hz5; have hb5 : Below w3.heap.size w3 w5 := only_new (by rw [HS3.out]; exact ho5.out); have HB5 := Lib.hid (HB3.out.trans (hb5.mono HB3.out.size)); have q0 := hr5.out.at 0 _ rfl; have q1 := hr5.out.at 1 _ rfl; have q2 := hr5.out.at 2 _ rfl; have q3 := hr5.out.at 3 _ rfl; have q6 := hr5.out.at 6 _ rfl; have hx5 := HXB.out.up HB5.out; have p1 := hx5.at 1 _ rfl; have p2 := hx5.at 2 _ rfl; have p6 := hx5.at 6 _ rfl; clear hx5 hr5 ho5 hz5 hb5 hs3 HB3; rw [he] at q1)
         | (go_at_call 24; refine (HRB.out _ (HJ2.out.up HB5.out)).mono ?_; rintro e w6 ⟨rfl, rfl⟩)
         | (go_at_call 71; refine (HOP.out _ (HX2.out.up HB5.out).hz (HY2.out.up HB5.out).hz).mono ?_; rintro e w7 ⟨rfl, hb⟩; have HB7 := Lib.hid (HB5.out.trans (hb.mono HB5.out.size)); clear hb))
        go_ret
        exact ⟨by first | rfl | simp, by have h9 := HB2.out.trans (HB7.out.mono HB2.out.size); first | exact h9 | (rw [← HS0.out]; exact h9)⟩
       ·rw [if_neg (by simp [he, hd])]
        go_enter Tryz.func48, Tryz.ntmps48
        go_wp2_with (first
         | (go_at_call 44; refine HF.out.mono ?_; rintro e w3 ⟨rfl, hb⟩; have HB3 := Lib.hid hb; clear hb; obtain ⟨s3, hs3⟩ : ∃ s3, w3.heap.size = s3 := ⟨_, rfl⟩; have HS3 := Lib.hid hs3)
         | (refine wpList_store_wh rfl 42 _ _ rfl s3 rfl 42 [.int .i64 0, .int .i64 0, .int .i64 0, .int .i64 0, .int .i64 0, .string ⟨#[]⟩, .slice none 0 0] (etyC y) rfl (by rw [← HS3.out]; exact Wh.new w3 42 [.int .i64 0, .int .i64 0, .int .i64 0, .int .i64 0, .int .i64 0, .string ⟨#[]⟩, .slice none 0 0]) rfl (by kernel_rfl) (by kernel_rfl) ?_; intro w5 hr5 ho5 hz5; have hb5 : Below w3.heap.size w3 w5 := only_new (by rw [HS3.out]; exact ho5.out); have HB5 := Lib.hid (HB3.out.trans (hb5.mono HB3.out.size)); have q0 := hr5.out.at 0 _ rfl; have q1 := hr5.out.at 1 _ rfl; have q2 := hr5.out.at 2 _ rfl; have q3 := hr5.out.at 3 _ rfl; have q6 := hr5.out.at 6 _ rfl; have hx5 := HXB.out.up HB5.out; have p1 := hx5.at 1 _ rfl; have p2 := hx5.at 2 _ rfl; have p6 := hx5.at 6 _ rfl; clear hx5 hr5 ho5 hz5 hb5 hs3 HB3; rw [he] at q1)
         | (go_at_call 24; refine (HRB.out _ (HJ2.out.up HB5.out)).mono ?_; rintro e w6 ⟨rfl, rfl⟩)
         | (go_at_call 71; refine (HOP.out _ (HX2.out.up HB5.out).hz (HY2.out.up HB5.out).hz).mono ?_; rintro e w7 ⟨rfl, hb⟩; have HB7 := Lib.hid (HB5.out.trans (hb.mono HB5.out.size)); clear hb))
        go_ret
        exact ⟨by first | rfl | simp, by have h9 := HB2.out.trans (HB7.out.mono HB2.out.size); first | exact h9 | (rw [← HS0.out]; exact h9)⟩
     ·rw [if_pos (by simp [he])]
      have heq : (y.ent != x.ent) = true := by simp [he]
      go_enter Tryz.func48, Tryz.ntmps48
      go_wp2_with (first
       | (go_at_call 44; refine HF.out.mono ?_; rintro e w3 ⟨rfl, hb⟩; have HB3 := Lib.hid hb; clear hb; obtain ⟨s3, hs3⟩ : ∃ s3, w3.heap.size = s3 := ⟨_, rfl⟩; have HS3 := Lib.hid hs3)
       | (refine wpList_store_wh rfl 42 _ _ rfl s3 rfl 42 [.int .i64 0, .int .i64 0, .int .i64 0, .int .i64 0, .int .i64 0, .string ⟨#[]⟩, .slice none 0 0] (etyC y) rfl (by rw [← HS3.out]; exact Wh.new w3 42 [.int .i64 0, .int .i64 0, .int .i64 0, .int .i64 0, .int .i64 0, .string ⟨#[]⟩, .slice none 0 0]) rfl (by kernel_rfl) (by kernel_rfl) ?_; intro w5 hr5 ho5 hz5; have hb5 : Below w3.heap.size w3 w5 := only_new (by rw [HS3.out]; exact ho5.out); have HB5 := Lib.hid (HB3.out.trans (hb5.mono HB3.out.size)); have q0 := hr5.out.at 0 _ rfl; have q1 := hr5.out.at 1 _ rfl; have q2 := hr5.out.at 2 _ rfl; have q3 := hr5.out.at 3 _ rfl; have q6 := hr5.out.at 6 _ rfl; have hx5 := HXB.out.up HB5.out; have p1 := hx5.at 1 _ rfl; have p2 := hx5.at 2 _ rfl; have p6 := hx5.at 6 _ rfl; clear hx5 hr5 ho5 hz5 hb5 hs3 HB3; skip)
       | (go_at_call 24; refine (HRB.out _ (HJ2.out.up HB5.out)).mono ?_; rintro e w6 ⟨rfl, rfl⟩)
       | (go_at_call 71; refine (HOP.out _ (HX2.out.up HB5.out).hz (HY2.out.up HB5.out).hz).mono ?_; rintro e w7 ⟨rfl, hb⟩; have HB7 := Lib.hid (HB5.out.trans (hb.mono HB5.out.size)); clear hb))
      go_ret
      exact ⟨by first | rfl | simp, by have h9 := HB2.out.trans (HB5.out.mono HB2.out.size); first | exact h9 | (rw [← HS0.out]; exact h9)⟩
   ·rw [hv] at HRB
    rw [if_pos (by simp)]
    go_enter Tryz.func48, Tryz.ntmps48
    go_wp2_with (first
     | (go_at_call 44; refine HF.out.mono ?_; rintro e w3 ⟨rfl, hb⟩; have HB3 := Lib.hid hb; clear hb; obtain ⟨s3, hs3⟩ : ∃ s3, w3.heap.size = s3 := ⟨_, rfl⟩; have HS3 := Lib.hid hs3)
     | (refine wpList_store_wh rfl 42 _ _ rfl s3 rfl 42 [.int .i64 0, .int .i64 0, .int .i64 0, .int .i64 0, .int .i64 0, .string ⟨#[]⟩, .slice none 0 0] (etyC y) rfl (by rw [← HS3.out]; exact Wh.new w3 42 [.int .i64 0, .int .i64 0, .int .i64 0, .int .i64 0, .int .i64 0, .string ⟨#[]⟩, .slice none 0 0]) rfl (by kernel_rfl) (by kernel_rfl) ?_; intro w5 hr5 ho5 hz5; have hb5 : Below w3.heap.size w3 w5 := only_new (by rw [HS3.out]; exact ho5.out); have HB5 := Lib.hid (HB3.out.trans (hb5.mono HB3.out.size)); have q0 := hr5.out.at 0 _ rfl; have q1 := hr5.out.at 1 _ rfl; have q2 := hr5.out.at 2 _ rfl; have q3 := hr5.out.at 3 _ rfl; have q6 := hr5.out.at 6 _ rfl; have hx5 := HXB.out.up HB5.out; have p1 := hx5.at 1 _ rfl; have p2 := hx5.at 2 _ rfl; have p6 := hx5.at 6 _ rfl; clear hx5 hr5 ho5 hz5 hb5 hs3 HB3; skip)
     | (go_at_call 24; refine (HRB.out _ (HJ2.out.up HB5.out)).mono ?_; rintro e w6 ⟨rfl, rfl⟩)
     | (go_at_call 71; refine (HOP.out _ (HX2.out.up HB5.out).hz (HY2.out.up HB5.out).hz).mono ?_; rintro e w7 ⟨rfl, hb⟩; have HB7 := Lib.hid (HB5.out.trans (hb.mono HB5.out.size)); clear hb))
    go_ret
    exact ⟨by first | rfl | simp, by have h9 := HB2.out.trans (HB5.out.mono HB2.out.size); first | exact h9 | (rw [← HS0.out]; exact h9)⟩
 ·rw [show rvE j.Es (pe (x, X)) = 0 from rvE_no (Xs := j.Xs) (x := pe (x, X)) hk]
  have hkq : (x.kind != 3) = true := by simp [hk]
  go_enter Tryz.func48, Tryz.ntmps48
  go_wp2_with fail
  go_ret
  exact ⟨rfl, by have h9 := HB2.out; first | exact h9 | (rw [← HS0.out]; exact h9)⟩
end Go.Proofs.YtacmccijnkojeaaGreat
