/- Contracts of the functions that the statements reach, part 10: what was proved of each, callees first. -/
import Derived.Test.YtgihmikeapbpkaaGreatDoorRows
import Derived.Shelf.Vars
import Derived.Handed
import Derived.ProofKit
import Derived.LaidMore
import Derived.Lay
import Derived.OpenShut
import Derived.Stop.Joined
import Derived.ChangeSame
import Derived.Lib.LaidTab
import Derived.Test.YtgihmikeapbpkaaGreatDoorK9
namespace Go.Proofs.YtgihmikeapbpkaaGreatDoor
open Go.RowKit
open AS (Keep NoInt)
set_option maxHeartbeats 3200000
set_option maxRecDepth 20000
def PPar (x : Rat) (n : Nat) (er : Int) (v : Value) (w : World) : Prop := er = 0 → PRat x n v w
def RPar (x : Rat) (n : Nat) (er : Int) (v : Value) (w : World) : Prop := er = 0 → RRat x n v w
theorem PPar.kept {x : Rat} {n : Nat} {er : Int} {v : Value} {w w' : World} (h : PPar x n er v w) (k : Keep w w') : PPar x n er v w' := fun h0 => (h h0).kept k
theorem RPar.kept {x : Rat} {n : Nat} {er : Int} {v : Value} {w w' : World} (h : RPar x n er v w) (k : Keep w w') : RPar x n er v w' := fun h0 => (h h0).kept k
theorem pparse_two (s : ByteArray) (w : World) (hm : MaxOk w) (hs : s.size ≤ 1000) :
  Calls Tryz.prog 14 #[.string s] w fun e w' => ∃ k A l c m E p q er, e = .returned (.tuple #[.agg #[.bool k, .slice A l c, .bool m, .slice E p q], .int .i64 er]) ∧ PPar (ratV s.data.toList) 223 er (.agg #[.bool k, .slice A l c, .bool m, .slice E p q]) w' ∧ Below w.heap.size w w' := by
 refine (pparse_all s w hm hs).mono ?_
 rintro e w' ⟨⟨v, er, rfl, h1, h2⟩, hb⟩
 by_cases h : er = 0
 ·obtain ⟨k, A, l, c, m, E, p, q, rfl⟩ := (h1 h).open
  exact ⟨k, A, l, c, m, E, p, q, er, rfl, h1, hb⟩
 ·have h3 := h2 h
  subst h3
  exact ⟨_, _, _, _, _, _, _, _, er, rfl, fun h0 => absurd h0 h, hb⟩
theorem rparse_two (s : ByteArray) (w : World) (hs : s.size ≤ 1000) :
  Calls Tryz.prog 15 #[.string s] w fun e w' => ∃ k A l c m E p q er, e = .returned (.tuple #[.agg #[.bool k, .slice A l c, .bool m, .slice E p q], .int .i64 er]) ∧ RPar (ratV s.data.toList) 500 er (.agg #[.bool k, .slice A l c, .bool m, .slice E p q]) w' ∧ Below w.heap.size w w' := by
 refine (rparse_all s w hs).mono ?_
 rintro e w' ⟨⟨v, er, rfl, h1, h2⟩, hb⟩
 by_cases h : er = 0
 ·obtain ⟨k, A, l, c, m, E, p, q, rfl⟩ := (h1 h).open
  exact ⟨k, A, l, c, m, E, p, q, er, rfl, h1, hb⟩
 ·have h3 := h2 h
  subst h3
  exact ⟨_, _, _, _, _, _, _, _, er, rfl, fun h0 => absurd h0 h, hb⟩
def JSame (w W : World) (bs : List (TypeId × Nat × List Value)) (_ : Nat) (_ : List Value) (w' : World) : Prop := (Below w.heap.size w w' ∧ W.heap.size ≤ w'.heap.size ∧ Keep W w') ∧ ∀ b ∈ bs, Bx b.1 w' b.2.1 b.2.2
theorem JSame.st (w W : World) (bs : List (TypeId × Nat × List Value)) (k : Nat) (l : List Value) (w1 w2 : World) (hb : Below w1.heap.size w1 w2) (h : JSame w W bs k l w1) : JSame w W bs k l w2 :=
 ⟨⟨below_then h.1.1 hb h.1.1.size, Nat.le_trans h.1.2.1 hb.size, h.1.2.2.trans (Keep.ofBelow hb)⟩, fun b hm => (h.2 b hm).up hb⟩
theorem JSame.c4 {w W : World} {bs : List (TypeId × Nat × List Value)} {k : Nat} {l : List Value} {w1 : World} (hJ : JSame w W bs k l w1) (i : Nat) {T : TypeId} {g : Nat} {a b c d : Value} (hm : bs[i]? = some (T, g, [a, b, c, d])) :
  w1.cell? ⟨g, 0, none⟩ = some a ∧ w1.cell? ⟨g, 1, none⟩ = some b ∧ w1.cell? ⟨g, 2, none⟩ = some c ∧ w1.cell? ⟨g, 3, none⟩ = some d := (show Bx T w1 g [a, b, c, d] from hJ.2 _ (List.mem_of_getElem? hm)).c4
theorem four_only {T1 T2 T3 T4 : TypeId} {g : Nat} {v1 v2 v3 v4 : List Value} {b : TypeId × Nat × List Value} (i : Nat) (hi : [(T1, g, v1), (T2, g + 1, v2), (T3, g + 1 + 1, v3), (T4, g + 1 + 1 + 1, v4)][i]? = some b) :
  ∀ q ∈ [(T1, g, v1), (T2, g + 1, v2), (T3, g + 1 + 1, v3), (T4, g + 1 + 1 + 1, v4)], q.2.1 = b.2.1 → q = b := by
 intro q hq h
 have hb := List.mem_of_getElem? hi
 simp only [List.mem_cons, List.not_mem_nil, or_false] at hq hb
 rcases hq with rfl | rfl | rfl | rfl <;> rcases hb with rfl | rfl | rfl | rfl <;> first | rfl | (simp at h; done) | (simp at h; omega)
theorem JSame.set4 {w W : World} {bs : List (TypeId × Nat × List Value)} {k : Nat} {l : List Value} {w1 : World} (hJ : JSame w W bs k l w1) (i : Nat) {T : TypeId} {g : Nat} {a b c d : Value} (hm : bs[i]? = some (T, g, [a, b, c, d]))
  (hu : ∀ q ∈ bs, q.2.1 = g → q = (T, g, [a, b, c, d])) (hg : w.heap.size ≤ g) :
  Hid (JSame w W bs 0 [] ((((w1.setCell ⟨g, 0, none⟩ a).setCell ⟨g, 1, none⟩ b).setCell ⟨g, 2, none⟩ c).setCell ⟨g, 3, none⟩ d)) ∧
  Hid (Keep w1 ((((w1.setCell ⟨g, 0, none⟩ a).setCell ⟨g, 1, none⟩ b).setCell ⟨g, 2, none⟩ c).setCell ⟨g, 3, none⟩ d)) ∧
  w1.cell? ⟨g, 0, none⟩ = some a ∧ w1.cell? ⟨g, 1, none⟩ = some b ∧ w1.cell? ⟨g, 2, none⟩ = some c ∧ w1.cell? ⟨g, 3, none⟩ = some d ∧
  w1.frozen? ⟨g, 0, none⟩ = false ∧ w1.frozen? ⟨g, 1, none⟩ = false ∧ w1.frozen? ⟨g, 2, none⟩ = false ∧ w1.frozen? ⟨g, 3, none⟩ = false := by
 have o : Bx T w1 g [a, b, c, d] := hJ.2 _ (List.mem_of_getElem? hm)
 have la : Leaf a := o.leaf a (by simp)
 have lb : Leaf b := o.leaf b (by simp)
 have lc : Leaf c := o.leaf c (by simp)
 have ld : Leaf d := o.leaf d (by simp)
 refine ⟨Lib.hid ⟨⟨Below.set4 (g := g) hJ.1.1 hg a b c d, ?_, hJ.1.2.2.trans (Keep.set4 (Keep.refl w1) o la lb lc ld)⟩, fun q hq => ?_⟩, Lib.hid (Keep.set4 (Keep.refl w1) o la lb lc ld), o.cz4⟩
 ·simp only [setCell_size]; exact hJ.1.2.1
 ·by_cases he : q.2.1 = g
  ·obtain rfl := hu q hq he
   exact Bx.set4 o la lb lc ld
  ·exact Bx.far4 (g' := g) (hJ.2 q hq) (Ne.symm he) a b c d
def bothFLl  : List (Nat × AS.Fact) := [(21, AS.Fact.is (.agg #[.bool false, .slice none 0 0, .bool false, .slice none 0 0])), (22, AS.Fact.is (.agg #[.bool false, .slice none 0 0, .bool false, .slice none 0 0])), (23, AS.Fact.is (.agg #[.bool false, .slice none 0 0, .bool false, .slice none 0 0])), (24, AS.Fact.is (.agg #[.bool false, .slice none 0 0, .bool false, .slice none 0 0])), (8, AS.Fact.is (.bool false))]
def bothFL0 (k1 m1 k2 m2 k3 m3 k4 m4 : Bool) (A1 E1 A2 E2 A3 E3 A4 E4 : Option Addr) (l1 c1 p1 q1 l2 c2 p2 q2 l3 c3 p3 q3 l4 c4 p4 q4 : Nat) (er1 _er2 _er3 _er4 : Int) : List (Nat × AS.Fact) := [(45, AS.Fact.is (.agg #[.bool k1, .slice A1 l1 c1, .bool m1, .slice E1 p1 q1])), (46, AS.Fact.is (.agg #[.bool k2, .slice A2 l2 c2, .bool m2, .slice E2 p2 q2])), (47, AS.Fact.is (.agg #[.bool k3, .slice A3 l3 c3, .bool m3, .slice E3 p3 q3])), (48, AS.Fact.is (.agg #[.bool k4, .slice A4 l4 c4, .bool m4, .slice E4 p4 q4])), (49, AS.Fact.is (.int .i64 er1)), (50, AS.Fact.is (.bool false)), (51, AS.Fact.is (.bool false)), (52, AS.Fact.is undef), (53, AS.Fact.is undef), (54, AS.Fact.is (.bool false)), (55, AS.Fact.is (.bool false)), (56, AS.Fact.is undef), (57, AS.Fact.is undef), (58, AS.Fact.is (.bool false)), (59, AS.Fact.is (.bool false)), (60, AS.Fact.is undef), (61, AS.Fact.is undef), (62, AS.Fact.is (.bool false)), (8, AS.Fact.is (.bool false))]
def bothFL1 (k1 m1 k2 m2 k3 m3 k4 m4 : Bool) (A1 E1 A2 E2 A3 E3 A4 E4 : Option Addr) (l1 c1 p1 q1 l2 c2 p2 q2 l3 c3 p3 q3 l4 c4 p4 q4 : Nat) (_er1 er2 _er3 _er4 : Int) : List (Nat × AS.Fact) := [(45, AS.Fact.is (.agg #[.bool k1, .slice A1 l1 c1, .bool m1, .slice E1 p1 q1])), (46, AS.Fact.is (.agg #[.bool k2, .slice A2 l2 c2, .bool m2, .slice E2 p2 q2])), (47, AS.Fact.is (.agg #[.bool k3, .slice A3 l3 c3, .bool m3, .slice E3 p3 q3])), (48, AS.Fact.is (.agg #[.bool k4, .slice A4 l4 c4, .bool m4, .slice E4 p4 q4])), (49, AS.Fact.is (.int .i64 0)), (50, AS.Fact.is (.bool true)), (51, AS.Fact.is (.bool true)), (52, AS.Fact.is (.int .i64 er2)), (53, AS.Fact.is (.bool false)), (54, AS.Fact.is (.bool false)), (55, AS.Fact.is (.bool false)), (56, AS.Fact.is undef), (57, AS.Fact.is undef), (58, AS.Fact.is (.bool false)), (59, AS.Fact.is (.bool false)), (60, AS.Fact.is undef), (61, AS.Fact.is undef), (62, AS.Fact.is (.bool false)), (8, AS.Fact.is (.bool false))]
def bothFL2 (k1 m1 k2 m2 k3 m3 k4 m4 : Bool) (A1 E1 A2 E2 A3 E3 A4 E4 : Option Addr) (l1 c1 p1 q1 l2 c2 p2 q2 l3 c3 p3 q3 l4 c4 p4 q4 : Nat) (_er1 _er2 er3 _er4 : Int) : List (Nat × AS.Fact) := [(45, AS.Fact.is (.agg #[.bool k1, .slice A1 l1 c1, .bool m1, .slice E1 p1 q1])), (46, AS.Fact.is (.agg #[.bool k2, .slice A2 l2 c2, .bool m2, .slice E2 p2 q2])), (47, AS.Fact.is (.agg #[.bool k3, .slice A3 l3 c3, .bool m3, .slice E3 p3 q3])), (48, AS.Fact.is (.agg #[.bool k4, .slice A4 l4 c4, .bool m4, .slice E4 p4 q4])), (49, AS.Fact.is (.int .i64 0)), (50, AS.Fact.is (.bool true)), (51, AS.Fact.is (.bool true)), (52, AS.Fact.is (.int .i64 0)), (53, AS.Fact.is (.bool true)), (54, AS.Fact.is (.bool true)), (55, AS.Fact.is (.bool true)), (56, AS.Fact.is (.int .i64 er3)), (57, AS.Fact.is (.bool false)), (58, AS.Fact.is (.bool false)), (59, AS.Fact.is (.bool false)), (60, AS.Fact.is undef), (61, AS.Fact.is undef), (62, AS.Fact.is (.bool false)), (8, AS.Fact.is (.bool false))]
def bothFL3 (k1 m1 k2 m2 k3 m3 k4 m4 : Bool) (A1 E1 A2 E2 A3 E3 A4 E4 : Option Addr) (l1 c1 p1 q1 l2 c2 p2 q2 l3 c3 p3 q3 l4 c4 p4 q4 : Nat) (_er1 _er2 _er3 er4 : Int) : List (Nat × AS.Fact) := [(45, AS.Fact.is (.agg #[.bool k1, .slice A1 l1 c1, .bool m1, .slice E1 p1 q1])), (46, AS.Fact.is (.agg #[.bool k2, .slice A2 l2 c2, .bool m2, .slice E2 p2 q2])), (47, AS.Fact.is (.agg #[.bool k3, .slice A3 l3 c3, .bool m3, .slice E3 p3 q3])), (48, AS.Fact.is (.agg #[.bool k4, .slice A4 l4 c4, .bool m4, .slice E4 p4 q4])), (49, AS.Fact.is (.int .i64 0)), (50, AS.Fact.is (.bool true)), (51, AS.Fact.is (.bool true)), (52, AS.Fact.is (.int .i64 0)), (53, AS.Fact.is (.bool true)), (54, AS.Fact.is (.bool true)), (55, AS.Fact.is (.bool true)), (56, AS.Fact.is (.int .i64 0)), (57, AS.Fact.is (.bool true)), (58, AS.Fact.is (.bool true)), (59, AS.Fact.is (.bool true)), (60, AS.Fact.is (.int .i64 er4)), (61, AS.Fact.is (.bool false)), (62, AS.Fact.is (.bool false)), (8, AS.Fact.is (.bool false))]
def bothFL4 (k1 m1 k2 m2 k3 m3 k4 m4 : Bool) (A1 E1 A2 E2 A3 E3 A4 E4 : Option Addr) (l1 c1 p1 q1 l2 c2 p2 q2 l3 c3 p3 q3 l4 c4 p4 q4 : Nat) (_er1 _er2 _er3 _er4 : Int) : List (Nat × AS.Fact) := [(45, AS.Fact.is (.agg #[.bool k1, .slice A1 l1 c1, .bool m1, .slice E1 p1 q1])), (46, AS.Fact.is (.agg #[.bool k2, .slice A2 l2 c2, .bool m2, .slice E2 p2 q2])), (47, AS.Fact.is (.agg #[.bool k3, .slice A3 l3 c3, .bool m3, .slice E3 p3 q3])), (48, AS.Fact.is (.agg #[.bool k4, .slice A4 l4 c4, .bool m4, .slice E4 p4 q4])), (49, AS.Fact.is (.int .i64 0)), (50, AS.Fact.is (.bool true)), (51, AS.Fact.is (.bool true)), (52, AS.Fact.is (.int .i64 0)), (53, AS.Fact.is (.bool true)), (54, AS.Fact.is (.bool true)), (55, AS.Fact.is (.bool true)), (56, AS.Fact.is (.int .i64 0)), (57, AS.Fact.is (.bool true)), (58, AS.Fact.is (.bool true)), (59, AS.Fact.is (.bool true)), (60, AS.Fact.is (.int .i64 0)), (61, AS.Fact.is (.bool true)), (62, AS.Fact.is (.bool true)), (8, AS.Fact.is (.bool true))]
theorem both_l1 {s t : ByteArray} {w : World} (hm : MaxOk w) (hs : True) (h1 : decide ((400 : Int) < ((s.size : Nat) : Int)) = true) :
  Calls Tryz.prog 19 #[.string s, .string t] w fun e w' => ∃ k1 A1 l1 c1 m1 E1 p1 q1 k2 A2 l2 c2 m2 E2 p2 q2 k3 A3 l3 c3 m3 E3 p3 q3 k4 A4 l4 c4 m4 E4 p4 q4 ok, e = .returned (.tuple #[(.agg #[.bool k1, .slice A1 l1 c1, .bool m1, .slice E1 p1 q1]), (.agg #[.bool k2, .slice A2 l2 c2, .bool m2, .slice E2 p2 q2]), (.agg #[.bool k3, .slice A3 l3 c3, .bool m3, .slice E3 p3 q3]), (.agg #[.bool k4, .slice A4 l4 c4, .bool m4, .slice E4 p4 q4]), .bool ok]) ∧ (ok = true → PRat (ratV s.data.toList) 223 (.agg #[.bool k1, .slice A1 l1 c1, .bool m1, .slice E1 p1 q1]) w' ∧ PRat (ratV t.data.toList) 223 (.agg #[.bool k2, .slice A2 l2 c2, .bool m2, .slice E2 p2 q2]) w' ∧ RRat (ratV s.data.toList) 500 (.agg #[.bool k3, .slice A3 l3 c3, .bool m3, .slice E3 p3 q3]) w' ∧ RRat (ratV t.data.toList) 500 (.agg #[.bool k4, .slice A4 l4 c4, .bool m4, .slice E4 p4 q4]) w') ∧ Below w.heap.size w w' := by
 have HM := Lib.hid hm
 have HS := Lib.hid hs
 clear hm hs
 go_enter Tryz.func19, Tryz.ntmps19
 go_upto_region 1 with (fail)
 change Code.wp Tryz.prog _ _ _ ((((w.alloc (.cells #[.bool false, .slice none 0 0, .bool false, .slice none 0 0] 27)).alloc (.cells #[.bool false, .slice none 0 0, .bool false, .slice none 0 0] 27)).alloc (.cells #[.bool false, .slice none 0 0, .bool false, .slice none 0 0] 35)).alloc (.cells #[.bool false, .slice none 0 0, .bool false, .slice none 0 0] 35))
 obtain ⟨nb4, nb5, nb6, nb7, na⟩ := new4 w 27 [.bool false, .slice none 0 0, .bool false, .slice none 0 0] 27 [.bool false, .slice none 0 0, .bool false, .slice none 0 0] 35 [.bool false, .slice none 0 0, .bool false, .slice none 0 0] 35 [.bool false, .slice none 0 0, .bool false, .slice none 0 0] lf4 lf4 lf4 lf4
 have nkeep := Keep.ofBelow na
 have nbel := na
 generalize (((w.alloc (.cells #[.bool false, .slice none 0 0, .bool false, .slice none 0 0] 27)).alloc (.cells #[.bool false, .slice none 0 0, .bool false, .slice none 0 0] 27)).alloc (.cells #[.bool false, .slice none 0 0, .bool false, .slice none 0 0] 35)).alloc (.cells #[.bool false, .slice none 0 0, .bool false, .slice none 0 0] 35) = W1 at *
 clear na
 have b4 := Lib.hid nb4
 have b5 := Lib.hid nb5
 have b6 := Lib.hid nb6
 have b7 := Lib.hid nb7
 clear nb4 nb5 nb6 nb7 nkeep
 have HB2 := Lib.hid nbel
 clear nbel
 obtain ⟨x4_0, x4_1, x4_2, x4_3, z4_0, z4_1, z4_2, z4_3, s4⟩ := b4.out.e4
 obtain ⟨x5_0, x5_1, x5_2, x5_3, z5_0, z5_1, z5_2, z5_3, s5⟩ := b5.out.e4
 obtain ⟨x6_0, x6_1, x6_2, x6_3, z6_0, z6_1, z6_2, z6_3, s6⟩ := b6.out.e4
 obtain ⟨x7_0, x7_1, x7_2, x7_3, z7_0, z7_1, z7_2, z7_3, s7⟩ := b7.out.e4
 have szb := HB2.out.size
 go_upto_region 2 with (fail)
 have hj0 : JSame w W1 [(27, w.heap.size, [.bool false, .slice none 0 0, .bool false, .slice none 0 0]), (27, w.heap.size + 1, [.bool false, .slice none 0 0, .bool false, .slice none 0 0]), (35, w.heap.size + 1 + 1, [.bool false, .slice none 0 0, .bool false, .slice none 0 0]), (35, w.heap.size + 1 + 1 + 1, [.bool false, .slice none 0 0, .bool false, .slice none 0 0])] 0 [] W1.drew := ⟨⟨below_drew HB2.out, Nat.le_refl _, Keep.drew (Keep.refl _)⟩, by
  intro b_ hb_
  simp only [List.mem_cons, List.not_mem_nil, or_false] at hb_
  rcases hb_ with rfl | rfl | rfl | rfl
  ·exact (b4.out).drew
  ·exact (b5.out).drew
  ·exact (b6.out).drew
  ·exact (b7.out).drew⟩
 refine AS.region_facts (bothFLl ) (JSame w W1 [(27, w.heap.size, [.bool false, .slice none 0 0, .bool false, .slice none 0 0]), (27, w.heap.size + 1, [.bool false, .slice none 0 0, .bool false, .slice none 0 0]), (35, w.heap.size + 1 + 1, [.bool false, .slice none 0 0, .bool false, .slice none 0 0]), (35, w.heap.size + 1 + 1 + 1, [.bool false, .slice none 0 0, .bool false, .slice none 0 0])]) [[], [], [], [], [21], [22], [23], [24], []] [4, 5, 6, 7] [[], [], [], [], []] [4, 4, 4, 4, 4, 4, 4, 4, 4] [] (fun u => by simp only [bothFLl, AS.temps, List.map_cons, List.map_nil, fillL, List.setIfInBounds_toArray, List.set_cons_zero, List.set_cons_succ]; rfl) (by kernel_rfl) (by kernel_rfl) (JSame.st _ _ _) hj0 ?_ ?_
 ·refine AS.sc rfl rfl rfl ?_ ?_
  ·intro k_ u w_ hk hJ hF K hK
   clear hF
   obtain ⟨y0, y1, y2, y3⟩ := hJ.c4 0 rfl
   clear hJ
   go_simp
   exact hK.out _ _ (Below.refl _ _) rfl trivial
  refine AS.sc rfl rfl rfl ?_ ?_
  ·intro k_ u w_ hk hJ hF K hK
   clear hF
   obtain ⟨y0, y1, y2, y3⟩ := hJ.c4 1 rfl
   clear hJ
   go_simp
   exact hK.out _ _ (Below.refl _ _) rfl trivial
  refine AS.sc rfl rfl rfl ?_ ?_
  ·intro k_ u w_ hk hJ hF K hK
   clear hF
   obtain ⟨y0, y1, y2, y3⟩ := hJ.c4 2 rfl
   clear hJ
   go_simp
   exact hK.out _ _ (Below.refl _ _) rfl trivial
  refine AS.sc rfl rfl rfl ?_ ?_
  ·intro k_ u w_ hk hJ hF K hK
   clear hF
   obtain ⟨y0, y1, y2, y3⟩ := hJ.c4 3 rfl
   clear hJ
   go_simp
   exact hK.out _ _ (Below.refl _ _) rfl trivial
  refine AS.ss rfl rfl ?_ ?_
  ·intro u w_ hJ hAp hF K hK
   have h21 : u 21 = .agg #[.bool false, .slice none 0 0, .bool false, .slice none 0 0] := AS.facts_get hF 21 (by simp)
   clear hF
   obtain ⟨HR, HK2, y0, y1, y2, y3, z0, z1, z2, z3⟩ := hJ.set4 0 rfl (four_only 0 rfl) (by omega)
   clear hJ
   simp only [h21] at hK ⊢
   go_simp
   exact hK.out undef _ HR.out HK2.out
  refine AS.ss rfl rfl ?_ ?_
  ·intro u w_ hJ hAp hF K hK
   have h22 : u 22 = .agg #[.bool false, .slice none 0 0, .bool false, .slice none 0 0] := AS.facts_get hF 22 (by simp)
   clear hF
   obtain ⟨HR, HK2, y0, y1, y2, y3, z0, z1, z2, z3⟩ := hJ.set4 1 rfl (four_only 1 rfl) (by omega)
   clear hJ
   simp only [h22] at hK ⊢
   go_simp
   exact hK.out undef _ HR.out HK2.out
  refine AS.ss rfl rfl ?_ ?_
  ·intro u w_ hJ hAp hF K hK
   have h23 : u 23 = .agg #[.bool false, .slice none 0 0, .bool false, .slice none 0 0] := AS.facts_get hF 23 (by simp)
   clear hF
   obtain ⟨HR, HK2, y0, y1, y2, y3, z0, z1, z2, z3⟩ := hJ.set4 2 rfl (four_only 2 rfl) (by omega)
   clear hJ
   simp only [h23] at hK ⊢
   go_simp
   exact hK.out undef _ HR.out HK2.out
  refine AS.ss rfl rfl ?_ ?_
  ·intro u w_ hJ hAp hF K hK
   have h24 : u 24 = .agg #[.bool false, .slice none 0 0, .bool false, .slice none 0 0] := AS.facts_get hF 24 (by simp)
   clear hF
   obtain ⟨HR, HK2, y0, y1, y2, y3, z0, z1, z2, z3⟩ := hJ.set4 3 rfl (four_only 3 rfl) (by omega)
   clear hJ
   simp only [h24] at hK ⊢
   go_simp
   exact hK.out undef _ HR.out HK2.out
  refine AS.sc rfl rfl rfl ?_ ?_
  ·intro k_ u w_ hk hJ hF K hK
   clear hF
   go_simp
   exact hK.out _ _ (Below.refl _ _) (rfl) trivial
  exact AS.StepsOk.nil
 ·intro u W3 hJ9 hF
  have h8 : u 8 = .bool false := AS.facts_get hF 8 (by simp [bothFLl, AS.temps])
  clear hF
  rw [show u 8 = _ from h8]
  clear h8 hj0
  obtain ⟨⟨hbel, hsz, hkp⟩, hbx⟩ := hJ9
  clear x4_0 x4_1 x4_2 x4_3 z4_0 z4_1 z4_2 z4_3 x5_0 x5_1 x5_2 x5_3 z5_0 z5_1 z5_2 z5_3 x6_0 x6_1 x6_2 x6_3 z6_0 z6_1 z6_2 z6_3 x7_0 x7_1 x7_2 x7_3 z7_0 z7_1 z7_2 z7_3 szb s4 s5 s6 s7
  have nb : Bx 27 W3 (w.heap.size) [.bool false, .slice none 0 0, .bool false, .slice none 0 0] := hbx (27, w.heap.size, [.bool false, .slice none 0 0, .bool false, .slice none 0 0]) (by simp)
  clear b4
  have b4 := Lib.hid nb
  clear nb
  have nb : Bx 27 W3 (w.heap.size + 1) [.bool false, .slice none 0 0, .bool false, .slice none 0 0] := hbx (27, w.heap.size + 1, [.bool false, .slice none 0 0, .bool false, .slice none 0 0]) (by simp)
  clear b5
  have b5 := Lib.hid nb
  clear nb
  have nb : Bx 35 W3 (w.heap.size + 1 + 1) [.bool false, .slice none 0 0, .bool false, .slice none 0 0] := hbx (35, w.heap.size + 1 + 1, [.bool false, .slice none 0 0, .bool false, .slice none 0 0]) (by simp)
  clear b6
  have b6 := Lib.hid nb
  clear nb
  have nb : Bx 35 W3 (w.heap.size + 1 + 1 + 1) [.bool false, .slice none 0 0, .bool false, .slice none 0 0] := hbx (35, w.heap.size + 1 + 1 + 1, [.bool false, .slice none 0 0, .bool false, .slice none 0 0]) (by simp)
  clear b7
  have b7 := Lib.hid nb
  clear nb
  have HB4 := Lib.hid hbel
  clear hbel HB2 hkp hbx hsz
  obtain ⟨x4_0, x4_1, x4_2, x4_3, z4_0, z4_1, z4_2, z4_3, s4⟩ := b4.out.e4
  obtain ⟨x5_0, x5_1, x5_2, x5_3, z5_0, z5_1, z5_2, z5_3, s5⟩ := b5.out.e4
  obtain ⟨x6_0, x6_1, x6_2, x6_3, z6_0, z6_1, z6_2, z6_3, s6⟩ := b6.out.e4
  obtain ⟨x7_0, x7_1, x7_2, x7_3, z7_0, z7_1, z7_2, z7_3, s7⟩ := b7.out.e4
  have szb := HB4.out.size
  go_wp2_with fail
  have hkeep := (Keep.refl W3)
  have hbel := HB4.out
  refine bodyPost_ret (v := .tuple #[.agg #[.bool false, .slice none 0 0, .bool false, .slice none 0 0], .agg #[.bool false, .slice none 0 0, .bool false, .slice none 0 0], .agg #[.bool false, .slice none 0 0, .bool false, .slice none 0 0], .agg #[.bool false, .slice none 0 0, .bool false, .slice none 0 0], .bool false]) (by simp [results, Tryz.results19, go_sem, x4_0, x4_1, x4_2, x4_3, x5_0, x5_1, x5_2, x5_3, x6_0, x6_1, x6_2, x6_3, x7_0, x7_1, x7_2, x7_3]) rfl ⟨_, _, _, _, _, _, _, _, _, _, _, _, _, _, _, _, _, _, _, _, _, _, _, _, _, _, _, _, _, _, _, _, _, rfl, fun h => absurd h (by decide), hbel⟩
theorem both_l2 {s t : ByteArray} {w : World} (hm : MaxOk w) (hs : True) (h1 : decide ((400 : Int) < ((s.size : Nat) : Int)) = false) (h2 : decide ((400 : Int) < ((t.size : Nat) : Int)) = true) :
  Calls Tryz.prog 19 #[.string s, .string t] w fun e w' => ∃ k1 A1 l1 c1 m1 E1 p1 q1 k2 A2 l2 c2 m2 E2 p2 q2 k3 A3 l3 c3 m3 E3 p3 q3 k4 A4 l4 c4 m4 E4 p4 q4 ok, e = .returned (.tuple #[(.agg #[.bool k1, .slice A1 l1 c1, .bool m1, .slice E1 p1 q1]), (.agg #[.bool k2, .slice A2 l2 c2, .bool m2, .slice E2 p2 q2]), (.agg #[.bool k3, .slice A3 l3 c3, .bool m3, .slice E3 p3 q3]), (.agg #[.bool k4, .slice A4 l4 c4, .bool m4, .slice E4 p4 q4]), .bool ok]) ∧ (ok = true → PRat (ratV s.data.toList) 223 (.agg #[.bool k1, .slice A1 l1 c1, .bool m1, .slice E1 p1 q1]) w' ∧ PRat (ratV t.data.toList) 223 (.agg #[.bool k2, .slice A2 l2 c2, .bool m2, .slice E2 p2 q2]) w' ∧ RRat (ratV s.data.toList) 500 (.agg #[.bool k3, .slice A3 l3 c3, .bool m3, .slice E3 p3 q3]) w' ∧ RRat (ratV t.data.toList) 500 (.agg #[.bool k4, .slice A4 l4 c4, .bool m4, .slice E4 p4 q4]) w') ∧ Below w.heap.size w w' := by
 have HM := Lib.hid hm
 have HS := Lib.hid hs
 clear hm hs
 go_enter Tryz.func19, Tryz.ntmps19
 go_upto_region 1 with (fail)
 change Code.wp Tryz.prog _ _ _ ((((w.alloc (.cells #[.bool false, .slice none 0 0, .bool false, .slice none 0 0] 27)).alloc (.cells #[.bool false, .slice none 0 0, .bool false, .slice none 0 0] 27)).alloc (.cells #[.bool false, .slice none 0 0, .bool false, .slice none 0 0] 35)).alloc (.cells #[.bool false, .slice none 0 0, .bool false, .slice none 0 0] 35))
 obtain ⟨nb4, nb5, nb6, nb7, na⟩ := new4 w 27 [.bool false, .slice none 0 0, .bool false, .slice none 0 0] 27 [.bool false, .slice none 0 0, .bool false, .slice none 0 0] 35 [.bool false, .slice none 0 0, .bool false, .slice none 0 0] 35 [.bool false, .slice none 0 0, .bool false, .slice none 0 0] lf4 lf4 lf4 lf4
 have nkeep := Keep.ofBelow na
 have nbel := na
 generalize (((w.alloc (.cells #[.bool false, .slice none 0 0, .bool false, .slice none 0 0] 27)).alloc (.cells #[.bool false, .slice none 0 0, .bool false, .slice none 0 0] 27)).alloc (.cells #[.bool false, .slice none 0 0, .bool false, .slice none 0 0] 35)).alloc (.cells #[.bool false, .slice none 0 0, .bool false, .slice none 0 0] 35) = W1 at *
 clear na
 have b4 := Lib.hid nb4
 have b5 := Lib.hid nb5
 have b6 := Lib.hid nb6
 have b7 := Lib.hid nb7
 clear nb4 nb5 nb6 nb7 nkeep
 have HB2 := Lib.hid nbel
 clear nbel
 obtain ⟨x4_0, x4_1, x4_2, x4_3, z4_0, z4_1, z4_2, z4_3, s4⟩ := b4.out.e4
 obtain ⟨x5_0, x5_1, x5_2, x5_3, z5_0, z5_1, z5_2, z5_3, s5⟩ := b5.out.e4
 obtain ⟨x6_0, x6_1, x6_2, x6_3, z6_0, z6_1, z6_2, z6_3, s6⟩ := b6.out.e4
 obtain ⟨x7_0, x7_1, x7_2, x7_3, z7_0, z7_1, z7_2, z7_3, s7⟩ := b7.out.e4
 have szb := HB2.out.size
 go_upto_region 2 with (fail)
 have hj0 : JSame w W1 [(27, w.heap.size, [.bool false, .slice none 0 0, .bool false, .slice none 0 0]), (27, w.heap.size + 1, [.bool false, .slice none 0 0, .bool false, .slice none 0 0]), (35, w.heap.size + 1 + 1, [.bool false, .slice none 0 0, .bool false, .slice none 0 0]), (35, w.heap.size + 1 + 1 + 1, [.bool false, .slice none 0 0, .bool false, .slice none 0 0])] 0 [] W1.drew := ⟨⟨below_drew HB2.out, Nat.le_refl _, Keep.drew (Keep.refl _)⟩, by
  intro b_ hb_
  simp only [List.mem_cons, List.not_mem_nil, or_false] at hb_
  rcases hb_ with rfl | rfl | rfl | rfl
  ·exact (b4.out).drew
  ·exact (b5.out).drew
  ·exact (b6.out).drew
  ·exact (b7.out).drew⟩
 refine AS.region_facts (bothFLl ) (JSame w W1 [(27, w.heap.size, [.bool false, .slice none 0 0, .bool false, .slice none 0 0]), (27, w.heap.size + 1, [.bool false, .slice none 0 0, .bool false, .slice none 0 0]), (35, w.heap.size + 1 + 1, [.bool false, .slice none 0 0, .bool false, .slice none 0 0]), (35, w.heap.size + 1 + 1 + 1, [.bool false, .slice none 0 0, .bool false, .slice none 0 0])]) [[], [], [], [], [21], [22], [23], [24], []] [4, 5, 6, 7] [[], [], [], [], []] [4, 4, 4, 4, 4, 4, 4, 4, 4] [] (fun u => by simp only [bothFLl, AS.temps, List.map_cons, List.map_nil, fillL, List.setIfInBounds_toArray, List.set_cons_zero, List.set_cons_succ]; rfl) (by kernel_rfl) (by kernel_rfl) (JSame.st _ _ _) hj0 ?_ ?_
 ·refine AS.sc rfl rfl rfl ?_ ?_
  ·intro k_ u w_ hk hJ hF K hK
   clear hF
   obtain ⟨y0, y1, y2, y3⟩ := hJ.c4 0 rfl
   clear hJ
   go_simp
   exact hK.out _ _ (Below.refl _ _) rfl trivial
  refine AS.sc rfl rfl rfl ?_ ?_
  ·intro k_ u w_ hk hJ hF K hK
   clear hF
   obtain ⟨y0, y1, y2, y3⟩ := hJ.c4 1 rfl
   clear hJ
   go_simp
   exact hK.out _ _ (Below.refl _ _) rfl trivial
  refine AS.sc rfl rfl rfl ?_ ?_
  ·intro k_ u w_ hk hJ hF K hK
   clear hF
   obtain ⟨y0, y1, y2, y3⟩ := hJ.c4 2 rfl
   clear hJ
   go_simp
   exact hK.out _ _ (Below.refl _ _) rfl trivial
  refine AS.sc rfl rfl rfl ?_ ?_
  ·intro k_ u w_ hk hJ hF K hK
   clear hF
   obtain ⟨y0, y1, y2, y3⟩ := hJ.c4 3 rfl
   clear hJ
   go_simp
   exact hK.out _ _ (Below.refl _ _) rfl trivial
  refine AS.ss rfl rfl ?_ ?_
  ·intro u w_ hJ hAp hF K hK
   have h21 : u 21 = .agg #[.bool false, .slice none 0 0, .bool false, .slice none 0 0] := AS.facts_get hF 21 (by simp)
   clear hF
   obtain ⟨HR, HK2, y0, y1, y2, y3, z0, z1, z2, z3⟩ := hJ.set4 0 rfl (four_only 0 rfl) (by omega)
   clear hJ
   simp only [h21] at hK ⊢
   go_simp
   exact hK.out undef _ HR.out HK2.out
  refine AS.ss rfl rfl ?_ ?_
  ·intro u w_ hJ hAp hF K hK
   have h22 : u 22 = .agg #[.bool false, .slice none 0 0, .bool false, .slice none 0 0] := AS.facts_get hF 22 (by simp)
   clear hF
   obtain ⟨HR, HK2, y0, y1, y2, y3, z0, z1, z2, z3⟩ := hJ.set4 1 rfl (four_only 1 rfl) (by omega)
   clear hJ
   simp only [h22] at hK ⊢
   go_simp
   exact hK.out undef _ HR.out HK2.out
  refine AS.ss rfl rfl ?_ ?_
  ·intro u w_ hJ hAp hF K hK
   have h23 : u 23 = .agg #[.bool false, .slice none 0 0, .bool false, .slice none 0 0] := AS.facts_get hF 23 (by simp)
   clear hF
   obtain ⟨HR, HK2, y0, y1, y2, y3, z0, z1, z2, z3⟩ := hJ.set4 2 rfl (four_only 2 rfl) (by omega)
   clear hJ
   simp only [h23] at hK ⊢
   go_simp
   exact hK.out undef _ HR.out HK2.out
  refine AS.ss rfl rfl ?_ ?_
  ·intro u w_ hJ hAp hF K hK
   have h24 : u 24 = .agg #[.bool false, .slice none 0 0, .bool false, .slice none 0 0] := AS.facts_get hF 24 (by simp)
   clear hF
   obtain ⟨HR, HK2, y0, y1, y2, y3, z0, z1, z2, z3⟩ := hJ.set4 3 rfl (four_only 3 rfl) (by omega)
   clear hJ
   simp only [h24] at hK ⊢
   go_simp
   exact hK.out undef _ HR.out HK2.out
  refine AS.sc rfl rfl rfl ?_ ?_
  ·intro k_ u w_ hk hJ hF K hK
   clear hF
   go_simp
   exact hK.out _ _ (Below.refl _ _) (rfl) trivial
  exact AS.StepsOk.nil
 ·intro u W3 hJ9 hF
  have h8 : u 8 = .bool false := AS.facts_get hF 8 (by simp [bothFLl, AS.temps])
  clear hF
  rw [show u 8 = _ from h8]
  clear h8 hj0
  obtain ⟨⟨hbel, hsz, hkp⟩, hbx⟩ := hJ9
  clear x4_0 x4_1 x4_2 x4_3 z4_0 z4_1 z4_2 z4_3 x5_0 x5_1 x5_2 x5_3 z5_0 z5_1 z5_2 z5_3 x6_0 x6_1 x6_2 x6_3 z6_0 z6_1 z6_2 z6_3 x7_0 x7_1 x7_2 x7_3 z7_0 z7_1 z7_2 z7_3 szb s4 s5 s6 s7
  have nb : Bx 27 W3 (w.heap.size) [.bool false, .slice none 0 0, .bool false, .slice none 0 0] := hbx (27, w.heap.size, [.bool false, .slice none 0 0, .bool false, .slice none 0 0]) (by simp)
  clear b4
  have b4 := Lib.hid nb
  clear nb
  have nb : Bx 27 W3 (w.heap.size + 1) [.bool false, .slice none 0 0, .bool false, .slice none 0 0] := hbx (27, w.heap.size + 1, [.bool false, .slice none 0 0, .bool false, .slice none 0 0]) (by simp)
  clear b5
  have b5 := Lib.hid nb
  clear nb
  have nb : Bx 35 W3 (w.heap.size + 1 + 1) [.bool false, .slice none 0 0, .bool false, .slice none 0 0] := hbx (35, w.heap.size + 1 + 1, [.bool false, .slice none 0 0, .bool false, .slice none 0 0]) (by simp)
  clear b6
  have b6 := Lib.hid nb
  clear nb
  have nb : Bx 35 W3 (w.heap.size + 1 + 1 + 1) [.bool false, .slice none 0 0, .bool false, .slice none 0 0] := hbx (35, w.heap.size + 1 + 1 + 1, [.bool false, .slice none 0 0, .bool false, .slice none 0 0]) (by simp)
  clear b7
  have b7 := Lib.hid nb
  clear nb
  have HB4 := Lib.hid hbel
  clear hbel HB2 hkp hbx hsz
  obtain ⟨x4_0, x4_1, x4_2, x4_3, z4_0, z4_1, z4_2, z4_3, s4⟩ := b4.out.e4
  obtain ⟨x5_0, x5_1, x5_2, x5_3, z5_0, z5_1, z5_2, z5_3, s5⟩ := b5.out.e4
  obtain ⟨x6_0, x6_1, x6_2, x6_3, z6_0, z6_1, z6_2, z6_3, s6⟩ := b6.out.e4
  obtain ⟨x7_0, x7_1, x7_2, x7_3, z7_0, z7_1, z7_2, z7_3, s7⟩ := b7.out.e4
  have szb := HB4.out.size
  go_wp2_with fail
  have hkeep := (Keep.refl W3)
  have hbel := HB4.out
  refine bodyPost_ret (v := .tuple #[.agg #[.bool false, .slice none 0 0, .bool false, .slice none 0 0], .agg #[.bool false, .slice none 0 0, .bool false, .slice none 0 0], .agg #[.bool false, .slice none 0 0, .bool false, .slice none 0 0], .agg #[.bool false, .slice none 0 0, .bool false, .slice none 0 0], .bool false]) (by simp [results, Tryz.results19, go_sem, x4_0, x4_1, x4_2, x4_3, x5_0, x5_1, x5_2, x5_3, x6_0, x6_1, x6_2, x6_3, x7_0, x7_1, x7_2, x7_3]) rfl ⟨_, _, _, _, _, _, _, _, _, _, _, _, _, _, _, _, _, _, _, _, _, _, _, _, _, _, _, _, _, _, _, _, _, rfl, fun h => absurd h (by decide), hbel⟩
theorem both_short {s t : ByteArray} {w : World} (hm : MaxOk w) (hs : s.size ≤ 400 ∧ t.size ≤ 400) :
  Calls Tryz.prog 19 #[.string s, .string t] w fun e w' => ∃ k1 A1 l1 c1 m1 E1 p1 q1 k2 A2 l2 c2 m2 E2 p2 q2 k3 A3 l3 c3 m3 E3 p3 q3 k4 A4 l4 c4 m4 E4 p4 q4 ok, e = .returned (.tuple #[(.agg #[.bool k1, .slice A1 l1 c1, .bool m1, .slice E1 p1 q1]), (.agg #[.bool k2, .slice A2 l2 c2, .bool m2, .slice E2 p2 q2]), (.agg #[.bool k3, .slice A3 l3 c3, .bool m3, .slice E3 p3 q3]), (.agg #[.bool k4, .slice A4 l4 c4, .bool m4, .slice E4 p4 q4]), .bool ok]) ∧ (ok = true → PRat (ratV s.data.toList) 223 (.agg #[.bool k1, .slice A1 l1 c1, .bool m1, .slice E1 p1 q1]) w' ∧ PRat (ratV t.data.toList) 223 (.agg #[.bool k2, .slice A2 l2 c2, .bool m2, .slice E2 p2 q2]) w' ∧ RRat (ratV s.data.toList) 500 (.agg #[.bool k3, .slice A3 l3 c3, .bool m3, .slice E3 p3 q3]) w' ∧ RRat (ratV t.data.toList) 500 (.agg #[.bool k4, .slice A4 l4 c4, .bool m4, .slice E4 p4 q4]) w') ∧ Below w.heap.size w w' := by
 have HM := Lib.hid hm
 have HS := Lib.hid hs
 clear hm hs
 go_enter Tryz.func19, Tryz.ntmps19
 go_upto_region 1 with (fail)
 change Code.wp Tryz.prog _ _ _ ((((w.alloc (.cells #[.bool false, .slice none 0 0, .bool false, .slice none 0 0] 27)).alloc (.cells #[.bool false, .slice none 0 0, .bool false, .slice none 0 0] 27)).alloc (.cells #[.bool false, .slice none 0 0, .bool false, .slice none 0 0] 35)).alloc (.cells #[.bool false, .slice none 0 0, .bool false, .slice none 0 0] 35))
 obtain ⟨nb4, nb5, nb6, nb7, na⟩ := new4 w 27 [.bool false, .slice none 0 0, .bool false, .slice none 0 0] 27 [.bool false, .slice none 0 0, .bool false, .slice none 0 0] 35 [.bool false, .slice none 0 0, .bool false, .slice none 0 0] 35 [.bool false, .slice none 0 0, .bool false, .slice none 0 0] lf4 lf4 lf4 lf4
 have nkeep := Keep.ofBelow na
 have nbel := na
 generalize (((w.alloc (.cells #[.bool false, .slice none 0 0, .bool false, .slice none 0 0] 27)).alloc (.cells #[.bool false, .slice none 0 0, .bool false, .slice none 0 0] 27)).alloc (.cells #[.bool false, .slice none 0 0, .bool false, .slice none 0 0] 35)).alloc (.cells #[.bool false, .slice none 0 0, .bool false, .slice none 0 0] 35) = W1 at *
 clear na
 have b4 := Lib.hid nb4
 have b5 := Lib.hid nb5
 have b6 := Lib.hid nb6
 have b7 := Lib.hid nb7
 clear nb4 nb5 nb6 nb7 nkeep
 have HB2 := Lib.hid nbel
 clear nbel
 obtain ⟨x4_0, x4_1, x4_2, x4_3, z4_0, z4_1, z4_2, z4_3, s4⟩ := b4.out.e4
 obtain ⟨x5_0, x5_1, x5_2, x5_3, z5_0, z5_1, z5_2, z5_3, s5⟩ := b5.out.e4
 obtain ⟨x6_0, x6_1, x6_2, x6_3, z6_0, z6_1, z6_2, z6_3, s6⟩ := b6.out.e4
 obtain ⟨x7_0, x7_1, x7_2, x7_3, z7_0, z7_1, z7_2, z7_3, s7⟩ := b7.out.e4
 have szb := HB2.out.size
 have hs1 : decide ((400 : Int) < ((s.size : Nat) : Int)) = false := by have := HS.out.1; simp; omega
 have hs2 : decide ((400 : Int) < ((t.size : Nat) : Int)) = false := by have := HS.out.2; simp; omega
 go_upto_region 3 with (fail)
 go_wp2_with fail
 refine (pparse_two s _ (HM.out.up HB2.out) (by have := HS.out; omega)).mono ?_
 rintro e W3 ⟨k1, A1, l1, c1, m1, E1, p1, q1, er1, rfl, hv, hb⟩
 replace b4 := hup b4 hb
 replace b5 := hup b5 hb
 replace b6 := hup b6 hb
 replace b7 := hup b7 hb
 have nbel := below_then HB2.out hb HB2.out.size
 have HB4 := Lib.hid nbel
 clear nbel HB2 hb x4_0 x4_1 x4_2 x4_3 z4_0 z4_1 z4_2 z4_3 x5_0 x5_1 x5_2 x5_3 z5_0 z5_1 z5_2 z5_3 x6_0 x6_1 x6_2 x6_3 z6_0 z6_1 z6_2 z6_3 x7_0 x7_1 x7_2 x7_3 z7_0 z7_1 z7_2 z7_3 szb s4 s5 s6 s7
 obtain ⟨x4_0, x4_1, x4_2, x4_3, z4_0, z4_1, z4_2, z4_3, s4⟩ := b4.out.e4
 obtain ⟨x5_0, x5_1, x5_2, x5_3, z5_0, z5_1, z5_2, z5_3, s5⟩ := b5.out.e4
 obtain ⟨x6_0, x6_1, x6_2, x6_3, z6_0, z6_1, z6_2, z6_3, s6⟩ := b6.out.e4
 obtain ⟨x7_0, x7_1, x7_2, x7_3, z7_0, z7_1, z7_2, z7_3, s7⟩ := b7.out.e4
 have szb := HB4.out.size
 have HP1 := Lib.hid hv
 clear hv
 go_upto_region 4 with (fail)
 change Code.wp Tryz.prog _ _ _ ((((W3.setCell ⟨w.heap.size, 0, none⟩ (.bool k1)).setCell ⟨w.heap.size, 1, none⟩ (.slice A1 l1 c1)).setCell ⟨w.heap.size, 2, none⟩ (.bool m1)).setCell ⟨w.heap.size, 3, none⟩ (.slice E1 p1 q1))
 have nb4 : Bx 27 ((((W3.setCell ⟨w.heap.size, 0, none⟩ (.bool k1)).setCell ⟨w.heap.size, 1, none⟩ (.slice A1 l1 c1)).setCell ⟨w.heap.size, 2, none⟩ (.bool m1)).setCell ⟨w.heap.size, 3, none⟩ (.slice E1 p1 q1)) w.heap.size [.bool k1, .slice A1 l1 c1, .bool m1, .slice E1 p1 q1] := (Bx.set4 b4.out (Leaf.bool k1) (Leaf.slice A1 l1 c1) (Leaf.bool m1) (Leaf.slice E1 p1 q1))
 have nb5 : Bx 27 ((((W3.setCell ⟨w.heap.size, 0, none⟩ (.bool k1)).setCell ⟨w.heap.size, 1, none⟩ (.slice A1 l1 c1)).setCell ⟨w.heap.size, 2, none⟩ (.bool m1)).setCell ⟨w.heap.size, 3, none⟩ (.slice E1 p1 q1)) (w.heap.size + 1) [.bool false, .slice none 0 0, .bool false, .slice none 0 0] := (Bx.far4 (g' := w.heap.size) b5.out (by omega) (.bool k1) (.slice A1 l1 c1) (.bool m1) (.slice E1 p1 q1))
 have nb6 : Bx 35 ((((W3.setCell ⟨w.heap.size, 0, none⟩ (.bool k1)).setCell ⟨w.heap.size, 1, none⟩ (.slice A1 l1 c1)).setCell ⟨w.heap.size, 2, none⟩ (.bool m1)).setCell ⟨w.heap.size, 3, none⟩ (.slice E1 p1 q1)) (w.heap.size + 1 + 1) [.bool false, .slice none 0 0, .bool false, .slice none 0 0] := (Bx.far4 (g' := w.heap.size) b6.out (by omega) (.bool k1) (.slice A1 l1 c1) (.bool m1) (.slice E1 p1 q1))
 have nb7 : Bx 35 ((((W3.setCell ⟨w.heap.size, 0, none⟩ (.bool k1)).setCell ⟨w.heap.size, 1, none⟩ (.slice A1 l1 c1)).setCell ⟨w.heap.size, 2, none⟩ (.bool m1)).setCell ⟨w.heap.size, 3, none⟩ (.slice E1 p1 q1)) (w.heap.size + 1 + 1 + 1) [.bool false, .slice none 0 0, .bool false, .slice none 0 0] := (Bx.far4 (g' := w.heap.size) b7.out (by omega) (.bool k1) (.slice A1 l1 c1) (.bool m1) (.slice E1 p1 q1))
 have nkeep := (Keep.set4 (Keep.refl W3) b4.out (Leaf.bool k1) (Leaf.slice A1 l1 c1) (Leaf.bool m1) (Leaf.slice E1 p1 q1))
 have nbel : Below w.heap.size w ((((W3.setCell ⟨w.heap.size, 0, none⟩ (.bool k1)).setCell ⟨w.heap.size, 1, none⟩ (.slice A1 l1 c1)).setCell ⟨w.heap.size, 2, none⟩ (.bool m1)).setCell ⟨w.heap.size, 3, none⟩ (.slice E1 p1 q1)) := (Below.set4 (g := w.heap.size) HB4.out (by first | omega | (simp; done) | (simp; omega)) (.bool k1) (.slice A1 l1 c1) (.bool m1) (.slice E1 p1 q1))
 generalize (((W3.setCell ⟨w.heap.size, 0, none⟩ (.bool k1)).setCell ⟨w.heap.size, 1, none⟩ (.slice A1 l1 c1)).setCell ⟨w.heap.size, 2, none⟩ (.bool m1)).setCell ⟨w.heap.size, 3, none⟩ (.slice E1 p1 q1) = W5 at *
 clear x4_0 x4_1 x4_2 x4_3 z4_0 z4_1 z4_2 z4_3 x5_0 x5_1 x5_2 x5_3 z5_0 z5_1 z5_2 z5_3 x6_0 x6_1 x6_2 x6_3 z6_0 z6_1 z6_2 z6_3 x7_0 x7_1 x7_2 x7_3 z7_0 z7_1 z7_2 z7_3 szb s4 s5 s6 s7 b4 b5 b6 b7
 have b4 := Lib.hid nb4
 have b5 := Lib.hid nb5
 have b6 := Lib.hid nb6
 have b7 := Lib.hid nb7
 clear nb4 nb5 nb6 nb7
 replace HP1 := Lib.hid (HP1.out.kept nkeep)
 clear nkeep
 have HB6 := Lib.hid nbel
 clear nbel HB4
 obtain ⟨x4_0, x4_1, x4_2, x4_3, z4_0, z4_1, z4_2, z4_3, s4⟩ := b4.out.e4
 obtain ⟨x5_0, x5_1, x5_2, x5_3, z5_0, z5_1, z5_2, z5_3, s5⟩ := b5.out.e4
 obtain ⟨x6_0, x6_1, x6_2, x6_3, z6_0, z6_1, z6_2, z6_3, s6⟩ := b6.out.e4
 obtain ⟨x7_0, x7_1, x7_2, x7_3, z7_0, z7_1, z7_2, z7_3, s7⟩ := b7.out.e4
 have szb := HB6.out.size
 go_wp2_with fail
 refine (pparse_two t _ (HM.out.up HB6.out) (by have := HS.out; omega)).mono ?_
 rintro e W7 ⟨k2, A2, l2, c2, m2, E2, p2, q2, er2, rfl, hv, hb⟩
 replace b4 := hup b4 hb
 replace b5 := hup b5 hb
 replace b6 := hup b6 hb
 replace b7 := hup b7 hb
 replace HP1 := Lib.hid (HP1.out.kept (Keep.ofBelow hb))
 have nbel := below_then HB6.out hb HB6.out.size
 have HB8 := Lib.hid nbel
 clear nbel HB6 hb x4_0 x4_1 x4_2 x4_3 z4_0 z4_1 z4_2 z4_3 x5_0 x5_1 x5_2 x5_3 z5_0 z5_1 z5_2 z5_3 x6_0 x6_1 x6_2 x6_3 z6_0 z6_1 z6_2 z6_3 x7_0 x7_1 x7_2 x7_3 z7_0 z7_1 z7_2 z7_3 szb s4 s5 s6 s7
 obtain ⟨x4_0, x4_1, x4_2, x4_3, z4_0, z4_1, z4_2, z4_3, s4⟩ := b4.out.e4
 obtain ⟨x5_0, x5_1, x5_2, x5_3, z5_0, z5_1, z5_2, z5_3, s5⟩ := b5.out.e4
 obtain ⟨x6_0, x6_1, x6_2, x6_3, z6_0, z6_1, z6_2, z6_3, s6⟩ := b6.out.e4
 obtain ⟨x7_0, x7_1, x7_2, x7_3, z7_0, z7_1, z7_2, z7_3, s7⟩ := b7.out.e4
 have szb := HB8.out.size
 have HP2 := Lib.hid hv
 clear hv
 go_upto_region 5 with (fail)
 change Code.wp Tryz.prog _ _ _ ((((W7.setCell ⟨w.heap.size + 1, 0, none⟩ (.bool k2)).setCell ⟨w.heap.size + 1, 1, none⟩ (.slice A2 l2 c2)).setCell ⟨w.heap.size + 1, 2, none⟩ (.bool m2)).setCell ⟨w.heap.size + 1, 3, none⟩ (.slice E2 p2 q2))
 have nb4 : Bx 27 ((((W7.setCell ⟨w.heap.size + 1, 0, none⟩ (.bool k2)).setCell ⟨w.heap.size + 1, 1, none⟩ (.slice A2 l2 c2)).setCell ⟨w.heap.size + 1, 2, none⟩ (.bool m2)).setCell ⟨w.heap.size + 1, 3, none⟩ (.slice E2 p2 q2)) w.heap.size [.bool k1, .slice A1 l1 c1, .bool m1, .slice E1 p1 q1] := (Bx.far4 (g' := w.heap.size + 1) b4.out (by omega) (.bool k2) (.slice A2 l2 c2) (.bool m2) (.slice E2 p2 q2))
 have nb5 : Bx 27 ((((W7.setCell ⟨w.heap.size + 1, 0, none⟩ (.bool k2)).setCell ⟨w.heap.size + 1, 1, none⟩ (.slice A2 l2 c2)).setCell ⟨w.heap.size + 1, 2, none⟩ (.bool m2)).setCell ⟨w.heap.size + 1, 3, none⟩ (.slice E2 p2 q2)) (w.heap.size + 1) [.bool k2, .slice A2 l2 c2, .bool m2, .slice E2 p2 q2] := (Bx.set4 b5.out (Leaf.bool k2) (Leaf.slice A2 l2 c2) (Leaf.bool m2) (Leaf.slice E2 p2 q2))
 have nb6 : Bx 35 ((((W7.setCell ⟨w.heap.size + 1, 0, none⟩ (.bool k2)).setCell ⟨w.heap.size + 1, 1, none⟩ (.slice A2 l2 c2)).setCell ⟨w.heap.size + 1, 2, none⟩ (.bool m2)).setCell ⟨w.heap.size + 1, 3, none⟩ (.slice E2 p2 q2)) (w.heap.size + 1 + 1) [.bool false, .slice none 0 0, .bool false, .slice none 0 0] := (Bx.far4 (g' := w.heap.size + 1) b6.out (by omega) (.bool k2) (.slice A2 l2 c2) (.bool m2) (.slice E2 p2 q2))
 have nb7 : Bx 35 ((((W7.setCell ⟨w.heap.size + 1, 0, none⟩ (.bool k2)).setCell ⟨w.heap.size + 1, 1, none⟩ (.slice A2 l2 c2)).setCell ⟨w.heap.size + 1, 2, none⟩ (.bool m2)).setCell ⟨w.heap.size + 1, 3, none⟩ (.slice E2 p2 q2)) (w.heap.size + 1 + 1 + 1) [.bool false, .slice none 0 0, .bool false, .slice none 0 0] := (Bx.far4 (g' := w.heap.size + 1) b7.out (by omega) (.bool k2) (.slice A2 l2 c2) (.bool m2) (.slice E2 p2 q2))
 have nkeep := (Keep.set4 (Keep.refl W7) b5.out (Leaf.bool k2) (Leaf.slice A2 l2 c2) (Leaf.bool m2) (Leaf.slice E2 p2 q2))
 have nbel : Below w.heap.size w ((((W7.setCell ⟨w.heap.size + 1, 0, none⟩ (.bool k2)).setCell ⟨w.heap.size + 1, 1, none⟩ (.slice A2 l2 c2)).setCell ⟨w.heap.size + 1, 2, none⟩ (.bool m2)).setCell ⟨w.heap.size + 1, 3, none⟩ (.slice E2 p2 q2)) := (Below.set4 (g := w.heap.size + 1) HB8.out (by first | omega | (simp; done) | (simp; omega)) (.bool k2) (.slice A2 l2 c2) (.bool m2) (.slice E2 p2 q2))
 generalize (((W7.setCell ⟨w.heap.size + 1, 0, none⟩ (.bool k2)).setCell ⟨w.heap.size + 1, 1, none⟩ (.slice A2 l2 c2)).setCell ⟨w.heap.size + 1, 2, none⟩ (.bool m2)).setCell ⟨w.heap.size + 1, 3, none⟩ (.slice E2 p2 q2) = W9 at *
 clear x4_0 x4_1 x4_2 x4_3 z4_0 z4_1 z4_2 z4_3 x5_0 x5_1 x5_2 x5_3 z5_0 z5_1 z5_2 z5_3 x6_0 x6_1 x6_2 x6_3 z6_0 z6_1 z6_2 z6_3 x7_0 x7_1 x7_2 x7_3 z7_0 z7_1 z7_2 z7_3 szb s4 s5 s6 s7 b4 b5 b6 b7
 have b4 := Lib.hid nb4
 have b5 := Lib.hid nb5
 have b6 := Lib.hid nb6
 have b7 := Lib.hid nb7
 clear nb4 nb5 nb6 nb7
 replace HP1 := Lib.hid (HP1.out.kept nkeep)
 replace HP2 := Lib.hid (HP2.out.kept nkeep)
 clear nkeep
 have HB10 := Lib.hid nbel
 clear nbel HB8
 obtain ⟨x4_0, x4_1, x4_2, x4_3, z4_0, z4_1, z4_2, z4_3, s4⟩ := b4.out.e4
 obtain ⟨x5_0, x5_1, x5_2, x5_3, z5_0, z5_1, z5_2, z5_3, s5⟩ := b5.out.e4
 obtain ⟨x6_0, x6_1, x6_2, x6_3, z6_0, z6_1, z6_2, z6_3, s6⟩ := b6.out.e4
 obtain ⟨x7_0, x7_1, x7_2, x7_3, z7_0, z7_1, z7_2, z7_3, s7⟩ := b7.out.e4
 have szb := HB10.out.size
 go_wp2_with fail
 refine (rparse_two s _ (by have := HS.out; omega)).mono ?_
 rintro e W11 ⟨k3, A3, l3, c3, m3, E3, p3, q3, er3, rfl, hv, hb⟩
 replace b4 := hup b4 hb
 replace b5 := hup b5 hb
 replace b6 := hup b6 hb
 replace b7 := hup b7 hb
 replace HP1 := Lib.hid (HP1.out.kept (Keep.ofBelow hb))
 replace HP2 := Lib.hid (HP2.out.kept (Keep.ofBelow hb))
 have nbel := below_then HB10.out hb HB10.out.size
 have HB12 := Lib.hid nbel
 clear nbel HB10 hb x4_0 x4_1 x4_2 x4_3 z4_0 z4_1 z4_2 z4_3 x5_0 x5_1 x5_2 x5_3 z5_0 z5_1 z5_2 z5_3 x6_0 x6_1 x6_2 x6_3 z6_0 z6_1 z6_2 z6_3 x7_0 x7_1 x7_2 x7_3 z7_0 z7_1 z7_2 z7_3 szb s4 s5 s6 s7
 obtain ⟨x4_0, x4_1, x4_2, x4_3, z4_0, z4_1, z4_2, z4_3, s4⟩ := b4.out.e4
 obtain ⟨x5_0, x5_1, x5_2, x5_3, z5_0, z5_1, z5_2, z5_3, s5⟩ := b5.out.e4
 obtain ⟨x6_0, x6_1, x6_2, x6_3, z6_0, z6_1, z6_2, z6_3, s6⟩ := b6.out.e4
 obtain ⟨x7_0, x7_1, x7_2, x7_3, z7_0, z7_1, z7_2, z7_3, s7⟩ := b7.out.e4
 have szb := HB12.out.size
 have HR1 := Lib.hid hv
 clear hv
 go_upto_region 6 with (fail)
 change Code.wp Tryz.prog _ _ _ ((((W11.setCell ⟨w.heap.size + 1 + 1, 0, none⟩ (.bool k3)).setCell ⟨w.heap.size + 1 + 1, 1, none⟩ (.slice A3 l3 c3)).setCell ⟨w.heap.size + 1 + 1, 2, none⟩ (.bool m3)).setCell ⟨w.heap.size + 1 + 1, 3, none⟩ (.slice E3 p3 q3))
 have nb4 : Bx 27 ((((W11.setCell ⟨w.heap.size + 1 + 1, 0, none⟩ (.bool k3)).setCell ⟨w.heap.size + 1 + 1, 1, none⟩ (.slice A3 l3 c3)).setCell ⟨w.heap.size + 1 + 1, 2, none⟩ (.bool m3)).setCell ⟨w.heap.size + 1 + 1, 3, none⟩ (.slice E3 p3 q3)) w.heap.size [.bool k1, .slice A1 l1 c1, .bool m1, .slice E1 p1 q1] := (Bx.far4 (g' := w.heap.size + 1 + 1) b4.out (by omega) (.bool k3) (.slice A3 l3 c3) (.bool m3) (.slice E3 p3 q3))
 have nb5 : Bx 27 ((((W11.setCell ⟨w.heap.size + 1 + 1, 0, none⟩ (.bool k3)).setCell ⟨w.heap.size + 1 + 1, 1, none⟩ (.slice A3 l3 c3)).setCell ⟨w.heap.size + 1 + 1, 2, none⟩ (.bool m3)).setCell ⟨w.heap.size + 1 + 1, 3, none⟩ (.slice E3 p3 q3)) (w.heap.size + 1) [.bool k2, .slice A2 l2 c2, .bool m2, .slice E2 p2 q2] := (Bx.far4 (g' := w.heap.size + 1 + 1) b5.out (by omega) (.bool k3) (.slice A3 l3 c3) (.bool m3) (.slice E3 p3 q3))
 have nb6 : Bx 35 ((((W11.setCell ⟨w.heap.size + 1 + 1, 0, none⟩ (.bool k3)).setCell ⟨w.heap.size + 1 + 1, 1, none⟩ (.slice A3 l3 c3)).setCell ⟨w.heap.size + 1 + 1, 2, none⟩ (.bool m3)).setCell ⟨w.heap.size + 1 + 1, 3, none⟩ (.slice E3 p3 q3)) (w.heap.size + 1 + 1) [.bool k3, .slice A3 l3 c3, .bool m3, .slice E3 p3 q3] := (Bx.set4 b6.out (Leaf.bool k3) (Leaf.slice A3 l3 c3) (Leaf.bool m3) (Leaf.slice E3 p3 q3))
 have nb7 : Bx 35 ((((W11.setCell ⟨w.heap.size + 1 + 1, 0, none⟩ (.bool k3)).setCell ⟨w.heap.size + 1 + 1, 1, none⟩ (.slice A3 l3 c3)).setCell ⟨w.heap.size + 1 + 1, 2, none⟩ (.bool m3)).setCell ⟨w.heap.size + 1 + 1, 3, none⟩ (.slice E3 p3 q3)) (w.heap.size + 1 + 1 + 1) [.bool false, .slice none 0 0, .bool false, .slice none 0 0] := (Bx.far4 (g' := w.heap.size + 1 + 1) b7.out (by omega) (.bool k3) (.slice A3 l3 c3) (.bool m3) (.slice E3 p3 q3))
 have nkeep := (Keep.set4 (Keep.refl W11) b6.out (Leaf.bool k3) (Leaf.slice A3 l3 c3) (Leaf.bool m3) (Leaf.slice E3 p3 q3))
 have nbel : Below w.heap.size w ((((W11.setCell ⟨w.heap.size + 1 + 1, 0, none⟩ (.bool k3)).setCell ⟨w.heap.size + 1 + 1, 1, none⟩ (.slice A3 l3 c3)).setCell ⟨w.heap.size + 1 + 1, 2, none⟩ (.bool m3)).setCell ⟨w.heap.size + 1 + 1, 3, none⟩ (.slice E3 p3 q3)) := (Below.set4 (g := w.heap.size + 1 + 1) HB12.out (by first | omega | (simp; done) | (simp; omega)) (.bool k3) (.slice A3 l3 c3) (.bool m3) (.slice E3 p3 q3))
 generalize (((W11.setCell ⟨w.heap.size + 1 + 1, 0, none⟩ (.bool k3)).setCell ⟨w.heap.size + 1 + 1, 1, none⟩ (.slice A3 l3 c3)).setCell ⟨w.heap.size + 1 + 1, 2, none⟩ (.bool m3)).setCell ⟨w.heap.size + 1 + 1, 3, none⟩ (.slice E3 p3 q3) = W13 at *
 clear x4_0 x4_1 x4_2 x4_3 z4_0 z4_1 z4_2 z4_3 x5_0 x5_1 x5_2 x5_3 z5_0 z5_1 z5_2 z5_3 x6_0 x6_1 x6_2 x6_3 z6_0 z6_1 z6_2 z6_3 x7_0 x7_1 x7_2 x7_3 z7_0 z7_1 z7_2 z7_3 szb s4 s5 s6 s7 b4 b5 b6 b7
 have b4 := Lib.hid nb4
 have b5 := Lib.hid nb5
 have b6 := Lib.hid nb6
 have b7 := Lib.hid nb7
 clear nb4 nb5 nb6 nb7
 replace HP1 := Lib.hid (HP1.out.kept nkeep)
 replace HP2 := Lib.hid (HP2.out.kept nkeep)
 replace HR1 := Lib.hid (HR1.out.kept nkeep)
 clear nkeep
 have HB14 := Lib.hid nbel
 clear nbel HB12
 obtain ⟨x4_0, x4_1, x4_2, x4_3, z4_0, z4_1, z4_2, z4_3, s4⟩ := b4.out.e4
 obtain ⟨x5_0, x5_1, x5_2, x5_3, z5_0, z5_1, z5_2, z5_3, s5⟩ := b5.out.e4
 obtain ⟨x6_0, x6_1, x6_2, x6_3, z6_0, z6_1, z6_2, z6_3, s6⟩ := b6.out.e4
 obtain ⟨x7_0, x7_1, x7_2, x7_3, z7_0, z7_1, z7_2, z7_3, s7⟩ := b7.out.e4
 have szb := HB14.out.size
 go_wp2_with fail
 refine (rparse_two t _ (by have := HS.out; omega)).mono ?_
 rintro e W15 ⟨k4, A4, l4, c4, m4, E4, p4, q4, er4, rfl, hv, hb⟩
 replace b4 := hup b4 hb
 replace b5 := hup b5 hb
 replace b6 := hup b6 hb
 replace b7 := hup b7 hb
 replace HP1 := Lib.hid (HP1.out.kept (Keep.ofBelow hb))
 replace HP2 := Lib.hid (HP2.out.kept (Keep.ofBelow hb))
 replace HR1 := Lib.hid (HR1.out.kept (Keep.ofBelow hb))
 have nbel := below_then HB14.out hb HB14.out.size
 have HB16 := Lib.hid nbel
 clear nbel HB14 hb x4_0 x4_1 x4_2 x4_3 z4_0 z4_1 z4_2 z4_3 x5_0 x5_1 x5_2 x5_3 z5_0 z5_1 z5_2 z5_3 x6_0 x6_1 x6_2 x6_3 z6_0 z6_1 z6_2 z6_3 x7_0 x7_1 x7_2 x7_3 z7_0 z7_1 z7_2 z7_3 szb s4 s5 s6 s7
 obtain ⟨x4_0, x4_1, x4_2, x4_3, z4_0, z4_1, z4_2, z4_3, s4⟩ := b4.out.e4
 obtain ⟨x5_0, x5_1, x5_2, x5_3, z5_0, z5_1, z5_2, z5_3, s5⟩ := b5.out.e4
 obtain ⟨x6_0, x6_1, x6_2, x6_3, z6_0, z6_1, z6_2, z6_3, s6⟩ := b6.out.e4
 obtain ⟨x7_0, x7_1, x7_2, x7_3, z7_0, z7_1, z7_2, z7_3, s7⟩ := b7.out.e4
 have szb := HB16.out.size
 have HR2 := Lib.hid hv
 clear hv
 go_upto_region 7 with (fail)
 change Code.wp Tryz.prog _ _ _ ((((W15.setCell ⟨w.heap.size + 1 + 1 + 1, 0, none⟩ (.bool k4)).setCell ⟨w.heap.size + 1 + 1 + 1, 1, none⟩ (.slice A4 l4 c4)).setCell ⟨w.heap.size + 1 + 1 + 1, 2, none⟩ (.bool m4)).setCell ⟨w.heap.size + 1 + 1 + 1, 3, none⟩ (.slice E4 p4 q4))
 have nb4 : Bx 27 ((((W15.setCell ⟨w.heap.size + 1 + 1 + 1, 0, none⟩ (.bool k4)).setCell ⟨w.heap.size + 1 + 1 + 1, 1, none⟩ (.slice A4 l4 c4)).setCell ⟨w.heap.size + 1 + 1 + 1, 2, none⟩ (.bool m4)).setCell ⟨w.heap.size + 1 + 1 + 1, 3, none⟩ (.slice E4 p4 q4)) w.heap.size [.bool k1, .slice A1 l1 c1, .bool m1, .slice E1 p1 q1] := (Bx.far4 (g' := w.heap.size + 1 + 1 + 1) b4.out (by omega) (.bool k4) (.slice A4 l4 c4) (.bool m4) (.slice E4 p4 q4))
 have nb5 : Bx 27 ((((W15.setCell ⟨w.heap.size + 1 + 1 + 1, 0, none⟩ (.bool k4)).setCell ⟨w.heap.size + 1 + 1 + 1, 1, none⟩ (.slice A4 l4 c4)).setCell ⟨w.heap.size + 1 + 1 + 1, 2, none⟩ (.bool m4)).setCell ⟨w.heap.size + 1 + 1 + 1, 3, none⟩ (.slice E4 p4 q4)) (w.heap.size + 1) [.bool k2, .slice A2 l2 c2, .bool m2, .slice E2 p2 q2] := (Bx.far4 (g' := w.heap.size + 1 + 1 + 1) b5.out (by omega) (.bool k4) (.slice A4 l4 c4) (.bool m4) (.slice E4 p4 q4))
 have nb6 : Bx 35 ((((W15.setCell ⟨w.heap.size + 1 + 1 + 1, 0, none⟩ (.bool k4)).setCell ⟨w.heap.size + 1 + 1 + 1, 1, none⟩ (.slice A4 l4 c4)).setCell ⟨w.heap.size + 1 + 1 + 1, 2, none⟩ (.bool m4)).setCell ⟨w.heap.size + 1 + 1 + 1, 3, none⟩ (.slice E4 p4 q4)) (w.heap.size + 1 + 1) [.bool k3, .slice A3 l3 c3, .bool m3, .slice E3 p3 q3] := (Bx.far4 (g' := w.heap.size + 1 + 1 + 1) b6.out (by omega) (.bool k4) (.slice A4 l4 c4) (.bool m4) (.slice E4 p4 q4))
 have nb7 : Bx 35 ((((W15.setCell ⟨w.heap.size + 1 + 1 + 1, 0, none⟩ (.bool k4)).setCell ⟨w.heap.size + 1 + 1 + 1, 1, none⟩ (.slice A4 l4 c4)).setCell ⟨w.heap.size + 1 + 1 + 1, 2, none⟩ (.bool m4)).setCell ⟨w.heap.size + 1 + 1 + 1, 3, none⟩ (.slice E4 p4 q4)) (w.heap.size + 1 + 1 + 1) [.bool k4, .slice A4 l4 c4, .bool m4, .slice E4 p4 q4] := (Bx.set4 b7.out (Leaf.bool k4) (Leaf.slice A4 l4 c4) (Leaf.bool m4) (Leaf.slice E4 p4 q4))
 have nkeep := (Keep.set4 (Keep.refl W15) b7.out (Leaf.bool k4) (Leaf.slice A4 l4 c4) (Leaf.bool m4) (Leaf.slice E4 p4 q4))
 have nbel : Below w.heap.size w ((((W15.setCell ⟨w.heap.size + 1 + 1 + 1, 0, none⟩ (.bool k4)).setCell ⟨w.heap.size + 1 + 1 + 1, 1, none⟩ (.slice A4 l4 c4)).setCell ⟨w.heap.size + 1 + 1 + 1, 2, none⟩ (.bool m4)).setCell ⟨w.heap.size + 1 + 1 + 1, 3, none⟩ (.slice E4 p4 q4)) := (Below.set4 (g := w.heap.size + 1 + 1 + 1) HB16.out (by first | omega | (simp; done) | (simp; omega)) (.bool k4) (.slice A4 l4 c4) (.bool m4) (.slice E4 p4 q4))
 generalize (((W15.setCell ⟨w.heap.size + 1 + 1 + 1, 0, none⟩ (.bool k4)).setCell ⟨w.heap.size + 1 + 1 + 1, 1, none⟩ (.slice A4 l4 c4)).setCell ⟨w.heap.size + 1 + 1 + 1, 2, none⟩ (.bool m4)).setCell ⟨w.heap.size + 1 + 1 + 1, 3, none⟩ (.slice E4 p4 q4) = W17 at *
 clear x4_0 x4_1 x4_2 x4_3 z4_0 z4_1 z4_2 z4_3 x5_0 x5_1 x5_2 x5_3 z5_0 z5_1 z5_2 z5_3 x6_0 x6_1 x6_2 x6_3 z6_0 z6_1 z6_2 z6_3 x7_0 x7_1 x7_2 x7_3 z7_0 z7_1 z7_2 z7_3 szb s4 s5 s6 s7 b4 b5 b6 b7
 have b4 := Lib.hid nb4
 have b5 := Lib.hid nb5
 have b6 := Lib.hid nb6
 have b7 := Lib.hid nb7
 clear nb4 nb5 nb6 nb7
 replace HP1 := Lib.hid (HP1.out.kept nkeep)
 replace HP2 := Lib.hid (HP2.out.kept nkeep)
 replace HR1 := Lib.hid (HR1.out.kept nkeep)
 replace HR2 := Lib.hid (HR2.out.kept nkeep)
 clear nkeep
 have HB18 := Lib.hid nbel
 clear nbel HB16
 obtain ⟨x4_0, x4_1, x4_2, x4_3, z4_0, z4_1, z4_2, z4_3, s4⟩ := b4.out.e4
 obtain ⟨x5_0, x5_1, x5_2, x5_3, z5_0, z5_1, z5_2, z5_3, s5⟩ := b5.out.e4
 obtain ⟨x6_0, x6_1, x6_2, x6_3, z6_0, z6_1, z6_2, z6_3, s6⟩ := b6.out.e4
 obtain ⟨x7_0, x7_1, x7_2, x7_3, z7_0, z7_1, z7_2, z7_3, s7⟩ := b7.out.e4
 have szb := HB18.out.size
 clear hs1 hs2
 have hc : er1 ≠ 0 ∨ (er1 = 0 ∧ er2 ≠ 0) ∨ (er1 = 0 ∧ er2 = 0 ∧ er3 ≠ 0) ∨ (er1 = 0 ∧ er2 = 0 ∧ er3 = 0 ∧ er4 ≠ 0) ∨ (er1 = 0 ∧ er2 = 0 ∧ er3 = 0 ∧ er4 = 0) := by omega
 rcases hc with hn | ⟨rfl, hn⟩ | ⟨rfl, rfl, hn⟩ | ⟨rfl, rfl, rfl, hn⟩ | ⟨rfl, rfl, rfl, rfl⟩
 ·have hne : (er1 == 0) = false := by simpa using hn
  clear hn
  have hj0 : JSame w W17 [(27, w.heap.size, [.bool k1, .slice A1 l1 c1, .bool m1, .slice E1 p1 q1]), (27, w.heap.size + 1, [.bool k2, .slice A2 l2 c2, .bool m2, .slice E2 p2 q2]), (35, w.heap.size + 1 + 1, [.bool k3, .slice A3 l3 c3, .bool m3, .slice E3 p3 q3]), (35, w.heap.size + 1 + 1 + 1, [.bool k4, .slice A4 l4 c4, .bool m4, .slice E4 p4 q4])] 0 [] W17.drew := ⟨⟨below_drew HB18.out, Nat.le_refl _, Keep.drew (Keep.refl _)⟩, by
   intro b_ hb_
   simp only [List.mem_cons, List.not_mem_nil, or_false] at hb_
   rcases hb_ with rfl | rfl | rfl | rfl
   ·exact (b4.out).drew
   ·exact (b5.out).drew
   ·exact (b6.out).drew
   ·exact (b7.out).drew⟩
  refine AS.region_facts (bothFL0 k1 m1 k2 m2 k3 m3 k4 m4 A1 E1 A2 E2 A3 E3 A4 E4 l1 c1 p1 q1 l2 c2 p2 q2 l3 c3 p3 q3 l4 c4 p4 q4 er1 er2 er3 er4) (JSame w W17 [(27, w.heap.size, [.bool k1, .slice A1 l1 c1, .bool m1, .slice E1 p1 q1]), (27, w.heap.size + 1, [.bool k2, .slice A2 l2 c2, .bool m2, .slice E2 p2 q2]), (35, w.heap.size + 1 + 1, [.bool k3, .slice A3 l3 c3, .bool m3, .slice E3 p3 q3]), (35, w.heap.size + 1 + 1 + 1, [.bool k4, .slice A4 l4 c4, .bool m4, .slice E4 p4 q4])]) [[], [], [], [], [], [49], [50], [51], [51], [51, 53], [54], [55], [55], [55, 57], [58], [59], [59], [59, 61], [45], [46], [47], [48], [62]] [18, 19, 20, 21] [[], [], [], [], []] [4, 4, 4, 4, 4, 4, 4, 4, 4, 4, 4, 4, 4, 4, 4, 4, 4, 4, 4, 4, 4, 4, 4] [] (fun u => by simp only [bothFL0, AS.temps, List.map_cons, List.map_nil, fillL, List.setIfInBounds_toArray, List.set_cons_zero, List.set_cons_succ]; rfl) (by kernel_rfl) (by kernel_rfl) (JSame.st _ _ _) hj0 ?_ ?_
  ·refine AS.sc rfl rfl rfl ?_ ?_
   ·intro k_ u w_ hk hJ hF K hK
    clear hF
    obtain ⟨y0, y1, y2, y3⟩ := hJ.c4 0 rfl
    clear hJ
    go_simp
    exact hK.out _ _ (Below.refl _ _) rfl trivial
   refine AS.sc rfl rfl rfl ?_ ?_
   ·intro k_ u w_ hk hJ hF K hK
    clear hF
    obtain ⟨y0, y1, y2, y3⟩ := hJ.c4 1 rfl
    clear hJ
    go_simp
    exact hK.out _ _ (Below.refl _ _) rfl trivial
   refine AS.sc rfl rfl rfl ?_ ?_
   ·intro k_ u w_ hk hJ hF K hK
    clear hF
    obtain ⟨y0, y1, y2, y3⟩ := hJ.c4 2 rfl
    clear hJ
    go_simp
    exact hK.out _ _ (Below.refl _ _) rfl trivial
   refine AS.sc rfl rfl rfl ?_ ?_
   ·intro k_ u w_ hk hJ hF K hK
    clear hF
    obtain ⟨y0, y1, y2, y3⟩ := hJ.c4 3 rfl
    clear hJ
    go_simp
    exact hK.out _ _ (Below.refl _ _) rfl trivial
   refine AS.sc rfl rfl rfl ?_ ?_
   ·intro k_ u w_ hk hJ hF K hK
    clear hF
    go_simp
    exact hK.out _ _ (Below.refl _ _) (rfl) trivial
   refine AS.sc rfl rfl rfl ?_ ?_
   ·intro k_ u w_ hk hJ hF K hK
    have h49 : u 49 = .int .i64 er1 := AS.facts_get hF 49 (by simp)
    clear hF
    simp only [h49] at hK ⊢
    clear h49
    go_simp
    exact hK.out _ _ (Below.refl _ _) (rfl) trivial
   refine AS.sc rfl rfl rfl ?_ ?_
   ·intro k_ u w_ hk hJ hF K hK
    have h50 : u 50 = .bool false := AS.facts_get hF 50 (by simp)
    clear hF
    simp only [h50] at hK ⊢
    clear h50
    go_simp
    exact hK.out _ _ (Below.refl _ _) (rfl) trivial
   refine AS.sc rfl rfl rfl ?_ ?_
   ·intro k_ u w_ hk hJ hF K hK
    have h51 : u 51 = .bool false := AS.facts_get hF 51 (by simp)
    clear hF
    simp only [h51] at hK ⊢
    clear h51
    go_simp
    exact hK.out _ _ (Below.refl _ _) (rfl) trivial
   refine AS.sc rfl rfl rfl ?_ ?_
   ·intro k_ u w_ hk hJ hF K hK
    have h51 : u 51 = .bool false := AS.facts_get hF 51 (by simp)
    clear hF
    simp only [h51] at hK ⊢
    clear h51
    go_simp
    exact hK.out _ _ (Below.refl _ _) (rfl) trivial
   refine AS.sc rfl rfl rfl ?_ ?_
   ·intro k_ u w_ hk hJ hF K hK
    have h51 : u 51 = .bool false := AS.facts_get hF 51 (by simp)
    have h53 : u 53 = undef := AS.facts_get hF 53 (by simp)
    clear hF
    simp only [h51, h53] at hK ⊢
    clear h51 h53
    go_simp
    exact hK.out _ _ (Below.refl _ _) (rfl) trivial
   refine AS.sc rfl rfl rfl ?_ ?_
   ·intro k_ u w_ hk hJ hF K hK
    have h54 : u 54 = .bool false := AS.facts_get hF 54 (by simp)
    clear hF
    simp only [h54] at hK ⊢
    clear h54
    go_simp
    exact hK.out _ _ (Below.refl _ _) (rfl) trivial
   refine AS.sc rfl rfl rfl ?_ ?_
   ·intro k_ u w_ hk hJ hF K hK
    have h55 : u 55 = .bool false := AS.facts_get hF 55 (by simp)
    clear hF
    simp only [h55] at hK ⊢
    clear h55
    go_simp
    exact hK.out _ _ (Below.refl _ _) (rfl) trivial
   refine AS.sc rfl rfl rfl ?_ ?_
   ·intro k_ u w_ hk hJ hF K hK
    have h55 : u 55 = .bool false := AS.facts_get hF 55 (by simp)
    clear hF
    simp only [h55] at hK ⊢
    clear h55
    go_simp
    exact hK.out _ _ (Below.refl _ _) (rfl) trivial
   refine AS.sc rfl rfl rfl ?_ ?_
   ·intro k_ u w_ hk hJ hF K hK
    have h55 : u 55 = .bool false := AS.facts_get hF 55 (by simp)
    have h57 : u 57 = undef := AS.facts_get hF 57 (by simp)
    clear hF
    simp only [h55, h57] at hK ⊢
    clear h55 h57
    go_simp
    exact hK.out _ _ (Below.refl _ _) (rfl) trivial
   refine AS.sc rfl rfl rfl ?_ ?_
   ·intro k_ u w_ hk hJ hF K hK
    have h58 : u 58 = .bool false := AS.facts_get hF 58 (by simp)
    clear hF
    simp only [h58] at hK ⊢
    clear h58
    go_simp
    exact hK.out _ _ (Below.refl _ _) (rfl) trivial
   refine AS.sc rfl rfl rfl ?_ ?_
   ·intro k_ u w_ hk hJ hF K hK
    have h59 : u 59 = .bool false := AS.facts_get hF 59 (by simp)
    clear hF
    simp only [h59] at hK ⊢
    clear h59
    go_simp
    exact hK.out _ _ (Below.refl _ _) (rfl) trivial
   refine AS.sc rfl rfl rfl ?_ ?_
   ·intro k_ u w_ hk hJ hF K hK
    have h59 : u 59 = .bool false := AS.facts_get hF 59 (by simp)
    clear hF
    simp only [h59] at hK ⊢
    clear h59
    go_simp
    exact hK.out _ _ (Below.refl _ _) (rfl) trivial
   refine AS.sc rfl rfl rfl ?_ ?_
   ·intro k_ u w_ hk hJ hF K hK
    have h59 : u 59 = .bool false := AS.facts_get hF 59 (by simp)
    have h61 : u 61 = undef := AS.facts_get hF 61 (by simp)
    clear hF
    simp only [h59, h61] at hK ⊢
    clear h59 h61
    go_simp
    exact hK.out _ _ (Below.refl _ _) (rfl) trivial
   refine AS.ss rfl rfl ?_ ?_
   ·intro u w_ hJ hAp hF K hK
    have h45 : u 45 = .agg #[.bool k1, .slice A1 l1 c1, .bool m1, .slice E1 p1 q1] := AS.facts_get hF 45 (by simp)
    clear hF
    obtain ⟨HR, HK2, y0, y1, y2, y3, z0, z1, z2, z3⟩ := hJ.set4 0 rfl (four_only 0 rfl) (by omega)
    clear hJ
    simp only [h45] at hK ⊢
    go_simp
    exact hK.out undef _ HR.out HK2.out
   refine AS.ss rfl rfl ?_ ?_
   ·intro u w_ hJ hAp hF K hK
    have h46 : u 46 = .agg #[.bool k2, .slice A2 l2 c2, .bool m2, .slice E2 p2 q2] := AS.facts_get hF 46 (by simp)
    clear hF
    obtain ⟨HR, HK2, y0, y1, y2, y3, z0, z1, z2, z3⟩ := hJ.set4 1 rfl (four_only 1 rfl) (by omega)
    clear hJ
    simp only [h46] at hK ⊢
    go_simp
    exact hK.out undef _ HR.out HK2.out
   refine AS.ss rfl rfl ?_ ?_
   ·intro u w_ hJ hAp hF K hK
    have h47 : u 47 = .agg #[.bool k3, .slice A3 l3 c3, .bool m3, .slice E3 p3 q3] := AS.facts_get hF 47 (by simp)
    clear hF
    obtain ⟨HR, HK2, y0, y1, y2, y3, z0, z1, z2, z3⟩ := hJ.set4 2 rfl (four_only 2 rfl) (by omega)
    clear hJ
    simp only [h47] at hK ⊢
    go_simp
    exact hK.out undef _ HR.out HK2.out
   refine AS.ss rfl rfl ?_ ?_
   ·intro u w_ hJ hAp hF K hK
    have h48 : u 48 = .agg #[.bool k4, .slice A4 l4 c4, .bool m4, .slice E4 p4 q4] := AS.facts_get hF 48 (by simp)
    clear hF
    obtain ⟨HR, HK2, y0, y1, y2, y3, z0, z1, z2, z3⟩ := hJ.set4 3 rfl (four_only 3 rfl) (by omega)
    clear hJ
    simp only [h48] at hK ⊢
    go_simp
    exact hK.out undef _ HR.out HK2.out
   refine AS.sc rfl rfl rfl ?_ ?_
   ·intro k_ u w_ hk hJ hF K hK
    have h62 : u 62 = .bool false := AS.facts_get hF 62 (by simp)
    clear hF
    simp only [h62] at hK ⊢
    clear h62
    go_simp
    exact hK.out _ _ (Below.refl _ _) (rfl) trivial
   exact AS.StepsOk.nil
  ·intro u W19 hJ9 hF
   have h8 : u 8 = .bool false := AS.facts_get hF 8 (by simp [bothFL0, AS.temps])
   clear hF
   rw [show u 8 = _ from h8]
   clear h8 hj0
   obtain ⟨⟨hbel, hsz, hkp⟩, hbx⟩ := hJ9
   clear x4_0 x4_1 x4_2 x4_3 z4_0 z4_1 z4_2 z4_3 x5_0 x5_1 x5_2 x5_3 z5_0 z5_1 z5_2 z5_3 x6_0 x6_1 x6_2 x6_3 z6_0 z6_1 z6_2 z6_3 x7_0 x7_1 x7_2 x7_3 z7_0 z7_1 z7_2 z7_3 szb s4 s5 s6 s7
   have nb : Bx 27 W19 (w.heap.size) [.bool k1, .slice A1 l1 c1, .bool m1, .slice E1 p1 q1] := hbx (27, w.heap.size, [.bool k1, .slice A1 l1 c1, .bool m1, .slice E1 p1 q1]) (by simp)
   clear b4
   have b4 := Lib.hid nb
   clear nb
   have nb : Bx 27 W19 (w.heap.size + 1) [.bool k2, .slice A2 l2 c2, .bool m2, .slice E2 p2 q2] := hbx (27, w.heap.size + 1, [.bool k2, .slice A2 l2 c2, .bool m2, .slice E2 p2 q2]) (by simp)
   clear b5
   have b5 := Lib.hid nb
   clear nb
   have nb : Bx 35 W19 (w.heap.size + 1 + 1) [.bool k3, .slice A3 l3 c3, .bool m3, .slice E3 p3 q3] := hbx (35, w.heap.size + 1 + 1, [.bool k3, .slice A3 l3 c3, .bool m3, .slice E3 p3 q3]) (by simp)
   clear b6
   have b6 := Lib.hid nb
   clear nb
   have nb : Bx 35 W19 (w.heap.size + 1 + 1 + 1) [.bool k4, .slice A4 l4 c4, .bool m4, .slice E4 p4 q4] := hbx (35, w.heap.size + 1 + 1 + 1, [.bool k4, .slice A4 l4 c4, .bool m4, .slice E4 p4 q4]) (by simp)
   clear b7
   have b7 := Lib.hid nb
   clear nb
   replace HP1 := Lib.hid (HP1.out.kept hkp)
   replace HP2 := Lib.hid (HP2.out.kept hkp)
   replace HR1 := Lib.hid (HR1.out.kept hkp)
   replace HR2 := Lib.hid (HR2.out.kept hkp)
   have HB20 := Lib.hid hbel
   clear hbel HB18 hkp hbx hsz
   obtain ⟨x4_0, x4_1, x4_2, x4_3, z4_0, z4_1, z4_2, z4_3, s4⟩ := b4.out.e4
   obtain ⟨x5_0, x5_1, x5_2, x5_3, z5_0, z5_1, z5_2, z5_3, s5⟩ := b5.out.e4
   obtain ⟨x6_0, x6_1, x6_2, x6_3, z6_0, z6_1, z6_2, z6_3, s6⟩ := b6.out.e4
   obtain ⟨x7_0, x7_1, x7_2, x7_3, z7_0, z7_1, z7_2, z7_3, s7⟩ := b7.out.e4
   have szb := HB20.out.size
   go_wp2_with fail
   have hkeep := (Keep.refl W19)
   have hbel := HB20.out
   refine bodyPost_ret (v := .tuple #[.agg #[.bool k1, .slice A1 l1 c1, .bool m1, .slice E1 p1 q1], .agg #[.bool k2, .slice A2 l2 c2, .bool m2, .slice E2 p2 q2], .agg #[.bool k3, .slice A3 l3 c3, .bool m3, .slice E3 p3 q3], .agg #[.bool k4, .slice A4 l4 c4, .bool m4, .slice E4 p4 q4], .bool false]) (by simp [results, Tryz.results19, go_sem, x4_0, x4_1, x4_2, x4_3, x5_0, x5_1, x5_2, x5_3, x6_0, x6_1, x6_2, x6_3, x7_0, x7_1, x7_2, x7_3]) rfl ⟨_, _, _, _, _, _, _, _, _, _, _, _, _, _, _, _, _, _, _, _, _, _, _, _, _, _, _, _, _, _, _, _, _, rfl, fun h => absurd h (by decide), hbel⟩
 ·have hne : (er2 == 0) = false := by simpa using hn
  clear hn
  have hj0 : JSame w W17 [(27, w.heap.size, [.bool k1, .slice A1 l1 c1, .bool m1, .slice E1 p1 q1]), (27, w.heap.size + 1, [.bool k2, .slice A2 l2 c2, .bool m2, .slice E2 p2 q2]), (35, w.heap.size + 1 + 1, [.bool k3, .slice A3 l3 c3, .bool m3, .slice E3 p3 q3]), (35, w.heap.size + 1 + 1 + 1, [.bool k4, .slice A4 l4 c4, .bool m4, .slice E4 p4 q4])] 0 [] W17.drew := ⟨⟨below_drew HB18.out, Nat.le_refl _, Keep.drew (Keep.refl _)⟩, by
   intro b_ hb_
   simp only [List.mem_cons, List.not_mem_nil, or_false] at hb_
   rcases hb_ with rfl | rfl | rfl | rfl
   ·exact (b4.out).drew
   ·exact (b5.out).drew
   ·exact (b6.out).drew
   ·exact (b7.out).drew⟩
  refine AS.region_facts (bothFL1 k1 m1 k2 m2 k3 m3 k4 m4 A1 E1 A2 E2 A3 E3 A4 E4 l1 c1 p1 q1 l2 c2 p2 q2 l3 c3 p3 q3 l4 c4 p4 q4 0 er2 er3 er4) (JSame w W17 [(27, w.heap.size, [.bool k1, .slice A1 l1 c1, .bool m1, .slice E1 p1 q1]), (27, w.heap.size + 1, [.bool k2, .slice A2 l2 c2, .bool m2, .slice E2 p2 q2]), (35, w.heap.size + 1 + 1, [.bool k3, .slice A3 l3 c3, .bool m3, .slice E3 p3 q3]), (35, w.heap.size + 1 + 1 + 1, [.bool k4, .slice A4 l4 c4, .bool m4, .slice E4 p4 q4])]) [[], [], [], [], [], [49], [50], [51], [51, 52], [51, 53], [54], [55], [55], [55, 57], [58], [59], [59], [59, 61], [45], [46], [47], [48], [62]] [18, 19, 20, 21] [[], [], [], [], []] [4, 4, 4, 4, 4, 4, 4, 4, 4, 4, 4, 4, 4, 4, 4, 4, 4, 4, 4, 4, 4, 4, 4] [] (fun u => by simp only [bothFL1, AS.temps, List.map_cons, List.map_nil, fillL, List.setIfInBounds_toArray, List.set_cons_zero, List.set_cons_succ]; rfl) (by kernel_rfl) (by kernel_rfl) (JSame.st _ _ _) hj0 ?_ ?_
  ·refine AS.sc rfl rfl rfl ?_ ?_
   ·intro k_ u w_ hk hJ hF K hK
    clear hF
    obtain ⟨y0, y1, y2, y3⟩ := hJ.c4 0 rfl
    clear hJ
    go_simp
    exact hK.out _ _ (Below.refl _ _) rfl trivial
   refine AS.sc rfl rfl rfl ?_ ?_
   ·intro k_ u w_ hk hJ hF K hK
    clear hF
    obtain ⟨y0, y1, y2, y3⟩ := hJ.c4 1 rfl
    clear hJ
    go_simp
    exact hK.out _ _ (Below.refl _ _) rfl trivial
   refine AS.sc rfl rfl rfl ?_ ?_
   ·intro k_ u w_ hk hJ hF K hK
    clear hF
    obtain ⟨y0, y1, y2, y3⟩ := hJ.c4 2 rfl
    clear hJ
    go_simp
    exact hK.out _ _ (Below.refl _ _) rfl trivial
   refine AS.sc rfl rfl rfl ?_ ?_
   ·intro k_ u w_ hk hJ hF K hK
    clear hF
    obtain ⟨y0, y1, y2, y3⟩ := hJ.c4 3 rfl
    clear hJ
    go_simp
    exact hK.out _ _ (Below.refl _ _) rfl trivial
   refine AS.sc rfl rfl rfl ?_ ?_
   ·intro k_ u w_ hk hJ hF K hK
    clear hF
    go_simp
    exact hK.out _ _ (Below.refl _ _) (rfl) trivial
   refine AS.sc rfl rfl rfl ?_ ?_
   ·intro k_ u w_ hk hJ hF K hK
    have h49 : u 49 = .int .i64 0 := AS.facts_get hF 49 (by simp)
    clear hF
    simp only [h49] at hK ⊢
    clear h49
    go_simp
    exact hK.out _ _ (Below.refl _ _) (rfl) trivial
   refine AS.sc rfl rfl rfl ?_ ?_
   ·intro k_ u w_ hk hJ hF K hK
    have h50 : u 50 = .bool true := AS.facts_get hF 50 (by simp)
    clear hF
    simp only [h50] at hK ⊢
    clear h50
    go_simp
    exact hK.out _ _ (Below.refl _ _) (rfl) trivial
   refine AS.sc rfl rfl rfl ?_ ?_
   ·intro k_ u w_ hk hJ hF K hK
    have h51 : u 51 = .bool true := AS.facts_get hF 51 (by simp)
    clear hF
    simp only [h51] at hK ⊢
    clear h51
    go_simp
    exact hK.out _ _ (Below.refl _ _) (rfl) trivial
   refine AS.sc rfl rfl rfl ?_ ?_
   ·intro k_ u w_ hk hJ hF K hK
    have h51 : u 51 = .bool true := AS.facts_get hF 51 (by simp)
    have h52 : u 52 = .int .i64 er2 := AS.facts_get hF 52 (by simp)
    clear hF
    simp only [h51, h52] at hK ⊢
    clear h51 h52
    go_simp
    exact hK.out _ _ (Below.refl _ _) (rfl) trivial
   refine AS.sc rfl rfl rfl ?_ ?_
   ·intro k_ u w_ hk hJ hF K hK
    have h51 : u 51 = .bool true := AS.facts_get hF 51 (by simp)
    have h53 : u 53 = .bool false := AS.facts_get hF 53 (by simp)
    clear hF
    simp only [h51, h53] at hK ⊢
    clear h51 h53
    go_simp
    exact hK.out _ _ (Below.refl _ _) (rfl) trivial
   refine AS.sc rfl rfl rfl ?_ ?_
   ·intro k_ u w_ hk hJ hF K hK
    have h54 : u 54 = .bool false := AS.facts_get hF 54 (by simp)
    clear hF
    simp only [h54] at hK ⊢
    clear h54
    go_simp
    exact hK.out _ _ (Below.refl _ _) (rfl) trivial
   refine AS.sc rfl rfl rfl ?_ ?_
   ·intro k_ u w_ hk hJ hF K hK
    have h55 : u 55 = .bool false := AS.facts_get hF 55 (by simp)
    clear hF
    simp only [h55] at hK ⊢
    clear h55
    go_simp
    exact hK.out _ _ (Below.refl _ _) (rfl) trivial
   refine AS.sc rfl rfl rfl ?_ ?_
   ·intro k_ u w_ hk hJ hF K hK
    have h55 : u 55 = .bool false := AS.facts_get hF 55 (by simp)
    clear hF
    simp only [h55] at hK ⊢
    clear h55
    go_simp
    exact hK.out _ _ (Below.refl _ _) (rfl) trivial
   refine AS.sc rfl rfl rfl ?_ ?_
   ·intro k_ u w_ hk hJ hF K hK
    have h55 : u 55 = .bool false := AS.facts_get hF 55 (by simp)
    have h57 : u 57 = undef := AS.facts_get hF 57 (by simp)
    clear hF
    simp only [h55, h57] at hK ⊢
    clear h55 h57
    go_simp
    exact hK.out _ _ (Below.refl _ _) (rfl) trivial
   refine AS.sc rfl rfl rfl ?_ ?_
   ·intro k_ u w_ hk hJ hF K hK
    have h58 : u 58 = .bool false := AS.facts_get hF 58 (by simp)
    clear hF
    simp only [h58] at hK ⊢
    clear h58
    go_simp
    exact hK.out _ _ (Below.refl _ _) (rfl) trivial
   refine AS.sc rfl rfl rfl ?_ ?_
   ·intro k_ u w_ hk hJ hF K hK
    have h59 : u 59 = .bool false := AS.facts_get hF 59 (by simp)
    clear hF
    simp only [h59] at hK ⊢
    clear h59
    go_simp
    exact hK.out _ _ (Below.refl _ _) (rfl) trivial
   refine AS.sc rfl rfl rfl ?_ ?_
   ·intro k_ u w_ hk hJ hF K hK
    have h59 : u 59 = .bool false := AS.facts_get hF 59 (by simp)
    clear hF
    simp only [h59] at hK ⊢
    clear h59
    go_simp
    exact hK.out _ _ (Below.refl _ _) (rfl) trivial
   refine AS.sc rfl rfl rfl ?_ ?_
   ·intro k_ u w_ hk hJ hF K hK
    have h59 : u 59 = .bool false := AS.facts_get hF 59 (by simp)
    have h61 : u 61 = undef := AS.facts_get hF 61 (by simp)
    clear hF
    simp only [h59, h61] at hK ⊢
    clear h59 h61
    go_simp
    exact hK.out _ _ (Below.refl _ _) (rfl) trivial
   refine AS.ss rfl rfl ?_ ?_
   ·intro u w_ hJ hAp hF K hK
    have h45 : u 45 = .agg #[.bool k1, .slice A1 l1 c1, .bool m1, .slice E1 p1 q1] := AS.facts_get hF 45 (by simp)
    clear hF
    obtain ⟨HR, HK2, y0, y1, y2, y3, z0, z1, z2, z3⟩ := hJ.set4 0 rfl (four_only 0 rfl) (by omega)
    clear hJ
    simp only [h45] at hK ⊢
    go_simp
    exact hK.out undef _ HR.out HK2.out
   refine AS.ss rfl rfl ?_ ?_
   ·intro u w_ hJ hAp hF K hK
    have h46 : u 46 = .agg #[.bool k2, .slice A2 l2 c2, .bool m2, .slice E2 p2 q2] := AS.facts_get hF 46 (by simp)
    clear hF
    obtain ⟨HR, HK2, y0, y1, y2, y3, z0, z1, z2, z3⟩ := hJ.set4 1 rfl (four_only 1 rfl) (by omega)
    clear hJ
    simp only [h46] at hK ⊢
    go_simp
    exact hK.out undef _ HR.out HK2.out
   refine AS.ss rfl rfl ?_ ?_
   ·intro u w_ hJ hAp hF K hK
    have h47 : u 47 = .agg #[.bool k3, .slice A3 l3 c3, .bool m3, .slice E3 p3 q3] := AS.facts_get hF 47 (by simp)
    clear hF
    obtain ⟨HR, HK2, y0, y1, y2, y3, z0, z1, z2, z3⟩ := hJ.set4 2 rfl (four_only 2 rfl) (by omega)
    clear hJ
    simp only [h47] at hK ⊢
    go_simp
    exact hK.out undef _ HR.out HK2.out
   refine AS.ss rfl rfl ?_ ?_
   ·intro u w_ hJ hAp hF K hK
    have h48 : u 48 = .agg #[.bool k4, .slice A4 l4 c4, .bool m4, .slice E4 p4 q4] := AS.facts_get hF 48 (by simp)
    clear hF
    obtain ⟨HR, HK2, y0, y1, y2, y3, z0, z1, z2, z3⟩ := hJ.set4 3 rfl (four_only 3 rfl) (by omega)
    clear hJ
    simp only [h48] at hK ⊢
    go_simp
    exact hK.out undef _ HR.out HK2.out
   refine AS.sc rfl rfl rfl ?_ ?_
   ·intro k_ u w_ hk hJ hF K hK
    have h62 : u 62 = .bool false := AS.facts_get hF 62 (by simp)
    clear hF
    simp only [h62] at hK ⊢
    clear h62
    go_simp
    exact hK.out _ _ (Below.refl _ _) (rfl) trivial
   exact AS.StepsOk.nil
  ·intro u W19 hJ9 hF
   have h8 : u 8 = .bool false := AS.facts_get hF 8 (by simp [bothFL1, AS.temps])
   clear hF
   rw [show u 8 = _ from h8]
   clear h8 hj0
   obtain ⟨⟨hbel, hsz, hkp⟩, hbx⟩ := hJ9
   clear x4_0 x4_1 x4_2 x4_3 z4_0 z4_1 z4_2 z4_3 x5_0 x5_1 x5_2 x5_3 z5_0 z5_1 z5_2 z5_3 x6_0 x6_1 x6_2 x6_3 z6_0 z6_1 z6_2 z6_3 x7_0 x7_1 x7_2 x7_3 z7_0 z7_1 z7_2 z7_3 szb s4 s5 s6 s7
   have nb : Bx 27 W19 (w.heap.size) [.bool k1, .slice A1 l1 c1, .bool m1, .slice E1 p1 q1] := hbx (27, w.heap.size, [.bool k1, .slice A1 l1 c1, .bool m1, .slice E1 p1 q1]) (by simp)
   clear b4
   have b4 := Lib.hid nb
   clear nb
   have nb : Bx 27 W19 (w.heap.size + 1) [.bool k2, .slice A2 l2 c2, .bool m2, .slice E2 p2 q2] := hbx (27, w.heap.size + 1, [.bool k2, .slice A2 l2 c2, .bool m2, .slice E2 p2 q2]) (by simp)
   clear b5
   have b5 := Lib.hid nb
   clear nb
   have nb : Bx 35 W19 (w.heap.size + 1 + 1) [.bool k3, .slice A3 l3 c3, .bool m3, .slice E3 p3 q3] := hbx (35, w.heap.size + 1 + 1, [.bool k3, .slice A3 l3 c3, .bool m3, .slice E3 p3 q3]) (by simp)
   clear b6
   have b6 := Lib.hid nb
   clear nb
   have nb : Bx 35 W19 (w.heap.size + 1 + 1 + 1) [.bool k4, .slice A4 l4 c4, .bool m4, .slice E4 p4 q4] := hbx (35, w.heap.size + 1 + 1 + 1, [.bool k4, .slice A4 l4 c4, .bool m4, .slice E4 p4 q4]) (by simp)
   clear b7
   have b7 := Lib.hid nb
   clear nb
   replace HP1 := Lib.hid (HP1.out.kept hkp)
   replace HP2 := Lib.hid (HP2.out.kept hkp)
   replace HR1 := Lib.hid (HR1.out.kept hkp)
   replace HR2 := Lib.hid (HR2.out.kept hkp)
   have HB20 := Lib.hid hbel
   clear hbel HB18 hkp hbx hsz
   obtain ⟨x4_0, x4_1, x4_2, x4_3, z4_0, z4_1, z4_2, z4_3, s4⟩ := b4.out.e4
   obtain ⟨x5_0, x5_1, x5_2, x5_3, z5_0, z5_1, z5_2, z5_3, s5⟩ := b5.out.e4
   obtain ⟨x6_0, x6_1, x6_2, x6_3, z6_0, z6_1, z6_2, z6_3, s6⟩ := b6.out.e4
   obtain ⟨x7_0, x7_1, x7_2, x7_3, z7_0, z7_1, z7_2, z7_3, s7⟩ := b7.out.e4
   have szb := HB20.out.size
   go_wp2_with fail
   have hkeep := (Keep.refl W19)
   have hbel := HB20.out
   refine bodyPost_ret (v := .tuple #[.agg #[.bool k1, .slice A1 l1 c1, .bool m1, .slice E1 p1 q1], .agg #[.bool k2, .slice A2 l2 c2, .bool m2, .slice E2 p2 q2], .agg #[.bool k3, .slice A3 l3 c3, .bool m3, .slice E3 p3 q3], .agg #[.bool k4, .slice A4 l4 c4, .bool m4, .slice E4 p4 q4], .bool false]) (by simp [results, Tryz.results19, go_sem, x4_0, x4_1, x4_2, x4_3, x5_0, x5_1, x5_2, x5_3, x6_0, x6_1, x6_2, x6_3, x7_0, x7_1, x7_2, x7_3]) rfl ⟨_, _, _, _, _, _, _, _, _, _, _, _, _, _, _, _, _, _, _, _, _, _, _, _, _, _, _, _, _, _, _, _, _, rfl, fun h => absurd h (by decide), hbel⟩
 ·have hne : (er3 == 0) = false := by simpa using hn
  clear hn
  have hj0 : JSame w W17 [(27, w.heap.size, [.bool k1, .slice A1 l1 c1, .bool m1, .slice E1 p1 q1]), (27, w.heap.size + 1, [.bool k2, .slice A2 l2 c2, .bool m2, .slice E2 p2 q2]), (35, w.heap.size + 1 + 1, [.bool k3, .slice A3 l3 c3, .bool m3, .slice E3 p3 q3]), (35, w.heap.size + 1 + 1 + 1, [.bool k4, .slice A4 l4 c4, .bool m4, .slice E4 p4 q4])] 0 [] W17.drew := ⟨⟨below_drew HB18.out, Nat.le_refl _, Keep.drew (Keep.refl _)⟩, by
   intro b_ hb_
   simp only [List.mem_cons, List.not_mem_nil, or_false] at hb_
   rcases hb_ with rfl | rfl | rfl | rfl
   ·exact (b4.out).drew
   ·exact (b5.out).drew
   ·exact (b6.out).drew
   ·exact (b7.out).drew⟩
  refine AS.region_facts (bothFL2 k1 m1 k2 m2 k3 m3 k4 m4 A1 E1 A2 E2 A3 E3 A4 E4 l1 c1 p1 q1 l2 c2 p2 q2 l3 c3 p3 q3 l4 c4 p4 q4 0 0 er3 er4) (JSame w W17 [(27, w.heap.size, [.bool k1, .slice A1 l1 c1, .bool m1, .slice E1 p1 q1]), (27, w.heap.size + 1, [.bool k2, .slice A2 l2 c2, .bool m2, .slice E2 p2 q2]), (35, w.heap.size + 1 + 1, [.bool k3, .slice A3 l3 c3, .bool m3, .slice E3 p3 q3]), (35, w.heap.size + 1 + 1 + 1, [.bool k4, .slice A4 l4 c4, .bool m4, .slice E4 p4 q4])]) [[], [], [], [], [], [49], [50], [51], [51, 52], [51, 53], [54], [55], [55, 56], [55, 57], [58], [59], [59], [59, 61], [45], [46], [47], [48], [62]] [18, 19, 20, 21] [[], [], [], [], []] [4, 4, 4, 4, 4, 4, 4, 4, 4, 4, 4, 4, 4, 4, 4, 4, 4, 4, 4, 4, 4, 4, 4] [] (fun u => by simp only [bothFL2, AS.temps, List.map_cons, List.map_nil, fillL, List.setIfInBounds_toArray, List.set_cons_zero, List.set_cons_succ]; rfl) (by kernel_rfl) (by kernel_rfl) (JSame.st _ _ _) hj0 ?_ ?_
  ·refine AS.sc rfl rfl rfl ?_ ?_
   ·intro k_ u w_ hk hJ hF K hK
    clear hF
    obtain ⟨y0, y1, y2, y3⟩ := hJ.c4 0 rfl
    clear hJ
    go_simp
    exact hK.out _ _ (Below.refl _ _) rfl trivial
   refine AS.sc rfl rfl rfl ?_ ?_
   ·intro k_ u w_ hk hJ hF K hK
    clear hF
    obtain ⟨y0, y1, y2, y3⟩ := hJ.c4 1 rfl
    clear hJ
    go_simp
    exact hK.out _ _ (Below.refl _ _) rfl trivial
   refine AS.sc rfl rfl rfl ?_ ?_
   ·intro k_ u w_ hk hJ hF K hK
    clear hF
    obtain ⟨y0, y1, y2, y3⟩ := hJ.c4 2 rfl
    clear hJ
    go_simp
    exact hK.out _ _ (Below.refl _ _) rfl trivial
   refine AS.sc rfl rfl rfl ?_ ?_
   ·intro k_ u w_ hk hJ hF K hK
    clear hF
    obtain ⟨y0, y1, y2, y3⟩ := hJ.c4 3 rfl
    clear hJ
    go_simp
    exact hK.out _ _ (Below.refl _ _) rfl trivial
   refine AS.sc rfl rfl rfl ?_ ?_
   ·intro k_ u w_ hk hJ hF K hK
    clear hF
    go_simp
    exact hK.out _ _ (Below.refl _ _) (rfl) trivial
   refine AS.sc rfl rfl rfl ?_ ?_
   ·intro k_ u w_ hk hJ hF K hK
    have h49 : u 49 = .int .i64 0 := AS.facts_get hF 49 (by simp)
    clear hF
    simp only [h49] at hK ⊢
    clear h49
    go_simp
    exact hK.out _ _ (Below.refl _ _) (rfl) trivial
   refine AS.sc rfl rfl rfl ?_ ?_
   ·intro k_ u w_ hk hJ hF K hK
    have h50 : u 50 = .bool true := AS.facts_get hF 50 (by simp)
    clear hF
    simp only [h50] at hK ⊢
    clear h50
    go_simp
    exact hK.out _ _ (Below.refl _ _) (rfl) trivial
   refine AS.sc rfl rfl rfl ?_ ?_
   ·intro k_ u w_ hk hJ hF K hK
    have h51 : u 51 = .bool true := AS.facts_get hF 51 (by simp)
    clear hF
    simp only [h51] at hK ⊢
    clear h51
    go_simp
    exact hK.out _ _ (Below.refl _ _) (rfl) trivial
   refine AS.sc rfl rfl rfl ?_ ?_
   ·intro k_ u w_ hk hJ hF K hK
    have h51 : u 51 = .bool true := AS.facts_get hF 51 (by simp)
    have h52 : u 52 = .int .i64 0 := AS.facts_get hF 52 (by simp)
    clear hF
    simp only [h51, h52] at hK ⊢
    clear h51 h52
    go_simp
    exact hK.out _ _ (Below.refl _ _) (rfl) trivial
   refine AS.sc rfl rfl rfl ?_ ?_
   ·intro k_ u w_ hk hJ hF K hK
    have h51 : u 51 = .bool true := AS.facts_get hF 51 (by simp)
    have h53 : u 53 = .bool true := AS.facts_get hF 53 (by simp)
    clear hF
    simp only [h51, h53] at hK ⊢
    clear h51 h53
    go_simp
    exact hK.out _ _ (Below.refl _ _) (rfl) trivial
   refine AS.sc rfl rfl rfl ?_ ?_
   ·intro k_ u w_ hk hJ hF K hK
    have h54 : u 54 = .bool true := AS.facts_get hF 54 (by simp)
    clear hF
    simp only [h54] at hK ⊢
    clear h54
    go_simp
    exact hK.out _ _ (Below.refl _ _) (rfl) trivial
   refine AS.sc rfl rfl rfl ?_ ?_
   ·intro k_ u w_ hk hJ hF K hK
    have h55 : u 55 = .bool true := AS.facts_get hF 55 (by simp)
    clear hF
    simp only [h55] at hK ⊢
    clear h55
    go_simp
    exact hK.out _ _ (Below.refl _ _) (rfl) trivial
   refine AS.sc rfl rfl rfl ?_ ?_
   ·intro k_ u w_ hk hJ hF K hK
    have h55 : u 55 = .bool true := AS.facts_get hF 55 (by simp)
    have h56 : u 56 = .int .i64 er3 := AS.facts_get hF 56 (by simp)
    clear hF
    simp only [h55, h56] at hK ⊢
    clear h55 h56
    go_simp
    exact hK.out _ _ (Below.refl _ _) (rfl) trivial
   refine AS.sc rfl rfl rfl ?_ ?_
   ·intro k_ u w_ hk hJ hF K hK
    have h55 : u 55 = .bool true := AS.facts_get hF 55 (by simp)
    have h57 : u 57 = .bool false := AS.facts_get hF 57 (by simp)
    clear hF
    simp only [h55, h57] at hK ⊢
    clear h55 h57
    go_simp
    exact hK.out _ _ (Below.refl _ _) (rfl) trivial
   refine AS.sc rfl rfl rfl ?_ ?_
   ·intro k_ u w_ hk hJ hF K hK
    have h58 : u 58 = .bool false := AS.facts_get hF 58 (by simp)
    clear hF
    simp only [h58] at hK ⊢
    clear h58
    go_simp
    exact hK.out _ _ (Below.refl _ _) (rfl) trivial
   refine AS.sc rfl rfl rfl ?_ ?_
   ·intro k_ u w_ hk hJ hF K hK
    have h59 : u 59 = .bool false := AS.facts_get hF 59 (by simp)
    clear hF
    simp only [h59] at hK ⊢
    clear h59
    go_simp
    exact hK.out _ _ (Below.refl _ _) (rfl) trivial
   refine AS.sc rfl rfl rfl ?_ ?_
   ·intro k_ u w_ hk hJ hF K hK
    have h59 : u 59 = .bool false := AS.facts_get hF 59 (by simp)
    clear hF
    simp only [h59] at hK ⊢
    clear h59
    go_simp
    exact hK.out _ _ (Below.refl _ _) (rfl) trivial
   refine AS.sc rfl rfl rfl ?_ ?_
   ·intro k_ u w_ hk hJ hF K hK
    have h59 : u 59 = .bool false := AS.facts_get hF 59 (by simp)
    have h61 : u 61 = undef := AS.facts_get hF 61 (by simp)
    clear hF
    simp only [h59, h61] at hK ⊢
    clear h59 h61
    go_simp
    exact hK.out _ _ (Below.refl _ _) (rfl) trivial
   refine AS.ss rfl rfl ?_ ?_
   ·intro u w_ hJ hAp hF K hK
    have h45 : u 45 = .agg #[.bool k1, .slice A1 l1 c1, .bool m1, .slice E1 p1 q1] := AS.facts_get hF 45 (by simp)
    clear hF
    obtain ⟨HR, HK2, y0, y1, y2, y3, z0, z1, z2, z3⟩ := hJ.set4 0 rfl (four_only 0 rfl) (by omega)
    clear hJ
    simp only [h45] at hK ⊢
    go_simp
    exact hK.out undef _ HR.out HK2.out
   refine AS.ss rfl rfl ?_ ?_
   ·intro u w_ hJ hAp hF K hK
    have h46 : u 46 = .agg #[.bool k2, .slice A2 l2 c2, .bool m2, .slice E2 p2 q2] := AS.facts_get hF 46 (by simp)
    clear hF
    obtain ⟨HR, HK2, y0, y1, y2, y3, z0, z1, z2, z3⟩ := hJ.set4 1 rfl (four_only 1 rfl) (by omega)
    clear hJ
    simp only [h46] at hK ⊢
    go_simp
    exact hK.out undef _ HR.out HK2.out
   refine AS.ss rfl rfl ?_ ?_
   ·intro u w_ hJ hAp hF K hK
    have h47 : u 47 = .agg #[.bool k3, .slice A3 l3 c3, .bool m3, .slice E3 p3 q3] := AS.facts_get hF 47 (by simp)
    clear hF
    obtain ⟨HR, HK2, y0, y1, y2, y3, z0, z1, z2, z3⟩ := hJ.set4 2 rfl (four_only 2 rfl) (by omega)
    clear hJ
    simp only [h47] at hK ⊢
    go_simp
    exact hK.out undef _ HR.out HK2.out
   refine AS.ss rfl rfl ?_ ?_
   ·intro u w_ hJ hAp hF K hK
    have h48 : u 48 = .agg #[.bool k4, .slice A4 l4 c4, .bool m4, .slice E4 p4 q4] := AS.facts_get hF 48 (by simp)
    clear hF
    obtain ⟨HR, HK2, y0, y1, y2, y3, z0, z1, z2, z3⟩ := hJ.set4 3 rfl (four_only 3 rfl) (by omega)
    clear hJ
    simp only [h48] at hK ⊢
    go_simp
    exact hK.out undef _ HR.out HK2.out
   refine AS.sc rfl rfl rfl ?_ ?_
   ·intro k_ u w_ hk hJ hF K hK
    have h62 : u 62 = .bool false := AS.facts_get hF 62 (by simp)
    clear hF
    simp only [h62] at hK ⊢
    clear h62
    go_simp
    exact hK.out _ _ (Below.refl _ _) (rfl) trivial
   exact AS.StepsOk.nil
  ·intro u W19 hJ9 hF
   have h8 : u 8 = .bool false := AS.facts_get hF 8 (by simp [bothFL2, AS.temps])
   clear hF
   rw [show u 8 = _ from h8]
   clear h8 hj0
   obtain ⟨⟨hbel, hsz, hkp⟩, hbx⟩ := hJ9
   clear x4_0 x4_1 x4_2 x4_3 z4_0 z4_1 z4_2 z4_3 x5_0 x5_1 x5_2 x5_3 z5_0 z5_1 z5_2 z5_3 x6_0 x6_1 x6_2 x6_3 z6_0 z6_1 z6_2 z6_3 x7_0 x7_1 x7_2 x7_3 z7_0 z7_1 z7_2 z7_3 szb s4 s5 s6 s7
   have nb : Bx 27 W19 (w.heap.size) [.bool k1, .slice A1 l1 c1, .bool m1, .slice E1 p1 q1] := hbx (27, w.heap.size, [.bool k1, .slice A1 l1 c1, .bool m1, .slice E1 p1 q1]) (by simp)
   clear b4
   have b4 := Lib.hid nb
   clear nb
   have nb : Bx 27 W19 (w.heap.size + 1) [.bool k2, .slice A2 l2 c2, .bool m2, .slice E2 p2 q2] := hbx (27, w.heap.size + 1, [.bool k2, .slice A2 l2 c2, .bool m2, .slice E2 p2 q2]) (by simp)
   clear b5
   have b5 := Lib.hid nb
   clear nb
   have nb : Bx 35 W19 (w.heap.size + 1 + 1) [.bool k3, .slice A3 l3 c3, .bool m3, .slice E3 p3 q3] := hbx (35, w.heap.size + 1 + 1, [.bool k3, .slice A3 l3 c3, .bool m3, .slice E3 p3 q3]) (by simp)
   clear b6
   have b6 := Lib.hid nb
   clear nb
   have nb : Bx 35 W19 (w.heap.size + 1 + 1 + 1) [.bool k4, .slice A4 l4 c4, .bool m4, .slice E4 p4 q4] := hbx (35, w.heap.size + 1 + 1 + 1, [.bool k4, .slice A4 l4 c4, .bool m4, .slice E4 p4 q4]) (by simp)
   clear b7
   have b7 := Lib.hid nb
   clear nb
   replace HP1 := Lib.hid (HP1.out.kept hkp)
   replace HP2 := Lib.hid (HP2.out.kept hkp)
   replace HR1 := Lib.hid (HR1.out.kept hkp)
   replace HR2 := Lib.hid (HR2.out.kept hkp)
   have HB20 := Lib.hid hbel
   clear hbel HB18 hkp hbx hsz
   obtain ⟨x4_0, x4_1, x4_2, x4_3, z4_0, z4_1, z4_2, z4_3, s4⟩ := b4.out.e4
   obtain ⟨x5_0, x5_1, x5_2, x5_3, z5_0, z5_1, z5_2, z5_3, s5⟩ := b5.out.e4
   obtain ⟨x6_0, x6_1, x6_2, x6_3, z6_0, z6_1, z6_2, z6_3, s6⟩ := b6.out.e4
   obtain ⟨x7_0, x7_1, x7_2, x7_3, z7_0, z7_1, z7_2, z7_3, s7⟩ := b7.out.e4
   have szb := HB20.out.size
   go_wp2_with fail
   have hkeep := (Keep.refl W19)
   have hbel := HB20.out
   refine bodyPost_ret (v := .tuple #[.agg #[.bool k1, .slice A1 l1 c1, .bool m1, .slice E1 p1 q1], .agg #[.bool k2, .slice A2 l2 c2, .bool m2, .slice E2 p2 q2], .agg #[.bool k3, .slice A3 l3 c3, .bool m3, .slice E3 p3 q3], .agg #[.bool k4, .slice A4 l4 c4, .bool m4, .slice E4 p4 q4], .bool false]) (by simp [results, Tryz.results19, go_sem, x4_0, x4_1, x4_2, x4_3, x5_0, x5_1, x5_2, x5_3, x6_0, x6_1, x6_2, x6_3, x7_0, x7_1, x7_2, x7_3]) rfl ⟨_, _, _, _, _, _, _, _, _, _, _, _, _, _, _, _, _, _, _, _, _, _, _, _, _, _, _, _, _, _, _, _, _, rfl, fun h => absurd h (by decide), hbel⟩
 ·have hne : (er4 == 0) = false := by simpa using hn
  clear hn
  have hj0 : JSame w W17 [(27, w.heap.size, [.bool k1, .slice A1 l1 c1, .bool m1, .slice E1 p1 q1]), (27, w.heap.size + 1, [.bool k2, .slice A2 l2 c2, .bool m2, .slice E2 p2 q2]), (35, w.heap.size + 1 + 1, [.bool k3, .slice A3 l3 c3, .bool m3, .slice E3 p3 q3]), (35, w.heap.size + 1 + 1 + 1, [.bool k4, .slice A4 l4 c4, .bool m4, .slice E4 p4 q4])] 0 [] W17.drew := ⟨⟨below_drew HB18.out, Nat.le_refl _, Keep.drew (Keep.refl _)⟩, by
   intro b_ hb_
   simp only [List.mem_cons, List.not_mem_nil, or_false] at hb_
   rcases hb_ with rfl | rfl | rfl | rfl
   ·exact (b4.out).drew
   ·exact (b5.out).drew
   ·exact (b6.out).drew
   ·exact (b7.out).drew⟩
  refine AS.region_facts (bothFL3 k1 m1 k2 m2 k3 m3 k4 m4 A1 E1 A2 E2 A3 E3 A4 E4 l1 c1 p1 q1 l2 c2 p2 q2 l3 c3 p3 q3 l4 c4 p4 q4 0 0 0 er4) (JSame w W17 [(27, w.heap.size, [.bool k1, .slice A1 l1 c1, .bool m1, .slice E1 p1 q1]), (27, w.heap.size + 1, [.bool k2, .slice A2 l2 c2, .bool m2, .slice E2 p2 q2]), (35, w.heap.size + 1 + 1, [.bool k3, .slice A3 l3 c3, .bool m3, .slice E3 p3 q3]), (35, w.heap.size + 1 + 1 + 1, [.bool k4, .slice A4 l4 c4, .bool m4, .slice E4 p4 q4])]) [[], [], [], [], [], [49], [50], [51], [51, 52], [51, 53], [54], [55], [55, 56], [55, 57], [58], [59], [59, 60], [59, 61], [45], [46], [47], [48], [62]] [18, 19, 20, 21] [[], [], [], [], []] [4, 4, 4, 4, 4, 4, 4, 4, 4, 4, 4, 4, 4, 4, 4, 4, 4, 4, 4, 4, 4, 4, 4] [] (fun u => by simp only [bothFL3, AS.temps, List.map_cons, List.map_nil, fillL, List.setIfInBounds_toArray, List.set_cons_zero, List.set_cons_succ]; rfl) (by kernel_rfl) (by kernel_rfl) (JSame.st _ _ _) hj0 ?_ ?_
  ·refine AS.sc rfl rfl rfl ?_ ?_
   ·intro k_ u w_ hk hJ hF K hK
    clear hF
    obtain ⟨y0, y1, y2, y3⟩ := hJ.c4 0 rfl
    clear hJ
    go_simp
    exact hK.out _ _ (Below.refl _ _) rfl trivial
   refine AS.sc rfl rfl rfl ?_ ?_
   ·intro k_ u w_ hk hJ hF K hK
    clear hF
    obtain ⟨y0, y1, y2, y3⟩ := hJ.c4 1 rfl
    clear hJ
    go_simp
    exact hK.out _ _ (Below.refl _ _) rfl trivial
   refine AS.sc rfl rfl rfl ?_ ?_
   ·intro k_ u w_ hk hJ hF K hK
    clear hF
    obtain ⟨y0, y1, y2, y3⟩ := hJ.c4 2 rfl
    clear hJ
    go_simp
    exact hK.out _ _ (Below.refl _ _) rfl trivial
   refine AS.sc rfl rfl rfl ?_ ?_
   ·intro k_ u w_ hk hJ hF K hK
    clear hF
    obtain ⟨y0, y1, y2, y3⟩ := hJ.c4 3 rfl
    clear hJ
    go_simp
    exact hK.out _ _ (Below.refl _ _) rfl trivial
   refine AS.sc rfl rfl rfl ?_ ?_
   ·intro k_ u w_ hk hJ hF K hK
    clear hF
    go_simp
    exact hK.out _ _ (Below.refl _ _) (rfl) trivial
   refine AS.sc rfl rfl rfl ?_ ?_
   ·intro k_ u w_ hk hJ hF K hK
    have h49 : u 49 = .int .i64 0 := AS.facts_get hF 49 (by simp)
    clear hF
    simp only [h49] at hK ⊢
    clear h49
    go_simp
    exact hK.out _ _ (Below.refl _ _) (rfl) trivial
   refine AS.sc rfl rfl rfl ?_ ?_
   ·intro k_ u w_ hk hJ hF K hK
    have h50 : u 50 = .bool true := AS.facts_get hF 50 (by simp)
    clear hF
    simp only [h50] at hK ⊢
    clear h50
    go_simp
    exact hK.out _ _ (Below.refl _ _) (rfl) trivial
   refine AS.sc rfl rfl rfl ?_ ?_
   ·intro k_ u w_ hk hJ hF K hK
    have h51 : u 51 = .bool true := AS.facts_get hF 51 (by simp)
    clear hF
    simp only [h51] at hK ⊢
    clear h51
    go_simp
    exact hK.out _ _ (Below.refl _ _) (rfl) trivial
   refine AS.sc rfl rfl rfl ?_ ?_
   ·intro k_ u w_ hk hJ hF K hK
    have h51 : u 51 = .bool true := AS.facts_get hF 51 (by simp)
    have h52 : u 52 = .int .i64 0 := AS.facts_get hF 52 (by simp)
    clear hF
    simp only [h51, h52] at hK ⊢
    clear h51 h52
    go_simp
    exact hK.out _ _ (Below.refl _ _) (rfl) trivial
   refine AS.sc rfl rfl rfl ?_ ?_
   ·intro k_ u w_ hk hJ hF K hK
    have h51 : u 51 = .bool true := AS.facts_get hF 51 (by simp)
    have h53 : u 53 = .bool true := AS.facts_get hF 53 (by simp)
    clear hF
    simp only [h51, h53] at hK ⊢
    clear h51 h53
    go_simp
    exact hK.out _ _ (Below.refl _ _) (rfl) trivial
   refine AS.sc rfl rfl rfl ?_ ?_
   ·intro k_ u w_ hk hJ hF K hK
    have h54 : u 54 = .bool true := AS.facts_get hF 54 (by simp)
    clear hF
    simp only [h54] at hK ⊢
    clear h54
    go_simp
    exact hK.out _ _ (Below.refl _ _) (rfl) trivial
   refine AS.sc rfl rfl rfl ?_ ?_
   ·intro k_ u w_ hk hJ hF K hK
    have h55 : u 55 = .bool true := AS.facts_get hF 55 (by simp)
    clear hF
    simp only [h55] at hK ⊢
    clear h55
    go_simp
    exact hK.out _ _ (Below.refl _ _) (rfl) trivial
   refine AS.sc rfl rfl rfl ?_ ?_
   ·intro k_ u w_ hk hJ hF K hK
    have h55 : u 55 = .bool true := AS.facts_get hF 55 (by simp)
    have h56 : u 56 = .int .i64 0 := AS.facts_get hF 56 (by simp)
    clear hF
    simp only [h55, h56] at hK ⊢
    clear h55 h56
    go_simp
    exact hK.out _ _ (Below.refl _ _) (rfl) trivial
   refine AS.sc rfl rfl rfl ?_ ?_
   ·intro k_ u w_ hk hJ hF K hK
    have h55 : u 55 = .bool true := AS.facts_get hF 55 (by simp)
    have h57 : u 57 = .bool true := AS.facts_get hF 57 (by simp)
    clear hF
    simp only [h55, h57] at hK ⊢
    clear h55 h57
    go_simp
    exact hK.out _ _ (Below.refl _ _) (rfl) trivial
   refine AS.sc rfl rfl rfl ?_ ?_
   ·intro k_ u w_ hk hJ hF K hK
    have h58 : u 58 = .bool true := AS.facts_get hF 58 (by simp)
    clear hF
    simp only [h58] at hK ⊢
    clear h58
    go_simp
    exact hK.out _ _ (Below.refl _ _) (rfl) trivial
   refine AS.sc rfl rfl rfl ?_ ?_
   ·intro k_ u w_ hk hJ hF K hK
    have h59 : u 59 = .bool true := AS.facts_get hF 59 (by simp)
    clear hF
    simp only [h59] at hK ⊢
    clear h59
    go_simp
    exact hK.out _ _ (Below.refl _ _) (rfl) trivial
   refine AS.sc rfl rfl rfl ?_ ?_
   ·intro k_ u w_ hk hJ hF K hK
    have h59 : u 59 = .bool true := AS.facts_get hF 59 (by simp)
    have h60 : u 60 = .int .i64 er4 := AS.facts_get hF 60 (by simp)
    clear hF
    simp only [h59, h60] at hK ⊢
    clear h59 h60
    go_simp
    exact hK.out _ _ (Below.refl _ _) (rfl) trivial
   refine AS.sc rfl rfl rfl ?_ ?_
   ·intro k_ u w_ hk hJ hF K hK
    have h59 : u 59 = .bool true := AS.facts_get hF 59 (by simp)
    have h61 : u 61 = .bool false := AS.facts_get hF 61 (by simp)
    clear hF
    simp only [h59, h61] at hK ⊢
    clear h59 h61
    go_simp
    exact hK.out _ _ (Below.refl _ _) (rfl) trivial
   refine AS.ss rfl rfl ?_ ?_
   ·intro u w_ hJ hAp hF K hK
    have h45 : u 45 = .agg #[.bool k1, .slice A1 l1 c1, .bool m1, .slice E1 p1 q1] := AS.facts_get hF 45 (by simp)
    clear hF
    obtain ⟨HR, HK2, y0, y1, y2, y3, z0, z1, z2, z3⟩ := hJ.set4 0 rfl (four_only 0 rfl) (by omega)
    clear hJ
    simp only [h45] at hK ⊢
    go_simp
    exact hK.out undef _ HR.out HK2.out
   refine AS.ss rfl rfl ?_ ?_
   ·intro u w_ hJ hAp hF K hK
    have h46 : u 46 = .agg #[.bool k2, .slice A2 l2 c2, .bool m2, .slice E2 p2 q2] := AS.facts_get hF 46 (by simp)
    clear hF
    obtain ⟨HR, HK2, y0, y1, y2, y3, z0, z1, z2, z3⟩ := hJ.set4 1 rfl (four_only 1 rfl) (by omega)
    clear hJ
    simp only [h46] at hK ⊢
    go_simp
    exact hK.out undef _ HR.out HK2.out
   refine AS.ss rfl rfl ?_ ?_
   ·intro u w_ hJ hAp hF K hK
    have h47 : u 47 = .agg #[.bool k3, .slice A3 l3 c3, .bool m3, .slice E3 p3 q3] := AS.facts_get hF 47 (by simp)
    clear hF
    obtain ⟨HR, HK2, y0, y1, y2, y3, z0, z1, z2, z3⟩ := hJ.set4 2 rfl (four_only 2 rfl) (by omega)
    clear hJ
    simp only [h47] at hK ⊢
    go_simp
    exact hK.out undef _ HR.out HK2.out
   refine AS.ss rfl rfl ?_ ?_
   ·intro u w_ hJ hAp hF K hK
    have h48 : u 48 = .agg #[.bool k4, .slice A4 l4 c4, .bool m4, .slice E4 p4 q4] := AS.facts_get hF 48 (by simp)
    clear hF
    obtain ⟨HR, HK2, y0, y1, y2, y3, z0, z1, z2, z3⟩ := hJ.set4 3 rfl (four_only 3 rfl) (by omega)
    clear hJ
    simp only [h48] at hK ⊢
    go_simp
    exact hK.out undef _ HR.out HK2.out
   refine AS.sc rfl rfl rfl ?_ ?_
   ·intro k_ u w_ hk hJ hF K hK
    have h62 : u 62 = .bool false := AS.facts_get hF 62 (by simp)
    clear hF
    simp only [h62] at hK ⊢
    clear h62
    go_simp
    exact hK.out _ _ (Below.refl _ _) (rfl) trivial
   exact AS.StepsOk.nil
  ·intro u W19 hJ9 hF
   have h8 : u 8 = .bool false := AS.facts_get hF 8 (by simp [bothFL3, AS.temps])
   clear hF
   rw [show u 8 = _ from h8]
   clear h8 hj0
   obtain ⟨⟨hbel, hsz, hkp⟩, hbx⟩ := hJ9
   clear x4_0 x4_1 x4_2 x4_3 z4_0 z4_1 z4_2 z4_3 x5_0 x5_1 x5_2 x5_3 z5_0 z5_1 z5_2 z5_3 x6_0 x6_1 x6_2 x6_3 z6_0 z6_1 z6_2 z6_3 x7_0 x7_1 x7_2 x7_3 z7_0 z7_1 z7_2 z7_3 szb s4 s5 s6 s7
   have nb : Bx 27 W19 (w.heap.size) [.bool k1, .slice A1 l1 c1, .bool m1, .slice E1 p1 q1] := hbx (27, w.heap.size, [.bool k1, .slice A1 l1 c1, .bool m1, .slice E1 p1 q1]) (by simp)
   clear b4
   have b4 := Lib.hid nb
   clear nb
   have nb : Bx 27 W19 (w.heap.size + 1) [.bool k2, .slice A2 l2 c2, .bool m2, .slice E2 p2 q2] := hbx (27, w.heap.size + 1, [.bool k2, .slice A2 l2 c2, .bool m2, .slice E2 p2 q2]) (by simp)
   clear b5
   have b5 := Lib.hid nb
   clear nb
   have nb : Bx 35 W19 (w.heap.size + 1 + 1) [.bool k3, .slice A3 l3 c3, .bool m3, .slice E3 p3 q3] := hbx (35, w.heap.size + 1 + 1, [.bool k3, .slice A3 l3 c3, .bool m3, .slice E3 p3 q3]) (by simp)
   clear b6
   have b6 := Lib.hid nb
   clear nb
   have nb : Bx 35 W19 (w.heap.size + 1 + 1 + 1) [.bool k4, .slice A4 l4 c4, .bool m4, .slice E4 p4 q4] := hbx (35, w.heap.size + 1 + 1 + 1, [.bool k4, .slice A4 l4 c4, .bool m4, .slice E4 p4 q4]) (by simp)
   clear b7
   have b7 := Lib.hid nb
   clear nb
   replace HP1 := Lib.hid (HP1.out.kept hkp)
   replace HP2 := Lib.hid (HP2.out.kept hkp)
   replace HR1 := Lib.hid (HR1.out.kept hkp)
   replace HR2 := Lib.hid (HR2.out.kept hkp)
   have HB20 := Lib.hid hbel
   clear hbel HB18 hkp hbx hsz
   obtain ⟨x4_0, x4_1, x4_2, x4_3, z4_0, z4_1, z4_2, z4_3, s4⟩ := b4.out.e4
   obtain ⟨x5_0, x5_1, x5_2, x5_3, z5_0, z5_1, z5_2, z5_3, s5⟩ := b5.out.e4
   obtain ⟨x6_0, x6_1, x6_2, x6_3, z6_0, z6_1, z6_2, z6_3, s6⟩ := b6.out.e4
   obtain ⟨x7_0, x7_1, x7_2, x7_3, z7_0, z7_1, z7_2, z7_3, s7⟩ := b7.out.e4
   have szb := HB20.out.size
   go_wp2_with fail
   have hkeep := (Keep.refl W19)
   have hbel := HB20.out
   refine bodyPost_ret (v := .tuple #[.agg #[.bool k1, .slice A1 l1 c1, .bool m1, .slice E1 p1 q1], .agg #[.bool k2, .slice A2 l2 c2, .bool m2, .slice E2 p2 q2], .agg #[.bool k3, .slice A3 l3 c3, .bool m3, .slice E3 p3 q3], .agg #[.bool k4, .slice A4 l4 c4, .bool m4, .slice E4 p4 q4], .bool false]) (by simp [results, Tryz.results19, go_sem, x4_0, x4_1, x4_2, x4_3, x5_0, x5_1, x5_2, x5_3, x6_0, x6_1, x6_2, x6_3, x7_0, x7_1, x7_2, x7_3]) rfl ⟨_, _, _, _, _, _, _, _, _, _, _, _, _, _, _, _, _, _, _, _, _, _, _, _, _, _, _, _, _, _, _, _, _, rfl, fun h => absurd h (by decide), hbel⟩
 ·have hj0 : JSame w W17 [(27, w.heap.size, [.bool k1, .slice A1 l1 c1, .bool m1, .slice E1 p1 q1]), (27, w.heap.size + 1, [.bool k2, .slice A2 l2 c2, .bool m2, .slice E2 p2 q2]), (35, w.heap.size + 1 + 1, [.bool k3, .slice A3 l3 c3, .bool m3, .slice E3 p3 q3]), (35, w.heap.size + 1 + 1 + 1, [.bool k4, .slice A4 l4 c4, .bool m4, .slice E4 p4 q4])] 0 [] W17.drew := ⟨⟨below_drew HB18.out, Nat.le_refl _, Keep.drew (Keep.refl _)⟩, by
   intro b_ hb_
   simp only [List.mem_cons, List.not_mem_nil, or_false] at hb_
   rcases hb_ with rfl | rfl | rfl | rfl
   ·exact (b4.out).drew
   ·exact (b5.out).drew
   ·exact (b6.out).drew
   ·exact (b7.out).drew⟩
  refine AS.region_facts (bothFL4 k1 m1 k2 m2 k3 m3 k4 m4 A1 E1 A2 E2 A3 E3 A4 E4 l1 c1 p1 q1 l2 c2 p2 q2 l3 c3 p3 q3 l4 c4 p4 q4 0 0 0 0) (JSame w W17 [(27, w.heap.size, [.bool k1, .slice A1 l1 c1, .bool m1, .slice E1 p1 q1]), (27, w.heap.size + 1, [.bool k2, .slice A2 l2 c2, .bool m2, .slice E2 p2 q2]), (35, w.heap.size + 1 + 1, [.bool k3, .slice A3 l3 c3, .bool m3, .slice E3 p3 q3]), (35, w.heap.size + 1 + 1 + 1, [.bool k4, .slice A4 l4 c4, .bool m4, .slice E4 p4 q4])]) [[], [], [], [], [], [49], [50], [51], [51, 52], [51, 53], [54], [55], [55, 56], [55, 57], [58], [59], [59, 60], [59, 61], [45], [46], [47], [48], [62]] [18, 19, 20, 21] [[], [], [], [], []] [4, 4, 4, 4, 4, 4, 4, 4, 4, 4, 4, 4, 4, 4, 4, 4, 4, 4, 4, 4, 4, 4, 4] [] (fun u => by simp only [bothFL4, AS.temps, List.map_cons, List.map_nil, fillL, List.setIfInBounds_toArray, List.set_cons_zero, List.set_cons_succ]; rfl) (by kernel_rfl) (by kernel_rfl) (JSame.st _ _ _) hj0 ?_ ?_
  ·refine AS.sc rfl rfl rfl ?_ ?_
   ·intro k_ u w_ hk hJ hF K hK
    clear hF
    obtain ⟨y0, y1, y2, y3⟩ := hJ.c4 0 rfl
    clear hJ
    go_simp
    exact hK.out _ _ (Below.refl _ _) rfl trivial
   refine AS.sc rfl rfl rfl ?_ ?_
   ·intro k_ u w_ hk hJ hF K hK
    clear hF
    obtain ⟨y0, y1, y2, y3⟩ := hJ.c4 1 rfl
    clear hJ
    go_simp
    exact hK.out _ _ (Below.refl _ _) rfl trivial
   refine AS.sc rfl rfl rfl ?_ ?_
   ·intro k_ u w_ hk hJ hF K hK
    clear hF
    obtain ⟨y0, y1, y2, y3⟩ := hJ.c4 2 rfl
    clear hJ
    go_simp
    exact hK.out _ _ (Below.refl _ _) rfl trivial
   refine AS.sc rfl rfl rfl ?_ ?_
   ·intro k_ u w_ hk hJ hF K hK
    clear hF
    obtain ⟨y0, y1, y2, y3⟩ := hJ.c4 3 rfl
    clear hJ
    go_simp
    exact hK.out _ _ (Below.refl _ _) rfl trivial
   refine AS.sc rfl rfl rfl ?_ ?_
   ·intro k_ u w_ hk hJ hF K hK
    clear hF
    go_simp
    exact hK.out _ _ (Below.refl _ _) (rfl) trivial
   refine AS.sc rfl rfl rfl ?_ ?_
   ·intro k_ u w_ hk hJ hF K hK
    have h49 : u 49 = .int .i64 0 := AS.facts_get hF 49 (by simp)
    clear hF
    simp only [h49] at hK ⊢
    clear h49
    go_simp
    exact hK.out _ _ (Below.refl _ _) (rfl) trivial
   refine AS.sc rfl rfl rfl ?_ ?_
   ·intro k_ u w_ hk hJ hF K hK
    have h50 : u 50 = .bool true := AS.facts_get hF 50 (by simp)
    clear hF
    simp only [h50] at hK ⊢
    clear h50
    go_simp
    exact hK.out _ _ (Below.refl _ _) (rfl) trivial
   refine AS.sc rfl rfl rfl ?_ ?_
   ·intro k_ u w_ hk hJ hF K hK
    have h51 : u 51 = .bool true := AS.facts_get hF 51 (by simp)
    clear hF
    simp only [h51] at hK ⊢
    clear h51
    go_simp
    exact hK.out _ _ (Below.refl _ _) (rfl) trivial
   refine AS.sc rfl rfl rfl ?_ ?_
   ·intro k_ u w_ hk hJ hF K hK
    have h51 : u 51 = .bool true := AS.facts_get hF 51 (by simp)
    have h52 : u 52 = .int .i64 0 := AS.facts_get hF 52 (by simp)
    clear hF
    simp only [h51, h52] at hK ⊢
    clear h51 h52
    go_simp
    exact hK.out _ _ (Below.refl _ _) (rfl) trivial
   refine AS.sc rfl rfl rfl ?_ ?_
   ·intro k_ u w_ hk hJ hF K hK
    have h51 : u 51 = .bool true := AS.facts_get hF 51 (by simp)
    have h53 : u 53 = .bool true := AS.facts_get hF 53 (by simp)
    clear hF
    simp only [h51, h53] at hK ⊢
    clear h51 h53
    go_simp
    exact hK.out _ _ (Below.refl _ _) (rfl) trivial
   refine AS.sc rfl rfl rfl ?_ ?_
   ·intro k_ u w_ hk hJ hF K hK
    have h54 : u 54 = .bool true := AS.facts_get hF 54 (by simp)
    clear hF
    simp only [h54] at hK ⊢
    clear h54
    go_simp
    exact hK.out _ _ (Below.refl _ _) (rfl) trivial
   refine AS.sc rfl rfl rfl ?_ ?_
   ·intro k_ u w_ hk hJ hF K hK
    have h55 : u 55 = .bool true := AS.facts_get hF 55 (by simp)
    clear hF
    simp only [h55] at hK ⊢
    clear h55
    go_simp
    exact hK.out _ _ (Below.refl _ _) (rfl) trivial
   refine AS.sc rfl rfl rfl ?_ ?_
   ·intro k_ u w_ hk hJ hF K hK
    have h55 : u 55 = .bool true := AS.facts_get hF 55 (by simp)
    have h56 : u 56 = .int .i64 0 := AS.facts_get hF 56 (by simp)
    clear hF
    simp only [h55, h56] at hK ⊢
    clear h55 h56
    go_simp
    exact hK.out _ _ (Below.refl _ _) (rfl) trivial
   refine AS.sc rfl rfl rfl ?_ ?_
   ·intro k_ u w_ hk hJ hF K hK
    have h55 : u 55 = .bool true := AS.facts_get hF 55 (by simp)
    have h57 : u 57 = .bool true := AS.facts_get hF 57 (by simp)
    clear hF
    simp only [h55, h57] at hK ⊢
    clear h55 h57
    go_simp
    exact hK.out _ _ (Below.refl _ _) (rfl) trivial
   refine AS.sc rfl rfl rfl ?_ ?_
   ·intro k_ u w_ hk hJ hF K hK
    have h58 : u 58 = .bool true := AS.facts_get hF 58 (by simp)
    clear hF
    simp only [h58] at hK ⊢
    clear h58
    go_simp
    exact hK.out _ _ (Below.refl _ _) (rfl) trivial
   refine AS.sc rfl rfl rfl ?_ ?_
   ·intro k_ u w_ hk hJ hF K hK
    have h59 : u 59 = .bool true := AS.facts_get hF 59 (by simp)
    clear hF
    simp only [h59] at hK ⊢
    clear h59
    go_simp
    exact hK.out _ _ (Below.refl _ _) (rfl) trivial
   refine AS.sc rfl rfl rfl ?_ ?_
   ·intro k_ u w_ hk hJ hF K hK
    have h59 : u 59 = .bool true := AS.facts_get hF 59 (by simp)
    have h60 : u 60 = .int .i64 0 := AS.facts_get hF 60 (by simp)
    clear hF
    simp only [h59, h60] at hK ⊢
    clear h59 h60
    go_simp
    exact hK.out _ _ (Below.refl _ _) (rfl) trivial
   refine AS.sc rfl rfl rfl ?_ ?_
   ·intro k_ u w_ hk hJ hF K hK
    have h59 : u 59 = .bool true := AS.facts_get hF 59 (by simp)
    have h61 : u 61 = .bool true := AS.facts_get hF 61 (by simp)
    clear hF
    simp only [h59, h61] at hK ⊢
    clear h59 h61
    go_simp
    exact hK.out _ _ (Below.refl _ _) (rfl) trivial
   refine AS.ss rfl rfl ?_ ?_
   ·intro u w_ hJ hAp hF K hK
    have h45 : u 45 = .agg #[.bool k1, .slice A1 l1 c1, .bool m1, .slice E1 p1 q1] := AS.facts_get hF 45 (by simp)
    clear hF
    obtain ⟨HR, HK2, y0, y1, y2, y3, z0, z1, z2, z3⟩ := hJ.set4 0 rfl (four_only 0 rfl) (by omega)
    clear hJ
    simp only [h45] at hK ⊢
    go_simp
    exact hK.out undef _ HR.out HK2.out
   refine AS.ss rfl rfl ?_ ?_
   ·intro u w_ hJ hAp hF K hK
    have h46 : u 46 = .agg #[.bool k2, .slice A2 l2 c2, .bool m2, .slice E2 p2 q2] := AS.facts_get hF 46 (by simp)
    clear hF
    obtain ⟨HR, HK2, y0, y1, y2, y3, z0, z1, z2, z3⟩ := hJ.set4 1 rfl (four_only 1 rfl) (by omega)
    clear hJ
    simp only [h46] at hK ⊢
    go_simp
    exact hK.out undef _ HR.out HK2.out
   refine AS.ss rfl rfl ?_ ?_
   ·intro u w_ hJ hAp hF K hK
    have h47 : u 47 = .agg #[.bool k3, .slice A3 l3 c3, .bool m3, .slice E3 p3 q3] := AS.facts_get hF 47 (by simp)
    clear hF
    obtain ⟨HR, HK2, y0, y1, y2, y3, z0, z1, z2, z3⟩ := hJ.set4 2 rfl (four_only 2 rfl) (by omega)
    clear hJ
    simp only [h47] at hK ⊢
    go_simp
    exact hK.out undef _ HR.out HK2.out
   refine AS.ss rfl rfl ?_ ?_
   ·intro u w_ hJ hAp hF K hK
    have h48 : u 48 = .agg #[.bool k4, .slice A4 l4 c4, .bool m4, .slice E4 p4 q4] := AS.facts_get hF 48 (by simp)
    clear hF
    obtain ⟨HR, HK2, y0, y1, y2, y3, z0, z1, z2, z3⟩ := hJ.set4 3 rfl (four_only 3 rfl) (by omega)
    clear hJ
    simp only [h48] at hK ⊢
    go_simp
    exact hK.out undef _ HR.out HK2.out
   refine AS.sc rfl rfl rfl ?_ ?_
   ·intro k_ u w_ hk hJ hF K hK
    have h62 : u 62 = .bool true := AS.facts_get hF 62 (by simp)
    clear hF
    simp only [h62] at hK ⊢
    clear h62
    go_simp
    exact hK.out _ _ (Below.refl _ _) (rfl) trivial
   exact AS.StepsOk.nil
  ·intro u W19 hJ9 hF
   have h8 : u 8 = .bool true := AS.facts_get hF 8 (by simp [bothFL4, AS.temps])
   clear hF
   rw [show u 8 = _ from h8]
   clear h8 hj0
   obtain ⟨⟨hbel, hsz, hkp⟩, hbx⟩ := hJ9
   clear x4_0 x4_1 x4_2 x4_3 z4_0 z4_1 z4_2 z4_3 x5_0 x5_1 x5_2 x5_3 z5_0 z5_1 z5_2 z5_3 x6_0 x6_1 x6_2 x6_3 z6_0 z6_1 z6_2 z6_3 x7_0 x7_1 x7_2 x7_3 z7_0 z7_1 z7_2 z7_3 szb s4 s5 s6 s7
   have nb : Bx 27 W19 (w.heap.size) [.bool k1, .slice A1 l1 c1, .bool m1, .slice E1 p1 q1] := hbx (27, w.heap.size, [.bool k1, .slice A1 l1 c1, .bool m1, .slice E1 p1 q1]) (by simp)
   clear b4
   have b4 := Lib.hid nb
   clear nb
   have nb : Bx 27 W19 (w.heap.size + 1) [.bool k2, .slice A2 l2 c2, .bool m2, .slice E2 p2 q2] := hbx (27, w.heap.size + 1, [.bool k2, .slice A2 l2 c2, .bool m2, .slice E2 p2 q2]) (by simp)
   clear b5
   have b5 := Lib.hid nb
   clear nb
   have nb : Bx 35 W19 (w.heap.size + 1 + 1) [.bool k3, .slice A3 l3 c3, .bool m3, .slice E3 p3 q3] := hbx (35, w.heap.size + 1 + 1, [.bool k3, .slice A3 l3 c3, .bool m3, .slice E3 p3 q3]) (by simp)
   clear b6
   have b6 := Lib.hid nb
   clear nb
   have nb : Bx 35 W19 (w.heap.size + 1 + 1 + 1) [.bool k4, .slice A4 l4 c4, .bool m4, .slice E4 p4 q4] := hbx (35, w.heap.size + 1 + 1 + 1, [.bool k4, .slice A4 l4 c4, .bool m4, .slice E4 p4 q4]) (by simp)
   clear b7
   have b7 := Lib.hid nb
   clear nb
   replace HP1 := Lib.hid (HP1.out.kept hkp)
   replace HP2 := Lib.hid (HP2.out.kept hkp)
   replace HR1 := Lib.hid (HR1.out.kept hkp)
   replace HR2 := Lib.hid (HR2.out.kept hkp)
   have HB20 := Lib.hid hbel
   clear hbel HB18 hkp hbx hsz
   obtain ⟨x4_0, x4_1, x4_2, x4_3, z4_0, z4_1, z4_2, z4_3, s4⟩ := b4.out.e4
   obtain ⟨x5_0, x5_1, x5_2, x5_3, z5_0, z5_1, z5_2, z5_3, s5⟩ := b5.out.e4
   obtain ⟨x6_0, x6_1, x6_2, x6_3, z6_0, z6_1, z6_2, z6_3, s6⟩ := b6.out.e4
   obtain ⟨x7_0, x7_1, x7_2, x7_3, z7_0, z7_1, z7_2, z7_3, s7⟩ := b7.out.e4
   have szb := HB20.out.size
   go_wp2_with fail
   have hkeep := (Keep.refl W19)
   have hbel := HB20.out
   refine bodyPost_ret (v := .tuple #[.agg #[.bool k1, .slice A1 l1 c1, .bool m1, .slice E1 p1 q1], .agg #[.bool k2, .slice A2 l2 c2, .bool m2, .slice E2 p2 q2], .agg #[.bool k3, .slice A3 l3 c3, .bool m3, .slice E3 p3 q3], .agg #[.bool k4, .slice A4 l4 c4, .bool m4, .slice E4 p4 q4], .bool true]) (by simp [results, Tryz.results19, go_sem, x4_0, x4_1, x4_2, x4_3, x5_0, x5_1, x5_2, x5_3, x6_0, x6_1, x6_2, x6_3, x7_0, x7_1, x7_2, x7_3]) rfl ⟨_, _, _, _, _, _, _, _, _, _, _, _, _, _, _, _, _, _, _, _, _, _, _, _, _, _, _, _, _, _, _, _, _, rfl, fun _ => ⟨HP1.out rfl, HP2.out rfl, HR1.out rfl, HR2.out rfl⟩, hbel⟩
theorem both_fact (s t : ByteArray) (w : World) (hm : MaxOk w) :
  Calls Tryz.prog 19 #[.string s, .string t] w fun e w' => ∃ k1 A1 l1 c1 m1 E1 p1 q1 k2 A2 l2 c2 m2 E2 p2 q2 k3 A3 l3 c3 m3 E3 p3 q3 k4 A4 l4 c4 m4 E4 p4 q4 ok, e = .returned (.tuple #[(.agg #[.bool k1, .slice A1 l1 c1, .bool m1, .slice E1 p1 q1]), (.agg #[.bool k2, .slice A2 l2 c2, .bool m2, .slice E2 p2 q2]), (.agg #[.bool k3, .slice A3 l3 c3, .bool m3, .slice E3 p3 q3]), (.agg #[.bool k4, .slice A4 l4 c4, .bool m4, .slice E4 p4 q4]), .bool ok]) ∧ (ok = true → PRat (ratV s.data.toList) 223 (.agg #[.bool k1, .slice A1 l1 c1, .bool m1, .slice E1 p1 q1]) w' ∧ PRat (ratV t.data.toList) 223 (.agg #[.bool k2, .slice A2 l2 c2, .bool m2, .slice E2 p2 q2]) w' ∧ RRat (ratV s.data.toList) 500 (.agg #[.bool k3, .slice A3 l3 c3, .bool m3, .slice E3 p3 q3]) w' ∧ RRat (ratV t.data.toList) 500 (.agg #[.bool k4, .slice A4 l4 c4, .bool m4, .slice E4 p4 q4]) w') ∧ Below w.heap.size w w' := by
 by_cases h1 : s.size ≤ 400
 ·by_cases h2 : t.size ≤ 400
  ·exact both_short hm ⟨h1, h2⟩
  ·exact both_l2 hm trivial (by simp; omega) (by simp; omega)
 ·exact both_l1 hm trivial (by simp; omega)
structure OkP (ok : Bool) (x y : Rat) (v1 v2 v3 v4 : Value) (w : World) : Prop where
 mk ::
 go : ok = true → PRat x 223 v1 w ∧ PRat y 223 v2 w ∧ RRat x 500 v3 w ∧ RRat y 500 v4 w
theorem OkP.kept {ok : Bool} {x y : Rat} {v1 v2 v3 v4 : Value} {w w' : World} (h : OkP ok x y v1 v2 v3 v4 w) (k : Keep w w') : OkP ok x y v1 v2 v3 v4 w' :=
 ⟨fun h0 => ⟨(h.go h0).1.kept k, (h.go h0).2.1.kept k, (h.go h0).2.2.1.kept k, (h.go h0).2.2.2.kept k⟩⟩
open Go.ChangeShapes Go.WideShapes Go.ChangeAt Go.WideMaps Go.WideElems Go.RowKit
theorem own : ownKnob Tryz.prog.godebug = none := by kernel_rfl
abbrev laidL : List (String × DataW Unit) := [("math/bits.deBruijn32tab", Rows.laid_math_bits_deBruijn32tab), ("math/bits.deBruijn64tab", Rows.laid_math_bits_deBruijn64tab), ("internal/strconv.uint64pow10", Rows.laid_internal_strconv_uint64pow10), ("unicode/utf8.acceptRanges", Rows.laid_unicode_utf8_acceptRanges), ("unicode/utf8.first", Rows.laid_unicode_utf8_first)]
theorem door_met (os : Os) (args : Array Value) : laidMetH Tryz.prog laidL ((World.laidAll Tryz.prog os laidL).forCall (fun _ _ => 0) ⟨#[], args, []⟩).memory := by
 rw [MakeChecks.laidMetH_plain _ _ _ (by kernel_rfl)]
 exact laidMet_laidAll _ (by kernel_rfl) (by kernel_rfl)
theorem pow_is : Rows.laid_internal_strconv_uint64pow10 (H := Unit) = Lib.tabData .u64 Lib.pow10Tab := by kernel_rfl
theorem tab_of_laid {W : World} (h : laidMetH Tryz.prog laidL W) : Tab W.heap.size W := by
 rw [MakeChecks.laidMetH_plain _ _ _ (by kernel_rfl)] at h
 obtain ⟨ps, ⟨g0, t0, cs0, f0, p0, q0, hg0, ht0, hv0, hd0, ⟨g1, t1, cs1, f1, p1, q1, hg1, ht1, hv1, hd1, ⟨g2, t2, cs2, f2, p2, q2, hg2, ht2, hv2, hd2, _, _⟩, _⟩, _⟩, _, _⟩ := h
 have hg : Tryz.prog.globalNamed "internal/strconv.uint64pow10" = some g2 := hg2
 have hgg : Tryz.prog.globalNamed "internal/strconv.uint64pow10" = some 1 := by kernel_rfl
 have hty : (Tryz.prog.globals[1]?).map (·.type) = some 187 := by kernel_rfl
 obtain rfl := Option.some.inj (hgg.symm.trans hg2)
 obtain rfl := Option.some.inj (hty.symm.trans ht2)
 refine Lib.tabBelow_of_tabIs ?_
 unfold Lib.TabIs
 rw [hv2]
 rw [pow_is] at hd2
 rw [← Lib.cells_of_tab Tryz.underlying187 Tryz.underlying103 (by kernel_rfl) (by kernel_rfl) hd2]
theorem maxok_of_shaped {w : World} (h : w.ShapedOpen Tryz.prog) : MaxOk w := cell_of_shapedOpen_int (zero := #[.int .i64 0]) (t := 3) h (of_decide_eq_true (by kernel_rfl)) (by kernel_rfl) rfl (by kernel_rfl) (by kernel_rfl) Tryz.underlying3
theorem lifted_shaped {H : Type} {enc : TypeId × Value → H} {a : Assume} {C : Checked} {os : Os} {f : FuncId} {fn : Func} {s : ChangeSpec} {conds : List PathCond} {apart fresh handsOn again : Bool} {X : World → Array Value → Prop}
  (hX : ∀ (w w' : World) (args : Array Value), w.heap = w'.heap → X w args → X w' args) (own : ownKnob C.prog.godebug = none) (started : os.Started) (noInit : C.prog.inits.idxOf? f = none) (hfn : C.prog.funcs[f]? = some fn)
  (witness : ∃ (w : World) (tape : Tape) (i : Input), w.os = os ∧ (w.forCall tape i).Shaped C.prog ∧ i.vars = [] ∧ Input.okWide C.prog (w.forCall tape i) .any w.heap.size f i ∧
   ((s.pre enc C.prog fn conds apart (w.forCall tape i).memory i.args ∧ X (w.forCall tape i).memory i.args) ∧ sizedMet enc C.prog fn (OpenSpec.ofChange s) apart (w.forCall tape i).memory i.args) ∧ a.holds C.prog (lone (Frame.enter C.prog f i.args .normal) [] (w.forCall tape i)))
  (contract : ∀ (W : World) (base : Nat) (args : Array Value) (ds gs : List (DataW H)) (before : List MemPlace), W.ShapedOpen C.prog →
   (∀ (j : Nat) t v, fn.params[j]? = some t → args[j]? = some v → Value.okWide C.prog W .any base t v) → DataW.Whole enc C.prog fn.params.toList s.vars apart W args.toList ds gs before → X W args →
   Calls C.prog f args W fun e W' => ∃ v, e = .returned v ∧ s.post enc C.prog fn apart fresh handsOn again W args v W') :
  ReturnsInHanded a C os f .any (fun w args => (s.pre enc C.prog fn conds apart w args ∧ X w args) ∧ sizedMet enc C.prog fn (OpenSpec.ofChange s) apart w args) (s.post enc C.prog fn apart fresh handsOn again) := by
 refine returnsInHanded_of_calls own started noInit witness fun w tape i _ hsh _ hok hpre _ => ?_
 obtain ⟨_, _, _, fn', hfn', _, _, _, _, hval⟩ := hok
 obtain rfl : fn' = fn := Option.some.inj (hfn'.symm.trans hfn)
 obtain ⟨⟨⟨ds, gs, before, hw, _⟩, hx⟩, _⟩ := hpre
 refine (contract (w.forCall tape i) w.heap.size i.args ds gs before hsh hval (DataW.Whole.of_heap (w' := w.forCall tape i) (by rfl) hw) (hX _ _ _ (by rfl) hx)).mono fun e W' ⟨v, he, hp⟩ => ?_
 subst he
 exact ChangeSpec.post_blind hp
theorem post_below {H : Type} {enc : TypeId × Value → H} {P : Program} {f : Func} {s : ChangeSpec} {ap fr ho ag : Bool} {W W' : World} {args : Array Value} {v : Value} {ds gs : List (DataW H)} {before pa pv : List MemPlace}
  (hW : DataW.Whole enc P f.params.toList s.vars ap W args.toList ds gs before)
  (hres : ∀ (b : Nat) (sp : Nat → Bool) (hd : Bool), DataW.TrodAll enc P W' b sp hd f.resultTypes.toList (v.resultList f.resultTypes.size) (s.fn H (ds ++ gs)).results [])
  (hargs : ∀ sp : Nat → Bool, (∀ p ∈ before, sp p.block = true) → DataW.TrodAll enc P W' 0 sp true f.params.toList args.toList (s.fn H (ds ++ gs)).args pa)
  (hvars : ∀ sp : Nat → Bool, (∀ p ∈ before, sp p.block = true) → DataW.TrodVars enc P W' sp s.vars (s.fn H (ds ++ gs)).vars pv)
  (hps : before = pa ++ pv) (hb : Below W.heap.size W W')
  (hok : ∀ (j : Nat) (t : TypeId) (r : Value), f.resultTypes[j]? = some t → (v.resultList f.resultTypes.size)[j]? = some r → Value.okWide P W' .any 0 t r) : s.post enc P f ap fr ho ag W args v W' := by
 have hlt : ∀ p ∈ before, p.block < W.heap.size := fun p hp => hW.lt p hp
 have hin : ∀ p ∈ before, (fun b => decide (b < W.heap.size)) p.block = true := fun p hp => by simpa using hlt p hp
 refine ⟨ds, gs, before, [], pa, pv, hW, hres _ _ _, hargs _ hin, hvars _ hin, World.keptBut_mono (fun p hp => ⟨hp, .inr (List.mem_append.1 (hps ▸ hp))⟩) (hb.frame (· ∈ before)), fun _ => ?_⟩
 obtain ⟨_, _, _, _, _, hz, hn⟩ := hW
 refine ⟨hok, _, _, ([] ++ pa) ++ pv, ⟨[] ++ pa, pv, trodAll_append (hargs _ (fun _ _ => rfl)) (hres _ _ _), hvars _ (fun _ _ => rfl), rfl, fun b off hp => ?_, fun ha => ?_⟩, ?_⟩
 ·have hbe : MemPlace.cell b off ∈ before := by rw [hps]; simpa using hp
  rw [hb.frozen (hlt _ hbe)]
  exact hz b off hbe
 ·have h9 := hn ha
  rw [hps] at h9
  simpa using h9
 ·intro p hp _
  rw [hps, ← List.nil_append pa]
  exact hp
end Go.Proofs.YtgihmikeapbpkaaGreatDoor
