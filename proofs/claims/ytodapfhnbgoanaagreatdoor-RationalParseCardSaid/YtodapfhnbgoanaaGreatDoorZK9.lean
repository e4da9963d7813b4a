/- Contracts of the functions that the statements reach, part 9: what was proved of each, callees first. -/
import Derived.Test.YtodapfhnbgoanaaGreatDoorRows
import Derived.Shelf.Vars
import Derived.Handed
import Derived.ProofKit
import Derived.LaidMore
import Derived.Lay
import Derived.OpenShut
import Derived.Stop.Joined
import Derived.ChangeSame
import Derived.Lib.LaidTab
import Derived.Test.YtodapfhnbgoanaaGreatDoorZK8
namespace Go.Proofs.YtodapfhnbgoanaaGreatDoor
open Go.RowKit
open AS (Keep NoInt)
set_option maxHeartbeats 3200000
set_option maxRecDepth 20000
def RRatOk (x : Rat) (n : Nat) (v : Value) (w : World) : Prop := ∃ v0, v = .tuple #[v0, .int .i64 0] ∧ RRat x n v0 w
theorem rnew_pos {p q : Int} {n : Nat} {k : Bool} {A : Option Addr} {l c : Nat} {k' : Bool} {A' : Option Addr} {l' c' : Nat} {w : World} (h1 : PRef p n (.agg #[.bool k, .slice A l c]) w) (h2 : PRef q n (.agg #[.bool k', .slice A' l' c']) w) (hn : n ≤ 20000) (hlt : 0 < q) (hc : cmpI q 0 = 1) (hq : q ≠ 0) (hne : (Int.gcd p q : Int) ≠ 0) :
  Calls Tryz.prog 47 #[.agg #[.bool k, .slice A l c], .agg #[.bool k', .slice A' l' c']] w fun e w' => ∃ v, e = .returned (.tuple #[v, .int .i64 0]) ∧ RRat (Rat.divInt p q) n v w' ∧ Below w.heap.size w w' := by
 have H1 := Lib.hid h1
 have H2 := Lib.hid h2
 clear h1 h2
 go_enter Tryz.func47, Tryz.ntmps47
 go_upto_region 1 with (fail)
 change Code.wp Tryz.prog _ _ _ (((w.alloc (.cells #[.bool k, .slice A l c] 33)).alloc (.cells #[.bool k', .slice A' l' c'] 33)).alloc (.cells #[.bool false, .slice none 0 0, .bool false, .slice none 0 0] 35))
 obtain ⟨nb2, nb3, nb4, na⟩ := new3 w 33 [.bool k, .slice A l c] 33 [.bool k', .slice A' l' c'] 35 [.bool false, .slice none 0 0, .bool false, .slice none 0 0] lf2 lf2 lf4
 have nkeep := Keep.ofBelow na
 have nbel := na
 generalize ((w.alloc (.cells #[.bool k, .slice A l c] 33)).alloc (.cells #[.bool k', .slice A' l' c'] 33)).alloc (.cells #[.bool false, .slice none 0 0, .bool false, .slice none 0 0] 35) = W1 at *
 clear na
 have b2 := Lib.hid nb2
 have b3 := Lib.hid nb3
 have b4 := Lib.hid nb4
 clear nb2 nb3 nb4
 replace H1 := Lib.hid (H1.out.kept nkeep)
 replace H2 := Lib.hid (H2.out.kept nkeep)
 clear nkeep
 have HB2 := Lib.hid nbel
 clear nbel
 obtain ⟨x2_0, x2_1, z2_0, z2_1, s2⟩ := b2.out.e2
 obtain ⟨x3_0, x3_1, z3_0, z3_1, s3⟩ := b3.out.e2
 obtain ⟨x4_0, x4_1, x4_2, x4_3, z4_0, z4_1, z4_2, z4_3, s4⟩ := b4.out.e4
 have szb := HB2.out.size
 go_wp2_with fail
 refine (rsign_is H2.out hc).mono ?_
 rintro e W3 ⟨rfl, hb⟩
 replace b2 := hup b2 hb
 replace b3 := hup b3 hb
 replace b4 := hup b4 hb
 replace H1 := Lib.hid (H1.out.kept (Keep.ofBelow hb))
 replace H2 := Lib.hid (H2.out.kept (Keep.ofBelow hb))
 have nbel := below_then HB2.out hb HB2.out.size
 have HB4 := Lib.hid nbel
 clear nbel HB2 hb x2_0 x2_1 z2_0 z2_1 x3_0 x3_1 z3_0 z3_1 x4_0 x4_1 x4_2 x4_3 z4_0 z4_1 z4_2 z4_3 szb s2 s3 s4
 obtain ⟨x2_0, x2_1, z2_0, z2_1, s2⟩ := b2.out.e2
 obtain ⟨x3_0, x3_1, z3_0, z3_1, s3⟩ := b3.out.e2
 obtain ⟨x4_0, x4_1, x4_2, x4_3, z4_0, z4_1, z4_2, z4_3, s4⟩ := b4.out.e4
 have szb := HB4.out.size
 go_wp2_with fail
 refine (rsign_is H2.out hc).mono ?_
 rintro e W5 ⟨rfl, hb⟩
 replace b2 := hup b2 hb
 replace b3 := hup b3 hb
 replace b4 := hup b4 hb
 replace H1 := Lib.hid (H1.out.kept (Keep.ofBelow hb))
 replace H2 := Lib.hid (H2.out.kept (Keep.ofBelow hb))
 have nbel := below_then HB4.out hb HB4.out.size
 have HB6 := Lib.hid nbel
 clear nbel HB4 hb x2_0 x2_1 z2_0 z2_1 x3_0 x3_1 z3_0 z3_1 x4_0 x4_1 x4_2 x4_3 z4_0 z4_1 z4_2 z4_3 szb s2 s3 s4
 obtain ⟨x2_0, x2_1, z2_0, z2_1, s2⟩ := b2.out.e2
 obtain ⟨x3_0, x3_1, z3_0, z3_1, s3⟩ := b3.out.e2
 obtain ⟨x4_0, x4_1, x4_2, x4_3, z4_0, z4_1, z4_2, z4_3, s4⟩ := b4.out.e4
 have szb := HB6.out.size
 go_wp2_with fail
 refine (rgcd_fact H1.out H2.out (by omega) (by omega)).mono ?_
 rintro e W7 ⟨v1, rfl, hv1, hb⟩
 replace b2 := hup b2 hb
 replace b3 := hup b3 hb
 replace b4 := hup b4 hb
 replace H1 := Lib.hid (H1.out.kept (Keep.ofBelow hb))
 replace H2 := Lib.hid (H2.out.kept (Keep.ofBelow hb))
 have nbel := below_then HB6.out hb HB6.out.size
 have HB8 := Lib.hid nbel
 clear nbel HB6 hb x2_0 x2_1 z2_0 z2_1 x3_0 x3_1 z3_0 z3_1 x4_0 x4_1 x4_2 x4_3 z4_0 z4_1 z4_2 z4_3 szb s2 s3 s4
 obtain ⟨x2_0, x2_1, z2_0, z2_1, s2⟩ := b2.out.e2
 obtain ⟨x3_0, x3_1, z3_0, z3_1, s3⟩ := b3.out.e2
 obtain ⟨x4_0, x4_1, x4_2, x4_3, z4_0, z4_1, z4_2, z4_3, s4⟩ := b4.out.e4
 have szb := HB8.out.size
 obtain ⟨k5, A5, l5, c5, rfl⟩ := hv1.open
 have HG := Lib.hid hv1
 clear hv1
 go_upto_region 6 with (fail)
 have q9 := b2.out.lt
 have q10 := b3.out.lt
 have q11 := b4.out.lt
 change Code.wp Tryz.prog _ _ _ (W7.alloc (.cells #[.bool k5, .slice A5 l5 c5] 33))
 obtain ⟨nb6, na⟩ := new1 W7 33 [.bool k5, .slice A5 l5 c5] lf2
 have nb2 := b2.out.up na
 have nb3 := b3.out.up na
 have nb4 := b4.out.up na
 have nkeep := Keep.ofBelow na
 have nbel := below_then HB8.out na HB8.out.size
 generalize W7.alloc (.cells #[.bool k5, .slice A5 l5 c5] 33) = W12 at *
 clear na x2_0 x2_1 z2_0 z2_1 x3_0 x3_1 z3_0 z3_1 x4_0 x4_1 x4_2 x4_3 z4_0 z4_1 z4_2 z4_3 szb s2 s3 s4 b2 b3 b4
 have b2 := Lib.hid nb2
 have b3 := Lib.hid nb3
 have b4 := Lib.hid nb4
 have b6 := Lib.hid nb6
 clear nb2 nb3 nb4 nb6
 replace H1 := Lib.hid (H1.out.kept nkeep)
 replace H2 := Lib.hid (H2.out.kept nkeep)
 replace HG := Lib.hid (HG.out.kept nkeep)
 clear nkeep
 have HB13 := Lib.hid nbel
 clear nbel HB8
 obtain ⟨x2_0, x2_1, z2_0, z2_1, s2⟩ := b2.out.e2
 obtain ⟨x3_0, x3_1, z3_0, z3_1, s3⟩ := b3.out.e2
 obtain ⟨x4_0, x4_1, x4_2, x4_3, z4_0, z4_1, z4_2, z4_3, s4⟩ := b4.out.e4
 obtain ⟨x6_0, x6_1, s6⟩ := b6.out.d2
 have szb := HB13.out.size
 go_wp2_with fail
 refine (rquo_fact H1.out HG.out (by omega) (by omega) hne).mono ?_
 rintro e W14 ⟨k6, A6, l6, c6, k7, A7, l7, c7, rfl, hv3, hb⟩
 replace b2 := hup b2 hb
 replace b3 := hup b3 hb
 replace b4 := hup b4 hb
 replace b6 := hup b6 hb
 replace H1 := Lib.hid (H1.out.kept (Keep.ofBelow hb))
 replace H2 := Lib.hid (H2.out.kept (Keep.ofBelow hb))
 replace HG := Lib.hid (HG.out.kept (Keep.ofBelow hb))
 have nbel := below_then HB13.out hb HB13.out.size
 have HB15 := Lib.hid nbel
 clear nbel HB13 hb x2_0 x2_1 z2_0 z2_1 x3_0 x3_1 z3_0 z3_1 x4_0 x4_1 x4_2 x4_3 z4_0 z4_1 z4_2 z4_3 x6_0 x6_1 szb s2 s3 s4 s6
 obtain ⟨x2_0, x2_1, z2_0, z2_1, s2⟩ := b2.out.e2
 obtain ⟨x3_0, x3_1, z3_0, z3_1, s3⟩ := b3.out.e2
 obtain ⟨x4_0, x4_1, x4_2, x4_3, z4_0, z4_1, z4_2, z4_3, s4⟩ := b4.out.e4
 obtain ⟨x6_0, x6_1, s6⟩ := b6.out.d2
 have szb := HB15.out.size
 have HN := Lib.hid hv3
 clear hv3
 go_upto_region 7 with (fail)
 change Code.wp Tryz.prog _ _ _ ((W14.setCell ⟨w.heap.size, 0, none⟩ (.bool k6)).setCell ⟨w.heap.size, 1, none⟩ (.slice A6 l6 c6))
 have nb2 : Bx 33 ((W14.setCell ⟨w.heap.size, 0, none⟩ (.bool k6)).setCell ⟨w.heap.size, 1, none⟩ (.slice A6 l6 c6)) w.heap.size [.bool k6, .slice A6 l6 c6] := (Bx.set2 b2.out (Leaf.bool k6) (Leaf.slice A6 l6 c6))
 have nb3 : Bx 33 ((W14.setCell ⟨w.heap.size, 0, none⟩ (.bool k6)).setCell ⟨w.heap.size, 1, none⟩ (.slice A6 l6 c6)) (w.heap.size + 1) [.bool k', .slice A' l' c'] := (Bx.far2 (g' := w.heap.size) b3.out (by omega) (.bool k6) (.slice A6 l6 c6))
 have nb4 : Bx 35 ((W14.setCell ⟨w.heap.size, 0, none⟩ (.bool k6)).setCell ⟨w.heap.size, 1, none⟩ (.slice A6 l6 c6)) (w.heap.size + 1 + 1) [.bool false, .slice none 0 0, .bool false, .slice none 0 0] := (Bx.far2 (g' := w.heap.size) b4.out (by omega) (.bool k6) (.slice A6 l6 c6))
 have nb6 : Bx 33 ((W14.setCell ⟨w.heap.size, 0, none⟩ (.bool k6)).setCell ⟨w.heap.size, 1, none⟩ (.slice A6 l6 c6)) W7.heap.size [.bool k5, .slice A5 l5 c5] := (Bx.far2 (g' := w.heap.size) b6.out (by omega) (.bool k6) (.slice A6 l6 c6))
 have nkeep := (Keep.set2 (Keep.refl W14) b2.out (Leaf.bool k6) (Leaf.slice A6 l6 c6))
 have nbel : Below w.heap.size w ((W14.setCell ⟨w.heap.size, 0, none⟩ (.bool k6)).setCell ⟨w.heap.size, 1, none⟩ (.slice A6 l6 c6)) := (Below.set2 (g := w.heap.size) HB15.out (by first | omega | (simp; done) | (simp; omega)) (.bool k6) (.slice A6 l6 c6))
 generalize (W14.setCell ⟨w.heap.size, 0, none⟩ (.bool k6)).setCell ⟨w.heap.size, 1, none⟩ (.slice A6 l6 c6) = W16 at *
 clear x2_0 x2_1 z2_0 z2_1 x3_0 x3_1 z3_0 z3_1 x4_0 x4_1 x4_2 x4_3 z4_0 z4_1 z4_2 z4_3 x6_0 x6_1 szb s2 s3 s4 s6 b2 b3 b4 b6
 have b2 := Lib.hid nb2
 have b3 := Lib.hid nb3
 have b4 := Lib.hid nb4
 have b6 := Lib.hid nb6
 clear nb2 nb3 nb4 nb6
 replace H1 := Lib.hid (H1.out.kept nkeep)
 replace H2 := Lib.hid (H2.out.kept nkeep)
 replace HG := Lib.hid (HG.out.kept nkeep)
 replace HN := Lib.hid (HN.out.kept nkeep)
 clear nkeep
 have HB17 := Lib.hid nbel
 clear nbel HB15
 obtain ⟨x2_0, x2_1, z2_0, z2_1, s2⟩ := b2.out.e2
 obtain ⟨x3_0, x3_1, z3_0, z3_1, s3⟩ := b3.out.e2
 obtain ⟨x4_0, x4_1, x4_2, x4_3, z4_0, z4_1, z4_2, z4_3, s4⟩ := b4.out.e4
 obtain ⟨x6_0, x6_1, s6⟩ := b6.out.d2
 have szb := HB17.out.size
 go_wp2_with fail
 refine (rquo_fact H2.out HG.out (by omega) (by omega) hne).mono ?_
 rintro e W18 ⟨k8, A8, l8, c8, k9, A9, l9, c9, rfl, hv3, hb⟩
 replace b2 := hup b2 hb
 replace b3 := hup b3 hb
 replace b4 := hup b4 hb
 replace b6 := hup b6 hb
 replace H1 := Lib.hid (H1.out.kept (Keep.ofBelow hb))
 replace H2 := Lib.hid (H2.out.kept (Keep.ofBelow hb))
 replace HG := Lib.hid (HG.out.kept (Keep.ofBelow hb))
 replace HN := Lib.hid (HN.out.kept (Keep.ofBelow hb))
 have nbel := below_then HB17.out hb HB17.out.size
 have HB19 := Lib.hid nbel
 clear nbel HB17 hb x2_0 x2_1 z2_0 z2_1 x3_0 x3_1 z3_0 z3_1 x4_0 x4_1 x4_2 x4_3 z4_0 z4_1 z4_2 z4_3 x6_0 x6_1 szb s2 s3 s4 s6
 obtain ⟨x2_0, x2_1, z2_0, z2_1, s2⟩ := b2.out.e2
 obtain ⟨x3_0, x3_1, z3_0, z3_1, s3⟩ := b3.out.e2
 obtain ⟨x4_0, x4_1, x4_2, x4_3, z4_0, z4_1, z4_2, z4_3, s4⟩ := b4.out.e4
 obtain ⟨x6_0, x6_1, s6⟩ := b6.out.d2
 have szb := HB19.out.size
 have HD := Lib.hid hv3
 clear hv3
 go_upto_region 8 with (fail)
 change Code.wp Tryz.prog _ _ _ ((W18.setCell ⟨w.heap.size + 1, 0, none⟩ (.bool k8)).setCell ⟨w.heap.size + 1, 1, none⟩ (.slice A8 l8 c8))
 have nb2 : Bx 33 ((W18.setCell ⟨w.heap.size + 1, 0, none⟩ (.bool k8)).setCell ⟨w.heap.size + 1, 1, none⟩ (.slice A8 l8 c8)) w.heap.size [.bool k6, .slice A6 l6 c6] := (Bx.far2 (g' := w.heap.size + 1) b2.out (by omega) (.bool k8) (.slice A8 l8 c8))
 have nb3 : Bx 33 ((W18.setCell ⟨w.heap.size + 1, 0, none⟩ (.bool k8)).setCell ⟨w.heap.size + 1, 1, none⟩ (.slice A8 l8 c8)) (w.heap.size + 1) [.bool k8, .slice A8 l8 c8] := (Bx.set2 b3.out (Leaf.bool k8) (Leaf.slice A8 l8 c8))
 have nb4 : Bx 35 ((W18.setCell ⟨w.heap.size + 1, 0, none⟩ (.bool k8)).setCell ⟨w.heap.size + 1, 1, none⟩ (.slice A8 l8 c8)) (w.heap.size + 1 + 1) [.bool false, .slice none 0 0, .bool false, .slice none 0 0] := (Bx.far2 (g' := w.heap.size + 1) b4.out (by omega) (.bool k8) (.slice A8 l8 c8))
 have nb6 : Bx 33 ((W18.setCell ⟨w.heap.size + 1, 0, none⟩ (.bool k8)).setCell ⟨w.heap.size + 1, 1, none⟩ (.slice A8 l8 c8)) W7.heap.size [.bool k5, .slice A5 l5 c5] := (Bx.far2 (g' := w.heap.size + 1) b6.out (by omega) (.bool k8) (.slice A8 l8 c8))
 have nkeep := (Keep.set2 (Keep.refl W18) b3.out (Leaf.bool k8) (Leaf.slice A8 l8 c8))
 have nbel : Below w.heap.size w ((W18.setCell ⟨w.heap.size + 1, 0, none⟩ (.bool k8)).setCell ⟨w.heap.size + 1, 1, none⟩ (.slice A8 l8 c8)) := (Below.set2 (g := w.heap.size + 1) HB19.out (by first | omega | (simp; done) | (simp; omega)) (.bool k8) (.slice A8 l8 c8))
 generalize (W18.setCell ⟨w.heap.size + 1, 0, none⟩ (.bool k8)).setCell ⟨w.heap.size + 1, 1, none⟩ (.slice A8 l8 c8) = W20 at *
 clear x2_0 x2_1 z2_0 z2_1 x3_0 x3_1 z3_0 z3_1 x4_0 x4_1 x4_2 x4_3 z4_0 z4_1 z4_2 z4_3 x6_0 x6_1 szb s2 s3 s4 s6 b2 b3 b4 b6
 have b2 := Lib.hid nb2
 have b3 := Lib.hid nb3
 have b4 := Lib.hid nb4
 have b6 := Lib.hid nb6
 clear nb2 nb3 nb4 nb6
 replace H1 := Lib.hid (H1.out.kept nkeep)
 replace H2 := Lib.hid (H2.out.kept nkeep)
 replace HG := Lib.hid (HG.out.kept nkeep)
 replace HN := Lib.hid (HN.out.kept nkeep)
 replace HD := Lib.hid (HD.out.kept nkeep)
 clear nkeep
 have HB21 := Lib.hid nbel
 clear nbel HB19
 obtain ⟨x2_0, x2_1, z2_0, z2_1, s2⟩ := b2.out.e2
 obtain ⟨x3_0, x3_1, z3_0, z3_1, s3⟩ := b3.out.e2
 obtain ⟨x4_0, x4_1, x4_2, x4_3, z4_0, z4_1, z4_2, z4_3, s4⟩ := b4.out.e4
 obtain ⟨x6_0, x6_1, s6⟩ := b6.out.d2
 have szb := HB21.out.size
 go_wp2_with fail
 have hkeep := (Keep.set4 (Keep.refl W20) b4.out (Leaf.bool k6) (Leaf.slice A6 l6 c6) (Leaf.bool k8) (Leaf.slice A8 l8 c8))
 have hbel := (Below.set4 (g := w.heap.size + 1 + 1) HB21.out (by first | omega | (simp; done) | (simp; omega)) (.bool k6) (.slice A6 l6 c6) (.bool k8) (.slice A8 l8 c8))
 refine bodyPost_ret (v := .tuple #[.agg #[.bool k6, .slice A6 l6 c6, .bool k8, .slice A8 l8 c8], .int .i64 0]) (by simp [results, Tryz.results47, go_sem, x4_0, x4_1, x4_2, x4_3]) rfl ⟨_, rfl, RRat.mk (HN.out.kept hkeep) (HD.out.kept hkeep) (by rw [← red_num hq]; unfold divr; rw [if_neg (by omega)]) (by rw [← red_den hq]; unfold divr; rw [if_neg (by omega)]), hbel⟩
def rnewFL (p q : Int) (n : Nat) : List (Nat × AS.Fact) := [(14, AS.Fact.ref (p) n), (15, AS.Fact.ref (-(p)) n), (16, AS.Fact.ref (q) n), (17, AS.Fact.ref (-(q)) n)]
theorem rnew_neg {p q : Int} {n : Nat} {k : Bool} {A : Option Addr} {l c : Nat} {k' : Bool} {A' : Option Addr} {l' c' : Nat} {w : World} (h1 : PRef p n (.agg #[.bool k, .slice A l c]) w) (h2 : PRef q n (.agg #[.bool k', .slice A' l' c']) w) (hn : n ≤ 20000) (hlt : q < 0) (hc : cmpI q 0 = -1) (hq : q ≠ 0) (hne : (Int.gcd (-p) (-q) : Int) ≠ 0) :
  Calls Tryz.prog 47 #[.agg #[.bool k, .slice A l c], .agg #[.bool k', .slice A' l' c']] w fun e w' => ∃ v, e = .returned (.tuple #[v, .int .i64 0]) ∧ RRat (Rat.divInt p q) n v w' ∧ Below w.heap.size w w' := by
 have H1 := Lib.hid h1
 have H2 := Lib.hid h2
 clear h1 h2
 go_enter Tryz.func47, Tryz.ntmps47
 go_upto_region 1 with (fail)
 change Code.wp Tryz.prog _ _ _ (((w.alloc (.cells #[.bool k, .slice A l c] 33)).alloc (.cells #[.bool k', .slice A' l' c'] 33)).alloc (.cells #[.bool false, .slice none 0 0, .bool false, .slice none 0 0] 35))
 obtain ⟨nb2, nb3, nb4, na⟩ := new3 w 33 [.bool k, .slice A l c] 33 [.bool k', .slice A' l' c'] 35 [.bool false, .slice none 0 0, .bool false, .slice none 0 0] lf2 lf2 lf4
 have nkeep := Keep.ofBelow na
 have nbel := na
 generalize ((w.alloc (.cells #[.bool k, .slice A l c] 33)).alloc (.cells #[.bool k', .slice A' l' c'] 33)).alloc (.cells #[.bool false, .slice none 0 0, .bool false, .slice none 0 0] 35) = W1 at *
 clear na
 have b2 := Lib.hid nb2
 have b3 := Lib.hid nb3
 have b4 := Lib.hid nb4
 clear nb2 nb3 nb4
 replace H1 := Lib.hid (H1.out.kept nkeep)
 replace H2 := Lib.hid (H2.out.kept nkeep)
 clear nkeep
 have HB2 := Lib.hid nbel
 clear nbel
 obtain ⟨x2_0, x2_1, z2_0, z2_1, s2⟩ := b2.out.e2
 obtain ⟨x3_0, x3_1, z3_0, z3_1, s3⟩ := b3.out.e2
 obtain ⟨x4_0, x4_1, x4_2, x4_3, z4_0, z4_1, z4_2, z4_3, s4⟩ := b4.out.e4
 have szb := HB2.out.size
 go_wp2_with fail
 refine (rsign_is H2.out hc).mono ?_
 rintro e W3 ⟨rfl, hb⟩
 replace b2 := hup b2 hb
 replace b3 := hup b3 hb
 replace b4 := hup b4 hb
 replace H1 := Lib.hid (H1.out.kept (Keep.ofBelow hb))
 replace H2 := Lib.hid (H2.out.kept (Keep.ofBelow hb))
 have nbel := below_then HB2.out hb HB2.out.size
 have HB4 := Lib.hid nbel
 clear nbel HB2 hb x2_0 x2_1 z2_0 z2_1 x3_0 x3_1 z3_0 z3_1 x4_0 x4_1 x4_2 x4_3 z4_0 z4_1 z4_2 z4_3 szb s2 s3 s4
 obtain ⟨x2_0, x2_1, z2_0, z2_1, s2⟩ := b2.out.e2
 obtain ⟨x3_0, x3_1, z3_0, z3_1, s3⟩ := b3.out.e2
 obtain ⟨x4_0, x4_1, x4_2, x4_3, z4_0, z4_1, z4_2, z4_3, s4⟩ := b4.out.e4
 have szb := HB4.out.size
 go_wp2_with fail
 refine (rsign_is H2.out hc).mono ?_
 rintro e W5 ⟨rfl, hb⟩
 replace b2 := hup b2 hb
 replace b3 := hup b3 hb
 replace b4 := hup b4 hb
 replace H1 := Lib.hid (H1.out.kept (Keep.ofBelow hb))
 replace H2 := Lib.hid (H2.out.kept (Keep.ofBelow hb))
 have nbel := below_then HB4.out hb HB4.out.size
 have HB6 := Lib.hid nbel
 clear nbel HB4 hb x2_0 x2_1 z2_0 z2_1 x3_0 x3_1 z3_0 z3_1 x4_0 x4_1 x4_2 x4_3 z4_0 z4_1 z4_2 z4_3 szb s2 s3 s4
 obtain ⟨x2_0, x2_1, z2_0, z2_1, s2⟩ := b2.out.e2
 obtain ⟨x3_0, x3_1, z3_0, z3_1, s3⟩ := b3.out.e2
 obtain ⟨x4_0, x4_1, x4_2, x4_3, z4_0, z4_1, z4_2, z4_3, s4⟩ := b4.out.e4
 have szb := HB6.out.size
 go_upto_region 4 with (fail)
 refine AS.region_facts (rnewFL p q n) (JRes2 w W5 33 33 w.heap.size (w.heap.size + 1) [(35, w.heap.size + 1 + 1, [.bool false, .slice none 0 0, .bool false, .slice none 0 0])]) [[], [14], [], [16], [15], [17]] [4, 5] [[], [15], [15, 17]] [0, 2, 0, 2, 2, 2] [] (fun u => by simp only [rnewFL, AS.temps, List.map_cons, List.map_nil, fillL, List.setIfInBounds_toArray, List.set_cons_zero, List.set_cons_succ]; rfl) (by kernel_rfl) (by kernel_rfl) (JRes2.st w W5 33 33 w.heap.size (w.heap.size + 1) [(35, w.heap.size + 1 + 1, [.bool false, .slice none 0 0, .bool false, .slice none 0 0])]) (below_drew (Below.refl _ _)) ?_ ?_
 ·refine AS.sc rfl rfl rfl ?_ ?_
  ·intro k_ u w_ hk hJ hF K hK
   clear hF
   obtain rfl : k_ = 0 := Nat.le_zero.1 hk
   have hJ0 : Below W5.heap.size W5 w_ := hJ
   obtain ⟨y0, y1⟩ := ((b2.out).up hJ0).c2
   go_simp
   exact hK.out _ _ (Below.refl _ _) ((H1.out).kept (Keep.ofBelow hJ0)) trivial
  refine AS.sc rfl rfl rfl ?_ ?_
  ·intro k_ u w_ hk hJ hF K hK
   have h14 : PRef (p) n (u 14) w_ := AS.facts_get hF 14 (by simp)
   clear hF
   go_simp
   refine (rneg_fact h14 (by omega)).mono ?_
   rintro e w' ⟨v, rfl, hv, hb⟩
   exact hK.out _ _ hb (hv) trivial
  refine AS.sc rfl rfl rfl ?_ ?_
  ·intro k_ u w_ hk hJ hF K hK
   clear hF
   obtain rfl : k_ = 0 := Nat.le_zero.1 hk
   have hJ0 : Below W5.heap.size W5 w_ := hJ
   obtain ⟨y0, y1⟩ := ((b3.out).up hJ0).c2
   go_simp
   exact hK.out _ _ (Below.refl _ _) ((H2.out).kept (Keep.ofBelow hJ0)) trivial
  refine AS.sc rfl rfl rfl ?_ ?_
  ·intro k_ u w_ hk hJ hF K hK
   have h16 : PRef (q) n (u 16) w_ := AS.facts_get hF 16 (by simp)
   clear hF
   go_simp
   refine (rneg_fact h16 (by omega)).mono ?_
   rintro e w' ⟨v, rfl, hv, hb⟩
   exact hK.out _ _ hb (hv) trivial
  refine AS.ss rfl rfl ?_ ?_
  ·intro u w_ hJ hAp hF K hK
   have h15 : PRef (-(p)) n (u 15) w_ := AS.facts_get hF 15 (by simp)
   clear hF
   obtain ⟨k1, A1, l1, c1, e_⟩ := h15.open
   have hJ0 : Below W5.heap.size W5 w_ := hJ
   have bx := (b2.out).up hJ0
   have hbel := below_then HB6.out hJ0 HB6.out.size
   have bx2 := (b3.out).up hJ0
   have ob4 := (b4.out).up hJ0
   have y0 := bx.cell 0
   have z0 := bx.frozen 0
   have y1 := bx.cell 1
   have z1 := bx.frozen 1
   simp only [List.getElem?_cons_zero, List.getElem?_cons_succ] at y0 y1
   have hob2 : ∀ b_ ∈ ([(35, w.heap.size + 1 + 1, [.bool false, .slice none 0 0, .bool false, .slice none 0 0])] : List (TypeId × Nat × List Value)), Bx b_.1 ((w_.setCell ⟨w.heap.size, 0, none⟩ (.bool k1)).setCell ⟨w.heap.size, 1, none⟩ (.slice A1 l1 c1)) b_.2.1 b_.2.2 := by
    intro b_ hb_
    simp only [List.mem_cons, List.not_mem_nil, or_false] at hb_
    rcases hb_ with rfl
    ·exact (Bx.far2 (g' := w.heap.size) ob4 (show w.heap.size ≠ w.heap.size + 1 + 1 by omega) (.bool k1) (.slice A1 l1 c1))
   simp only [e_] at hK ⊢
   go_simp
   exact hK.out undef _ ⟨⟨(Below.setCell (p := ⟨w.heap.size, 1, none⟩) (Below.setCell (p := ⟨w.heap.size, 0, none⟩) hbel (by first | omega | (simp; done) | (simp; omega)) (.bool k1)) (by first | omega | (simp; done) | (simp; omega)) (.slice A1 l1 c1)), (by simp only [setCell_size]; first | exact hsz | exact Nat.le_trans HB6.out.size hJ0.size)⟩, hob2, ⟨[.bool k1, .slice A1 l1 c1], by simp [e_], (Bx.set2 bx (Leaf.bool k1) (Leaf.slice A1 l1 c1))⟩, _, _, (Bx.far2 (g' := w.heap.size) bx2 (by omega) (.bool k1) (.slice A1 l1 c1))⟩ (Keep.set2 (Keep.refl w_) bx (Leaf.bool k1) (Leaf.slice A1 l1 c1))
  refine AS.ss rfl rfl ?_ ?_
  ·intro u w_ hJ hAp hF K hK
   have h17 : PRef (-(q)) n (u 17) w_ := AS.facts_get hF 17 (by simp)
   clear hF
   obtain ⟨k1, A1, l1, c1, e_⟩ := h17.open
   obtain ⟨⟨hbel, hsz⟩, hob, ⟨vs, hvs, bx1⟩, x_, y_, bx⟩ := hJ
   have ob4 := hob (35, w.heap.size + 1 + 1, [.bool false, .slice none 0 0, .bool false, .slice none 0 0]) (by simp)
   clear hob
   have y0 := bx.cell 0
   have z0 := bx.frozen 0
   have y1 := bx.cell 1
   have z1 := bx.frozen 1
   simp only [List.getElem?_cons_zero, List.getElem?_cons_succ] at y0 y1
   have hob2 : ∀ b_ ∈ ([(35, w.heap.size + 1 + 1, [.bool false, .slice none 0 0, .bool false, .slice none 0 0])] : List (TypeId × Nat × List Value)), Bx b_.1 ((w_.setCell ⟨w.heap.size + 1, 0, none⟩ (.bool k1)).setCell ⟨w.heap.size + 1, 1, none⟩ (.slice A1 l1 c1)) b_.2.1 b_.2.2 := by
    intro b_ hb_
    simp only [List.mem_cons, List.not_mem_nil, or_false] at hb_
    rcases hb_ with rfl
    ·exact (Bx.far2 (g' := w.heap.size + 1) ob4 (show w.heap.size + 1 ≠ w.heap.size + 1 + 1 by omega) (.bool k1) (.slice A1 l1 c1))
   simp only [e_] at hK ⊢
   go_simp
   exact hK.out undef _ ⟨⟨(Below.setCell (p := ⟨w.heap.size + 1, 1, none⟩) (Below.setCell (p := ⟨w.heap.size + 1, 0, none⟩) hbel (by first | omega | (simp; done) | (simp; omega)) (.bool k1)) (by first | omega | (simp; done) | (simp; omega)) (.slice A1 l1 c1)), (by simp only [setCell_size]; first | exact hsz | exact Nat.le_trans HB6.out.size hJ0.size)⟩, hob2, vs, [.bool k1, .slice A1 l1 c1], by simp [e_, List.cons.inj hvs], (Bx.far (g' := w.heap.size + 1) (Bx.far (g' := w.heap.size + 1) bx1 (by omega) 0 (.bool k1)) (by omega) 1 (.slice A1 l1 c1)), (Bx.set2 bx (Leaf.bool k1) (Leaf.slice A1 l1 c1))⟩ (Keep.set2 (Keep.refl w_) bx (Leaf.bool k1) (Leaf.slice A1 l1 c1))
  exact AS.StepsOk.nil
 ·intro u W7 hJ9 hF
  have h15 : PRef (-(p)) n (u 15) W7 := AS.facts_get hF 15 (by simp [rnewFL, AS.temps])
  have h17 : PRef (-(q)) n (u 17) W7 := AS.facts_get hF 17 (by simp [rnewFL, AS.temps])
  clear hF
  obtain ⟨⟨hbel, hsz⟩, hob, vs, vs2, hvs, hbx, hbx2⟩ := hJ9
  obtain ⟨k3, A3, l3, c3, ea⟩ := h15.open
  obtain ⟨k4, A4, l4, c4, eb⟩ := h17.open
  rw [ea] at h15
  rw [eb] at h17
  obtain rfl : vs = [.bool k3, .slice A3 l3 c3] := by
   have e1 := (List.cons.inj hvs).1
   rw [show u 15 = _ from ea] at e1
   have e2 := congrArg Array.toList (Value.agg.inj e1)
   simpa using e2.symm
  obtain rfl : vs2 = [.bool k4, .slice A4 l4 c4] := by
   have e1 := (List.cons.inj (List.cons.inj hvs).2).1
   rw [show u 17 = _ from eb] at e1
   have e2 := congrArg Array.toList (Value.agg.inj e1)
   simpa using e2.symm
  have hbx4 := hob (35, w.heap.size + 1 + 1, [.bool false, .slice none 0 0, .bool false, .slice none 0 0]) (by simp)
  clear hob hvs ea eb b2 b3 b4 HB6 x2_0 x2_1 z2_0 z2_1 x3_0 x3_1 z3_0 z3_1 x4_0 x4_1 x4_2 x4_3 z4_0 z4_1 z4_2 z4_3 szb s2 s3 s4 H1 H2
  have b2 := Lib.hid hbx
  have b3 := Lib.hid hbx2
  have b4 : Hid (Bx 35 W7 (w.heap.size + 1 + 1) [.bool false, .slice none 0 0, .bool false, .slice none 0 0]) := hbx4
  have HB := Lib.hid hbel
  have H1 := Lib.hid h15
  have H2 := Lib.hid h17
  clear hbx hbx2 hbx4 hbel h15 h17
  obtain ⟨x2_0, x2_1, z2_0, z2_1, s2⟩ := b2.out.e2
  obtain ⟨x3_0, x3_1, z3_0, z3_1, s3⟩ := b3.out.e2
  obtain ⟨x4_0, x4_1, x4_2, x4_3, z4_0, z4_1, z4_2, z4_3, s4⟩ := b4.out.e4
  have szb := HB.out.size
  go_wp2_with fail
  refine (rgcd_fact H1.out H2.out (by omega) (by omega)).mono ?_
  rintro e W8 ⟨v1, rfl, hv1, hb⟩
  replace b2 := hup b2 hb
  replace b3 := hup b3 hb
  replace b4 := hup b4 hb
  replace H1 := Lib.hid (H1.out.kept (Keep.ofBelow hb))
  replace H2 := Lib.hid (H2.out.kept (Keep.ofBelow hb))
  have nbel := below_then HB.out hb HB.out.size
  have HB9 := Lib.hid nbel
  clear nbel HB hb x2_0 x2_1 z2_0 z2_1 x3_0 x3_1 z3_0 z3_1 x4_0 x4_1 x4_2 x4_3 z4_0 z4_1 z4_2 z4_3 szb s2 s3 s4
  obtain ⟨x2_0, x2_1, z2_0, z2_1, s2⟩ := b2.out.e2
  obtain ⟨x3_0, x3_1, z3_0, z3_1, s3⟩ := b3.out.e2
  obtain ⟨x4_0, x4_1, x4_2, x4_3, z4_0, z4_1, z4_2, z4_3, s4⟩ := b4.out.e4
  have szb := HB9.out.size
  obtain ⟨k5, A5, l5, c5, rfl⟩ := hv1.open
  have HG := Lib.hid hv1
  clear hv1
  go_upto_region 6 with (fail)
  have q10 := b2.out.lt
  have q11 := b3.out.lt
  have q12 := b4.out.lt
  change Code.wp Tryz.prog _ _ _ (W8.alloc (.cells #[.bool k5, .slice A5 l5 c5] 33))
  obtain ⟨nb6, na⟩ := new1 W8 33 [.bool k5, .slice A5 l5 c5] lf2
  have nb2 := b2.out.up na
  have nb3 := b3.out.up na
  have nb4 := b4.out.up na
  have nkeep := Keep.ofBelow na
  have nbel := below_then HB9.out na HB9.out.size
  generalize W8.alloc (.cells #[.bool k5, .slice A5 l5 c5] 33) = W13 at *
  clear na x2_0 x2_1 z2_0 z2_1 x3_0 x3_1 z3_0 z3_1 x4_0 x4_1 x4_2 x4_3 z4_0 z4_1 z4_2 z4_3 szb s2 s3 s4 b2 b3 b4
  have b2 := Lib.hid nb2
  have b3 := Lib.hid nb3
  have b4 := Lib.hid nb4
  have b6 := Lib.hid nb6
  clear nb2 nb3 nb4 nb6
  replace H1 := Lib.hid (H1.out.kept nkeep)
  replace H2 := Lib.hid (H2.out.kept nkeep)
  replace HG := Lib.hid (HG.out.kept nkeep)
  clear nkeep
  have HB14 := Lib.hid nbel
  clear nbel HB9
  obtain ⟨x2_0, x2_1, z2_0, z2_1, s2⟩ := b2.out.e2
  obtain ⟨x3_0, x3_1, z3_0, z3_1, s3⟩ := b3.out.e2
  obtain ⟨x4_0, x4_1, x4_2, x4_3, z4_0, z4_1, z4_2, z4_3, s4⟩ := b4.out.e4
  obtain ⟨x6_0, x6_1, s6⟩ := b6.out.d2
  have szb := HB14.out.size
  go_wp2_with fail
  refine (rquo_fact H1.out HG.out (by omega) (by omega) hne).mono ?_
  rintro e W15 ⟨k6, A6, l6, c6, k7, A7, l7, c7, rfl, hv3, hb⟩
  replace b2 := hup b2 hb
  replace b3 := hup b3 hb
  replace b4 := hup b4 hb
  replace b6 := hup b6 hb
  replace H1 := Lib.hid (H1.out.kept (Keep.ofBelow hb))
  replace H2 := Lib.hid (H2.out.kept (Keep.ofBelow hb))
  replace HG := Lib.hid (HG.out.kept (Keep.ofBelow hb))
  have nbel := below_then HB14.out hb HB14.out.size
  have HB16 := Lib.hid nbel
  clear nbel HB14 hb x2_0 x2_1 z2_0 z2_1 x3_0 x3_1 z3_0 z3_1 x4_0 x4_1 x4_2 x4_3 z4_0 z4_1 z4_2 z4_3 x6_0 x6_1 szb s2 s3 s4 s6
  obtain ⟨x2_0, x2_1, z2_0, z2_1, s2⟩ := b2.out.e2
  obtain ⟨x3_0, x3_1, z3_0, z3_1, s3⟩ := b3.out.e2
  obtain ⟨x4_0, x4_1, x4_2, x4_3, z4_0, z4_1, z4_2, z4_3, s4⟩ := b4.out.e4
  obtain ⟨x6_0, x6_1, s6⟩ := b6.out.d2
  have szb := HB16.out.size
  have HN := Lib.hid hv3
  clear hv3
  go_upto_region 7 with (fail)
  change Code.wp Tryz.prog _ _ _ ((W15.setCell ⟨w.heap.size, 0, none⟩ (.bool k6)).setCell ⟨w.heap.size, 1, none⟩ (.slice A6 l6 c6))
  have nb2 : Bx 33 ((W15.setCell ⟨w.heap.size, 0, none⟩ (.bool k6)).setCell ⟨w.heap.size, 1, none⟩ (.slice A6 l6 c6)) w.heap.size [.bool k6, .slice A6 l6 c6] := (Bx.set2 b2.out (Leaf.bool k6) (Leaf.slice A6 l6 c6))
  have nb3 : Bx 33 ((W15.setCell ⟨w.heap.size, 0, none⟩ (.bool k6)).setCell ⟨w.heap.size, 1, none⟩ (.slice A6 l6 c6)) (w.heap.size + 1) [.bool k4, .slice A4 l4 c4] := (Bx.far2 (g' := w.heap.size) b3.out (by omega) (.bool k6) (.slice A6 l6 c6))
  have nb4 : Bx 35 ((W15.setCell ⟨w.heap.size, 0, none⟩ (.bool k6)).setCell ⟨w.heap.size, 1, none⟩ (.slice A6 l6 c6)) (w.heap.size + 1 + 1) [.bool false, .slice none 0 0, .bool false, .slice none 0 0] := (Bx.far2 (g' := w.heap.size) b4.out (by omega) (.bool k6) (.slice A6 l6 c6))
  have nb6 : Bx 33 ((W15.setCell ⟨w.heap.size, 0, none⟩ (.bool k6)).setCell ⟨w.heap.size, 1, none⟩ (.slice A6 l6 c6)) W8.heap.size [.bool k5, .slice A5 l5 c5] := (Bx.far2 (g' := w.heap.size) b6.out (by omega) (.bool k6) (.slice A6 l6 c6))
  have nkeep := (Keep.set2 (Keep.refl W15) b2.out (Leaf.bool k6) (Leaf.slice A6 l6 c6))
  have nbel : Below w.heap.size w ((W15.setCell ⟨w.heap.size, 0, none⟩ (.bool k6)).setCell ⟨w.heap.size, 1, none⟩ (.slice A6 l6 c6)) := (Below.set2 (g := w.heap.size) HB16.out (by first | omega | (simp; done) | (simp; omega)) (.bool k6) (.slice A6 l6 c6))
  generalize (W15.setCell ⟨w.heap.size, 0, none⟩ (.bool k6)).setCell ⟨w.heap.size, 1, none⟩ (.slice A6 l6 c6) = W17 at *
  clear x2_0 x2_1 z2_0 z2_1 x3_0 x3_1 z3_0 z3_1 x4_0 x4_1 x4_2 x4_3 z4_0 z4_1 z4_2 z4_3 x6_0 x6_1 szb s2 s3 s4 s6 b2 b3 b4 b6
  have b2 := Lib.hid nb2
  have b3 := Lib.hid nb3
  have b4 := Lib.hid nb4
  have b6 := Lib.hid nb6
  clear nb2 nb3 nb4 nb6
  replace H1 := Lib.hid (H1.out.kept nkeep)
  replace H2 := Lib.hid (H2.out.kept nkeep)
  replace HG := Lib.hid (HG.out.kept nkeep)
  replace HN := Lib.hid (HN.out.kept nkeep)
  clear nkeep
  have HB18 := Lib.hid nbel
  clear nbel HB16
  obtain ⟨x2_0, x2_1, z2_0, z2_1, s2⟩ := b2.out.e2
  obtain ⟨x3_0, x3_1, z3_0, z3_1, s3⟩ := b3.out.e2
  obtain ⟨x4_0, x4_1, x4_2, x4_3, z4_0, z4_1, z4_2, z4_3, s4⟩ := b4.out.e4
  obtain ⟨x6_0, x6_1, s6⟩ := b6.out.d2
  have szb := HB18.out.size
  go_wp2_with fail
  refine (rquo_fact H2.out HG.out (by omega) (by omega) hne).mono ?_
  rintro e W19 ⟨k8, A8, l8, c8, k9, A9, l9, c9, rfl, hv3, hb⟩
  replace b2 := hup b2 hb
  replace b3 := hup b3 hb
  replace b4 := hup b4 hb
  replace b6 := hup b6 hb
  replace H1 := Lib.hid (H1.out.kept (Keep.ofBelow hb))
  replace H2 := Lib.hid (H2.out.kept (Keep.ofBelow hb))
  replace HG := Lib.hid (HG.out.kept (Keep.ofBelow hb))
  replace HN := Lib.hid (HN.out.kept (Keep.ofBelow hb))
  have nbel := below_then HB18.out hb HB18.out.size
  have HB20 := Lib.hid nbel
  clear nbel HB18 hb x2_0 x2_1 z2_0 z2_1 x3_0 x3_1 z3_0 z3_1 x4_0 x4_1 x4_2 x4_3 z4_0 z4_1 z4_2 z4_3 x6_0 x6_1 szb s2 s3 s4 s6
  obtain ⟨x2_0, x2_1, z2_0, z2_1, s2⟩ := b2.out.e2
  obtain ⟨x3_0, x3_1, z3_0, z3_1, s3⟩ := b3.out.e2
  obtain ⟨x4_0, x4_1, x4_2, x4_3, z4_0, z4_1, z4_2, z4_3, s4⟩ := b4.out.e4
  obtain ⟨x6_0, x6_1, s6⟩ := b6.out.d2
  have szb := HB20.out.size
  have HD := Lib.hid hv3
  clear hv3
  go_upto_region 8 with (fail)
  change Code.wp Tryz.prog _ _ _ ((W19.setCell ⟨w.heap.size + 1, 0, none⟩ (.bool k8)).setCell ⟨w.heap.size + 1, 1, none⟩ (.slice A8 l8 c8))
  have nb2 : Bx 33 ((W19.setCell ⟨w.heap.size + 1, 0, none⟩ (.bool k8)).setCell ⟨w.heap.size + 1, 1, none⟩ (.slice A8 l8 c8)) w.heap.size [.bool k6, .slice A6 l6 c6] := (Bx.far2 (g' := w.heap.size + 1) b2.out (by omega) (.bool k8) (.slice A8 l8 c8))
  have nb3 : Bx 33 ((W19.setCell ⟨w.heap.size + 1, 0, none⟩ (.bool k8)).setCell ⟨w.heap.size + 1, 1, none⟩ (.slice A8 l8 c8)) (w.heap.size + 1) [.bool k8, .slice A8 l8 c8] := (Bx.set2 b3.out (Leaf.bool k8) (Leaf.slice A8 l8 c8))
  have nb4 : Bx 35 ((W19.setCell ⟨w.heap.size + 1, 0, none⟩ (.bool k8)).setCell ⟨w.heap.size + 1, 1, none⟩ (.slice A8 l8 c8)) (w.heap.size + 1 + 1) [.bool false, .slice none 0 0, .bool false, .slice none 0 0] := (Bx.far2 (g' := w.heap.size + 1) b4.out (by omega) (.bool k8) (.slice A8 l8 c8))
  have nb6 : Bx 33 ((W19.setCell ⟨w.heap.size + 1, 0, none⟩ (.bool k8)).setCell ⟨w.heap.size + 1, 1, none⟩ (.slice A8 l8 c8)) W8.heap.size [.bool k5, .slice A5 l5 c5] := (Bx.far2 (g' := w.heap.size + 1) b6.out (by omega) (.bool k8) (.slice A8 l8 c8))
  have nkeep := (Keep.set2 (Keep.refl W19) b3.out (Leaf.bool k8) (Leaf.slice A8 l8 c8))
  have nbel : Below w.heap.size w ((W19.setCell ⟨w.heap.size + 1, 0, none⟩ (.bool k8)).setCell ⟨w.heap.size + 1, 1, none⟩ (.slice A8 l8 c8)) := (Below.set2 (g := w.heap.size + 1) HB20.out (by first | omega | (simp; done) | (simp; omega)) (.bool k8) (.slice A8 l8 c8))
  generalize (W19.setCell ⟨w.heap.size + 1, 0, none⟩ (.bool k8)).setCell ⟨w.heap.size + 1, 1, none⟩ (.slice A8 l8 c8) = W21 at *
  clear x2_0 x2_1 z2_0 z2_1 x3_0 x3_1 z3_0 z3_1 x4_0 x4_1 x4_2 x4_3 z4_0 z4_1 z4_2 z4_3 x6_0 x6_1 szb s2 s3 s4 s6 b2 b3 b4 b6
  have b2 := Lib.hid nb2
  have b3 := Lib.hid nb3
  have b4 := Lib.hid nb4
  have b6 := Lib.hid nb6
  clear nb2 nb3 nb4 nb6
  replace H1 := Lib.hid (H1.out.kept nkeep)
  replace H2 := Lib.hid (H2.out.kept nkeep)
  replace HG := Lib.hid (HG.out.kept nkeep)
  replace HN := Lib.hid (HN.out.kept nkeep)
  replace HD := Lib.hid (HD.out.kept nkeep)
  clear nkeep
  have HB22 := Lib.hid nbel
  clear nbel HB20
  obtain ⟨x2_0, x2_1, z2_0, z2_1, s2⟩ := b2.out.e2
  obtain ⟨x3_0, x3_1, z3_0, z3_1, s3⟩ := b3.out.e2
  obtain ⟨x4_0, x4_1, x4_2, x4_3, z4_0, z4_1, z4_2, z4_3, s4⟩ := b4.out.e4
  obtain ⟨x6_0, x6_1, s6⟩ := b6.out.d2
  have szb := HB22.out.size
  go_wp2_with fail
  have hkeep := (Keep.set4 (Keep.refl W21) b4.out (Leaf.bool k6) (Leaf.slice A6 l6 c6) (Leaf.bool k8) (Leaf.slice A8 l8 c8))
  have hbel := (Below.set4 (g := w.heap.size + 1 + 1) HB22.out (by first | omega | (simp; done) | (simp; omega)) (.bool k6) (.slice A6 l6 c6) (.bool k8) (.slice A8 l8 c8))
  refine bodyPost_ret (v := .tuple #[.agg #[.bool k6, .slice A6 l6 c6, .bool k8, .slice A8 l8 c8], .int .i64 0]) (by simp [results, Tryz.results47, go_sem, x4_0, x4_1, x4_2, x4_3]) rfl ⟨_, rfl, RRat.mk (HN.out.kept hkeep) (HD.out.kept hkeep) (by rw [← red_num hq]; unfold divr; rw [if_pos hlt, Int.gcd_neg, Int.neg_gcd, Int.neg_tdiv, Int.tdiv_neg]) (by rw [← red_den hq]; unfold divr; rw [if_pos hlt, Int.gcd_neg, Int.neg_gcd, Int.neg_tdiv, Int.tdiv_neg]), hbel⟩
theorem rnew_ok {p q : Int} {n : Nat} {a b : Value} {w : World} (h1 : PRef p n a w) (h2 : PRef q n b w) (hn : n ≤ 20000) (hq : q ≠ 0) :
  Calls Tryz.prog 47 #[a, b] w fun e w' => ∃ v, e = .returned v ∧ RRatOk (Rat.divInt p q) n v w' ∧ Below w.heap.size w w' := by
 obtain ⟨k, A, l, c, rfl⟩ := h1.open
 obtain ⟨k', A', l', c', rfl⟩ := h2.open
 have hg : (Int.gcd p q : Int) ≠ 0 := by have := Int.gcd_ne_zero_right (a := p) hq; omega
 have hc : Calls Tryz.prog 47 #[.agg #[.bool k, .slice A l c], .agg #[.bool k', .slice A' l' c']] w fun e w' => ∃ v, e = .returned (.tuple #[v, .int .i64 0]) ∧ RRat (Rat.divInt p q) n v w' ∧ Below w.heap.size w w' := by
  rcases Int.lt_trichotomy q 0 with h | h | h
  ·exact rnew_neg h1 h2 hn h (by unfold cmpI; rw [if_pos h]) hq (by rw [Int.gcd_neg, Int.neg_gcd]; exact hg)
  ·exact absurd h hq
  ·exact rnew_pos h1 h2 hn h (by unfold cmpI; rw [if_neg (by omega), if_neg (by omega)]) hq hg
 refine hc.mono ?_
 rintro e w' ⟨v, rfl, hv, hb⟩
 exact ⟨_, rfl, ⟨v, rfl, hv⟩, hb⟩
set_option maxRecDepth 20000 in
set_option maxHeartbeats 3200000 in
theorem rquot_op {p q : Int} {n : Nat} {k : Bool} {A : Option Addr} {l c : Nat} {k' : Bool} {A' : Option Addr} {l' c' : Nat} {w : World} (h1 : PRef p n (.agg #[.bool k, .slice A l c]) w) (h2 : PRef q n (.agg #[.bool k', .slice A' l' c']) w) (hn : n ≤ 20000) (hq : q ≠ 0) :
  Calls Tryz.prog 21 #[.agg #[.bool k, .slice A l c], .agg #[.bool k', .slice A' l' c']] w fun e w' => ∃ v, e = .returned v ∧ RRat (Rat.divInt p q) n v w' ∧ Below w.heap.size w w' := by
 have H1 := Lib.hid h1
 have H2 := Lib.hid h2
 clear h1 h2
 go_enter Tryz.func21, Tryz.ntmps21
 go_upto_region 1 with (fail)
 change Code.wp Tryz.prog _ _ _ (((w.alloc (.cells #[.bool k, .slice A l c] 33)).alloc (.cells #[.bool k', .slice A' l' c'] 33)).alloc (.cells #[.bool false, .slice none 0 0, .bool false, .slice none 0 0] 35))
 obtain ⟨nb2, nb3, nb4, na⟩ := new3 w 33 [.bool k, .slice A l c] 33 [.bool k', .slice A' l' c'] 35 [.bool false, .slice none 0 0, .bool false, .slice none 0 0] lf2 lf2 lf4
 have nkeep := Keep.ofBelow na
 have nbel := na
 generalize ((w.alloc (.cells #[.bool k, .slice A l c] 33)).alloc (.cells #[.bool k', .slice A' l' c'] 33)).alloc (.cells #[.bool false, .slice none 0 0, .bool false, .slice none 0 0] 35) = W1 at *
 clear na
 have b2 := Lib.hid nb2
 have b3 := Lib.hid nb3
 have b4 := Lib.hid nb4
 clear nb2 nb3 nb4
 replace H1 := Lib.hid (H1.out.kept nkeep)
 replace H2 := Lib.hid (H2.out.kept nkeep)
 clear nkeep
 have HB2 := Lib.hid nbel
 clear nbel
 obtain ⟨x20, x21, s2⟩ := b2.out.d2
 obtain ⟨x30, x31, s3⟩ := b3.out.d2
 obtain ⟨x40, x41, x42, x43, z40, z41, z42, z43, s4⟩ := b4.out.e4
 have szb := HB2.out.size
 go_wp2_with fail
 refine (rnew_ok H1.out H2.out hn hq).mono ?_
 rintro e W3 ⟨v, rfl, ⟨v0, rfl, hv⟩, hb⟩
 replace b2 := hup b2 hb
 replace b3 := hup b3 hb
 replace b4 := hup b4 hb
 replace H1 := Lib.hid (H1.out.kept (Keep.ofBelow hb))
 replace H2 := Lib.hid (H2.out.kept (Keep.ofBelow hb))
 have nbel := below_then HB2.out hb HB2.out.size
 have HB4 := Lib.hid nbel
 clear nbel HB2 hb x20 x21 x30 x31 x40 x41 x42 x43 z40 z41 z42 z43 szb s2 s3 s4
 obtain ⟨x20, x21, s2⟩ := b2.out.d2
 obtain ⟨x30, x31, s3⟩ := b3.out.d2
 obtain ⟨x40, x41, x42, x43, z40, z41, z42, z43, s4⟩ := b4.out.e4
 have szb := HB4.out.size
 obtain ⟨k1, A1, l1, c1, k2, A2, l2, c2, rfl⟩ := hv.open
 have HV := Lib.hid hv
 clear hv
 go_upto_region 2 with (fail)
 have q5 := b2.out.lt
 have q6 := b3.out.lt
 have q7 := b4.out.lt
 change Code.wp Tryz.prog _ _ _ (W3.alloc (.cells #[.bool k1, .slice A1 l1 c1, .bool k2, .slice A2 l2 c2] 35))
 obtain ⟨nb5, na⟩ := new1 W3 35 [.bool k1, .slice A1 l1 c1, .bool k2, .slice A2 l2 c2] lf4
 have nb2 := b2.out.up na
 have nb3 := b3.out.up na
 have nb4 := b4.out.up na
 have nkeep := Keep.ofBelow na
 have nbel := below_then HB4.out na HB4.out.size
 generalize W3.alloc (.cells #[.bool k1, .slice A1 l1 c1, .bool k2, .slice A2 l2 c2] 35) = W8 at *
 clear na x20 x21 x30 x31 x40 x41 x42 x43 z40 z41 z42 z43 szb s2 s3 s4 b2 b3 b4
 have b2 := Lib.hid nb2
 have b3 := Lib.hid nb3
 have b4 := Lib.hid nb4
 have b5 := Lib.hid nb5
 clear nb2 nb3 nb4 nb5
 replace H1 := Lib.hid (H1.out.kept nkeep)
 replace H2 := Lib.hid (H2.out.kept nkeep)
 replace HV := Lib.hid (HV.out.kept nkeep)
 clear nkeep
 have HB9 := Lib.hid nbel
 clear nbel HB4
 obtain ⟨x20, x21, s2⟩ := b2.out.d2
 obtain ⟨x30, x31, s3⟩ := b3.out.d2
 obtain ⟨x40, x41, x42, x43, z40, z41, z42, z43, s4⟩ := b4.out.e4
 obtain ⟨x50, x51, x52, x53, s5⟩ := b5.out.d4
 have szb := HB9.out.size
 go_wp2_with fail
 have hkeep := (Keep.set4 (Keep.refl W8) b4.out (Leaf.bool k1) (Leaf.slice A1 l1 c1) (Leaf.bool k2) (Leaf.slice A2 l2 c2))
 have hbel := (Below.set4 (g := w.heap.size + 1 + 1) HB9.out (by first | omega | (simp; done) | (simp; omega)) (.bool k1) (.slice A1 l1 c1) (.bool k2) (.slice A2 l2 c2))
 refine bodyPost_ret (v := .agg #[.bool k1, .slice A1 l1 c1, .bool k2, .slice A2 l2 c2]) (by simp [results, Tryz.results21, go_sem, x40, x41, x42, x43]) rfl ⟨_, rfl, HV.out.kept hkeep, hbel⟩
theorem rquot_fact {p q : Int} {n : Nat} {a b : Value} {w : World} (h1 : PRef p n a w) (h2 : PRef q n b w) (hn : n ≤ 20000) (hq : q ≠ 0) :
  Calls Tryz.prog 21 #[a, b] w fun e w' => ∃ v, e = .returned v ∧ RRat (Rat.divInt p q) n v w' ∧ Below w.heap.size w w' := by
 obtain ⟨k, A, l, c, rfl⟩ := h1.open
 obtain ⟨k', A', l', c', rfl⟩ := h2.open
 exact rquot_op h1 h2 hn hq
set_option maxHeartbeats 3200000
set_option maxRecDepth 20000
theorem rparse_fact (s : ByteArray) (w : World) (hs : s.size ≤ 1000000) :
  Calls Tryz.prog 18 #[.string s] w fun e w' => ∃ v, e = .returned (.tuple #[v, .int .i64 (errOf s.data.toList)]) ∧ PRef (valZ s.data.toList) 500 v w' ∧ Below w.heap.size w w' := by
 refine (rparse_any s w hs).mono ?_
 rintro e w' ⟨k, A, c, L, rfl, hi, hl, h0, h1, hb⟩
 refine ⟨_, rfl, ⟨k, A, c, L, rfl, hi, ?_, hl⟩, hb⟩
 unfold valZ
 by_cases h : errOf s.data.toList = 0
 ·rw [if_pos h]
  obtain ⟨h2, h3⟩ := h0.out h
  exact textZ_R h2 h3
 ·rw [if_neg h]
  obtain ⟨rfl, rfl⟩ := h1.out h
  rfl
theorem rparse_is {s : ByteArray} {er : Int} (w : World) (hs : s.size ≤ 1000000) {L : List UInt8} (hL : s.data.toList = L) (he : errOf L = er) :
  Calls Tryz.prog 18 #[.string s] w fun e w' => ∃ v, e = .returned (.tuple #[v, .int .i64 er]) ∧ PRef (valZ L) 500 v w' ∧ Below w.heap.size w w' := by
 subst hL he
 exact rparse_fact s w hs
theorem rratText_is {x : Rat} {n : Nat} {v : Value} {w : World} {T : List UInt8} (h : RRat x n v w) (hn5 : 5 ≤ n) (hn : n ≤ 10000) (hT : ratText x = T) :
  Calls Tryz.prog 22 #[v] w fun e w' => e = .returned (.string ⟨T.toArray⟩) ∧ Below w.heap.size w w' := hT ▸ rratText_fact h hn5 hn
def sl (l : List UInt8) : Nat := l.idxOf 47
theorem sl_at {l : List UInt8} {i : Nat} (h : i < l.length) (hi : i ≤ sl l) : (l[i] = 47 ↔ sl l = i) := by
 unfold sl at *
 constructor
 ·intro h1
  rcases Nat.lt_or_ge i (l.idxOf 47) with h2 | h2
  ·exact absurd h1 (by have := List.not_of_lt_findIdx (p := (· == 47)) (xs := l) (i := i) h2; simpa using this)
  ·omega
 ·intro h1
  have h2 : l.idxOf 47 < l.length := by omega
  have h3 := List.getElem_idxOf h2
  simp only [h1] at h3
  exact h3
def topL (l : List UInt8) : List UInt8 := if sl l < l.length then l.take (sl l) else l
def botL (l : List UInt8) : List UInt8 := if sl l < l.length then l.drop (sl l + 1) else [49]
def ratV (l : List UInt8) : Rat := Rat.divInt (valZ (topL l)) (valZ (botL l))
theorem index_sl (l : List UInt8) : Lib.index l [47] = if sl l < l.length then (sl l : Int) else -1 := by
 induction l with
 | nil => rfl
 | cons b r ih =>
  unfold sl at *
  rw [Lib.index, List.idxOf_cons]
  by_cases h : b = 47
  ·subst h; simp [List.isPrefixOf]
  ·have h1 : List.isPrefixOf [47] (b :: r) = false := by simp [List.isPrefixOf]; exact Ne.symm h
   have h2 : (b == 47) = false := by simpa using h
   rw [h1, h2, ih]
   simp only [Bool.false_eq_true, if_false, cond_false, List.length_cons]
   by_cases h3 : List.idxOf 47 r < r.length
   ·have h4 : List.idxOf 47 r + 1 < r.length + 1 := by omega
    have h5 : ((List.idxOf 47 r : Int)) ≠ -1 := by omega
    simp [h3, h4, h5]
   ·have h4 : ¬ List.idxOf 47 r + 1 < r.length + 1 := by omega
    simp [h3, h4]
theorem cut_sl (l : List UInt8) : Lib.cut l [47] = if sl l < l.length then (topL l, botL l, true) else (l, [], false) := by
 unfold Lib.cut topL botL
 rw [index_sl]
 by_cases h : sl l < l.length
 ·simp [h]
 ·simp [h]
theorem textZ_abs (l : List UInt8) : (textZ l).natAbs = numOf (restOf l) := by unfold textZ; split <;> simp
theorem valZ_ok {l : List UInt8} (h : errOf l = 0) : valZ l = textZ l := by unfold valZ; rw [if_pos h]
theorem lowest {p q : Int} (hq : 0 < q) (hg : Int.gcd p q = 1) : (Rat.divInt p q).num = p ∧ ((Rat.divInt p q).den : Int) = q := by
 have h1 := red_num (a := p) (b := q) (by omega)
 have h2 := red_den (a := p) (b := q) (by omega)
 have hd : divr p q = 1 := by unfold divr; rw [if_neg (by omega), hg]; rfl
 rw [hd] at h1 h2
 exact ⟨by rw [← h1]; simp, by rw [← h2]; simp⟩
theorem val49 : valZ [49] = 1 := by decide +kernel
theorem top_len (l : List UInt8) : (topL l).length ≤ l.length := by unfold topL; split <;> simp <;> omega
theorem bot_len (l : List UInt8) : (botL l).length ≤ l.length + 1 := by unfold botL; split <;> simp <;> omega
abbrev zero4 : Value := .agg #[.bool false, .slice none 0 0, .bool false, .slice none 0 0]
structure LgS (w0 w : World) (g2 g3 g4 : Nat) (k : Bool) (A : Option Addr) (l c : Nat) (k' : Bool) (A' : Option Addr) (l' c' : Nat) (X : Int) (n : Nat) : Prop where
 bel : Below w0.heap.size w0 w
 b2 : Bx 33 w g2 [.bool false, .slice none 0 0]
 b3 : Bx 33 w g3 [.bool k, .slice A l c]
 b4 : Bx 33 w g4 [.bool k', .slice A' l' c']
 x3 : PRef X n (.agg #[.bool k, .slice A l c]) w
 u4 : PRef 1000000000000 5 (.agg #[.bool k', .slice A' l' c']) w
 ne : w0.heap.size ≤ g2 ∧ g2 < g3 ∧ g3 < g4
section
variable {w0 w w' : World} {g2 g3 g4 g7 : Nat} {k : Bool} {A : Option Addr} {l c : Nat} {k' : Bool} {A' : Option Addr} {l' c' : Nat} {X : Int} {n : Nat}
theorem LgS.up (h : LgS w0 w g2 g3 g4 k A l c k' A' l' c' X n) (hb : Below w.heap.size w w') : LgS w0 w' g2 g3 g4 k A l c k' A' l' c' X n :=
 ⟨below_then h.bel hb h.bel.size, h.b2.up hb, h.b3.up hb, h.b4.up hb, h.x3.kept (Keep.ofBelow hb), h.u4.kept (Keep.ofBelow hb), h.ne⟩
theorem LgS.far (h : LgS w0 w g2 g3 g4 k A l c k' A' l' c' X n) (h7 : g4 < g7) {a b x y : Value} (b7 : Bx 33 w g7 [a, b]) (hx : Leaf x) (hy : Leaf y) : LgS w0 ((w.setCell ⟨g7, 0, none⟩ x).setCell ⟨g7, 1, none⟩ y) g2 g3 g4 k A l c k' A' l' c' X n := by
 have hk := Keep.set2 (Keep.refl w) b7 hx hy
 have hne := h.ne
 exact ⟨Below.set2 h.bel (by omega) _ _, h.b2.far2 (by omega) _ _, h.b3.far2 (by omega) _ _, h.b4.far2 (by omega) _ _, h.x3.kept hk, h.u4.kept hk, h.ne⟩
theorem LgS.put (h : LgS w0 w g2 g3 g4 k A l c k' A' l' c' X n) {q : Bool} {E : Option Addr} {d e : Nat} {Y : Int} {m : Nat} (hv : PRef Y m (.agg #[.bool q, .slice E d e]) w) :
  LgS w0 ((w.setCell ⟨g3, 0, none⟩ (.bool q)).setCell ⟨g3, 1, none⟩ (.slice E d e)) g2 g3 g4 q E d e k' A' l' c' Y m := by
 have hk := Keep.set2 (Keep.refl w) h.b3 (Leaf.bool q) (Leaf.slice E d e)
 have hne := h.ne
 exact ⟨Below.set2 h.bel (by omega) _ _, h.b2.far2 (by omega) _ _, h.b3.set2 (Leaf.bool q) (Leaf.slice E d e), h.b4.far2 (by omega) _ _, hv.kept hk, h.u4.kept hk, h.ne⟩
end
def JL (W : World) (S : World → Prop) (g : Nat) : Nat → List Value → World → Prop
 | 0, _, w => Below W.heap.size W w
 | _ + 1, l, w => S w ∧ ∃ vs : List Value, l = [.agg vs.toArray] ∧ Bx 33 w g vs
theorem JL.st {W : World} {S : World → Prop} {g : Nat} (hS : ∀ w w', Below w.heap.size w w' → S w → S w') : ∀ k l w w', Below w.heap.size w w' → JL W S g k l w → JL W S g k l w'
 | 0, _, _, _, hb, h => below_then h hb h.size
 | _ + 1, _, _, _, hb, ⟨h1, vs, h3, h4⟩ => ⟨hS _ _ hb h1, vs, h3, h4.up hb⟩
/- The numbers. -/
theorem numOf_seg (D : List UInt8) (a m : Nat) : numOf (D.take a) * 10 ^ ((D.drop a).take m).length + numOf ((D.drop a).take m) = numOf (D.take (a + m)) := by
 rw [List.take_add, numOf_app]
theorem lg_seg {s : ByteArray} {D : List UInt8} {f0 p q : Nat} (hD : s.data.toList.drop f0 = D) (hd : AllDig D) (h0 : f0 ≤ p) (h1 : p ≤ q) (h2 : q < s.size) :
  isDig (s[q]'h2) = true ∧ numOf ((D.drop (p - f0)).take (q + 1 - p)) = 10 * numOf ((D.drop (p - f0)).take (q - p)) + ((s[q]'h2).toNat - 48) := by
 have hl : q < s.data.toList.length := by simpa using h2
 have hg : s.data.toList[q] = s[q]'h2 := toList_get s q h2
 have hx : (D.drop (p - f0))[q - p]? = some (s[q]'h2) := by
  rw [← hD, List.drop_drop, List.getElem?_drop, show f0 + (p - f0) + (q - p) = q by omega, List.getElem?_eq_getElem hl, hg]
 have hlt : q - p < (D.drop (p - f0)).length := by
  rcases Nat.lt_or_ge (q - p) (D.drop (p - f0)).length with h | h
  ·exact h
  ·rw [List.getElem?_eq_none h] at hx; cases hx
 have hx2 : (D.drop (p - f0))[q - p] = s[q]'h2 := by rw [List.getElem?_eq_getElem hlt] at hx; exact Option.some.inj hx
 constructor
 ·rw [← hx2]; exact hd _ (List.mem_of_mem_drop (List.getElem_mem hlt))
 ·rw [show q + 1 - p = (q - p) + 1 by omega, List.take_succ_eq_append_getElem hlt, numOf_snoc, hx2]
theorem lg_bd {D : List UInt8} (h : AllDig D) (a m : Nat) (hm : m ≤ 12) : numOf ((D.drop a).take m) < 1000000000000 := by
 have h1 := numOf_lt (l := (D.drop a).take m) (fun c hc => h c (List.mem_of_mem_drop (List.mem_of_mem_take hc)))
 have h2 : ((D.drop a).take m).length ≤ 12 := by simp; omega
 have h3 : 10 ^ ((D.drop a).take m).length ≤ 10 ^ 12 := Nat.pow_le_pow_right (by omega) h2
 omega
theorem lg_num {D : List UInt8} {p q f0 : Nat} (h0 : f0 ≤ p) (h1 : p ≤ q) (h2 : q ≤ f0 + D.length) : ((numOf (D.take (p - f0)) : Nat) : Int) * ((10 ^ (q - p) : Nat) : Int) + ((numOf ((D.drop (p - f0)).take (q - p)) : Nat) : Int) = ((numOf (D.take (q - f0)) : Nat) : Int) := by
 have h := numOf_seg D (p - f0) (q - p)
 rw [show p - f0 + (q - p) = q - f0 by omega, show ((D.drop (p - f0)).take (q - p)).length = q - p by simp; omega] at h
 rw [← h, Int.natCast_add, Int.natCast_mul]
def lgFL (Y : Int) (nf : Nat) : List (Nat × AS.Fact) := [(41, AS.Fact.ref Y nf), (42, AS.Fact.ref 10 5), (43, AS.Fact.ref (Y * 10) (nf + 5))]
set_option maxRecDepth 20000 in
set_option maxHeartbeats 3200000 in
theorem rlong_fact {s : ByteArray} {D : List UInt8} {f0 : Nat} {b0 : UInt8} {w : World} (hs : s.size ≤ 9000) (hf : f0 + D.length = s.size) (hd : AllDig D) (hD : s.data.toList.drop f0 = D)
  (hcase : (decide (0 < s.size) = false ∧ Hid (f0 = 0)) ∨ (0 < s.size ∧ (∀ h, s[0]'h = b0) ∧ ((b0.toNat : Int) == 45) = true ∧ Hid (f0 = 1)) ∨ (0 < s.size ∧ (∀ h, s[0]'h = b0) ∧ ((b0.toNat : Int) == 45) = false ∧ Hid (f0 = 0))) :
  Calls Tryz.prog 46 #[.string s] w fun e w' => ∃ v, e = .returned v ∧ PRef (numOf D : Int) (s.size + 100) v w' ∧ Below w.heap.size w w' := by
 have HD := Lib.hid hD
 have HDG := Lib.hid hd
 have HF0 := Lib.hid hf
 have HC := Lib.hid hcase
 clear hD hd hf hcase
 go_enter Tryz.func46, Tryz.ntmps46
 go_upto_region 1 with (fail)
 change Code.wp Tryz.prog _ _ _ (w.alloc (.cells #[.bool false, .slice none 0 0] 33))
 obtain ⟨nb2, na⟩ := new1 w 33 [.bool false, .slice none 0 0] lf2
 generalize w.alloc (.cells #[.bool false, .slice none 0 0] 33) = W1 at *
 have b2 := Lib.hid nb2
 have HB := Lib.hid na
 clear nb2 na
 go_wp2_with fail
 refine (rof_fact (by decide) (by decide)).mono ?_
 rintro e W2 ⟨v, rfl, hv, hb⟩
 obtain ⟨k, A, l, c, rfl⟩ := hv.open
 have HX := Lib.hid hv
 replace b2 := hup b2 hb
 replace HB := Lib.hid (below_then HB.out hb HB.out.size)
 clear hv hb
 have q2 := b2.out.lt
 go_upto_region 2 with (fail)
 change Code.wp Tryz.prog _ _ _ (W2.alloc (.cells #[.bool k, .slice A l c] 33))
 obtain ⟨nb3, na⟩ := new1 W2 33 [.bool k, .slice A l c] lf2
 obtain ⟨g3, hg3⟩ : ∃ g, W2.heap.size = g := ⟨_, rfl⟩
 rw [hg3] at nb3 q2
 replace b2 := hup b2 na
 replace HX := Lib.hid (HX.out.kept (Keep.ofBelow na))
 replace HB := Lib.hid (below_then HB.out na HB.out.size)
 rw [hg3]
 clear hg3 na
 generalize W2.alloc (.cells #[.bool k, .slice A l c] 33) = W3 at *
 have b3 := Lib.hid nb3
 clear nb3
 go_wp2_with fail
 refine (rof_fact (by decide) (by decide)).mono ?_
 rintro e W4 ⟨v, rfl, hv, hb⟩
 obtain ⟨k', A', l', c', rfl⟩ := hv.open
 have HU := Lib.hid hv
 replace b2 := hup b2 hb
 replace b3 := hup b3 hb
 replace HX := Lib.hid (HX.out.kept (Keep.ofBelow hb))
 replace HB := Lib.hid (below_then HB.out hb HB.out.size)
 clear hv hb
 have q3 := b3.out.lt
 go_upto_region 4 with (fail)
 change Code.wp Tryz.prog _ _ _ (W4.alloc (.cells #[.bool k', .slice A' l' c'] 33))
 obtain ⟨nb4, na⟩ := new1 W4 33 [.bool k', .slice A' l' c'] lf2
 obtain ⟨g4, hg4⟩ : ∃ g, W4.heap.size = g := ⟨_, rfl⟩
 rw [hg4] at nb4 q3
 have hS : LgS w (W4.alloc (.cells #[.bool k', .slice A' l' c'] 33)) w.heap.size g3 g4 k A l c k' A' l' c' 0 5 :=
  ⟨below_then HB.out na HB.out.size, b2.out.up na, b3.out.up na, nb4, HX.out.kept (Keep.ofBelow na), HU.out.kept (Keep.ofBelow na), Nat.le_refl _, q2, q3⟩
 rw [hg4]
 clear hg4 na nb4 b2 b3 HX HU HB q2 q3
 generalize W4.alloc (.cells #[.bool k', .slice A' l' c'] 33) = W5 at *
 have HS := Lib.hid hS
 clear hS
 rcases HC.out with ⟨h0, HF⟩ | ⟨h0, hq, hq2, HF⟩ | ⟨h0, hq, hq2, HF⟩
 all_goals
  clear HC
  go_wp2_with fail
  go_loopw [5] (fun v5 wr => ∃ (p n : Nat) (k : Bool) (A : Option Addr) (l c : Nat), v5 = .int .i64 (p : Int) ∧ f0 ≤ p ∧ p ≤ s.size ∧ n ≤ p + 100 ∧ Hid (p < s.size → n ≤ p + 5) ∧ Hid (LgS w wr w.heap.size g3 g4 k A l c k' A' l' c' ((numOf (D.take (p - f0)) : Nat) : Int) n)) (fun v5 _ => s.size - (intOf v5).toNat)
  case atStart => exact ⟨f0, 5, k, A, l, c, by rw [HF.out]; rfl, Nat.le_refl _, by have := HF0.out; omega, by omega, fun _ => by omega, by rw [Nat.sub_self]; exact HS⟩
  case round =>
   obtain ⟨p, n, k, A, l, c, rfl, hp0, hp1, hn, hn2, hS⟩ := hrel
   clear HS
   by_cases hlt : p < s.size
   ·have hlt' : (p : Int) < (s.size : Int) := by omega
    have hn3 := hn2.out hlt
    clear hn2
    obtain ⟨x40, x41, s4⟩ := hS.out.b4.d2
    go_upto_region 9 with (fail)
    change Code.wp Tryz.prog _ _ _ (wr.alloc (.cells #[.bool k', .slice A' l' c'] 33))
    obtain ⟨nb7, na⟩ := new1 wr 33 [.bool k', .slice A' l' c'] lf2
    obtain ⟨g7, hg7⟩ : ∃ g, wr.heap.size = g := ⟨_, rfl⟩
    rw [hg7] at nb7 s4
    have hS5 := Lib.hid (hS.out.up na)
    rw [hg7]
    clear hg7 na x40 x41 hS
    generalize wr.alloc (.cells #[.bool k', .slice A' l' c'] 33) = W6 at *
    have b7 := Lib.hid nb7
    clear nb7
    have hg7 : g4 < g7 := s4
    clear s4
    by_cases hfull : s.size < p + 12
    ·have hfull' : (s.size : Int) < (p : Int) + 12 := by omega
     go_wp2_with fail
     refine (rof_fact (by decide) (by decide)).mono ?_
     rintro e W7 ⟨v, rfl, hv, hb⟩
     obtain ⟨k6, A6, l6, c6, rfl⟩ := hv.open
     have hS6 := Lib.hid (hS5.out.up hb)
     replace b7 := hup b7 hb
     clear hb hS5
     obtain ⟨x70, x71, z70, z71, s7⟩ := b7.out.e2
     go_upto_region 12 with (fail)
     change Code.wp Tryz.prog _ _ _ ((W7.setCell ⟨g7, 0, none⟩ (.bool k6)).setCell ⟨g7, 1, none⟩ (.slice A6 l6 c6))
     have nF := hv.kept (Keep.set2 (Keep.refl W7) b7.out (Leaf.bool k6) (Leaf.slice A6 l6 c6))
     have n7 := b7.out.set2 (Leaf.bool k6) (Leaf.slice A6 l6 c6)
     replace hS6 := Lib.hid (hS6.out.far hg7 b7.out (Leaf.bool k6) (Leaf.slice A6 l6 c6))
     clear x70 x71 z70 z71 s7 b7 hv
     generalize (W7.setCell ⟨g7, 0, none⟩ (.bool k6)).setCell ⟨g7, 1, none⟩ (.slice A6 l6 c6) = W8 at *
     have HF6 := Lib.hid nF
     have b6 := Lib.hid n7
     clear nF n7
     go_wp2_with fail
     go_loopw [8] (fun v8 w9 => ∃ (i nf : Nat) (k7 : Bool) (A7 : Option Addr) (l7 c7 : Nat), v8 = .int .i64 (i : Int) ∧ p ≤ i ∧ i ≤ s.size ∧ nf = 5 + 5 * (i - p) ∧ Hid (LgS w w9 w.heap.size g3 g4 k A l c k' A' l' c' ((numOf (D.take (p - f0)) : Nat) : Int) n) ∧ Hid (Bx 33 w9 g7 [.bool k7, .slice A7 l7 c7]) ∧ Hid (PRef ((10 ^ (i - p) : Nat) : Int) nf (.agg #[.bool k7, .slice A7 l7 c7]) w9)) (fun v8 _ => s.size - (intOf v8).toNat)
     case atStart => exact ⟨p, 5, k6, A6, l6, c6, rfl, Nat.le_refl _, hp1, by omega, hS6, b6, by rw [Nat.sub_self]; exact HF6⟩
     case round =>
      obtain ⟨i, nf, k7, A7, l7, c7, rfl, hi0, hi1, hnf, hS6, b7, HF7⟩ := hrel
      clear b6 HF6
      by_cases hil : i < s.size
      ·have hil' : (i : Int) < (s.size : Int) := by omega
       go_wp2_with fail
       refine AS.region_facts (lgFL ((10 ^ (i - p) : Nat) : Int) nf) (JL wr (fun w' => LgS w w' w.heap.size g3 g4 k A l c k' A' l' c' ((numOf (D.take (p - f0)) : Nat) : Int) n) g7) [[], [], [41, 42], [43]] [3] [[], [43]] [0, 1, 1, 1] [] (fun u => by simp only [lgFL, AS.temps, List.map_cons, List.map_nil, fillL, List.setIfInBounds_toArray, List.set_cons_zero, List.set_cons_succ]; rfl) (by kernel_rfl) (by kernel_rfl) (JL.st fun _ _ hb h => h.up hb) (below_drew (Below.refl _ _)) ?_ ?_
       ·refine AS.sc rfl rfl rfl ?_ ?_
        ·intro k_ u w_ hk hJ hF K hK
         clear hF
         obtain rfl : k_ = 0 := Nat.le_zero.1 hk
         have hJ0 : Below wr.heap.size wr w_ := hJ
         obtain ⟨y0, y1⟩ := ((b7.out).up hJ0).c2
         go_simp
         exact hK.out _ _ (Below.refl _ _) ((HF7.out).kept (Keep.ofBelow hJ0)) trivial
        refine AS.sc rfl rfl rfl ?_ ?_
        ·intro k_ u w_ hk hJ hF K hK
         clear hF
         go_simp
         refine (rof_fact (by decide) (by decide)).mono ?_
         rintro e w' ⟨v, rfl, hv, hb⟩
         exact hK.out _ _ hb (hv) trivial
        refine AS.sc rfl rfl rfl ?_ ?_
        ·intro k_ u w_ hk hJ hF K hK
         have h41 : PRef ((10 ^ (i - p) : Nat) : Int) nf (u 41) w_ := AS.facts_get hF 41 (by simp)
         have h42 : PRef 10 5 (u 42) w_ := AS.facts_get hF 42 (by simp)
         clear hF
         go_simp
         refine (rmul_fact h41 h42 (by omega) (by omega)).mono ?_
         rintro e w' ⟨v, rfl, hv, hb⟩
         exact hK.out _ _ hb (hv) trivial
        refine AS.ss rfl rfl ?_ ?_
        ·intro u w_ hJ hAp hF K hK
         have h43 : PRef (((10 ^ (i - p) : Nat) : Int) * 10) (nf + 5) (u 43) w_ := AS.facts_get hF 43 (by simp)
         clear hF
         obtain ⟨k2, A2, l2, c2, e_⟩ := h43.open
         have hJ0 : Below wr.heap.size wr w_ := hJ
         have bx := b7.out.up hJ0
         have hS9 := hS6.out.up hJ0
         obtain ⟨y0, y1, z0, z1⟩ := bx.cz2
         simp only [e_] at hK ⊢
         go_simp
         exact hK.out undef _ ⟨hS9.far hg7 bx (Leaf.bool k2) (Leaf.slice A2 l2 c2), [.bool k2, .slice A2 l2 c2], by simp [e_], bx.set2 (Leaf.bool k2) (Leaf.slice A2 l2 c2)⟩ (Keep.set2 (Keep.refl w_) bx (Leaf.bool k2) (Leaf.slice A2 l2 c2))
        exact AS.StepsOk.nil
       ·intro u W9 hJ9 hF
        have h43 : PRef (((10 ^ (i - p) : Nat) : Int) * 10) (nf + 5) (u 43) W9 := AS.facts_get hF 43 (by simp [lgFL, AS.temps])
        clear hF
        obtain ⟨hS9, vs, hvs, hb7⟩ := hJ9
        obtain ⟨k3, A3, l3, c3, ea⟩ := h43.open
        rw [ea] at h43
        obtain rfl : vs = [.bool k3, .slice A3 l3 c3] := by
         have e1 := (List.cons.inj hvs).1
         rw [show u 43 = _ from ea] at e1
         have e2 := congrArg Array.toList (Value.agg.inj e1)
         simpa using e2.symm
        have e3 : ((10 ^ (i - p) : Nat) : Int) * 10 = ((10 ^ (i + 1 - p) : Nat) : Int) := by rw [show i + 1 - p = (i - p) + 1 by omega, Nat.pow_succ, Int.natCast_mul]; rfl
        rw [e3] at h43
        have H4 := Lib.hid hS9
        have H5 := Lib.hid hb7
        have HX2 := Lib.hid h43
        clear hvs hS9 hb7 h43 e3 ea
        go_wp2
        exact ⟨⟨i + 1, nf + 5, k3, A3, l3, c3, by go_num, by omega, by omega, by omega, H4, H5, HX2⟩, by simp [intOf]; omega⟩
      ·obtain rfl : i = s.size := by omega
       have hii : decide ((s.size : Int) < (s.size : Int)) = false := by simp
       clear hil
       go_upto_region 18 with (fail)
       go_loop [9, 10] (fun v9 v10 => ∃ q : Nat, v10 = .int .i64 (q : Int) ∧ p ≤ q ∧ q ≤ s.size ∧ v9 = .int .i64 (numOf ((D.drop (p - f0)).take (q - p)) : Nat) ∧ numOf ((D.drop (p - f0)).take (q - p)) < 1000000000000) (fun _ v10 => s.size - (intOf v10).toNat)
       case atStart => exact ⟨p, rfl, Nat.le_refl _, by omega, by rw [Nat.sub_self]; rfl, by rw [Nat.sub_self, List.take_zero]; decide⟩
       case round =>
        obtain ⟨q, rfl, hq0, hq1, rfl, hqn⟩ := hrel
        by_cases hqe : q < s.size
        ·have hqs : q < s.size := by omega
         have hqe' : (q : Int) < (s.size : Int) := by omega
         have hqs' : (q : Int) < (s.size : Int) := by omega
         obtain ⟨d1, d2⟩ := lg_seg HD.out HDG.out hp0 hq0 hqs
         have hbd := lg_bd HDG.out (p - f0) (q + 1 - p) (by omega)
         obtain ⟨b, hb⟩ : ∃ b, s[q]'hqs = b := ⟨_, rfl⟩
         rw [hb] at d1 d2
         have hcb : ∀ h, s[q]'h = b := fun h => hb
         have d3 := isDig_iff.1 d1
         rw [d2] at hbd
         have HD2 := Lib.hid d2
         generalize numOf ((D.drop (p - f0)).take (q - p)) = N at *
         obtain ⟨d4, d5⟩ := d3
         have d6 : 48 ≤ (b.toNat : Int) := by omega
         have d7 : (b.toNat : Int) ≤ 57 := by omega
         clear hb d1 d2 hqe
         go_wp2_with fail
         go_round
         case rel => exact ⟨q + 1, by go_num, by omega, by omega, by rw [HD2.out]; go_num, by rw [HD2.out]; exact hbd⟩
         case measure => simp [intOf]; omega
        ·obtain rfl : q = s.size := by omega
         clear hqe
         have hqq : decide ((s.size : Int) < (s.size : Int)) = false := by simp
         have hnum := Lib.hid (lg_num (D := D) (p := p) (q := s.size) (f0 := f0) hp0 hq0 (by have := HF0.out; omega))
         generalize numOf ((D.drop (p - f0)).take (s.size - p)) = N at *
         obtain ⟨x30, x31, s3⟩ := hS6.out.b3.d2
         obtain ⟨x70, x71, s7⟩ := b7.out.d2
         go_wp2_with fail
         refine (rmul_fact hS6.out.x3 HF7.out (by omega) (by omega)).mono ?_
         rintro e W10 ⟨v, rfl, hv, hb⟩
         clear x30 x31 s3 x70 x71 s7
         replace hS6 := Lib.hid (hS6.out.up hb)
         have HM := Lib.hid hv
         clear hv hb b7 HF7
         go_wp2_with fail
         refine (rof_fact (by omega) (by omega)).mono ?_
         rintro e W11 ⟨v5, rfl, hv, hb⟩
         replace hS6 := Lib.hid (hS6.out.up hb)
         replace HM := Lib.hid (HM.out.kept (Keep.ofBelow hb))
         have HO := Lib.hid hv
         clear hv hb
         go_wp2_with fail
         refine (radd_fact HM.out HO.out (by omega) (by omega)).mono ?_
         rintro e W12 ⟨v6, rfl, hv, hb⟩
         obtain ⟨k9, A9, l9, c9, rfl⟩ := hv.open
         replace hS6 := Lib.hid (hS6.out.up hb)
         rw [hnum.out] at hv
         have HA := Lib.hid (hS6.out.put hv)
         clear hv hb HM HO hnum
         obtain ⟨x30, x31, z30, z31, s3⟩ := hS6.out.b3.e2
         go_wp2
         exact ⟨⟨s.size, _, k9, A9, l9, c9, by go_num, by omega, by omega, by omega, fun h => by omega, HA.out⟩, by simp [intOf]; omega⟩
    ·have hfull' : decide ((s.size : Int) < (p : Int) + 12) = false := decide_eq_false (by omega)
     obtain ⟨E, hE⟩ : ∃ E : Nat, p + 12 = E := ⟨_, rfl⟩
     have hEi : (p : Int) + 12 = (E : Int) := by omega
     have hE1 : p + 12 ≤ E := by omega
     have hE2 : E ≤ p + 12 := by omega
     have hE3 : E ≤ s.size := by omega
     have hu := hS5.out.u4
     rw [show (1000000000000 : Int) = ((10 ^ (E - p) : Nat) : Int) by rw [show E - p = 12 by omega]; rfl] at hu
     have HF7 := Lib.hid hu
     have hS6 := hS5
     clear hE hfull hu hS5
     go_upto_region 18 with (fail)
     rw [hEi]
     clear hEi
     go_loop [9, 10] (fun v9 v10 => ∃ q : Nat, v10 = .int .i64 (q : Int) ∧ p ≤ q ∧ q ≤ E ∧ v9 = .int .i64 (numOf ((D.drop (p - f0)).take (q - p)) : Nat) ∧ numOf ((D.drop (p - f0)).take (q - p)) < 1000000000000) (fun _ v10 => E - (intOf v10).toNat)
     case atStart => exact ⟨p, rfl, Nat.le_refl _, by omega, by rw [Nat.sub_self]; rfl, by rw [Nat.sub_self, List.take_zero]; decide⟩
     case round =>
      obtain ⟨q, rfl, hq0, hq1, rfl, hqn⟩ := hrel
      by_cases hqe : q < E
      ·have hqs : q < s.size := by omega
       have hqe' : (q : Int) < (E : Int) := by omega
       have hqs' : (q : Int) < (s.size : Int) := by omega
       obtain ⟨d1, d2⟩ := lg_seg HD.out HDG.out hp0 hq0 hqs
       have hbd := lg_bd HDG.out (p - f0) (q + 1 - p) (by omega)
       obtain ⟨b, hb⟩ : ∃ b, s[q]'hqs = b := ⟨_, rfl⟩
       rw [hb] at d1 d2
       have hcb : ∀ h, s[q]'h = b := fun h => hb
       have d3 := isDig_iff.1 d1
       rw [d2] at hbd
       have HD2 := Lib.hid d2
       generalize numOf ((D.drop (p - f0)).take (q - p)) = N at *
       obtain ⟨d4, d5⟩ := d3
       have d6 : 48 ≤ (b.toNat : Int) := by omega
       have d7 : (b.toNat : Int) ≤ 57 := by omega
       clear hb d1 d2 hqe
       go_wp2_with fail
       go_round
       case rel => exact ⟨q + 1, by go_num, by omega, by omega, by rw [HD2.out]; go_num, by rw [HD2.out]; exact hbd⟩
       case measure => simp [intOf]; omega
      ·obtain rfl : q = E := by omega
       clear hqe
       have hqq : decide ((q : Int) < (q : Int)) = false := by simp
       have hnum := Lib.hid (lg_num (D := D) (p := p) (q := q) (f0 := f0) hp0 hq0 (by have := HF0.out; omega))
       generalize numOf ((D.drop (p - f0)).take (q - p)) = N at *
       obtain ⟨x30, x31, s3⟩ := hS6.out.b3.d2
       obtain ⟨x70, x71, s7⟩ := b7.out.d2
       go_wp2_with fail
       refine (rmul_fact hS6.out.x3 HF7.out (by omega) (by omega)).mono ?_
       rintro e W10 ⟨v, rfl, hv, hb⟩
       clear x30 x31 s3 x70 x71 s7
       replace hS6 := Lib.hid (hS6.out.up hb)
       have HM := Lib.hid hv
       clear hv hb b7 HF7
       go_wp2_with fail
       refine (rof_fact (by omega) (by omega)).mono ?_
       rintro e W11 ⟨v5, rfl, hv, hb⟩
       replace hS6 := Lib.hid (hS6.out.up hb)
       replace HM := Lib.hid (HM.out.kept (Keep.ofBelow hb))
       have HO := Lib.hid hv
       clear hv hb
       go_wp2_with fail
       refine (radd_fact HM.out HO.out (by omega) (by omega)).mono ?_
       rintro e W12 ⟨v6, rfl, hv, hb⟩
       obtain ⟨k9, A9, l9, c9, rfl⟩ := hv.open
       replace hS6 := Lib.hid (hS6.out.up hb)
       rw [hnum.out] at hv
       have HA := Lib.hid (hS6.out.put hv)
       clear hv hb HM HO hnum
       obtain ⟨x30, x31, z30, z31, s3⟩ := hS6.out.b3.e2
       go_wp2
       exact ⟨⟨q, _, k9, A9, l9, c9, by go_num, by omega, by omega, by omega, fun h => by omega, HA.out⟩, by simp [intOf]; omega⟩
   ·obtain rfl : p = s.size := by omega
    have hpp : decide ((s.size : Int) < (s.size : Int)) = false := by simp
    have hx := hS.out.x3
    rw [List.take_of_length_le (show D.length ≤ s.size - f0 by have := HF0.out; omega)] at hx
    obtain ⟨x30, x31, s3⟩ := hS.out.b3.d2
    obtain ⟨x20, x21, z20, z21, s2⟩ := hS.out.b2.e2
    clear hlt
    go_wp2
    have hkeep := Keep.set2 (Keep.refl wr) hS.out.b2 (Leaf.bool k) (Leaf.slice A l c)
    have hbel := Below.set2 hS.out.bel (Nat.le_refl _) (.bool k) (.slice A l c)
    exact bodyPost_ret (v := .agg #[.bool k, .slice A l c]) (by simp [results, Tryz.results46, go_sem, x20, x21]) rfl ⟨_, rfl, (hx.kept hkeep).more hn, hbel⟩
theorem rlong_any {s : ByteArray} {N : List UInt8} {w : World} (hN : s.data.toList = N) (hs : s.size ≤ 9000) (hd : AllDig (restOf N)) :
  Calls Tryz.prog 46 #[.string s] w fun e w' => ∃ v, e = .returned v ∧ PRef (numOf (restOf N) : Int) 9100 v w' ∧ Below w.heap.size w w' := by
 have hl : N.length = s.size := by rw [← hN]; simp
 suffices h : Calls Tryz.prog 46 #[.string s] w fun e w' => ∃ v, e = .returned v ∧ PRef (numOf (restOf N) : Int) (s.size + 100) v w' ∧ Below w.heap.size w w' by
  refine h.mono ?_
  rintro e w' ⟨v, rfl, hv, hb⟩
  exact ⟨v, rfl, hv.more (by omega), hb⟩
 cases N with
 | nil =>
  have h0 : s.size = 0 := hl.symm
  exact rlong_fact (f0 := 0) (b0 := 0) hs (by rw [h0]; rfl) hd (by rw [hN]; rfl) (.inl ⟨by rw [h0]; rfl, rfl⟩)
 | cons b r =>
  have hp : 0 < s.size := by rw [← hl]; simp
  have hb : ∀ h, s[0]'h = b := fun h => by
   have h1 := toList_get s 0 h
   rw [← h1]
   simp only [hN, List.getElem_cons_zero]
  by_cases h : b = 45
  ·subst h
   have er : restOf (45 :: r) = r := by unfold restOf Lib.trimPrefix Lib.hasPrefix; simp
   rw [er] at hd ⊢
   exact rlong_fact (f0 := 1) (b0 := 45) hs (by rw [← hl, List.length_cons]; omega) hd (by rw [hN]; rfl) (.inr (.inl ⟨hp, hb, rfl, rfl⟩))
  ·have h2 : ((b.toNat : Int) == 45) = false := by
    rw [beq_eq_false_iff_ne]
    intro e
    exact h (UInt8.toNat_inj.1 (show b.toNat = 45 by omega))
   have er : restOf (b :: r) = b :: r := by unfold restOf Lib.trimPrefix Lib.hasPrefix; simp [List.isPrefixOf]; intro e; exact absurd e.symm h
   rw [er] at hd ⊢
   exact rlong_fact (f0 := 0) (b0 := b) hs (by rw [← hl]; simp) hd (by rw [hN]; rfl) (.inr (.inr ⟨hp, hb, h2, rfl⟩))
def cpB (N D : List UInt8) : Bool := !(D == [49]) && eq1 (Nat.gcd (numOf (restOf N)) (numOf (restOf D)))
set_option maxRecDepth 20000 in
set_option maxHeartbeats 3200000 in
theorem rcop_any {a b : ByteArray} {N D : List UInt8} {w : World} (hN : a.data.toList = N) (hD : b.data.toList = D) (ha : a.size ≤ 9000) (hb : b.size ≤ 9000) (hda : AllDig (restOf N)) (hdb : AllDig (restOf D)) :
  Calls Tryz.prog 20 #[.string a, .string b] w fun e w' => e = .returned (.bool (cpB N D)) ∧ Below w.heap.size w w' := by
 unfold cpB
 by_cases h1 : D = [49]
 ·subst h1
  have hq : b.toList = [49] := by rw [Lib.toList_data, hD]
  go_enter Tryz.func20, Tryz.ntmps20
  go_wp2_with fail
  go_ret
  exact ⟨rfl, Below.refl _ _⟩
 ·have hq : ¬ b.toList = [49] := by rw [Lib.toList_data, hD]; exact h1
  have e1 : (D == [49]) = false := by simpa using h1
  rw [e1]
  have H1 := Lib.hid (fun W => rlong_any (w := W) hN ha hda)
  have H2 := Lib.hid (fun W => rlong_any (w := W) hD hb hdb)
  have hg : (decZ ((Int.gcd (numOf (restOf N) : Int) (numOf (restOf D) : Int) : Nat) : Int) == [49]) = eq1 (Nat.gcd (numOf (restOf N)) (numOf (restOf D))) := by
   rw [show Int.gcd (numOf (restOf N) : Int) (numOf (restOf D) : Int) = Nat.gcd (numOf (restOf N)) (numOf (restOf D)) from rfl]
   generalize Nat.gcd (numOf (restOf N)) (numOf (restOf D)) = g
   have h49 : decZ 1 = [49] := by decide +kernel
   unfold eq1
   rw [Bool.eq_iff_iff, beq_iff_eq, decide_eq_true_eq]
   constructor
   ·intro h
    have := decZ_inj (h.trans h49.symm)
    omega
   ·rintro rfl
    exact h49
  rw [← hg]
  obtain ⟨T, hT⟩ : ∃ T, decZ ((Int.gcd (numOf (restOf N) : Int) (numOf (restOf D) : Int) : Nat) : Int) = T := ⟨_, rfl⟩
  rw [hT]
  have HT := Lib.hid hT
  clear hT hg h1 e1 hda hdb ha hb hN hD
  go_enter Tryz.func20, Tryz.ntmps20
  go_wp2_with fail
  refine (H1.out _).mono ?_
  rintro e W1 ⟨v, rfl, hv, hb⟩
  have HB := Lib.hid hb
  have HV := Lib.hid hv
  clear hb hv
  go_wp2_with fail
  refine (H2.out _).mono ?_
  rintro e W2 ⟨v2, rfl, hv, hb⟩
  replace HB := Lib.hid (below_then HB.out hb HB.out.size)
  replace HV := Lib.hid (HV.out.kept (Keep.ofBelow hb))
  have HV2 := Lib.hid hv
  clear hb hv
  go_wp2_with fail
  refine (rgcd_fact HV.out HV2.out (by omega) (by omega)).mono ?_
  rintro e W3 ⟨v3, rfl, hv, hb⟩
  replace HB := Lib.hid (below_then HB.out hb HB.out.size)
  have HV3 := Lib.hid hv
  clear hb hv HV HV2
  go_wp2_with fail
  have h5 := rtext_fact HV3.out (by omega)
  rw [HT.out] at h5
  refine h5.mono ?_
  rintro e W4 ⟨rfl, hb⟩
  replace HB := Lib.hid (below_then HB.out hb HB.out.size)
  clear hb HV3 h5 HT
  have ht : ∀ x : List UInt8, ((⟨T.toArray⟩ : ByteArray).toList == x) = (T == x) := fun x => by rw [Lib.toList_data]
  go_wp2_with fail
  go_ret
  have e9 : (b.toList == [49]) = false := by simpa using hq
  exact ⟨dret_bool (by rw [e9]), HB.out⟩
open Go.RowKit
open AS (Keep NoInt)
set_option maxHeartbeats 3200000
set_option maxRecDepth 20000
structure RpS (w0 w : World) (g2 g8 g10 : Nat) (k : Bool) (A : Option Addr) (l c : Nat) (k' : Bool) (A' : Option Addr) (l' c' : Nat) (X Y : Int) : Prop where
 bel : Below w0.heap.size w0 w
 b2 : Bx 35 w g2 [.bool false, .slice none 0 0, .bool false, .slice none 0 0]
 b8 : Bx 33 w g8 [.bool k, .slice A l c]
 b10 : Bx 33 w g10 [.bool k', .slice A' l' c']
 xa : PRef X 500 (.agg #[.bool k, .slice A l c]) w
 yb : PRef Y 500 (.agg #[.bool k', .slice A' l' c']) w
 ge : w0.heap.size ≤ g2
theorem RpS.up {w0 w w' : World} {g2 g8 g10 : Nat} {k : Bool} {A : Option Addr} {l c : Nat} {k' : Bool} {A' : Option Addr} {l' c' : Nat} {X Y : Int} (h : RpS w0 w g2 g8 g10 k A l c k' A' l' c' X Y) (hb : Below w.heap.size w w') : RpS w0 w' g2 g8 g10 k A l c k' A' l' c' X Y :=
 ⟨below_then h.bel hb h.bel.size, h.b2.up hb, h.b8.up hb, h.b10.up hb, h.xa.kept (Keep.ofBelow hb), h.yb.kept (Keep.ofBelow hb), h.ge⟩
def rpE (fd : Bool) (l N D : List UInt8) : Int :=
 if errOf N = 3 ∨ errOf D = 3 then 3 else if errOf D = 0 ∧ valZ D ≤ 0 then 3 else if errOf D = 6 ∧ negOf D = true then 3
 else if errOf N ≠ 0 ∨ errOf D ≠ 0 then (if fd = true ∧ cpB N D = false then 3 else 6) else if ratText (Rat.divInt (valZ N) (valZ D)) = l then 0 else 3
def RQ (c : Int) (x : Rat) (e : Ending) (w' : World) : Prop := ∃ v, e = .returned (.tuple #[v, .int .i64 c]) ∧ (c = 0 → RRat x 500 v w') ∧ (c ≠ 0 → v = .agg #[.bool false, .slice none 0 0, .bool false, .slice none 0 0])
section
variable {fd : Bool} {l N D : List UInt8}
theorem rpE_3 (h : errOf N = 3 ∨ errOf D = 3) : rpE fd l N D = 3 := by unfold rpE; rw [if_pos h]
theorem rpE_le (h : errOf D = 0) (h2 : valZ D ≤ 0) : rpE fd l N D = 3 := by
 unfold rpE
 by_cases h3 : errOf N = 3 ∨ errOf D = 3
 ·rw [if_pos h3]
 ·rw [if_neg h3, if_pos ⟨h, h2⟩]
theorem rpE_neg (h : errOf D = 6) (h2 : negOf D = true) : rpE fd l N D = 3 := by
 unfold rpE
 by_cases h3 : errOf N = 3 ∨ errOf D = 3
 ·rw [if_pos h3]
 ·rw [if_neg h3, if_neg (fun e => by rw [h] at e; exact absurd e.1 (by decide)), if_pos ⟨h, h2⟩]
theorem rpE_cop (h1 : ¬ (errOf N = 3 ∨ errOf D = 3)) (h2 : ¬ (errOf D = 0 ∧ valZ D ≤ 0)) (h3 : ¬ (errOf D = 6 ∧ negOf D = true)) (h4 : errOf N ≠ 0 ∨ errOf D ≠ 0) (hc : cpB N D = false) : rpE true l N D = 3 := by
 unfold rpE
 rw [if_neg h1, if_neg h2, if_neg h3, if_pos h4, if_pos ⟨rfl, hc⟩]
theorem rpE_cop6 (h1 : ¬ (errOf N = 3 ∨ errOf D = 3)) (h2 : ¬ (errOf D = 0 ∧ valZ D ≤ 0)) (h3 : ¬ (errOf D = 6 ∧ negOf D = true)) (h4 : errOf N ≠ 0 ∨ errOf D ≠ 0) (hc : cpB N D = true) : rpE true l N D = 6 := by
 unfold rpE
 rw [if_neg h1, if_neg h2, if_neg h3, if_pos h4, if_neg (fun e => by rw [hc] at e; exact absurd e.2 (by decide))]
theorem rpE_lim (h1 : ¬ (errOf N = 3 ∨ errOf D = 3)) (h2 : ¬ (errOf D = 0 ∧ valZ D ≤ 0)) (h3 : ¬ (errOf D = 6 ∧ negOf D = true)) (h4 : errOf N ≠ 0 ∨ errOf D ≠ 0) : rpE false l N D = 6 := by
 unfold rpE
 rw [if_neg h1, if_neg h2, if_neg h3, if_pos h4, if_neg (fun e => absurd e.1 (by decide))]
theorem rpE_in (h1 : errOf N = 0) (h2 : errOf D = 0) (h3 : 0 < valZ D) : rpE fd l N D = if ratText (Rat.divInt (valZ N) (valZ D)) = l then 0 else 3 := by
 unfold rpE
 rw [if_neg (fun e => by rw [h1, h2] at e; revert e; decide), if_neg (fun e => by have := e.2; omega), if_neg (fun e => by rw [h2] at e; exact absurd e.1 (by decide)), if_neg (fun e => by rw [h1, h2] at e; revert e; decide)]
theorem rpE_ok (h1 : errOf N = 0) (h2 : errOf D = 0) (h3 : 0 < valZ D) (h4 : ratText (Rat.divInt (valZ N) (valZ D)) = l) : rpE fd l N D = 0 := by rw [rpE_in h1 h2 h3, if_pos h4]
theorem rpE_off (h1 : errOf N = 0) (h2 : errOf D = 0) (h3 : 0 < valZ D) (h4 : ¬ ratText (Rat.divInt (valZ N) (valZ D)) = l) : rpE fd l N D = 3 := by rw [rpE_in h1 h2 h3, if_neg h4]
theorem cmp_le0 {z : Int} (h : z ≤ 0) : cmpI z 0 ≤ 0 := by
 unfold cmpI
 by_cases h1 : z < 0
 ·rw [if_pos h1]; decide
 ·rw [if_neg h1, if_pos (by omega)]; decide
theorem cmp_gt0 {z : Int} (h : ¬ z ≤ 0) : cmpI z 0 = 1 := by unfold cmpI; rw [if_neg (by omega), if_neg (by omega)]
theorem errOf_three (l : List UInt8) : errOf l = 3 ∨ errOf l = 0 ∨ errOf l = 6 := by
 unfold errOf
 split
 ·exact .inl rfl
 ·split
  ·exact .inr (.inr rfl)
  ·exact .inr (.inl rfl)
theorem errOf_dig {l : List UInt8} (h : errOf l ≠ 3) : AllDig (restOf l) := by
 have hb : badNum l = false := by
  cases hb : badNum l
  ·rfl
  ·unfold errOf at h
   rw [hb, if_pos rfl] at h
   exact absurd rfl h
 exact (ok_parts hb).1
theorem head_neg {s : ByteArray} {b : UInt8} {D : List UInt8} (hD : s.data.toList = b :: D) : negOf (b :: D) = ((b.toNat : Int) == 45) := by
 rw [Bool.eq_iff_iff, beq_iff_eq]
 unfold negOf Lib.hasPrefix
 simp [List.isPrefixOf]
 constructor
 ·rintro rfl; rfl
 ·intro h; symm; apply UInt8.toNat_inj.1; show b.toNat = 45; omega
end
theorem val49a : valZ [49] = 1 := by decide +kernel
theorem rpa_q {s : ByteArray} {N D : List UInt8} {w : World} (hs : s.size ≤ 9000) (hf : sl s.data.toList < s.size) (hN : s.data.toList.take (sl s.data.toList) = N) (hD : s.data.toList.drop (sl s.data.toList + 1) = D) :
  Calls Tryz.prog 6 #[.string s] w fun e w' => RQ (rpE true s.data.toList N D) (Rat.divInt (valZ N) (valZ D)) e w' ∧ Below w.heap.size w w' := by
 have HSZ := Lib.hid hs
 have HF := Lib.hid hf
 have HN := Lib.hid hN
 have HD := Lib.hid hD
 clear hs hf hN hD
 go_enter Tryz.func6, Tryz.ntmps6
 go_wp2
 have nb2 := Bx.new 35 w [.bool false, .slice none 0 0, .bool false, .slice none 0 0] lf4
 have nbel := below_alloc_new (w := w) (.cells #[.bool false, .slice none 0 0, .bool false, .slice none 0 0] 35)
 change Code.wp Tryz.prog _ _ _ (w.alloc (.cells #[.bool false, .slice none 0 0, .bool false, .slice none 0 0] 35))
 generalize w.alloc (.cells #[.bool false, .slice none 0 0, .bool false, .slice none 0 0] 35) = W0 at *
 have b2 := Lib.hid nb2
 have HB := Lib.hid nbel
 clear nb2 nbel
 go_loopw [4, 5] (fun v4 v5 wr => ∃ i : Nat, i ≤ s.size ∧ wr = W0 ∧ v5 = .int .i64 i ∧ v4 = .int .i64 ((if sl s.data.toList < i then sl s.data.toList else s.size : Nat) : Int)) (fun _ v _ => s.size - (intOf v).toNat)
 case atStart => exact ⟨0, Nat.zero_le _, rfl, rfl, by simp⟩
 case round =>
  obtain ⟨i, hi, rfl, rfl, rfl⟩ := hrel
  by_cases hlt : i < s.size
  ·have h1 : ((i : Nat) : Int) < ((s.size : Nat) : Int) := by omega
   have hli : i < s.data.toList.length := by rw [size_list]; exact hlt
   have hg : s.data.toList[i] = s[i] := toList_get s i hlt
   have hsz := HSZ.out
   by_cases hc : sl s.data.toList < i
   ·rw [if_pos hc]
    have h2 : (((sl s.data.toList : Nat) : Int) == ((s.size : Nat) : Int)) = false := by simp; omega
    by_cases hz : (s[i]'hlt).toNat = 47
    all_goals
     go_wp2
     exact ⟨⟨i + 1, by omega, trivial, by simp, by rw [if_pos (by omega)]⟩, by simp [intOf]; omega⟩
   ·rw [if_neg hc]
    have hiff := sl_at hli (by omega)
    by_cases hz : (s[i]'hlt).toNat = 47
    ·have h3 : sl s.data.toList = i := hiff.1 (by rw [hg]; exact UInt8.toNat_inj.1 hz)
     go_wp2
     exact ⟨⟨i + 1, by omega, trivial, by simp, by rw [if_pos (by omega), h3]⟩, by simp [intOf]; omega⟩
    ·have h3 : sl s.data.toList ≠ i := fun h => hz (by have := hiff.2 h; rw [hg] at this; rw [this]; rfl)
     go_wp2
     exact ⟨⟨i + 1, by omega, trivial, by simp, by rw [if_neg (by omega)]⟩, by simp [intOf]; omega⟩
  ·obtain rfl : i = s.size := by omega
   have h1 : decide ((s.size : Nat) < s.size) = false := by simp
   clear hlt hi
   rw [if_pos HF.out]
   have hk0 := HF.out
   generalize hk : sl s.data.toList = kk at *
   have hk1 : ((kk : Nat) : Int) < ((s.size : Nat) : Int) := by omega
   have hk2 : (((kk : Nat) : Int) == ((s.size : Nat) : Int)) = false := by simp; omega
   have HK := Lib.hid hk
   clear hk
   have hsz := HSZ.out
   obtain ⟨x20, x21, x22, x23, z20, z21, z22, z23, s2⟩ := b2.out.e4
   clear x20 x21 x22 x23 z20 z21 z22 z23 s2
   obtain ⟨er, her⟩ : ∃ er, errOf N = er := ⟨_, rfl⟩
   obtain ⟨fr, hfr⟩ : ∃ fr, errOf D = fr := ⟨_, rfl⟩
   have HE := Lib.hid her
   have HE2 := Lib.hid hfr
   clear her hfr
   go_wp2_with fail
   refine (rparse_is _ (by have := HSZ.out; simp <;> omega) (by rw [Lib.extract_data]; simpa using HN.out) HE.out).mono ?_
   rintro e W1 ⟨v, rfl, hv, hb⟩
   replace b2 := hup b2 hb
   replace HB := Lib.hid (below_then HB.out hb HB.out.size)
   obtain ⟨k1, A1, l1, c1, rfl⟩ := hv.open
   have HA := Lib.hid hv
   clear hv hb
   go_upto_region 12 with (fail)
   change Code.wp Tryz.prog _ _ _ (W1.alloc (.cells #[.bool k1, .slice A1 l1 c1] 33))
   obtain ⟨nb8, na⟩ := new1 W1 33 [.bool k1, .slice A1 l1 c1] lf2
   obtain ⟨g8, hg8⟩ : ∃ g, W1.heap.size = g := ⟨_, rfl⟩
   rw [hg8] at nb8
   replace b2 := hup b2 na
   replace HA := Lib.hid (HA.out.kept (Keep.ofBelow na))
   replace HB := Lib.hid (below_then HB.out na HB.out.size)
   rw [hg8]
   clear hg8 na
   generalize W1.alloc (.cells #[.bool k1, .slice A1 l1 c1] 33) = W2 at *
   have b8 := Lib.hid nb8
   clear nb8
   go_wp2_with fail
   refine (rparse_is (L := D) _ (by have := HSZ.out; simp <;> omega) (by rw [Lib.extract_to_end]; exact HD.out) HE2.out).mono ?_
   rintro e W3 ⟨v, rfl, hv, hb⟩
   replace b2 := hup b2 hb
   replace b8 := hup b8 hb
   replace HA := Lib.hid (HA.out.kept (Keep.ofBelow hb))
   replace HB := Lib.hid (below_then HB.out hb HB.out.size)
   obtain ⟨k2, A2, l2, c2, rfl⟩ := hv.open
   have HB2 := Lib.hid hv
   clear hv hb
   go_upto_region 13 with (fail)
   change Code.wp Tryz.prog _ _ _ (W3.alloc (.cells #[.bool k2, .slice A2 l2 c2] 33))
   obtain ⟨nb10, na⟩ := new1 W3 33 [.bool k2, .slice A2 l2 c2] lf2
   obtain ⟨g10, hg10⟩ : ∃ g, W3.heap.size = g := ⟨_, rfl⟩
   rw [hg10] at nb10
   have hS : Hid (RpS w (W3.alloc (.cells #[.bool k2, .slice A2 l2 c2] 33)) w.heap.size g8 g10 k1 A1 l1 c1 k2 A2 l2 c2 (valZ N) (valZ D)) :=
    ⟨below_then HB.out na HB.out.size, b2.out.up na, b8.out.up na, nb10, HA.out.kept (Keep.ofBelow na), HB2.out.kept (Keep.ofBelow na), Nat.le_refl _⟩
   rw [hg10]
   clear hg10 na nb10 b2 b8 HA HB2 HB
   generalize W3.alloc (.cells #[.bool k2, .slice A2 l2 c2] 33) = W4 at *
   have h3n : er = 3 ∨ er = 0 ∨ er = 6 := by rw [← HE.out]; exact errOf_three N
   have h3d : fr = 3 ∨ fr = 0 ∨ fr = 6 := by rw [← HE2.out]; exact errOf_three D
   by_cases e3 : er = 3
   ·subst e3
    have hC := Lib.hid (rpE_3 (fd := true) (l := s.data.toList) (N := N) (D := D) (.inl HE.out))
    obtain ⟨x20, x21, x22, x23, z20, z21, z22, z23, s2⟩ := hS.out.b2.e4
    obtain ⟨x100, x101, s10⟩ := hS.out.b10.d2
    go_wp2_with fail
    have hbel := Below.set4 hS.out.bel hS.out.ge (.bool false) (.slice none 0 0) (.bool false) (.slice none 0 0)
    exact bodyPost_ret (v := .tuple #[.agg #[.bool false, .slice none 0 0, .bool false, .slice none 0 0], .int .i64 3]) (by simp [results, Tryz.results6, go_sem, x20, x21, x22, x23]) rfl ⟨⟨_, by rw [hC.out], fun h => absurd (hC.out.symm.trans h) (by decide), fun _ => rfl⟩, hbel⟩
   have e3b : (er == 3) = false := by simpa using e3
   by_cases f3 : fr = 3
   ·subst f3
    have hC := Lib.hid (rpE_3 (fd := true) (l := s.data.toList) (N := N) (D := D) (.inr HE2.out))
    obtain ⟨x20, x21, x22, x23, z20, z21, z22, z23, s2⟩ := hS.out.b2.e4
    obtain ⟨x100, x101, s10⟩ := hS.out.b10.d2
    go_wp2_with fail
    have hbel := Below.set4 hS.out.bel hS.out.ge (.bool false) (.slice none 0 0) (.bool false) (.slice none 0 0)
    exact bodyPost_ret (v := .tuple #[.agg #[.bool false, .slice none 0 0, .bool false, .slice none 0 0], .int .i64 3]) (by simp [results, Tryz.results6, go_sem, x20, x21, x22, x23]) rfl ⟨⟨_, by rw [hC.out], fun h => absurd (hC.out.symm.trans h) (by decide), fun _ => rfl⟩, hbel⟩
   have HC1 := Lib.hid (show ¬ (errOf N = 3 ∨ errOf D = 3) by rw [HE.out, HE2.out]; omega)
   have HDN := Lib.hid (errOf_dig (l := N) (by rw [HE.out]; exact e3))
   have HDD := Lib.hid (errOf_dig (l := D) (by rw [HE2.out]; exact f3))
   rcases h3d.resolve_left f3 with rfl | rfl
   ·obtain ⟨cc, hcc⟩ : ∃ cc, cmpI (valZ D) 0 = cc := ⟨_, rfl⟩
    by_cases hz : valZ D ≤ 0
    ·have hc0 : cc ≤ 0 := by rw [← hcc]; exact cmp_le0 hz
     have hC := Lib.hid (rpE_le (fd := true) (l := s.data.toList) (N := N) HE2.out hz)
     have HS3 := Lib.hid hcc
     clear hcc
     obtain ⟨x20, x21, x22, x23, z20, z21, z22, z23, s2⟩ := hS.out.b2.e4
     obtain ⟨x100, x101, s10⟩ := hS.out.b10.d2
     go_wp2_with fail
     refine (rsign_is hS.out.yb HS3.out).mono ?_
     rintro e V1 ⟨rfl, hb⟩
     replace hS := Lib.hid (hS.out.up hb)
     clear hb x20 x21 x22 x23 z20 z21 z22 z23 s2 x100 x101 s10
     obtain ⟨x20, x21, x22, x23, z20, z21, z22, z23, s2⟩ := hS.out.b2.e4
     obtain ⟨x100, x101, s10⟩ := hS.out.b10.d2
     go_wp2_with fail
     have hbel := Below.set4 hS.out.bel hS.out.ge (.bool false) (.slice none 0 0) (.bool false) (.slice none 0 0)
     exact bodyPost_ret (v := .tuple #[.agg #[.bool false, .slice none 0 0, .bool false, .slice none 0 0], .int .i64 3]) (by simp [results, Tryz.results6, go_sem, x20, x21, x22, x23]) rfl ⟨⟨_, by rw [hC.out], fun h => absurd (hC.out.symm.trans h) (by decide), fun _ => rfl⟩, hbel⟩
    ·have hq : valZ D ≠ 0 := by omega
     obtain rfl : cc = 1 := by rw [← hcc]; exact cmp_gt0 hz
     replace hz : 0 < valZ D := by omega
     have HS3 := Lib.hid hcc
     clear hcc
     obtain ⟨x20, x21, x22, x23, z20, z21, z22, z23, s2⟩ := hS.out.b2.e4
     obtain ⟨x100, x101, s10⟩ := hS.out.b10.d2
     go_wp2_with fail
     refine (rsign_is hS.out.yb HS3.out).mono ?_
     rintro e V1 ⟨rfl, hb⟩
     replace hS := Lib.hid (hS.out.up hb)
     clear hb x20 x21 x22 x23 z20 z21 z22 z23 s2 x100 x101 s10
     rcases h3n.resolve_left e3 with rfl | rfl
     ·have hn1 := HE.out
      have hn2 := HE2.out
      clear HC1 HDN HDD
      obtain ⟨x80, x81, s8⟩ := hS.out.b8.d2
      obtain ⟨x100, x101, s10⟩ := hS.out.b10.d2
      go_wp2_with fail
      refine (rquot_fact hS.out.xa hS.out.yb (by omega) hq).mono ?_
      rintro e V2 ⟨v, rfl, hv, hb⟩
      replace hS := Lib.hid (hS.out.up hb)
      obtain ⟨k3, A3, l3, c3, k4, A4, l4, c4, rfl⟩ := hv.open
      have HX := Lib.hid hv
      clear hv hb x80 x81 s8 x100 x101 s10
      go_upto_region 20 with (fail)
      change Code.wp Tryz.prog _ _ _ (V2.alloc (.cells #[.bool k3, .slice A3 l3 c3, .bool k4, .slice A4 l4 c4] 35))
      obtain ⟨nb12, na⟩ := new1 V2 35 [.bool k3, .slice A3 l3 c3, .bool k4, .slice A4 l4 c4] lf4
      replace hS := Lib.hid (hS.out.up na)
      replace HX := Lib.hid (HX.out.kept (Keep.ofBelow na))
      generalize V2.alloc (.cells #[.bool k3, .slice A3 l3 c3, .bool k4, .slice A4 l4 c4] 35) = V3 at *
      obtain ⟨x120, x121, x122, x123, s12⟩ := nb12.d4
      clear na
      obtain ⟨T, hT⟩ : ∃ T, ratText (Rat.divInt (valZ N) (valZ D)) = T := ⟨_, rfl⟩
      go_wp2_with fail
      refine (rratText_is HX.out (by omega) (by omega) hT).mono ?_
      rintro e V4 ⟨rfl, hb⟩
      replace hS := Lib.hid (hS.out.up hb)
      replace HX := Lib.hid (HX.out.kept (Keep.ofBelow hb))
      have n12 := nb12.up hb
      clear hb nb12 x120 x121 x122 x123 s12
      obtain ⟨x120, x121, x122, x123, s12⟩ := n12.d4
      obtain ⟨x20, x21, x22, x23, z20, z21, z22, z23, s2⟩ := hS.out.b2.e4
      by_cases hts : T = s.toList
      ·have hC := Lib.hid (rpE_ok (fd := true) hn1 hn2 hz (hT.trans (hts.trans (Lib.toList_data s))))
       subst hts
       clear hT
       go_wp2_with fail
       have hkeep := Keep.set4 (Keep.refl V4) hS.out.b2 (Leaf.bool k3) (Leaf.slice A3 l3 c3) (Leaf.bool k4) (Leaf.slice A4 l4 c4)
       have hbel := Below.set4 hS.out.bel hS.out.ge (.bool k3) (.slice A3 l3 c3) (.bool k4) (.slice A4 l4 c4)
       exact bodyPost_ret (v := .tuple #[.agg #[.bool k3, .slice A3 l3 c3, .bool k4, .slice A4 l4 c4], .int .i64 0]) (by simp [results, Tryz.results6, go_sem, x20, x21, x22, x23]) rfl ⟨⟨_, by rw [hC.out], fun _ => HX.out.kept hkeep, fun h => absurd hC.out h⟩, hbel⟩
      ·have hC := Lib.hid (rpE_off (fd := true) hn1 hn2 hz (fun h => hts (hT.symm.trans (h.trans (Lib.toList_data s).symm))))
       clear hT
       have ht2 : (T == s.toList) = false := by simpa using hts
       clear hts
       go_wp2_with fail
       have hbel := Below.set4 hS.out.bel hS.out.ge (.bool false) (.slice none 0 0) (.bool false) (.slice none 0 0)
       exact bodyPost_ret (v := .tuple #[.agg #[.bool false, .slice none 0 0, .bool false, .slice none 0 0], .int .i64 3]) (by simp [results, Tryz.results6, go_sem, x20, x21, x22, x23]) rfl ⟨⟨_, by rw [hC.out], fun h => absurd (hC.out.symm.trans h) (by decide), fun _ => rfl⟩, hbel⟩
     ·have HC2 := Lib.hid (show ¬ (errOf D = 0 ∧ valZ D ≤ 0) from fun e => by have := e.2; omega)
      have HC3 := Lib.hid (show ¬ (errOf D = 6 ∧ negOf D = true) by rw [HE2.out]; simp)
      have HC4 := Lib.hid (show errOf N ≠ 0 ∨ errOf D ≠ 0 from .inl (by rw [HE.out]; decide))
      clear hz hq
      go_wp2_with fail
      refine (rcop_any (N := N) (D := D) (by rw [Lib.extract_data]; simpa using HN.out) (by rw [Lib.extract_to_end]; exact HD.out) (by have := HSZ.out; simp; omega) (by have := HSZ.out; simp; omega) HDN.out HDD.out).mono ?_
      rintro e V5 ⟨rfl, hb⟩
      replace hS := Lib.hid (hS.out.up hb)
      clear hb
      obtain ⟨x20, x21, x22, x23, z20, z21, z22, z23, s2⟩ := hS.out.b2.e4
      cases hcp : cpB N D
      ·have hC := Lib.hid (rpE_cop (l := s.data.toList) HC1.out HC2.out HC3.out HC4.out hcp)
       clear hcp
       go_wp2_with fail
       have hbel := Below.set4 hS.out.bel hS.out.ge (.bool false) (.slice none 0 0) (.bool false) (.slice none 0 0)
       exact bodyPost_ret (v := .tuple #[.agg #[.bool false, .slice none 0 0, .bool false, .slice none 0 0], .int .i64 3]) (by simp [results, Tryz.results6, go_sem, x20, x21, x22, x23]) rfl ⟨⟨_, by rw [hC.out], fun h => absurd (hC.out.symm.trans h) (by decide), fun _ => rfl⟩, hbel⟩
      ·have hC := Lib.hid (rpE_cop6 (l := s.data.toList) HC1.out HC2.out HC3.out HC4.out hcp)
       clear hcp
       go_wp2_with fail
       have hbel := Below.set4 hS.out.bel hS.out.ge (.bool false) (.slice none 0 0) (.bool false) (.slice none 0 0)
       exact bodyPost_ret (v := .tuple #[.agg #[.bool false, .slice none 0 0, .bool false, .slice none 0 0], .int .i64 6]) (by simp [results, Tryz.results6, go_sem, x20, x21, x22, x23]) rfl ⟨⟨_, by rw [hC.out], fun h => absurd (hC.out.symm.trans h) (by decide), fun _ => rfl⟩, hbel⟩
   ·obtain ⟨b0, D0, hbd⟩ : ∃ b D', D = b :: D' := by
     cases D with
     | nil => have := HE2.out; rw [show errOf [] = 3 from by decide +kernel] at this; exact absurd this (by decide)
     | cons b D' => exact ⟨b, D', rfl⟩
    have hx : (s.extract (kk + 1) s.size).data.toList = b0 :: D0 := by rw [Lib.extract_to_end, ← hbd]; exact HD.out
    have hxs : 0 < (s.extract (kk + 1) s.size).size := by rw [← size_list, hx]; simp
    have hx0 : ∀ h, (s.extract (kk + 1) s.size)[0]'h = b0 := fun h => by
     rw [← toList_get _ 0 h]
     simp only [hx, List.getElem_cons_zero]
    have hng : negOf D = ((b0.toNat : Int) == 45) := by rw [hbd]; exact head_neg hx
    have HX9 := Lib.hid hx
    have hxs2 : kk + 1 < s.size := by have h9 := hxs; simp at h9; omega
    clear hx
    cases hb45 : ((b0.toNat : Int) == 45)
    ·rw [hb45] at hng
     have HC2 := Lib.hid (show ¬ (errOf D = 0 ∧ valZ D ≤ 0) by rw [HE2.out]; simp)
     have HC3 := Lib.hid (show ¬ (errOf D = 6 ∧ negOf D = true) by rw [hng]; simp)
     have HC4 := Lib.hid (show errOf N ≠ 0 ∨ errOf D ≠ 0 from .inr (by rw [HE2.out]; decide))
     clear hng hbd
     rcases h3n.resolve_left e3 with rfl | rfl
     all_goals
      go_wp2_with fail
      refine (rcop_any (N := N) (D := D) (by rw [Lib.extract_data]; simpa using HN.out) (by rw [Lib.extract_to_end]; exact HD.out) (by have := HSZ.out; simp; omega) (by have := HSZ.out; simp; omega) HDN.out HDD.out).mono ?_
      rintro e V5 ⟨rfl, hb⟩
      replace hS := Lib.hid (hS.out.up hb)
      clear hb
      obtain ⟨x20, x21, x22, x23, z20, z21, z22, z23, s2⟩ := hS.out.b2.e4
      cases hcp : cpB N D
      ·have hC := Lib.hid (rpE_cop (l := s.data.toList) HC1.out HC2.out HC3.out HC4.out hcp)
       clear hcp
       go_wp2_with fail
       have hbel := Below.set4 hS.out.bel hS.out.ge (.bool false) (.slice none 0 0) (.bool false) (.slice none 0 0)
       exact bodyPost_ret (v := .tuple #[.agg #[.bool false, .slice none 0 0, .bool false, .slice none 0 0], .int .i64 3]) (by simp [results, Tryz.results6, go_sem, x20, x21, x22, x23]) rfl ⟨⟨_, by rw [hC.out], fun h => absurd (hC.out.symm.trans h) (by decide), fun _ => rfl⟩, hbel⟩
      ·have hC := Lib.hid (rpE_cop6 (l := s.data.toList) HC1.out HC2.out HC3.out HC4.out hcp)
       clear hcp
       go_wp2_with fail
       have hbel := Below.set4 hS.out.bel hS.out.ge (.bool false) (.slice none 0 0) (.bool false) (.slice none 0 0)
       exact bodyPost_ret (v := .tuple #[.agg #[.bool false, .slice none 0 0, .bool false, .slice none 0 0], .int .i64 6]) (by simp [results, Tryz.results6, go_sem, x20, x21, x22, x23]) rfl ⟨⟨_, by rw [hC.out], fun h => absurd (hC.out.symm.trans h) (by decide), fun _ => rfl⟩, hbel⟩
    ·rw [hb45] at hng
     have hC := Lib.hid (rpE_neg (fd := true) (l := s.data.toList) (N := N) HE2.out hng)
     clear hng hbd
     obtain ⟨x20, x21, x22, x23, z20, z21, z22, z23, s2⟩ := hS.out.b2.e4
     obtain ⟨x100, x101, s10⟩ := hS.out.b10.d2
     go_wp2_with fail
     have hbel := Below.set4 hS.out.bel hS.out.ge (.bool false) (.slice none 0 0) (.bool false) (.slice none 0 0)
     exact bodyPost_ret (v := .tuple #[.agg #[.bool false, .slice none 0 0, .bool false, .slice none 0 0], .int .i64 3]) (by simp [results, Tryz.results6, go_sem, x20, x21, x22, x23]) rfl ⟨⟨_, by rw [hC.out], fun h => absurd (hC.out.symm.trans h) (by decide), fun _ => rfl⟩, hbel⟩
theorem rpa_n {s : ByteArray} {N D : List UInt8} {w : World} (hs : s.size ≤ 9000) (hf : ¬ sl s.data.toList < s.size) (hN : s.data.toList = N) (hD : ([49] : List UInt8) = D) :
  Calls Tryz.prog 6 #[.string s] w fun e w' => RQ (rpE false s.data.toList N D) (Rat.divInt (valZ N) (valZ D)) e w' ∧ Below w.heap.size w w' := by
 have HSZ := Lib.hid hs
 have HF := Lib.hid hf
 have HN := Lib.hid hN
 have HD := Lib.hid hD
 clear hs hf hN hD
 go_enter Tryz.func6, Tryz.ntmps6
 go_wp2
 have nb2 := Bx.new 35 w [.bool false, .slice none 0 0, .bool false, .slice none 0 0] lf4
 have nbel := below_alloc_new (w := w) (.cells #[.bool false, .slice none 0 0, .bool false, .slice none 0 0] 35)
 change Code.wp Tryz.prog _ _ _ (w.alloc (.cells #[.bool false, .slice none 0 0, .bool false, .slice none 0 0] 35))
 generalize w.alloc (.cells #[.bool false, .slice none 0 0, .bool false, .slice none 0 0] 35) = W0 at *
 have b2 := Lib.hid nb2
 have HB := Lib.hid nbel
 clear nb2 nbel
 go_loopw [4, 5] (fun v4 v5 wr => ∃ i : Nat, i ≤ s.size ∧ wr = W0 ∧ v5 = .int .i64 i ∧ v4 = .int .i64 ((if sl s.data.toList < i then sl s.data.toList else s.size : Nat) : Int)) (fun _ v _ => s.size - (intOf v).toNat)
 case atStart => exact ⟨0, Nat.zero_le _, rfl, rfl, by simp⟩
 case round =>
  obtain ⟨i, hi, rfl, rfl, rfl⟩ := hrel
  by_cases hlt : i < s.size
  ·have h1 : ((i : Nat) : Int) < ((s.size : Nat) : Int) := by omega
   have hli : i < s.data.toList.length := by rw [size_list]; exact hlt
   have hg : s.data.toList[i] = s[i] := toList_get s i hlt
   have hsz := HSZ.out
   by_cases hc : sl s.data.toList < i
   ·rw [if_pos hc]
    have h2 : (((sl s.data.toList : Nat) : Int) == ((s.size : Nat) : Int)) = false := by simp; omega
    by_cases hz : (s[i]'hlt).toNat = 47
    all_goals
     go_wp2
     exact ⟨⟨i + 1, by omega, trivial, by simp, by rw [if_pos (by omega)]⟩, by simp [intOf]; omega⟩
   ·rw [if_neg hc]
    have hiff := sl_at hli (by omega)
    by_cases hz : (s[i]'hlt).toNat = 47
    ·have h3 : sl s.data.toList = i := hiff.1 (by rw [hg]; exact UInt8.toNat_inj.1 hz)
     go_wp2
     exact ⟨⟨i + 1, by omega, trivial, by simp, by rw [if_pos (by omega), h3]⟩, by simp [intOf]; omega⟩
    ·have h3 : sl s.data.toList ≠ i := fun h => hz (by have := hiff.2 h; rw [hg] at this; rw [this]; rfl)
     go_wp2
     exact ⟨⟨i + 1, by omega, trivial, by simp, by rw [if_neg (by omega)]⟩, by simp [intOf]; omega⟩
  ·obtain rfl : i = s.size := by omega
   have h1 : decide ((s.size : Nat) < s.size) = false := by simp
   clear hlt hi
   rw [if_neg HF.out]
   have hk1 : decide (((s.size : Nat) : Int) < ((s.size : Nat) : Int)) = false := by simp
   clear HF
   obtain ⟨er, her⟩ : ∃ er, errOf N = er := ⟨_, rfl⟩
   obtain ⟨fr, hfr⟩ : ∃ fr, errOf D = fr := ⟨_, rfl⟩
   have HE := Lib.hid her
   have HE2 := Lib.hid hfr
   clear her hfr
   go_wp2_with fail
   refine (rparse_is _ (by have := HSZ.out; simp <;> omega) HN.out HE.out).mono ?_
   rintro e W1 ⟨v, rfl, hv, hb⟩
   replace b2 := hup b2 hb
   replace HB := Lib.hid (below_then HB.out hb HB.out.size)
   obtain ⟨k1, A1, l1, c1, rfl⟩ := hv.open
   have HA := Lib.hid hv
   clear hv hb
   go_upto_region 12 with (fail)
   change Code.wp Tryz.prog _ _ _ (W1.alloc (.cells #[.bool k1, .slice A1 l1 c1] 33))
   obtain ⟨nb8, na⟩ := new1 W1 33 [.bool k1, .slice A1 l1 c1] lf2
   obtain ⟨g8, hg8⟩ : ∃ g, W1.heap.size = g := ⟨_, rfl⟩
   rw [hg8] at nb8
   replace b2 := hup b2 na
   replace HA := Lib.hid (HA.out.kept (Keep.ofBelow na))
   replace HB := Lib.hid (below_then HB.out na HB.out.size)
   rw [hg8]
   clear hg8 na
   generalize W1.alloc (.cells #[.bool k1, .slice A1 l1 c1] 33) = W2 at *
   have b8 := Lib.hid nb8
   clear nb8
   go_wp2_with fail
   refine (rparse_is (L := D) _ (by decide) HD.out HE2.out).mono ?_
   rintro e W3 ⟨v, rfl, hv, hb⟩
   replace b2 := hup b2 hb
   replace b8 := hup b8 hb
   replace HA := Lib.hid (HA.out.kept (Keep.ofBelow hb))
   replace HB := Lib.hid (below_then HB.out hb HB.out.size)
   obtain ⟨k2, A2, l2, c2, rfl⟩ := hv.open
   have HB2 := Lib.hid hv
   clear hv hb
   go_upto_region 13 with (fail)
   change Code.wp Tryz.prog _ _ _ (W3.alloc (.cells #[.bool k2, .slice A2 l2 c2] 33))
   obtain ⟨nb10, na⟩ := new1 W3 33 [.bool k2, .slice A2 l2 c2] lf2
   obtain ⟨g10, hg10⟩ : ∃ g, W3.heap.size = g := ⟨_, rfl⟩
   rw [hg10] at nb10
   have hS : Hid (RpS w (W3.alloc (.cells #[.bool k2, .slice A2 l2 c2] 33)) w.heap.size g8 g10 k1 A1 l1 c1 k2 A2 l2 c2 (valZ N) (valZ D)) :=
    ⟨below_then HB.out na HB.out.size, b2.out.up na, b8.out.up na, nb10, HA.out.kept (Keep.ofBelow na), HB2.out.kept (Keep.ofBelow na), Nat.le_refl _⟩
   rw [hg10]
   clear hg10 na nb10 b2 b8 HA HB2 HB
   generalize W3.alloc (.cells #[.bool k2, .slice A2 l2 c2] 33) = W4 at *
   have h3n : er = 3 ∨ er = 0 ∨ er = 6 := by rw [← HE.out]; exact errOf_three N
   have h3d : fr = 3 ∨ fr = 0 ∨ fr = 6 := by rw [← HE2.out]; exact errOf_three D
   by_cases e3 : er = 3
   ·subst e3
    have hC := Lib.hid (rpE_3 (fd := false) (l := s.data.toList) (N := N) (D := D) (.inl HE.out))
    obtain ⟨x20, x21, x22, x23, z20, z21, z22, z23, s2⟩ := hS.out.b2.e4
    obtain ⟨x100, x101, s10⟩ := hS.out.b10.d2
    go_wp2_with fail
    have hbel := Below.set4 hS.out.bel hS.out.ge (.bool false) (.slice none 0 0) (.bool false) (.slice none 0 0)
    exact bodyPost_ret (v := .tuple #[.agg #[.bool false, .slice none 0 0, .bool false, .slice none 0 0], .int .i64 3]) (by simp [results, Tryz.results6, go_sem, x20, x21, x22, x23]) rfl ⟨⟨_, by rw [hC.out], fun h => absurd (hC.out.symm.trans h) (by decide), fun _ => rfl⟩, hbel⟩
   obtain rfl := HD.out
   have hvd : valZ [49] = 1 := val49a
   have hfr : fr = 0 := by rw [← HE2.out]; decide +kernel
   subst hfr
   clear h3d
   have hz : 0 < valZ [49] := by rw [hvd]; decide
   have hq : valZ [49] ≠ 0 := by rw [hvd]; decide
   have hsg : cmpI (valZ [49]) 0 = 1 := by rw [hvd]; decide
   obtain ⟨x20, x21, x22, x23, z20, z21, z22, z23, s2⟩ := hS.out.b2.e4
   obtain ⟨x100, x101, s10⟩ := hS.out.b10.d2
   go_wp2_with fail
   refine (rsign_is hS.out.yb hsg).mono ?_
   rintro e V1 ⟨rfl, hb⟩
   replace hS := Lib.hid (hS.out.up hb)
   clear hb x20 x21 x22 x23 z20 z21 z22 z23 s2 x100 x101 s10
   rcases h3n.resolve_left e3 with rfl | rfl
   ·have hn1 := HE.out
    have hn2 := HE2.out
    obtain ⟨x80, x81, s8⟩ := hS.out.b8.d2
    obtain ⟨x100, x101, s10⟩ := hS.out.b10.d2
    go_wp2_with fail
    refine (rquot_fact hS.out.xa hS.out.yb (by omega) hq).mono ?_
    rintro e V2 ⟨v, rfl, hv, hb⟩
    replace hS := Lib.hid (hS.out.up hb)
    obtain ⟨k3, A3, l3, c3, k4, A4, l4, c4, rfl⟩ := hv.open
    have HX := Lib.hid hv
    clear hv hb x80 x81 s8 x100 x101 s10
    go_upto_region 20 with (fail)
    change Code.wp Tryz.prog _ _ _ (V2.alloc (.cells #[.bool k3, .slice A3 l3 c3, .bool k4, .slice A4 l4 c4] 35))
    obtain ⟨nb12, na⟩ := new1 V2 35 [.bool k3, .slice A3 l3 c3, .bool k4, .slice A4 l4 c4] lf4
    replace hS := Lib.hid (hS.out.up na)
    replace HX := Lib.hid (HX.out.kept (Keep.ofBelow na))
    generalize V2.alloc (.cells #[.bool k3, .slice A3 l3 c3, .bool k4, .slice A4 l4 c4] 35) = V3 at *
    obtain ⟨x120, x121, x122, x123, s12⟩ := nb12.d4
    clear na
    obtain ⟨T, hT⟩ : ∃ T, ratText (Rat.divInt (valZ N) (valZ [49])) = T := ⟨_, rfl⟩
    go_wp2_with fail
    refine (rratText_is HX.out (by omega) (by omega) hT).mono ?_
    rintro e V4 ⟨rfl, hb⟩
    replace hS := Lib.hid (hS.out.up hb)
    replace HX := Lib.hid (HX.out.kept (Keep.ofBelow hb))
    have n12 := nb12.up hb
    clear hb nb12 x120 x121 x122 x123 s12
    obtain ⟨x120, x121, x122, x123, s12⟩ := n12.d4
    obtain ⟨x20, x21, x22, x23, z20, z21, z22, z23, s2⟩ := hS.out.b2.e4
    by_cases hts : T = s.toList
    ·have hC := Lib.hid (rpE_ok (fd := false) hn1 hn2 hz (hT.trans (hts.trans (Lib.toList_data s))))
     subst hts
     clear hT
     go_wp2_with fail
     have hkeep := Keep.set4 (Keep.refl V4) hS.out.b2 (Leaf.bool k3) (Leaf.slice A3 l3 c3) (Leaf.bool k4) (Leaf.slice A4 l4 c4)
     have hbel := Below.set4 hS.out.bel hS.out.ge (.bool k3) (.slice A3 l3 c3) (.bool k4) (.slice A4 l4 c4)
     exact bodyPost_ret (v := .tuple #[.agg #[.bool k3, .slice A3 l3 c3, .bool k4, .slice A4 l4 c4], .int .i64 0]) (by simp [results, Tryz.results6, go_sem, x20, x21, x22, x23]) rfl ⟨⟨_, by rw [hC.out], fun _ => HX.out.kept hkeep, fun h => absurd hC.out h⟩, hbel⟩
    ·have hC := Lib.hid (rpE_off (fd := false) hn1 hn2 hz (fun h => hts (hT.symm.trans (h.trans (Lib.toList_data s).symm))))
     clear hT
     have ht2 : (T == s.toList) = false := by simpa using hts
     clear hts
     go_wp2_with fail
     have hbel := Below.set4 hS.out.bel hS.out.ge (.bool false) (.slice none 0 0) (.bool false) (.slice none 0 0)
     exact bodyPost_ret (v := .tuple #[.agg #[.bool false, .slice none 0 0, .bool false, .slice none 0 0], .int .i64 3]) (by simp [results, Tryz.results6, go_sem, x20, x21, x22, x23]) rfl ⟨⟨_, by rw [hC.out], fun h => absurd (hC.out.symm.trans h) (by decide), fun _ => rfl⟩, hbel⟩
   ·have hC := Lib.hid (rpE_lim (l := s.data.toList) (N := N) (D := [49]) (by rw [HE.out, HE2.out]; decide) (fun e => by have := e.2; omega) (by rw [HE2.out]; simp) (.inl (by rw [HE.out]; decide)))
    obtain ⟨x20, x21, x22, x23, z20, z21, z22, z23, s2⟩ := hS.out.b2.e4
    obtain ⟨x100, x101, s10⟩ := hS.out.b10.d2
    go_wp2_with fail
    have hbel := Below.set4 hS.out.bel hS.out.ge (.bool false) (.slice none 0 0) (.bool false) (.slice none 0 0)
    exact bodyPost_ret (v := .tuple #[.agg #[.bool false, .slice none 0 0, .bool false, .slice none 0 0], .int .i64 6]) (by simp [results, Tryz.results6, go_sem, x20, x21, x22, x23]) rfl ⟨⟨_, by rw [hC.out], fun h => absurd (hC.out.symm.trans h) (by decide), fun _ => rfl⟩, hbel⟩
open Go.RowKit
open AS (Keep NoInt)
theorem tz_back {l : List UInt8} (h : errOf l = 0) : decZ (valZ l) = l := by
 rw [valZ_ok h]
 have hg := good_facts (errOf_good h)
 have hb := text_back h
 unfold decZ
 rw [textZ_abs]
 have e : decide (textZ l < 0) = negOf l := by
  unfold textZ
  cases hn : negOf l
  ·simp
  ·have := hg.2.2.2 hn
   simp
   omega
 rw [e]
 exact hb
theorem dig_dec (n : Nat) : ∀ c ∈ Lib.decDigits n, isDig c = true := by
 have dig : ∀ {d : Nat}, d < 10 → isDig (UInt8.ofNat (48 + d)) = true := fun {d} h => by
  have e : (UInt8.ofNat (48 + d)).toNat = 48 + d := by simp; omega
  rw [isDig_iff, e]
  omega
 induction n using Nat.strongRecOn with
 | _ n ih =>
  rw [Lib.decDigits]
  split
  ·rename_i h
   simpa using dig h
  ·rename_i h
   intro c hc
   rcases List.mem_append.1 hc with h1 | h1
   ·exact ih (n / 10) (by omega) c h1
   ·have : c = UInt8.ofNat (48 + n % 10) := by simpa using h1
    rw [this]; exact dig (by omega)
theorem decZ_no47 (z : Int) : (47 : UInt8) ∉ decZ z := by
 unfold decZ decI
 intro h
 rcases List.mem_append.1 h with h | h
 ·split at h
  ·simp at h
  ·simp at h
 ·have := isDig_iff.1 (dig_dec _ _ h)
  revert this
  decide
theorem sl_no {l : List UInt8} {N : List UInt8} (hN : l.take (sl l) = N) : (47 : UInt8) ∉ N := by
 intro h
 rw [← hN] at h
 obtain ⟨i, hi, he⟩ := List.getElem_of_mem h
 rw [List.getElem_take] at he
 have hi2 : i < sl l := by simp at hi; omega
 have hi3 : i < l.length := by simp at hi; omega
 have := (sl_at hi3 (by omega)).1 he
 omega
theorem sl_split {l N D : List UInt8} (hf : sl l < l.length) (hN : l.take (sl l) = N) (hD : l.drop (sl l + 1) = D) : l = N ++ 47 :: D := by
 have h1 : l[sl l] = 47 := (sl_at hf (Nat.le_refl _)).2 rfl
 rw [← hN, ← hD, ← h1, ← List.drop_eq_getElem_cons hf, List.take_append_drop]
theorem cut_one {N D N' D' : List UInt8} (h : N ++ 47 :: D = N' ++ 47 :: D') (h1 : (47 : UInt8) ∉ N) (h2 : (47 : UInt8) ∉ N') : N = N' ∧ D = D' := by
 induction N generalizing N' with
 | nil =>
  cases N' with
  | nil => exact ⟨rfl, (List.cons.inj h).2⟩
  | cons b r => exact absurd (by rw [← (List.cons.inj h).1]; simp) h2
 | cons a t ih =>
  cases N' with
  | nil => exact absurd (by rw [(List.cons.inj h).1]; simp) h1
  | cons b r =>
   obtain ⟨e1, e2⟩ := List.cons.inj h
   obtain ⟨e3, e4⟩ := ih e2 (fun m => h1 (by simp [m])) (fun m => h2 (by simp [m]))
   exact ⟨by rw [e1, e3], e4⟩
theorem den_facts {N D : List UInt8} (hd : errOf D = 0) (hlow : lowB N D = true) : 1 < numOf D ∧ valZ D = (numOf D : Int) ∧ restOf D = D ∧ Nat.gcd (numOf (restOf N)) (numOf D) = 1 := by
 unfold lowB at hlow
 simp only [Bool.and_eq_true, Bool.not_eq_true'] at hlow
 obtain ⟨⟨⟨g0, g1⟩, g2⟩, g3⟩ := hlow
 have hr : restOf D = D := by unfold restOf Lib.trimPrefix; rw [show Lib.hasPrefix D [45] = false from g2]; rfl
 refine ⟨den_gt (errOf_good hd) g0 g1 g2, ?_, hr, of_decide_eq_true g3⟩
 rw [valZ_ok hd]; unfold textZ; rw [g2, hr]; rfl
theorem low_text {l N D : List UInt8} (hl : l = N ++ 47 :: D) (h1 : errOf N = 0) (h2 : errOf D = 0) (hlow : lowB N D = true) : ratText (Rat.divInt (valZ N) (valZ D)) = l ∧ (Rat.divInt (valZ N) (valZ D)).num = valZ N ∧ ((Rat.divInt (valZ N) (valZ D)).den : Int) = valZ D ∧ 0 < valZ D := by
 obtain ⟨hgt, hv, hr, hg⟩ := den_facts h2 hlow
 have hg2 : Int.gcd (valZ N) (valZ D) = 1 := by
  rw [hv, valZ_ok h1]
  unfold Int.gcd
  rw [textZ_abs]
  simpa using hg
 obtain ⟨e1, e2⟩ := lowest (p := valZ N) (q := valZ D) (by omega) hg2
 refine ⟨?_, e1, e2, by omega⟩
 unfold ratText
 rw [if_neg (by omega), e1, e2, tz_back h1, tz_back h2, hl]
theorem off_text {l N D : List UInt8} (hl : l = N ++ 47 :: D) (hN : (47 : UInt8) ∉ N) (h1 : errOf N = 0) (h2 : errOf D = 0) (hz : 0 < valZ D) (h : ratText (Rat.divInt (valZ N) (valZ D)) = l) : lowB N D = true := by
 generalize hx : Rat.divInt (valZ N) (valZ D) = x at h
 unfold ratText at h
 by_cases hd : x.den = 1
 ·rw [if_pos hd, hl] at h
  exact absurd (by rw [h]; simp) (decZ_no47 x.num)
 ·rw [if_neg hd, hl] at h
  obtain ⟨e1, e2⟩ := cut_one h (decZ_no47 _) hN
  have e3 : x.num = valZ N := decZ_inj (e1.trans (tz_back h1).symm)
  have e4 : (x.den : Int) = valZ D := decZ_inj (e2.trans (tz_back h2).symm)
  have hgD := good_facts (errOf_good h2)
  have hng : negOf D = false := by
   cases hn : negOf D
   ·rfl
   ·have := hgD.2.2.2 hn
    rw [valZ_ok h2] at hz
    unfold textZ at hz
    rw [hn, if_pos rfl] at hz
    omega
  have hr : restOf D = D := by unfold restOf Lib.trimPrefix; rw [show Lib.hasPrefix D [45] = false from hng]; rfl
  have hv : valZ D = (numOf D : Int) := by rw [valZ_ok h2]; unfold textZ; rw [hng, hr]; rfl
  have hco : Nat.gcd (numOf (restOf N)) (numOf D) = 1 := by
   have h5 := x.reduced
   rw [Nat.Coprime, e3, valZ_ok h1, textZ_abs, show x.den = numOf D by omega] at h5
   exact h5
  unfold lowB
  rw [hng]
  have k0 : (D == [48]) = false := by
   rw [beq_eq_false_iff_ne]
   rintro rfl
   rw [hv] at hz
   exact absurd hz (by decide)
  have k1 : (D == [49]) = false := by
   rw [beq_eq_false_iff_ne]
   rintro rfl
   apply hd
   have e6 : numOf [49] = 1 := rfl
   omega
  rw [k0, k1]
  simp [eq1, hco]
theorem rpE_zero {fd : Bool} {l N D : List UInt8} (h : rpE fd l N D = 0) : ratText (Rat.divInt (valZ N) (valZ D)) = l := by
 unfold rpE at h
 repeat' split at h
 all_goals first | assumption | exact absurd h (by decide)
theorem cp_low {N D : List UInt8} (hn : negOf D = false) (h0 : (D == [48]) = false) : cpB N D = lowB N D := by
 have hr : restOf D = D := by unfold restOf Lib.trimPrefix; rw [show Lib.hasPrefix D [45] = false from hn]; rfl
 unfold cpB lowB
 rw [hr, hn, h0]
 simp
theorem rpE_form {l N D : List UInt8} (hl : l = N ++ 47 :: D) (hN : (47 : UInt8) ∉ N) (h1 : errOf N ≠ 3) (h2 : errOf D ≠ 3) : rpE true l N D = if lowB N D = false then 3 else if errOf N = 6 ∨ errOf D = 6 then 6 else 0 := by
 have hn0 : errOf N = 0 ∨ errOf N = 6 := (errOf_three N).resolve_left h1
 have hd0 : errOf D = 0 ∨ errOf D = 6 := (errOf_three D).resolve_left h2
 have e3 : ¬ (errOf N = 3 ∨ errOf D = 3) := fun e => e.elim h1 h2
 have lneg : negOf D = true → lowB N D = false := fun h => by unfold lowB; rw [h]; simp
 have l48 : D = [48] → lowB N D = false := fun h => by subst h; unfold lowB; simp
 have v48 : valZ [48] = 0 := by decide +kernel
 have o48 : errOf [48] = 0 := by decide +kernel
 rcases hd0 with hd | hd
 ·by_cases hz : valZ D ≤ 0
  ·have hlow : lowB N D = false := by
    cases hn : negOf D
    ·have hr : restOf D = D := by unfold restOf Lib.trimPrefix; rw [show Lib.hasPrefix D [45] = false from hn]; rfl
     by_cases h48 : D = [48]
     ·exact l48 h48
     ·cases hlow : lowB N D
      ·rfl
      ·have := den_facts hd hlow; omega
    ·exact lneg hn
   rw [rpE_le hd hz, if_pos hlow]
  ·have hz2 : 0 < valZ D := by omega
   rcases hn0 with hn | hn
   ·rw [rpE_in hn hd hz2]
    cases hlow : lowB N D
    ·rw [if_pos rfl, if_neg (fun h => by rw [off_text hl hN hn hd hz2 h] at hlow; cases hlow)]
    ·rw [if_pos (low_text hl hn hd hlow).1, if_neg (by decide), if_neg (by rw [hn, hd]; decide)]
   ·have hng : negOf D = false := by
     cases hn9 : negOf D
     ·rfl
     ·have hgD := good_facts (errOf_good hd)
      have := hgD.2.2.2 hn9
      rw [valZ_ok hd] at hz2
      unfold textZ at hz2
      rw [hn9, if_pos rfl] at hz2
      omega
    have h48 : (D == [48]) = false := by
     rw [beq_eq_false_iff_ne]
     rintro rfl
     omega
    have hcl := cp_low (N := N) hng h48
    have c2 : ¬ (errOf D = 0 ∧ valZ D ≤ 0) := fun e => hz e.2
    have c3 : ¬ (errOf D = 6 ∧ negOf D = true) := by rw [hng]; simp
    have c4 : errOf N ≠ 0 ∨ errOf D ≠ 0 := .inl (by rw [hn]; decide)
    cases hlow : lowB N D
    ·rw [rpE_cop e3 c2 c3 c4 (hcl.trans hlow), if_pos rfl]
    ·rw [rpE_cop6 e3 c2 c3 c4 (hcl.trans hlow), if_neg (by decide), if_pos (.inl hn)]
 ·cases hng : negOf D
  ·have h48 : (D == [48]) = false := by
    rw [beq_eq_false_iff_ne]
    rintro rfl
    rw [o48] at hd
    exact absurd hd (by decide)
   have hcl := cp_low (N := N) hng h48
   have c2 : ¬ (errOf D = 0 ∧ valZ D ≤ 0) := by rw [hd]; simp
   have c3 : ¬ (errOf D = 6 ∧ negOf D = true) := by rw [hng]; simp
   have c4 : errOf N ≠ 0 ∨ errOf D ≠ 0 := .inr (by rw [hd]; decide)
   cases hlow : lowB N D
   ·rw [rpE_cop e3 c2 c3 c4 (hcl.trans hlow), if_pos rfl]
   ·rw [rpE_cop6 e3 c2 c3 c4 (hcl.trans hlow), if_neg (by decide), if_pos (.inr hd)]
  ·rw [rpE_neg hd hng, if_pos (lneg hng)]
def paC (l : List UInt8) : Int := rpE (decide (sl l < l.length)) l (topL l) (botL l)
def PQ (c : Int) (x : Rat) (e : Ending) (w' : World) : Prop := ∃ v, e = .returned (.tuple #[v, .int .i64 c]) ∧ (c = 0 → PRat x 223 v w') ∧ (c ≠ 0 → v = zero4)
theorem paC_text {l : List UInt8} (h : paC l = 0) : ratText (ratV l) = l := rpE_zero h
theorem bad_of {l : List UInt8} (h : errOf l ≠ 3) : badNum l = false := by
 cases hb : badNum l
 ·rfl
 ·unfold errOf at h
  rw [hb, if_pos rfl] at h
  exact absurd rfl h
theorem rparse_c (s : ByteArray) (w : World) (hs : s.size ≤ 4100) : Calls Tryz.prog 6 #[.string s] w fun e w' => RQ (paC s.data.toList) (ratV s.data.toList) e w' ∧ Below w.heap.size w w' := by
 have hz : s.data.toList.length = s.size := size_list s
 unfold paC ratV
 by_cases hf : sl s.data.toList < s.size
 ·have ht2 : topL s.data.toList = s.data.toList.take (sl s.data.toList) := by unfold topL; rw [if_pos (by omega)]
  have hb2 : botL s.data.toList = s.data.toList.drop (sl s.data.toList + 1) := by unfold botL; rw [if_pos (by omega)]
  rw [decide_eq_true (by omega)]
  exact rpa_q (by omega) hf ht2.symm hb2.symm
 ·have ht2 : topL s.data.toList = s.data.toList := by unfold topL; rw [if_neg (by omega)]
  have hb2 : botL s.data.toList = [49] := by unfold botL; rw [if_neg (by omega)]
  rw [decide_eq_false (by omega)]
  exact rpa_n (by omega) hf ht2.symm hb2.symm
theorem pparse_c (s : ByteArray) (w : World) (hm : MaxOk w) (hs : s.size ≤ 4100) : Calls Tryz.prog 5 #[.string s] w fun e w' => PQ (paC s.data.toList) (ratV s.data.toList) e w' ∧ Below w.heap.size w w' := by
 have hc := cut_sl s.data.toList
 have hl : s.data.toList.length = s.size := size_list s
 have ht := top_len s.data.toList
 have hbl := bot_len s.data.toList
 have off : ∀ {c er : Int} {x : Rat} (w' : World), c = er → er ≠ 0 → PQ c x (.returned (.tuple #[zero4, .int .i64 er])) w' := fun w' h1 h2 => ⟨_, by rw [h1], fun h => absurd (h1.symm.trans h) h2, fun _ => rfl⟩
 by_cases hf : sl s.data.toList < s.data.toList.length
 ·rw [if_pos hf] at hc
  have hln : s.size ≤ 9000 ∧ (topL s.data.toList).length ≤ 9000 ∧ (botL s.data.toList).length ≤ 9000 := by omega
  have ht2 : s.data.toList.take (sl s.data.toList) = topL s.data.toList := by unfold topL; rw [if_pos hf]
  have hb2 : s.data.toList.drop (sl s.data.toList + 1) = botL s.data.toList := by unfold botL; rw [if_pos hf]
  have hsp := sl_split hf ht2 hb2
  have h47 := sl_no ht2
  have hcode : paC s.data.toList = rpE true s.data.toList (topL s.data.toList) (botL s.data.toList) := by unfold paC; rw [decide_eq_true hf]
  unfold ratV
  generalize topL s.data.toList = N at *
  generalize botL s.data.toList = D at *
  by_cases h7 : (((true && (errOf N != 3)) && (errOf D != 3))) = true
  ·have h7' := h7
   simp at h7'
   obtain ⟨n3, d3⟩ := h7'
   have hform := hcode.trans (rpE_form hsp h47 n3 d3)
   have b1 := bad_of n3
   have b2 := bad_of d3
   cases hlow : lowB N D with
   | false =>
    rw [hlow, if_pos rfl] at hform
    refine (pparse_qlow hm hc hln rfl rfl h7 rfl b1 b2 ⟨by omega, by omega⟩ hlow).mono ?_
    rintro e w' ⟨rfl, hb⟩
    exact ⟨off w' hform (by decide), hb⟩
   | true =>
    rw [hlow, if_neg (by decide)] at hform
    by_cases h8 : ((true && (errOf N != 6)) && (errOf D != 6)) = true
    ·have h8' := h8
     simp at h8'
     rw [if_neg (fun e => e.elim h8'.1 h8'.2)] at hform
     have e1 : errOf N = 0 := ((errOf_three N).resolve_left n3).resolve_right h8'.1
     have e2 : errOf D = 0 := ((errOf_three D).resolve_left d3).resolve_right h8'.2
     obtain ⟨-, lo1, lo2, -⟩ := low_text hsp e1 e2 hlow
     refine (pparse_q0 hm hc hln rfl rfl h7 h8 b1 b2 ⟨by omega, by omega⟩ hlow).mono ?_
     rintro e w' ⟨v, rfl, ⟨k, A, l, c, k', A', l', c', rfl, i1, i2⟩, hb⟩
     exact ⟨⟨_, by rw [hform], fun _ => PRat.mk i1 i2 lo1.symm lo2.symm, fun h => absurd hform h⟩, hb⟩
    ·rw [Bool.not_eq_true] at h8
     have h8' : errOf N = 6 ∨ errOf D = 6 := by
      by_cases k1 : errOf N = 6
      ·exact .inl k1
      ·right
       cases k2 : (errOf D != 6)
       ·simpa using k2
       ·rw [k2] at h8; simp at h8; exact absurd h8 k1
     rw [if_pos h8'] at hform
     refine (pparse_q6 hm hc hln rfl rfl h7 h8 b1 b2 ⟨by omega, by omega⟩ hlow).mono ?_
     rintro e w' ⟨rfl, hb⟩
     exact ⟨off w' hform (by decide), hb⟩
  ·rw [Bool.not_eq_true] at h7
   have h7' : errOf N = 3 ∨ errOf D = 3 := by
    by_cases k1 : errOf N = 3
    ·exact .inl k1
    ·right
     cases k2 : (errOf D != 3)
     ·simpa using k2
     ·rw [k2] at h7; simp at h7; exact absurd h7 k1
   refine (pparse_q3 hm hc hln rfl rfl h7 rfl).mono ?_
   rintro e w' ⟨rfl, hb⟩
   exact ⟨off w' (hcode.trans (rpE_3 h7')) (by decide), hb⟩
 ·rw [if_neg hf] at hc
  have hln : s.size ≤ 9000 ∧ s.data.toList.length ≤ 9000 ∧ ([] : List UInt8).length ≤ 9000 := ⟨by omega, by omega, by simp⟩
  have ht2 : topL s.data.toList = s.data.toList := by unfold topL; rw [if_neg hf]
  have hb2 : botL s.data.toList = [49] := by unfold botL; rw [if_neg hf]
  have o49 : errOf [49] = 0 := by decide +kernel
  have hcode : paC s.data.toList = rpE false s.data.toList s.data.toList [49] := by unfold paC; rw [decide_eq_false hf, ht2, hb2]
  have e3 : ratV s.data.toList = Rat.divInt (valZ s.data.toList) 1 := by unfold ratV; rw [ht2, hb2, val49]
  have hz1 : 0 < valZ [49] := by rw [val49]; decide
  rw [e3]
  rcases errOf_three s.data.toList with h | h | h
  ·refine (pparse_n3 hm hc hln (by rw [h]; rfl) rfl).mono ?_
   rintro e w' ⟨rfl, hb⟩
   exact ⟨off w' (hcode.trans (rpE_3 (.inl h))) (by decide), hb⟩
  ·have hlo := lowest (p := valZ s.data.toList) (q := 1) (by decide) (by simp)
   have htx : ratText (Rat.divInt (valZ s.data.toList) (valZ [49])) = s.data.toList := by
    rw [val49]
    unfold ratText
    rw [if_pos (by have := hlo.2; omega), hlo.1, tz_back h]
   have hform := hcode.trans (rpE_ok h o49 hz1 htx)
   refine (pparse_n0 hm hc hln (by rw [h]; rfl) (by rw [h]; rfl)).mono ?_
   rintro e w' ⟨v, rfl, ⟨k, A, l, c, k', A', l', c', rfl, i1, i2⟩, hb⟩
   exact ⟨⟨_, by rw [hform], fun _ => PRat.mk i1 i2 hlo.1.symm hlo.2.symm, fun h => absurd hform h⟩, hb⟩
  ·have hform := hcode.trans (rpE_lim (l := s.data.toList) (by rw [h, o49]; decide) (fun e => by have := e.2; omega) (by rw [o49]; simp) (.inl (by rw [h]; decide)))
   refine (pparse_n6 hm hc hln (by rw [h]; rfl) (by rw [h]; rfl)).mono ?_
   rintro e w' ⟨rfl, hb⟩
   exact ⟨off w' hform (by decide), hb⟩
set_option maxRecDepth 20000 in
set_option maxHeartbeats 3200000 in
theorem ratSign_fact {x : Rat} {n : Nat} {v : Value} {w : World} (h : PRat x n v w) :
  Calls Tryz.prog 7 #[v] w fun e w' => e = .returned (.int .i64 (cmpQ x 0)) ∧ Below w.heap.size w w' := by
 obtain ⟨k, A, l, c, k', A', l', c', rfl⟩ := h.open
 obtain ⟨p, q, h1, h2, h3⟩ := h.parts
 have hc : cmpI p 0 = cmpQ x 0 := by
  rcases h3 with ⟨rfl, -⟩ | ⟨rfl, -, rfl⟩
  ·exact sign_terms x
  ·decide +kernel
 generalize cmpQ x 0 = cc at *
 have H1 := Lib.hid h1
 clear h h1 h2 h3
 go_enter Tryz.func7, Tryz.ntmps7
 go_upto_region 1 with (fail)
 change Code.wp Tryz.prog _ _ _ (w.alloc (.cells #[.bool k, .slice A l c, .bool k', .slice A' l' c'] 27))
 obtain ⟨nb1, na⟩ := new1 w 27 [.bool k, .slice A l c, .bool k', .slice A' l' c'] lf4
 have nkeep := Keep.ofBelow na
 have nbel := na
 generalize w.alloc (.cells #[.bool k, .slice A l c, .bool k', .slice A' l' c'] 27) = W1 at *
 clear na
 have b1 := Lib.hid nb1
 clear nb1
 replace H1 := Lib.hid (H1.out.kept nkeep)
 clear nkeep
 have HB2 := Lib.hid nbel
 clear nbel
 obtain ⟨x10, x11, x12, x13, s1⟩ := b1.out.d4
 have szb := HB2.out.size
 go_wp2_with fail
 refine (sign_is H1.out hc).mono ?_
 rintro e W3 ⟨rfl, hb⟩
 replace b1 := hup b1 hb
 replace H1 := Lib.hid (H1.out.kept (Keep.ofBelow hb))
 have nbel := below_then HB2.out hb HB2.out.size
 have HB4 := Lib.hid nbel
 clear nbel HB2 hb x10 x11 x12 x13 szb s1
 obtain ⟨x10, x11, x12, x13, s1⟩ := b1.out.d4
 have szb := HB4.out.size
 go_wp2_with fail
 have hkeep := (Keep.refl W3)
 have hbel := HB4.out
 refine bodyPost_ret (v := .int .i64 cc) (by simp [results, Tryz.results7, go_sem]) rfl ⟨rfl, hbel⟩
theorem ratSign_is {x : Rat} {n : Nat} {c : Int} {v : Value} {w : World} (h : PRat x n v w) (hc : cmpQ x 0 = c) :
  Calls Tryz.prog 7 #[v] w fun e w' => e = .returned (.int .i64 c) ∧ Below w.heap.size w w' := hc ▸ ratSign_fact h
theorem tab_up6 {w w' : World} (h : Tab w.heap.size w) (hb : Below w.heap.size w w') : Tab w'.heap.size w' := fun w2 h2 => h w2 (hb.trans (h2.mono hb.size))
structure LpS (w0 w : World) (g3 g5 : Nat) (k : Bool) (A : Option Addr) (l c : Nat) (k' : Bool) (A' : Option Addr) (l' c' : Nat) (r : Bool) (E : Option Addr) (m d : Nat) (r' : Bool) (E' : Option Addr) (m' d' : Nat) (x : Rat) : Prop where
 bel : Below w0.heap.size w0 w
 b3 : Bx 27 w g3 [.bool k, .slice A l c, .bool k', .slice A' l' c']
 b5 : Bx 35 w g5 [.bool r, .slice E m d, .bool r', .slice E' m' d']
 x3 : PRat x 500 (.agg #[.bool k, .slice A l c, .bool k', .slice A' l' c']) w
 x5 : RRat x 500 (.agg #[.bool r, .slice E m d, .bool r', .slice E' m' d']) w
theorem LpS.up {w0 w w' : World} {g3 g5 : Nat} {k : Bool} {A : Option Addr} {l c : Nat} {k' : Bool} {A' : Option Addr} {l' c' : Nat} {r : Bool} {E : Option Addr} {m d : Nat} {r' : Bool} {E' : Option Addr} {m' d' : Nat} {x : Rat} (h : LpS w0 w g3 g5 k A l c k' A' l' c' r E m d r' E' m' d' x) (hb : Below w.heap.size w w') : LpS w0 w' g3 g5 k A l c k' A' l' c' r E m d r' E' m' d' x :=
 ⟨below_then h.bel hb h.bel.size, h.b3.up hb, h.b5.up hb, h.x3.kept (Keep.ofBelow hb), h.x5.kept (Keep.ofBelow hb)⟩
set_option maxRecDepth 20000 in
set_option maxHeartbeats 6400000 in
theorem law_parse2 (s : ByteArray) (w : World) (hm : MaxOk w) (ht : Tab w.heap.size w) :
  Calls Tryz.prog 3 #[.string s] w fun e w' => e = .returned (.bool true) ∧ Below w.heap.size w w' := by
 have HM := Lib.hid hm
 have HT := Lib.hid ht
 clear hm ht
 go_enter Tryz.func3, Tryz.ntmps3
 go_wp2_with fail
 refine (awake_fact HT.out).mono ?_
 rintro e W1 ⟨rfl, hb⟩
 have HB := Lib.hid hb
 clear hb
 by_cases hl : 4100 < s.size
 ·have hl2 : (4100 : Int) < (s.size : Int) := by omega
  go_wp2_with fail
  go_ret
  exact ⟨rfl, HB.out⟩
 ·have hl2 : decide ((4100 : Int) < (s.size : Int)) = false := decide_eq_false (by omega)
  have hl3 : s.size ≤ 4100 := by omega
  clear hl
  go_wp2_with fail
  refine (pparse_c s _ (HM.out.up HB.out) hl3).mono ?_
  rintro e W2 ⟨⟨v, rfl, hv, hv0⟩, hb⟩
  replace HB := Lib.hid (below_then HB.out hb HB.out.size)
  clear hb
  by_cases hc : paC s.data.toList = 0
  ·replace hv := hv hc
   clear hv0
   obtain ⟨k, A, l, c, k', A', l', c', rfl⟩ := hv.open
   have HX := Lib.hid (hv.more (m := 500) (by omega))
   clear hv
   have HC := Lib.hid hc
   rw [hc]
   go_upto_region 6 with (fail)
   change Code.wp Tryz.prog _ _ _ (W2.alloc (.cells #[.bool k, .slice A l c, .bool k', .slice A' l' c'] 27))
   obtain ⟨nb3, na⟩ := new1 W2 27 [.bool k, .slice A l c, .bool k', .slice A' l' c'] lf4
   replace HX := Lib.hid (HX.out.kept (Keep.ofBelow na))
   replace HB := Lib.hid (below_then HB.out na HB.out.size)
   obtain ⟨g3, hg3⟩ : ∃ g, W2.heap.size = g := ⟨_, rfl⟩
   rw [hg3] at nb3
   rw [hg3]
   clear hg3 na
   generalize W2.alloc (.cells #[.bool k, .slice A l c, .bool k', .slice A' l' c'] 27) = W3 at *
   have b3 := Lib.hid nb3
   clear nb3 hc
   go_wp2_with fail
   refine (rparse_c s _ hl3).mono ?_
   rintro e W4 ⟨⟨v, rfl, hv, -⟩, hb⟩
   replace hv := hv HC.out
   rw [HC.out]
   obtain ⟨r, E, m, d, r', E', m', d', rfl⟩ := hv.open
   replace HX := Lib.hid (HX.out.kept (Keep.ofBelow hb))
   replace HB := Lib.hid (below_then HB.out hb HB.out.size)
   replace b3 := hup b3 hb
   have HY := Lib.hid hv
   clear hv hb
   go_upto_region 7 with (fail)
   change Code.wp Tryz.prog _ _ _ (W4.alloc (.cells #[.bool r, .slice E m d, .bool r', .slice E' m' d'] 35))
   obtain ⟨nb5, na⟩ := new1 W4 35 [.bool r, .slice E m d, .bool r', .slice E' m' d'] lf4
   obtain ⟨g5, hg5⟩ : ∃ g, W4.heap.size = g := ⟨_, rfl⟩
   rw [hg5] at nb5
   have hS : LpS w (W4.alloc (.cells #[.bool r, .slice E m d, .bool r', .slice E' m' d'] 35)) g3 g5 k A l c k' A' l' c' r E m d r' E' m' d' (ratV s.data.toList) :=
    ⟨below_then HB.out na HB.out.size, b3.out.up na, nb5, HX.out.kept (Keep.ofBelow na), HY.out.kept (Keep.ofBelow na)⟩
   rw [hg5]
   clear hg5 na nb5 b3 HX HY HB
   generalize W4.alloc (.cells #[.bool r, .slice E m d, .bool r', .slice E' m' d'] 35) = W5 at *
   have HS := Lib.hid hS
   clear hS
   obtain ⟨x30, x31, x32, x33, s3⟩ := HS.out.b3.d4
   obtain ⟨x50, x51, x52, x53, s5⟩ := HS.out.b5.d4
   go_wp2_with fail
   refine (ratText_is HS.out.x3 (by omega) (by omega) (tab_up6 HT.out HS.out.bel) (paC_text HC.out)).mono ?_
   rintro e W6 ⟨rfl, hb⟩
   replace HS := Lib.hid (HS.out.up hb)
   clear hb x30 x31 x32 x33 s3 x50 x51 x52 x53 s5
   obtain ⟨x30, x31, x32, x33, s3⟩ := HS.out.b3.d4
   obtain ⟨x50, x51, x52, x53, s5⟩ := HS.out.b5.d4
   have hst : (⟨s.data.toList.toArray⟩ : ByteArray) = s := by simp
   rw [hst]
   clear hst
   go_wp2_with fail
   refine (same_fact HS.out.x3 HS.out.x5 (by omega) (by omega) (tab_up6 HT.out HS.out.bel)).mono ?_
   rintro e W7 ⟨rfl, hb⟩
   replace HS := Lib.hid (HS.out.up hb)
   clear hb x30 x31 x32 x33 s3 x50 x51 x52 x53 s5
   go_wp2_with fail
   go_ret
   exact ⟨rfl, HS.out.bel⟩
  ·obtain rfl := hv0 hc
   obtain ⟨C, hC⟩ : ∃ C, paC s.data.toList = C := ⟨_, rfl⟩
   rw [hC] at hc
   rw [hC]
   have hc1 : (C != 0) = true := by simpa using hc
   have hc2 : (C != C) = false := by simp
   have HC := Lib.hid hC
   have HCN := Lib.hid hc
   clear hv hv0 hC hc
   go_upto_region 6 with (fail)
   change Code.wp Tryz.prog _ _ _ (W2.alloc (.cells #[.bool false, .slice none 0 0, .bool false, .slice none 0 0] 27))
   obtain ⟨nb3, na⟩ := new1 W2 27 [.bool false, .slice none 0 0, .bool false, .slice none 0 0] lf4
   replace HB := Lib.hid (below_then HB.out na HB.out.size)
   obtain ⟨g3, hg3⟩ : ∃ g, W2.heap.size = g := ⟨_, rfl⟩
   rw [hg3] at nb3
   rw [hg3]
   clear hg3 na
   generalize W2.alloc (.cells #[.bool false, .slice none 0 0, .bool false, .slice none 0 0] 27) = W3 at *
   have b3 := Lib.hid nb3
   clear nb3
   go_wp2_with fail
   refine (rparse_c s _ hl3).mono ?_
   rintro e W4 ⟨⟨v, rfl, -, hv⟩, hb⟩
   obtain rfl := hv (by rw [HC.out]; exact HCN.out)
   rw [HC.out]
   replace HB := Lib.hid (below_then HB.out hb HB.out.size)
   replace b3 := hup b3 hb
   clear hb hv
   go_upto_region 7 with (fail)
   change Code.wp Tryz.prog _ _ _ (W4.alloc (.cells #[.bool false, .slice none 0 0, .bool false, .slice none 0 0] 35))
   obtain ⟨nb5, na⟩ := new1 W4 35 [.bool false, .slice none 0 0, .bool false, .slice none 0 0] lf4
   replace HB := Lib.hid (below_then HB.out na HB.out.size)
   replace b3 := hup b3 na
   clear nb5 na
   generalize W4.alloc (.cells #[.bool false, .slice none 0 0, .bool false, .slice none 0 0] 35) = W5 at *
   obtain ⟨x30, x31, x32, x33, s3⟩ := b3.out.d4
   go_wp2_with fail
   refine (ratSign_is (PRat.zero 5 W5) (c := 0) (by decide +kernel)).mono ?_
   rintro e W6 ⟨rfl, hb⟩
   replace HB := Lib.hid (below_then HB.out hb HB.out.size)
   clear hb x30 x31 x32 x33 s3
   go_wp2_with fail
   go_ret
   exact ⟨rfl, HB.out⟩
open Go.ChangeShapes Go.WideShapes Go.ChangeAt Go.WideMaps Go.WideElems Go.RowKit
theorem own : ownKnob Tryz.prog.godebug = none := by kernel_rfl
abbrev laidL : List (String × DataW Unit) := [("math/bits.deBruijn32tab", Rows.laid_math_bits_deBruijn32tab), ("math/bits.deBruijn64tab", Rows.laid_math_bits_deBruijn64tab), ("internal/strconv.uint64pow10", Rows.laid_internal_strconv_uint64pow10), ("unicode/utf8.acceptRanges", Rows.laid_unicode_utf8_acceptRanges), ("unicode/utf8.first", Rows.laid_unicode_utf8_first)]
theorem door_met (os : Os) (args : Array Value) : laidMetH Tryz.prog laidL ((World.laidAll Tryz.prog os laidL).forCall (fun _ _ => 0) ⟨#[], args, []⟩).memory := by
 rw [MakeChecks.laidMetH_plain _ _ _ (by kernel_rfl)]
 exact laidMet_laidAll _ (by kernel_rfl) (by kernel_rfl)
theorem pow_is : Rows.laid_internal_strconv_uint64pow10 (H := Unit) = Lib.tabData .u64 Lib.pow10Tab := by kernel_rfl
theorem tab_of_laid {W : World} (h : laidMetH Tryz.prog laidL W) : Tab W.heap.size W := by
 rw [MakeChecks.laidMetH_plain _ _ _ (by kernel_rfl)] at h
 obtain ⟨ps, ⟨g0, t0, cs0, f0, p0, q0, hg0, ht0, hv0, hd0, ⟨g1, t1, cs1, f1, p1, q1, hg1, ht1, hv1, hd1, ⟨g2, t2, cs2, f2, p2, q2, hg2, ht2, hv2, hd2, _, _⟩, _⟩, _⟩, _, _⟩ := h
 have hg : Tryz.prog.globalNamed "internal/strconv.uint64pow10" = some g2 := hg2
 have hgg : Tryz.prog.globalNamed "internal/strconv.uint64pow10" = some 1 := by kernel_rfl
 have hty : (Tryz.prog.globals[1]?).map (·.type) = some 138 := by kernel_rfl
 obtain rfl := Option.some.inj (hgg.symm.trans hg2)
 obtain rfl := Option.some.inj (hty.symm.trans ht2)
 refine Lib.tabBelow_of_tabIs ?_
 unfold Lib.TabIs
 rw [hv2]
 rw [pow_is] at hd2
 rw [← Lib.cells_of_tab Tryz.underlying138 Tryz.underlying74 (by kernel_rfl) (by kernel_rfl) hd2]
theorem maxok_of_shaped {w : World} (h : w.ShapedOpen Tryz.prog) : MaxOk w := cell_of_shapedOpen_int (zero := #[.int .i64 0]) (t := 3) h (of_decide_eq_true (by kernel_rfl)) (by kernel_rfl) rfl (by kernel_rfl) (by kernel_rfl) Tryz.underlying3
theorem lifted_shaped {H : Type} {enc : TypeId × Value → H} {a : Assume} {C : Checked} {os : Os} {f : FuncId} {fn : Func} {s : ChangeSpec} {conds : List PathCond} {apart fresh handsOn again : Bool} {X : World → Array Value → Prop}
  (hX : ∀ (w w' : World) (args : Array Value), w.heap = w'.heap → X w args → X w' args) (own : ownKnob C.prog.godebug = none) (started : os.Started) (noInit : C.prog.inits.idxOf? f = none) (hfn : C.prog.funcs[f]? = some fn)
  (witness : ∃ (w : World) (tape : Tape) (i : Input), w.os = os ∧ (w.forCall tape i).Shaped C.prog ∧ i.vars = [] ∧ Input.okWide C.prog (w.forCall tape i) .any w.heap.size f i ∧
   ((s.pre enc C.prog fn conds apart (w.forCall tape i).memory i.args ∧ X (w.forCall tape i).memory i.args) ∧ sizedMet enc C.prog fn (OpenSpec.ofChange s) apart (w.forCall tape i).memory i.args) ∧ a.holds C.prog (lone (Frame.enter C.prog f i.args .normal) [] (w.forCall tape i)))
  (contract : ∀ (W : World) (base : Nat) (args : Array Value) (ds gs : List (DataW H)) (before : List MemPlace), W.ShapedOpen C.prog →
   (∀ (j : Nat) t v, fn.params[j]? = some t → args[j]? = some v → Value.okWide C.prog W .any base t v) → DataW.Whole enc C.prog fn.params.toList s.vars apart W args.toList ds gs before → X W args →
   Calls C.prog f args W fun e W' => ∃ v, e = .returned v ∧ s.post enc C.prog fn apart fresh handsOn again W args v W') :
  ReturnsInHanded a C os f .any (fun w args => (s.pre enc C.prog fn conds apart w args ∧ X w args) ∧ sizedMet enc C.prog fn (OpenSpec.ofChange s) apart w args) (s.post enc C.prog fn apart fresh handsOn again) := by
 refine returnsInHanded_of_calls own started noInit witness fun w tape i _ hsh _ hok hpre _ => ?_
 obtain ⟨_, _, _, fn', hfn', _, _, _, _, hval⟩ := hok
 obtain rfl : fn' = fn := Option.some.inj (hfn'.symm.trans hfn)
 obtain ⟨⟨⟨ds, gs, before, hw, _⟩, hx⟩, _⟩ := hpre
 refine (contract (w.forCall tape i) w.heap.size i.args ds gs before hsh hval (DataW.Whole.of_heap (w' := w.forCall tape i) (by rfl) hw) (hX _ _ _ (by rfl) hx)).mono fun e W' ⟨v, he, hp⟩ => ?_
 subst he
 exact ChangeSpec.post_blind hp
theorem post_below {H : Type} {enc : TypeId × Value → H} {P : Program} {f : Func} {s : ChangeSpec} {ap fr ho ag : Bool} {W W' : World} {args : Array Value} {v : Value} {ds gs : List (DataW H)} {before pa pv : List MemPlace}
  (hW : DataW.Whole enc P f.params.toList s.vars ap W args.toList ds gs before)
  (hres : ∀ (b : Nat) (sp : Nat → Bool) (hd : Bool), DataW.TrodAll enc P W' b sp hd f.resultTypes.toList (v.resultList f.resultTypes.size) (s.fn H (ds ++ gs)).results [])
  (hargs : ∀ sp : Nat → Bool, (∀ p ∈ before, sp p.block = true) → DataW.TrodAll enc P W' 0 sp true f.params.toList args.toList (s.fn H (ds ++ gs)).args pa)
  (hvars : ∀ sp : Nat → Bool, (∀ p ∈ before, sp p.block = true) → DataW.TrodVars enc P W' sp s.vars (s.fn H (ds ++ gs)).vars pv)
  (hps : before = pa ++ pv) (hb : Below W.heap.size W W')
  (hok : ∀ (j : Nat) (t : TypeId) (r : Value), f.resultTypes[j]? = some t → (v.resultList f.resultTypes.size)[j]? = some r → Value.okWide P W' .any 0 t r) : s.post enc P f ap fr ho ag W args v W' := by
 have hlt : ∀ p ∈ before, p.block < W.heap.size := fun p hp => hW.lt p hp
 have hin : ∀ p ∈ before, (fun b => decide (b < W.heap.size)) p.block = true := fun p hp => by simpa using hlt p hp
 refine ⟨ds, gs, before, [], pa, pv, hW, hres _ _ _, hargs _ hin, hvars _ hin, World.keptBut_mono (fun p hp => ⟨hp, .inr (List.mem_append.1 (hps ▸ hp))⟩) (hb.frame (· ∈ before)), fun _ => ?_⟩
 obtain ⟨_, _, _, _, _, hz, hn⟩ := hW
 refine ⟨hok, _, _, ([] ++ pa) ++ pv, ⟨[] ++ pa, pv, trodAll_append (hargs _ (fun _ _ => rfl)) (hres _ _ _), hvars _ (fun _ _ => rfl), rfl, fun b off hp => ?_, fun ha => ?_⟩, ?_⟩
 ·have hbe : MemPlace.cell b off ∈ before := by rw [hps]; simpa using hp
  rw [hb.frozen (hlt _ hbe)]
  exact hz b off hbe
 ·have h9 := hn ha
  rw [hps] at h9
  simpa using h9
 ·intro p hp _
  rw [hps, ← List.nil_append pa]
  exact hp
end Go.Proofs.YtodapfhnbgoanaaGreatDoor
