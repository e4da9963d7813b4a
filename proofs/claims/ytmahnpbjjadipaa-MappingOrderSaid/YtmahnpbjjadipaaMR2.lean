/- Contracts and the law of MappingOrder, part 2: what was proved of each, callees first. -/
import Derived.DeepKeys5
import Derived.WalkKit
import Derived.WalkSpells
import Derived.Lib.Hide
import Derived.Deep.QuietTactic
import Derived.BigQuiet
import Derived.LoopTactic
import Derived.Lib.SmallJoins
import Derived.Shelf.SlIterI.Nil
import Derived.Shelf.SortM.Plain
import Derived.Shelf.SortM.SortNone
import Derived.Ground.GgzProg
import Derived.Ground.SlgmProg
import Derived.Shelf.SlGeneric
import Derived.Test.YtmahnpbjjadipaaProg
import Derived.Test.YtmahnpbjjadipaaMR1
namespace Go.Proofs.Ytmahnpbjjadipaa
open Go.RowKit
theorem rowB_prop {L : List Acc} {g : Bool} {k : Nat} (h : properB L g (L.getD k acc0) = false) : rowB L g k = false := by unfold rowB; rw [h]; rfl
theorem rowB_zero {L : List Acc} {g : Bool} (h : properB L g (L.getD 0 acc0) = true) : rowB L g 0 = topB L (L.getD 0 acc0) := by unfold rowB; rw [h]; simp
theorem rowB_down {L : List Acc} {g : Bool} {j : Nat} (h : (L.getD (j + 1) acc0).code ≤ (L.getD j acc0).code) : rowB L g (j + 1) = false := by
 unfold rowB
 rw [show decide (j + 1 = 0) = false from decide_eq_false (by omega), show decide ((L.getD (j + 1 - 1) acc0).code < (L.getD (j + 1) acc0).code) = false from decide_eq_false (by rw [Nat.add_sub_cancel]; omega)]
 simp
theorem rowB_up {L : List Acc} {g : Bool} {j : Nat} (h : properB L g (L.getD (j + 1) acc0) = true) (h2 : (L.getD j acc0).code < (L.getD (j + 1) acc0).code) : rowB L g (j + 1) = topB L (L.getD (j + 1) acc0) := by
 unfold rowB
 rw [h, show decide ((L.getD (j + 1 - 1) acc0).code < (L.getD (j + 1) acc0).code) = true from decide_eq_true (by rw [Nat.add_sub_cancel]; omega)]
 simp
def rvFa (b off n k : Nat) (cp : Nat) (g : Bool) (x : Acc) : List (Nat × AS.Fact) := [(15, AS.Fact.is (.slice (some ⟨b, off, none⟩) (n : Nat) cp)), (16, AS.Fact.is (.slice (some ⟨b, off, none⟩) (n : Nat) cp)), (17, AS.Fact.is (.int .i64 (k : Int))), (18, AS.Fact.is (.pointer (some ⟨b, off + k * 4, none⟩))), (19, AS.Fact.is (accV x)), (20, AS.Fact.is (.bool g)), (21, AS.Fact.is (.bool false)), (22, AS.Fact.is (.bool true)), (23, AS.Fact.is (.bool true)), (24, AS.Fact.is (undef)), (25, AS.Fact.is (undef)), (26, AS.Fact.is (undef)), (27, AS.Fact.is (undef)), (28, AS.Fact.is (undef)), (29, AS.Fact.is (undef)), (30, AS.Fact.is (undef)), (31, AS.Fact.is (undef)), (32, AS.Fact.is (undef)), (33, AS.Fact.is (undef)), (34, AS.Fact.is (undef)), (35, AS.Fact.is (undef)), (36, AS.Fact.is (undef)), (37, AS.Fact.is (undef)), (38, AS.Fact.is (undef)), (39, AS.Fact.is (undef)), (40, AS.Fact.is (.bool true)), (41, AS.Fact.is (.bool true)), (42, AS.Fact.is (undef)), (43, AS.Fact.is (undef)), (44, AS.Fact.is (undef)), (45, AS.Fact.is (undef)), (46, AS.Fact.is (undef)), (47, AS.Fact.is (undef)), (48, AS.Fact.is (undef)), (49, AS.Fact.is (undef)), (50, AS.Fact.is (undef)), (51, AS.Fact.is (undef)), (52, AS.Fact.is (undef)), (53, AS.Fact.is (.bool true))]
def rvFb (b off n k : Nat) (cp : Nat) (g : Bool) (x : Acc) (C : List Int) (cl : Nat) (q : Bool) : List (Nat × AS.Fact) := [(15, AS.Fact.is (.slice (some ⟨b, off, none⟩) (n : Nat) cp)), (16, AS.Fact.is (.slice (some ⟨b, off, none⟩) (n : Nat) cp)), (17, AS.Fact.is (.int .i64 (k : Int))), (18, AS.Fact.is (.pointer (some ⟨b, off + k * 4, none⟩))), (19, AS.Fact.is (accV x)), (20, AS.Fact.is (.bool g)), (21, AS.Fact.is (.bool true)), (22, AS.Fact.is (.bool false)), (23, AS.Fact.is (.bool false)), (24, AS.Fact.is (.int .i64 (k : Int))), (25, AS.Fact.is (.bool false)), (26, AS.Fact.is (.bool false)), (27, AS.Fact.is (undef)), (28, AS.Fact.is (undef)), (29, AS.Fact.is (undef)), (30, AS.Fact.is (undef)), (31, AS.Fact.is (undef)), (32, AS.Fact.is (undef)), (33, AS.Fact.is (undef)), (34, AS.Fact.is (undef)), (35, AS.Fact.is (undef)), (36, AS.Fact.is (undef)), (37, AS.Fact.is (undef)), (38, AS.Fact.is (undef)), (39, AS.Fact.is (.bool false)), (40, AS.Fact.is (.bool false)), (41, AS.Fact.is (.bool false)), (42, AS.Fact.is (.slice (some ⟨b, off, none⟩) (n : Nat) cp)), (43, AS.Fact.is (.slice (some ⟨b, off, none⟩) (n : Nat) cp)), (44, AS.Fact.is (.int .i64 (k : Int))), (45, AS.Fact.is (.pointer (some ⟨b, off + k * 4, none⟩))), (46, AS.Fact.is (.pointer (some ⟨b, off + k * 4, none⟩))), (47, AS.Fact.is (.int .i64 x.code)), (48, HSl C), (49, AS.Fact.is (.int .i64 (cl : Int))), (50, AS.Fact.is (.slice (some ⟨b, off, none⟩) (n : Nat) cp)), (51, AS.Fact.is (.int .i64 (n : Int))), (52, AS.Fact.is (.bool q)), (53, AS.Fact.is (.bool q))]
def rvFc (b off n k j : Nat) (cp : Nat) (g : Bool) (x y : Acc) : List (Nat × AS.Fact) := [(15, AS.Fact.is (.slice (some ⟨b, off, none⟩) (n : Nat) cp)), (16, AS.Fact.is (.slice (some ⟨b, off, none⟩) (n : Nat) cp)), (17, AS.Fact.is (.int .i64 (k : Int))), (18, AS.Fact.is (.pointer (some ⟨b, off + k * 4, none⟩))), (19, AS.Fact.is (accV x)), (20, AS.Fact.is (.bool g)), (21, AS.Fact.is (.bool true)), (22, AS.Fact.is (.bool false)), (23, AS.Fact.is (.bool false)), (24, AS.Fact.is (.int .i64 (k : Int))), (25, AS.Fact.is (.bool true)), (26, AS.Fact.is (.bool true)), (27, AS.Fact.is (.slice (some ⟨b, off, none⟩) (n : Nat) cp)), (28, AS.Fact.is (.int .i64 (k : Int))), (29, AS.Fact.is (.pointer (some ⟨b, off + k * 4, none⟩))), (30, AS.Fact.is (.pointer (some ⟨b, off + k * 4, none⟩))), (31, AS.Fact.is (.int .i64 x.code)), (32, AS.Fact.is (.slice (some ⟨b, off, none⟩) (n : Nat) cp)), (33, AS.Fact.is (.int .i64 (k : Int))), (34, AS.Fact.is (.int .i64 (j : Int))), (35, AS.Fact.is (.pointer (some ⟨b, off + j * 4, none⟩))), (36, AS.Fact.is (.pointer (some ⟨b, off + j * 4, none⟩))), (37, AS.Fact.is (.int .i64 y.code)), (38, AS.Fact.is (.bool true)), (39, AS.Fact.is (.bool true)), (40, AS.Fact.is (.bool true)), (41, AS.Fact.is (.bool true)), (42, AS.Fact.is (undef)), (43, AS.Fact.is (undef)), (44, AS.Fact.is (undef)), (45, AS.Fact.is (undef)), (46, AS.Fact.is (undef)), (47, AS.Fact.is (undef)), (48, AS.Fact.is (undef)), (49, AS.Fact.is (undef)), (50, AS.Fact.is (undef)), (51, AS.Fact.is (undef)), (52, AS.Fact.is (undef)), (53, AS.Fact.is (.bool true))]
def rvFd (b off n k j : Nat) (cp : Nat) (g : Bool) (x y : Acc) (C : List Int) (cl : Nat) (q : Bool) : List (Nat × AS.Fact) := [(15, AS.Fact.is (.slice (some ⟨b, off, none⟩) (n : Nat) cp)), (16, AS.Fact.is (.slice (some ⟨b, off, none⟩) (n : Nat) cp)), (17, AS.Fact.is (.int .i64 (k : Int))), (18, AS.Fact.is (.pointer (some ⟨b, off + k * 4, none⟩))), (19, AS.Fact.is (accV x)), (20, AS.Fact.is (.bool g)), (21, AS.Fact.is (.bool true)), (22, AS.Fact.is (.bool false)), (23, AS.Fact.is (.bool false)), (24, AS.Fact.is (.int .i64 (k : Int))), (25, AS.Fact.is (.bool true)), (26, AS.Fact.is (.bool true)), (27, AS.Fact.is (.slice (some ⟨b, off, none⟩) (n : Nat) cp)), (28, AS.Fact.is (.int .i64 (k : Int))), (29, AS.Fact.is (.pointer (some ⟨b, off + k * 4, none⟩))), (30, AS.Fact.is (.pointer (some ⟨b, off + k * 4, none⟩))), (31, AS.Fact.is (.int .i64 x.code)), (32, AS.Fact.is (.slice (some ⟨b, off, none⟩) (n : Nat) cp)), (33, AS.Fact.is (.int .i64 (k : Int))), (34, AS.Fact.is (.int .i64 (j : Int))), (35, AS.Fact.is (.pointer (some ⟨b, off + j * 4, none⟩))), (36, AS.Fact.is (.pointer (some ⟨b, off + j * 4, none⟩))), (37, AS.Fact.is (.int .i64 y.code)), (38, AS.Fact.is (.bool false)), (39, AS.Fact.is (.bool false)), (40, AS.Fact.is (.bool false)), (41, AS.Fact.is (.bool false)), (42, AS.Fact.is (.slice (some ⟨b, off, none⟩) (n : Nat) cp)), (43, AS.Fact.is (.slice (some ⟨b, off, none⟩) (n : Nat) cp)), (44, AS.Fact.is (.int .i64 (k : Int))), (45, AS.Fact.is (.pointer (some ⟨b, off + k * 4, none⟩))), (46, AS.Fact.is (.pointer (some ⟨b, off + k * 4, none⟩))), (47, AS.Fact.is (.int .i64 x.code)), (48, HSl C), (49, AS.Fact.is (.int .i64 (cl : Int))), (50, AS.Fact.is (.slice (some ⟨b, off, none⟩) (n : Nat) cp)), (51, AS.Fact.is (.int .i64 (n : Int))), (52, AS.Fact.is (.bool q)), (53, AS.Fact.is (.bool q))]
set_option maxRecDepth 20000 in
set_option maxHeartbeats 3200000 in
theorem rvalid8_any (A : Option Addr) (cp : Nat) (L : List Acc) (g : Bool) (w : World) (hz : AccAt w A L) (hl : L.length ≤ 1000) :
  Calls Try.prog 25 #[.slice A L.length cp, .bool g] w fun e w' => e = .returned (.bool (rvB L g)) ∧ Below w.heap.size w w' := by
 have hB := Below.refl w.heap.size w
 have hPr := fun x w h => rproper_any A cp L x g w h hl
 have hCb := fun c w h => rclimb_any A cp L c w h hl
 obtain ⟨n, hn⟩ : ∃ n, L.length = n := ⟨_, rfl⟩
 have hn0 := hn
 rw [hn] at hl hPr hCb ⊢
 have HN := Lib.hid hn
 have HZ := Lib.hid hz
 have HPr := Lib.hid hPr
 have HCb := Lib.hid hCb
 clear hn hz hPr hCb
 by_cases hbig : 200 < n
 ·have E : Hid (rvB L g = false) := Lib.hid (by unfold rvB; rw [decide_eq_false (by omega)]; rfl)
  have e1 : decide ((200 : Int) < (n : Int)) = true := decide_eq_true (by omega)
  clear hn0
  go_enter Try.func25, Try.ntmps25
  go_wp2_with fail
  go_ret
  exact ⟨by rw [E.out]; rfl, hB⟩
 have HV : Hid (rvB L g = rowsTo L g n) := Lib.hid (by unfold rvB; rw [decide_eq_true (by omega), hn0]; rfl)
 have e1 : decide ((200 : Int) < (n : Int)) = false := decide_eq_false (by omega)
 clear hn0
 go_enter Try.func25, Try.ntmps25
 go_wp2_with fail
 go_loopg [5] n (fun kx s5 wr => ∃ k : Nat, s5 = .int .i64 k ∧ k ≤ n ∧ n - k ≤ kx ∧ Hid (rowsTo L g k = true) ∧ Below w.heap.size w wr)
 case atStart => exact ⟨0, rfl, by omega, by omega, Lib.hid rfl, hB⟩
 case round =>
  clear hB
  obtain ⟨k, rfl, hk, hkx, HR, hB⟩ := hrel
  by_cases hlt : k < n
  ·have hltz : (k : Int) < (n : Int) := by omega
   have HZW := Lib.hid (HZ.out.up hB)
   obtain ⟨b, off, rfl, hbw, hcs⟩ := HZW.out (by rw [HN.out]; omega)
   have hbW : b < wr.heap.size := hbw
   obtain ⟨x, hx⟩ : ∃ x, L.getD k acc0 = x := ⟨_, rfl⟩
   have hx4 := hcs k (by rw [HN.out]; exact hlt)
   rw [hx] at hx4
   have HX := Lib.hid hx
   have HX4 := Lib.hid hx4
   have HCS := Lib.hid hcs
   have hpr := HPr.out x
   have hcb := HCb.out x.code
   clear hcs hx hx4 hbw
   go_wp2_with fail
   cases hp : properB L g x
   ·have E : Hid (rvB L g = false) := Lib.hid (rvB_no (k := k) (by rw [HN.out]; exact hlt) (rowB_prop (by rw [HX.out]; exact hp)))
    rw [hp] at hpr
    replace HPr := Lib.hid hpr
    clear hpr hcb HCb hp
    refine AS.region_facts (rvFa b off n k cp g x) (HNo wr) [[], [], [], [16, 17], [18], [], [15, 19, 20], [21], [22], [23], [23], [23], [26], [26], [26], [26], [26], [26], [26], [26], [26], [26], [26], [26], [23], [23, 39], [40], [41], [41], [41], [41], [41], [41], [41], [41], [41], [41], [41], [41, 52]] [] [[]] [0, 0, 0, 0, 0, 0, 0, 0, 0, 0, 0, 0, 0, 0, 0, 0, 0, 0, 0, 0, 0, 0, 0, 0, 0, 0, 0, 0, 0, 0, 0, 0, 0, 0, 0, 0, 0, 0, 0] [] (fun u => by simp only [rvFa, AS.temps, List.map_cons, List.map_nil, fillL, List.setIfInBounds_toArray, List.set_cons_zero, List.set_cons_succ]; rfl) (by kernel_rfl) (by kernel_rfl) (HNo.st wr) (dc_drew (Below.refl _ _)) ?_ ?_
    ·refine AS.sc rfl rfl rfl ?_ ?_
     ·intro k_ u w_ hk_ hJ hF K hK
      clear hF
      go_simp
      exact hK.out _ _ (Below.refl _ _) (rfl) trivial
     refine AS.sc rfl rfl rfl ?_ ?_
     ·intro k_ u w_ hk_ hJ hF K hK
      clear hF
      go_simp
      exact hK.out _ _ (Below.refl _ _) (rfl) trivial
     refine AS.sc rfl rfl rfl ?_ ?_
     ·intro k_ u w_ hk_ hJ hF K hK
      clear hF
      go_simp
      exact hK.out _ _ (Below.refl _ _) (rfl) trivial
     refine AS.sc rfl rfl rfl ?_ ?_
     ·intro k_ u w_ hk_ hJ hF K hK
      have h16 : u 16 = .slice (some ⟨b, off, none⟩) (n : Nat) cp := AS.facts_get hF 16 (by simp)
      have h17 : u 17 = .int .i64 (k : Int) := AS.facts_get hF 17 (by simp)
      clear hF
      simp only [h16, h17] at hK ⊢
      clear h16 h17
      go_simp
      exact hK.out _ _ (Below.refl _ _) (rfl) trivial
     refine AS.sc rfl rfl rfl ?_ ?_
     ·intro k_ u w_ hk_ hJ hF K hK
      have h18 : u 18 = .pointer (some ⟨b, off + k * 4, none⟩) := AS.facts_get hF 18 (by simp)
      clear hF
      simp only [h18] at hK ⊢
      clear h18
      obtain ⟨c0, c1, c2, c3⟩ := HX4.out.up (hJ : Below wr.heap.size wr w_) hbW
      go_simp
      exact hK.out _ _ (Below.refl _ _) (rfl) trivial
     refine AS.sc rfl rfl rfl ?_ ?_
     ·intro k_ u w_ hk_ hJ hF K hK
      clear hF
      go_simp
      exact hK.out _ _ (Below.refl _ _) (rfl) trivial
     refine AS.sc rfl rfl rfl ?_ ?_
     ·intro k_ u w_ hk_ hJ hF K hK
      have h15 : u 15 = .slice (some ⟨b, off, none⟩) (n : Nat) cp := AS.facts_get hF 15 (by simp)
      have h19 : u 19 = accV x := AS.facts_get hF 19 (by simp)
      have h20 : u 20 = .bool g := AS.facts_get hF 20 (by simp)
      clear hF
      simp only [h15, h19, h20] at hK ⊢
      clear h15 h19 h20
      have hz9 := HZW.out.up (hJ : Below wr.heap.size wr w_)
      go_simp
      refine (HPr.out _ hz9).mono ?_
      rintro e w3 ⟨rfl, hb⟩
      exact hK.out _ _ hb (rfl) trivial
     refine AS.sc rfl rfl rfl ?_ ?_
     ·intro k_ u w_ hk_ hJ hF K hK
      have h21 : u 21 = .bool false := AS.facts_get hF 21 (by simp)
      clear hF
      simp only [h21] at hK ⊢
      clear h21
      go_simp
      exact hK.out _ _ (Below.refl _ _) (rfl) trivial
     refine AS.sc rfl rfl rfl ?_ ?_
     ·intro k_ u w_ hk_ hJ hF K hK
      have h22 : u 22 = .bool true := AS.facts_get hF 22 (by simp)
      clear hF
      simp only [h22] at hK ⊢
      clear h22
      go_simp
      exact hK.out _ _ (Below.refl _ _) (rfl) trivial
     refine AS.sc rfl rfl rfl ?_ ?_
     ·intro k_ u w_ hk_ hJ hF K hK
      have h23 : u 23 = .bool true := AS.facts_get hF 23 (by simp)
      clear hF
      simp only [h23] at hK ⊢
      clear h23
      go_simp
      exact hK.out _ _ (Below.refl _ _) (rfl) trivial
     refine AS.sc rfl rfl rfl ?_ ?_
     ·intro k_ u w_ hk_ hJ hF K hK
      have h23 : u 23 = .bool true := AS.facts_get hF 23 (by simp)
      clear hF
      simp only [h23] at hK ⊢
      clear h23
      go_simp
      exact hK.out _ _ (Below.refl _ _) (rfl) trivial
     refine AS.sc rfl rfl rfl ?_ ?_
     ·intro k_ u w_ hk_ hJ hF K hK
      have h23 : u 23 = .bool true := AS.facts_get hF 23 (by simp)
      clear hF
      simp only [h23] at hK ⊢
      clear h23
      go_simp
      exact hK.out _ _ (Below.refl _ _) (rfl) trivial
     refine AS.sc rfl rfl rfl ?_ ?_
     ·intro k_ u w_ hk_ hJ hF K hK
      have h26 : u 26 = undef := AS.facts_get hF 26 (by simp)
      clear hF
      simp only [h26] at hK ⊢
      clear h26
      go_simp
      exact hK.out _ _ (Below.refl _ _) (rfl) trivial
     refine AS.sc rfl rfl rfl ?_ ?_
     ·intro k_ u w_ hk_ hJ hF K hK
      have h26 : u 26 = undef := AS.facts_get hF 26 (by simp)
      clear hF
      simp only [h26] at hK ⊢
      clear h26
      go_simp
      exact hK.out _ _ (Below.refl _ _) (rfl) trivial
     refine AS.sc rfl rfl rfl ?_ ?_
     ·intro k_ u w_ hk_ hJ hF K hK
      have h26 : u 26 = undef := AS.facts_get hF 26 (by simp)
      clear hF
      simp only [h26] at hK ⊢
      clear h26
      go_simp
      exact hK.out _ _ (Below.refl _ _) (rfl) trivial
     refine AS.sc rfl rfl rfl ?_ ?_
     ·intro k_ u w_ hk_ hJ hF K hK
      have h26 : u 26 = undef := AS.facts_get hF 26 (by simp)
      clear hF
      simp only [h26] at hK ⊢
      clear h26
      go_simp
      exact hK.out _ _ (Below.refl _ _) (rfl) trivial
     refine AS.sc rfl rfl rfl ?_ ?_
     ·intro k_ u w_ hk_ hJ hF K hK
      have h26 : u 26 = undef := AS.facts_get hF 26 (by simp)
      clear hF
      simp only [h26] at hK ⊢
      clear h26
      go_simp
      exact hK.out _ _ (Below.refl _ _) (rfl) trivial
     refine AS.sc rfl rfl rfl ?_ ?_
     ·intro k_ u w_ hk_ hJ hF K hK
      have h26 : u 26 = undef := AS.facts_get hF 26 (by simp)
      clear hF
      simp only [h26] at hK ⊢
      clear h26
      go_simp
      exact hK.out _ _ (Below.refl _ _) (rfl) trivial
     refine AS.sc rfl rfl rfl ?_ ?_
     ·intro k_ u w_ hk_ hJ hF K hK
      have h26 : u 26 = undef := AS.facts_get hF 26 (by simp)
      clear hF
      simp only [h26] at hK ⊢
      clear h26
      go_simp
      exact hK.out _ _ (Below.refl _ _) (rfl) trivial
     refine AS.sc rfl rfl rfl ?_ ?_
     ·intro k_ u w_ hk_ hJ hF K hK
      have h26 : u 26 = undef := AS.facts_get hF 26 (by simp)
      clear hF
      simp only [h26] at hK ⊢
      clear h26
      go_simp
      exact hK.out _ _ (Below.refl _ _) (rfl) trivial
     refine AS.sc rfl rfl rfl ?_ ?_
     ·intro k_ u w_ hk_ hJ hF K hK
      have h26 : u 26 = undef := AS.facts_get hF 26 (by simp)
      clear hF
      simp only [h26] at hK ⊢
      clear h26
      go_simp
      exact hK.out _ _ (Below.refl _ _) (rfl) trivial
     refine AS.sc rfl rfl rfl ?_ ?_
     ·intro k_ u w_ hk_ hJ hF K hK
      have h26 : u 26 = undef := AS.facts_get hF 26 (by simp)
      clear hF
      simp only [h26] at hK ⊢
      clear h26
      go_simp
      exact hK.out _ _ (Below.refl _ _) (rfl) trivial
     refine AS.sc rfl rfl rfl ?_ ?_
     ·intro k_ u w_ hk_ hJ hF K hK
      have h26 : u 26 = undef := AS.facts_get hF 26 (by simp)
      clear hF
      simp only [h26] at hK ⊢
      clear h26
      go_simp
      exact hK.out _ _ (Below.refl _ _) (rfl) trivial
     refine AS.sc rfl rfl rfl ?_ ?_
     ·intro k_ u w_ hk_ hJ hF K hK
      have h26 : u 26 = undef := AS.facts_get hF 26 (by simp)
      clear hF
      simp only [h26] at hK ⊢
      clear h26
      go_simp
      exact hK.out _ _ (Below.refl _ _) (rfl) trivial
     refine AS.sc rfl rfl rfl ?_ ?_
     ·intro k_ u w_ hk_ hJ hF K hK
      have h23 : u 23 = .bool true := AS.facts_get hF 23 (by simp)
      clear hF
      simp only [h23] at hK ⊢
      clear h23
      go_simp
      exact hK.out _ _ (Below.refl _ _) (rfl) trivial
     refine AS.sc rfl rfl rfl ?_ ?_
     ·intro k_ u w_ hk_ hJ hF K hK
      have h23 : u 23 = .bool true := AS.facts_get hF 23 (by simp)
      have h39 : u 39 = undef := AS.facts_get hF 39 (by simp)
      clear hF
      simp only [h23, h39] at hK ⊢
      clear h23 h39
      go_simp
      exact hK.out _ _ (Below.refl _ _) (rfl) trivial
     refine AS.sc rfl rfl rfl ?_ ?_
     ·intro k_ u w_ hk_ hJ hF K hK
      have h40 : u 40 = .bool true := AS.facts_get hF 40 (by simp)
      clear hF
      simp only [h40] at hK ⊢
      clear h40
      go_simp
      exact hK.out _ _ (Below.refl _ _) (rfl) trivial
     refine AS.sc rfl rfl rfl ?_ ?_
     ·intro k_ u w_ hk_ hJ hF K hK
      have h41 : u 41 = .bool true := AS.facts_get hF 41 (by simp)
      clear hF
      simp only [h41] at hK ⊢
      clear h41
      go_simp
      exact hK.out _ _ (Below.refl _ _) (rfl) trivial
     refine AS.sc rfl rfl rfl ?_ ?_
     ·intro k_ u w_ hk_ hJ hF K hK
      have h41 : u 41 = .bool true := AS.facts_get hF 41 (by simp)
      clear hF
      simp only [h41] at hK ⊢
      clear h41
      go_simp
      exact hK.out _ _ (Below.refl _ _) (rfl) trivial
     refine AS.sc rfl rfl rfl ?_ ?_
     ·intro k_ u w_ hk_ hJ hF K hK
      have h41 : u 41 = .bool true := AS.facts_get hF 41 (by simp)
      clear hF
      simp only [h41] at hK ⊢
      clear h41
      go_simp
      exact hK.out _ _ (Below.refl _ _) (rfl) trivial
     refine AS.sc rfl rfl rfl ?_ ?_
     ·intro k_ u w_ hk_ hJ hF K hK
      have h41 : u 41 = .bool true := AS.facts_get hF 41 (by simp)
      clear hF
      simp only [h41] at hK ⊢
      clear h41
      go_simp
      exact hK.out _ _ (Below.refl _ _) (rfl) trivial
     refine AS.sc rfl rfl rfl ?_ ?_
     ·intro k_ u w_ hk_ hJ hF K hK
      have h41 : u 41 = .bool true := AS.facts_get hF 41 (by simp)
      clear hF
      simp only [h41] at hK ⊢
      clear h41
      go_simp
      exact hK.out _ _ (Below.refl _ _) (rfl) trivial
     refine AS.sc rfl rfl rfl ?_ ?_
     ·intro k_ u w_ hk_ hJ hF K hK
      have h41 : u 41 = .bool true := AS.facts_get hF 41 (by simp)
      clear hF
      simp only [h41] at hK ⊢
      clear h41
      go_simp
      exact hK.out _ _ (Below.refl _ _) (rfl) trivial
     refine AS.sc rfl rfl rfl ?_ ?_
     ·intro k_ u w_ hk_ hJ hF K hK
      have h41 : u 41 = .bool true := AS.facts_get hF 41 (by simp)
      clear hF
      simp only [h41] at hK ⊢
      clear h41
      go_simp
      exact hK.out _ _ (Below.refl _ _) (rfl) trivial
     refine AS.sc rfl rfl rfl ?_ ?_
     ·intro k_ u w_ hk_ hJ hF K hK
      have h41 : u 41 = .bool true := AS.facts_get hF 41 (by simp)
      clear hF
      simp only [h41] at hK ⊢
      clear h41
      go_simp
      exact hK.out _ _ (Below.refl _ _) (rfl) trivial
     refine AS.sc rfl rfl rfl ?_ ?_
     ·intro k_ u w_ hk_ hJ hF K hK
      have h41 : u 41 = .bool true := AS.facts_get hF 41 (by simp)
      clear hF
      simp only [h41] at hK ⊢
      clear h41
      go_simp
      exact hK.out _ _ (Below.refl _ _) (rfl) trivial
     refine AS.sc rfl rfl rfl ?_ ?_
     ·intro k_ u w_ hk_ hJ hF K hK
      have h41 : u 41 = .bool true := AS.facts_get hF 41 (by simp)
      clear hF
      simp only [h41] at hK ⊢
      clear h41
      go_simp
      exact hK.out _ _ (Below.refl _ _) (rfl) trivial
     refine AS.sc rfl rfl rfl ?_ ?_
     ·intro k_ u w_ hk_ hJ hF K hK
      have h41 : u 41 = .bool true := AS.facts_get hF 41 (by simp)
      clear hF
      simp only [h41] at hK ⊢
      clear h41
      go_simp
      exact hK.out _ _ (Below.refl _ _) (rfl) trivial
     refine AS.sc rfl rfl rfl ?_ ?_
     ·intro k_ u w_ hk_ hJ hF K hK
      have h41 : u 41 = .bool true := AS.facts_get hF 41 (by simp)
      have h52 : u 52 = undef := AS.facts_get hF 52 (by simp)
      clear hF
      simp only [h41, h52] at hK ⊢
      clear h41 h52
      go_simp
      exact hK.out _ _ (Below.refl _ _) (rfl) trivial
     exact AS.StepsOk.nil
    ·intro u W9 hJ9 hF
     have h53 : u 53 = .bool true := AS.facts_get hF 53 (by simp [rvFa, AS.temps])
     have hB9 : Below wr.heap.size wr W9 := hJ9
     clear hF hJ9
     simp only [h53]
     clear h53
     go_wp2_with fail
     go_ret
     exact ⟨by rw [E.out]; rfl, hB.trans (hB9.mono hB.size)⟩
   ·rw [hp] at hpr
    replace HPr := Lib.hid hpr
    have htb : topB L x = decide ((climb L x.code).length ≤ L.length) := rfl
    obtain ⟨C, hC⟩ : ∃ C, climb L x.code = C := ⟨_, rfl⟩
    obtain ⟨cl, hcl⟩ : ∃ cl, C.length = cl := ⟨_, rfl⟩
    rw [hC] at hcb
    rw [hC, hcl, HN.out] at htb
    replace HCb := Lib.hid hcb
    have HCL := Lib.hid hcl
    have HTB := Lib.hid htb
    have hcl2 : cl ≤ 2000 := by have := climb_le (L := L) (c := x.code); rw [hC, hcl, HN.out] at this; omega
    have HP := Lib.hid hp
    clear hpr hcb hp hC hcl htb
    obtain ⟨q, hq⟩ : ∃ q, decide (n < cl) = q := ⟨_, rfl⟩
    have HTQ : Hid (topB L x = !q) := Lib.hid (by
     rw [HTB.out, ← hq]
     rcases Nat.lt_or_ge n cl with h1 | h1
     ·rw [decide_eq_false (show ¬ cl ≤ n by omega), decide_eq_true (show n < cl by omega)]; rfl
     ·rw [decide_eq_true (show cl ≤ n by omega), decide_eq_false (show ¬ n < cl by omega)]; rfl)
    rcases Nat.eq_zero_or_pos k with hk0 | hk0
    ·have HQ : Hid (rowB L g k = !q) := Lib.hid (by subst hk0; rw [rowB_zero (by rw [HX.out]; exact HP.out), HX.out]; exact HTQ.out)
     have e2 : decide (0 < k) = false := decide_eq_false (by omega)
     clear hk0
     refine AS.region_facts (rvFb b off n k cp g x C cl q) (HNo wr) [[], [], [], [16, 17], [18], [], [15, 19, 20], [21], [22], [23], [24, 23], [25, 23], [26], [26], [26], [26], [26], [26], [26], [26], [26], [26], [26], [26], [26, 38, 23], [23, 39], [40], [41], [41], [41], [43, 44, 41], [45, 41], [46, 41], [42, 47, 41], [48, 41], [41], [50, 41], [49, 51, 41], [41, 52]] [] [[]] [0, 0, 0, 0, 0, 0, 0, 0, 0, 0, 0, 0, 0, 0, 0, 0, 0, 0, 0, 0, 0, 0, 0, 0, 0, 0, 0, 0, 0, 0, 0, 0, 0, 0, 0, 0, 0, 0, 0] [] (fun u => by simp only [rvFb, AS.temps, List.map_cons, List.map_nil, fillL, List.setIfInBounds_toArray, List.set_cons_zero, List.set_cons_succ]; rfl) (by kernel_rfl) (by kernel_rfl) (HNo.st wr) (dc_drew (Below.refl _ _)) ?_ ?_
     ·refine AS.sc rfl rfl rfl ?_ ?_
      ·intro k_ u w_ hk_ hJ hF K hK
       clear hF
       go_simp
       exact hK.out _ _ (Below.refl _ _) (rfl) trivial
      refine AS.sc rfl rfl rfl ?_ ?_
      ·intro k_ u w_ hk_ hJ hF K hK
       clear hF
       go_simp
       exact hK.out _ _ (Below.refl _ _) (rfl) trivial
      refine AS.sc rfl rfl rfl ?_ ?_
      ·intro k_ u w_ hk_ hJ hF K hK
       clear hF
       go_simp
       exact hK.out _ _ (Below.refl _ _) (rfl) trivial
      refine AS.sc rfl rfl rfl ?_ ?_
      ·intro k_ u w_ hk_ hJ hF K hK
       have h16 : u 16 = .slice (some ⟨b, off, none⟩) (n : Nat) cp := AS.facts_get hF 16 (by simp)
       have h17 : u 17 = .int .i64 (k : Int) := AS.facts_get hF 17 (by simp)
       clear hF
       simp only [h16, h17] at hK ⊢
       clear h16 h17
       go_simp
       exact hK.out _ _ (Below.refl _ _) (rfl) trivial
      refine AS.sc rfl rfl rfl ?_ ?_
      ·intro k_ u w_ hk_ hJ hF K hK
       have h18 : u 18 = .pointer (some ⟨b, off + k * 4, none⟩) := AS.facts_get hF 18 (by simp)
       clear hF
       simp only [h18] at hK ⊢
       clear h18
       obtain ⟨c0, c1, c2, c3⟩ := HX4.out.up (hJ : Below wr.heap.size wr w_) hbW
       go_simp
       exact hK.out _ _ (Below.refl _ _) (rfl) trivial
      refine AS.sc rfl rfl rfl ?_ ?_
      ·intro k_ u w_ hk_ hJ hF K hK
       clear hF
       go_simp
       exact hK.out _ _ (Below.refl _ _) (rfl) trivial
      refine AS.sc rfl rfl rfl ?_ ?_
      ·intro k_ u w_ hk_ hJ hF K hK
       have h15 : u 15 = .slice (some ⟨b, off, none⟩) (n : Nat) cp := AS.facts_get hF 15 (by simp)
       have h19 : u 19 = accV x := AS.facts_get hF 19 (by simp)
       have h20 : u 20 = .bool g := AS.facts_get hF 20 (by simp)
       clear hF
       simp only [h15, h19, h20] at hK ⊢
       clear h15 h19 h20
       have hz9 := HZW.out.up (hJ : Below wr.heap.size wr w_)
       go_simp
       refine (HPr.out _ hz9).mono ?_
       rintro e w3 ⟨rfl, hb⟩
       exact hK.out _ _ hb (rfl) trivial
      refine AS.sc rfl rfl rfl ?_ ?_
      ·intro k_ u w_ hk_ hJ hF K hK
       have h21 : u 21 = .bool true := AS.facts_get hF 21 (by simp)
       clear hF
       simp only [h21] at hK ⊢
       clear h21
       go_simp
       exact hK.out _ _ (Below.refl _ _) (rfl) trivial
      refine AS.sc rfl rfl rfl ?_ ?_
      ·intro k_ u w_ hk_ hJ hF K hK
       have h22 : u 22 = .bool false := AS.facts_get hF 22 (by simp)
       clear hF
       simp only [h22] at hK ⊢
       clear h22
       go_simp
       exact hK.out _ _ (Below.refl _ _) (rfl) trivial
      refine AS.sc rfl rfl rfl ?_ ?_
      ·intro k_ u w_ hk_ hJ hF K hK
       have h23 : u 23 = .bool false := AS.facts_get hF 23 (by simp)
       clear hF
       simp only [h23] at hK ⊢
       clear h23
       go_simp
       exact hK.out _ _ (Below.refl _ _) (rfl) trivial
      refine AS.sc rfl rfl rfl ?_ ?_
      ·intro k_ u w_ hk_ hJ hF K hK
       have h24 : u 24 = .int .i64 (k : Int) := AS.facts_get hF 24 (by simp)
       have h23 : u 23 = .bool false := AS.facts_get hF 23 (by simp)
       clear hF
       simp only [h24, h23] at hK ⊢
       clear h24 h23
       go_simp
       exact hK.out _ _ (Below.refl _ _) (rfl) trivial
      refine AS.sc rfl rfl rfl ?_ ?_
      ·intro k_ u w_ hk_ hJ hF K hK
       have h25 : u 25 = .bool false := AS.facts_get hF 25 (by simp)
       have h23 : u 23 = .bool false := AS.facts_get hF 23 (by simp)
       clear hF
       simp only [h25, h23] at hK ⊢
       clear h25 h23
       go_simp
       exact hK.out _ _ (Below.refl _ _) (rfl) trivial
      refine AS.sc rfl rfl rfl ?_ ?_
      ·intro k_ u w_ hk_ hJ hF K hK
       have h26 : u 26 = .bool false := AS.facts_get hF 26 (by simp)
       clear hF
       simp only [h26] at hK ⊢
       clear h26
       go_simp
       exact hK.out _ _ (Below.refl _ _) (rfl) trivial
      refine AS.sc rfl rfl rfl ?_ ?_
      ·intro k_ u w_ hk_ hJ hF K hK
       have h26 : u 26 = .bool false := AS.facts_get hF 26 (by simp)
       clear hF
       simp only [h26] at hK ⊢
       clear h26
       go_simp
       exact hK.out _ _ (Below.refl _ _) (rfl) trivial
      refine AS.sc rfl rfl rfl ?_ ?_
      ·intro k_ u w_ hk_ hJ hF K hK
       have h26 : u 26 = .bool false := AS.facts_get hF 26 (by simp)
       clear hF
       simp only [h26] at hK ⊢
       clear h26
       go_simp
       exact hK.out _ _ (Below.refl _ _) (rfl) trivial
      refine AS.sc rfl rfl rfl ?_ ?_
      ·intro k_ u w_ hk_ hJ hF K hK
       have h26 : u 26 = .bool false := AS.facts_get hF 26 (by simp)
       clear hF
       simp only [h26] at hK ⊢
       clear h26
       go_simp
       exact hK.out _ _ (Below.refl _ _) (rfl) trivial
      refine AS.sc rfl rfl rfl ?_ ?_
      ·intro k_ u w_ hk_ hJ hF K hK
       have h26 : u 26 = .bool false := AS.facts_get hF 26 (by simp)
       clear hF
       simp only [h26] at hK ⊢
       clear h26
       go_simp
       exact hK.out _ _ (Below.refl _ _) (rfl) trivial
      refine AS.sc rfl rfl rfl ?_ ?_
      ·intro k_ u w_ hk_ hJ hF K hK
       have h26 : u 26 = .bool false := AS.facts_get hF 26 (by simp)
       clear hF
       simp only [h26] at hK ⊢
       clear h26
       go_simp
       exact hK.out _ _ (Below.refl _ _) (rfl) trivial
      refine AS.sc rfl rfl rfl ?_ ?_
      ·intro k_ u w_ hk_ hJ hF K hK
       have h26 : u 26 = .bool false := AS.facts_get hF 26 (by simp)
       clear hF
       simp only [h26] at hK ⊢
       clear h26
       go_simp
       exact hK.out _ _ (Below.refl _ _) (rfl) trivial
      refine AS.sc rfl rfl rfl ?_ ?_
      ·intro k_ u w_ hk_ hJ hF K hK
       have h26 : u 26 = .bool false := AS.facts_get hF 26 (by simp)
       clear hF
       simp only [h26] at hK ⊢
       clear h26
       go_simp
       exact hK.out _ _ (Below.refl _ _) (rfl) trivial
      refine AS.sc rfl rfl rfl ?_ ?_
      ·intro k_ u w_ hk_ hJ hF K hK
       have h26 : u 26 = .bool false := AS.facts_get hF 26 (by simp)
       clear hF
       simp only [h26] at hK ⊢
       clear h26
       go_simp
       exact hK.out _ _ (Below.refl _ _) (rfl) trivial
      refine AS.sc rfl rfl rfl ?_ ?_
      ·intro k_ u w_ hk_ hJ hF K hK
       have h26 : u 26 = .bool false := AS.facts_get hF 26 (by simp)
       clear hF
       simp only [h26] at hK ⊢
       clear h26
       go_simp
       exact hK.out _ _ (Below.refl _ _) (rfl) trivial
      refine AS.sc rfl rfl rfl ?_ ?_
      ·intro k_ u w_ hk_ hJ hF K hK
       have h26 : u 26 = .bool false := AS.facts_get hF 26 (by simp)
       clear hF
       simp only [h26] at hK ⊢
       clear h26
       go_simp
       exact hK.out _ _ (Below.refl _ _) (rfl) trivial
      refine AS.sc rfl rfl rfl ?_ ?_
      ·intro k_ u w_ hk_ hJ hF K hK
       have h26 : u 26 = .bool false := AS.facts_get hF 26 (by simp)
       clear hF
       simp only [h26] at hK ⊢
       clear h26
       go_simp
       exact hK.out _ _ (Below.refl _ _) (rfl) trivial
      refine AS.sc rfl rfl rfl ?_ ?_
      ·intro k_ u w_ hk_ hJ hF K hK
       have h26 : u 26 = .bool false := AS.facts_get hF 26 (by simp)
       have h38 : u 38 = undef := AS.facts_get hF 38 (by simp)
       have h23 : u 23 = .bool false := AS.facts_get hF 23 (by simp)
       clear hF
       simp only [h26, h38, h23] at hK ⊢
       clear h26 h38 h23
       go_simp
       exact hK.out _ _ (Below.refl _ _) (rfl) trivial
      refine AS.sc rfl rfl rfl ?_ ?_
      ·intro k_ u w_ hk_ hJ hF K hK
       have h23 : u 23 = .bool false := AS.facts_get hF 23 (by simp)
       have h39 : u 39 = .bool false := AS.facts_get hF 39 (by simp)
       clear hF
       simp only [h23, h39] at hK ⊢
       clear h23 h39
       go_simp
       exact hK.out _ _ (Below.refl _ _) (rfl) trivial
      refine AS.sc rfl rfl rfl ?_ ?_
      ·intro k_ u w_ hk_ hJ hF K hK
       have h40 : u 40 = .bool false := AS.facts_get hF 40 (by simp)
       clear hF
       simp only [h40] at hK ⊢
       clear h40
       go_simp
       exact hK.out _ _ (Below.refl _ _) (rfl) trivial
      refine AS.sc rfl rfl rfl ?_ ?_
      ·intro k_ u w_ hk_ hJ hF K hK
       have h41 : u 41 = .bool false := AS.facts_get hF 41 (by simp)
       clear hF
       simp only [h41] at hK ⊢
       clear h41
       go_simp
       exact hK.out _ _ (Below.refl _ _) (rfl) trivial
      refine AS.sc rfl rfl rfl ?_ ?_
      ·intro k_ u w_ hk_ hJ hF K hK
       have h41 : u 41 = .bool false := AS.facts_get hF 41 (by simp)
       clear hF
       simp only [h41] at hK ⊢
       clear h41
       go_simp
       exact hK.out _ _ (Below.refl _ _) (rfl) trivial
      refine AS.sc rfl rfl rfl ?_ ?_
      ·intro k_ u w_ hk_ hJ hF K hK
       have h41 : u 41 = .bool false := AS.facts_get hF 41 (by simp)
       clear hF
       simp only [h41] at hK ⊢
       clear h41
       go_simp
       exact hK.out _ _ (Below.refl _ _) (rfl) trivial
      refine AS.sc rfl rfl rfl ?_ ?_
      ·intro k_ u w_ hk_ hJ hF K hK
       have h43 : u 43 = .slice (some ⟨b, off, none⟩) (n : Nat) cp := AS.facts_get hF 43 (by simp)
       have h44 : u 44 = .int .i64 (k : Int) := AS.facts_get hF 44 (by simp)
       have h41 : u 41 = .bool false := AS.facts_get hF 41 (by simp)
       clear hF
       simp only [h43, h44, h41] at hK ⊢
       clear h43 h44 h41
       go_simp
       exact hK.out _ _ (Below.refl _ _) (rfl) trivial
      refine AS.sc rfl rfl rfl ?_ ?_
      ·intro k_ u w_ hk_ hJ hF K hK
       have h45 : u 45 = .pointer (some ⟨b, off + k * 4, none⟩) := AS.facts_get hF 45 (by simp)
       have h41 : u 41 = .bool false := AS.facts_get hF 41 (by simp)
       clear hF
       simp only [h45, h41] at hK ⊢
       clear h45 h41
       go_simp
       exact hK.out _ _ (Below.refl _ _) (rfl) trivial
      refine AS.sc rfl rfl rfl ?_ ?_
      ·intro k_ u w_ hk_ hJ hF K hK
       have h46 : u 46 = .pointer (some ⟨b, off + k * 4, none⟩) := AS.facts_get hF 46 (by simp)
       have h41 : u 41 = .bool false := AS.facts_get hF 41 (by simp)
       clear hF
       simp only [h46, h41] at hK ⊢
       clear h46 h41
       obtain ⟨c0, c1, c2, c3⟩ := HX4.out.up (hJ : Below wr.heap.size wr w_) hbW
       go_simp
       exact hK.out _ _ (Below.refl _ _) (rfl) trivial
      refine AS.sc rfl rfl rfl ?_ ?_
      ·intro k_ u w_ hk_ hJ hF K hK
       have h42 : u 42 = .slice (some ⟨b, off, none⟩) (n : Nat) cp := AS.facts_get hF 42 (by simp)
       have h47 : u 47 = .int .i64 x.code := AS.facts_get hF 47 (by simp)
       have h41 : u 41 = .bool false := AS.facts_get hF 41 (by simp)
       clear hF
       simp only [h42, h47, h41] at hK ⊢
       clear h42 h47 h41
       have hz9 := HZW.out.up (hJ : Below wr.heap.size wr w_)
       go_simp
       refine (HCb.out _ hz9).mono ?_
       rintro e w3 ⟨v, rfl, h9, hb⟩
       exact hK.out _ _ hb h9 trivial
      refine AS.sc rfl rfl rfl ?_ ?_
      ·intro k_ u w_ hk_ hJ hF K hK
       have h48 : SlI w_ (u 48) C := AS.facts_get hF 48 (by simp)
       have h41 : u 41 = .bool false := AS.facts_get hF 41 (by simp)
       clear hF
       obtain ⟨A8, d8, h48, -⟩ := h48
       rw [HCL.out] at h48
       simp only [h48, h41] at hK ⊢
       clear h48 h41
       go_simp
       exact hK.out _ _ (Below.refl _ _) (rfl) trivial
      refine AS.sc rfl rfl rfl ?_ ?_
      ·intro k_ u w_ hk_ hJ hF K hK
       have h41 : u 41 = .bool false := AS.facts_get hF 41 (by simp)
       clear hF
       simp only [h41] at hK ⊢
       clear h41
       go_simp
       exact hK.out _ _ (Below.refl _ _) (rfl) trivial
      refine AS.sc rfl rfl rfl ?_ ?_
      ·intro k_ u w_ hk_ hJ hF K hK
       have h50 : u 50 = .slice (some ⟨b, off, none⟩) (n : Nat) cp := AS.facts_get hF 50 (by simp)
       have h41 : u 41 = .bool false := AS.facts_get hF 41 (by simp)
       clear hF
       simp only [h50, h41] at hK ⊢
       clear h50 h41
       go_simp
       exact hK.out _ _ (Below.refl _ _) (rfl) trivial
      refine AS.sc rfl rfl rfl ?_ ?_
      ·intro k_ u w_ hk_ hJ hF K hK
       have h49 : u 49 = .int .i64 (cl : Int) := AS.facts_get hF 49 (by simp)
       have h51 : u 51 = .int .i64 (n : Int) := AS.facts_get hF 51 (by simp)
       have h41 : u 41 = .bool false := AS.facts_get hF 41 (by simp)
       clear hF
       simp only [h49, h51, h41] at hK ⊢
       clear h49 h51 h41
       go_simp
       exact hK.out _ _ (Below.refl _ _) (rfl) trivial
      refine AS.sc rfl rfl rfl ?_ ?_
      ·intro k_ u w_ hk_ hJ hF K hK
       have h41 : u 41 = .bool false := AS.facts_get hF 41 (by simp)
       have h52 : u 52 = .bool q := AS.facts_get hF 52 (by simp)
       clear hF
       simp only [h41, h52] at hK ⊢
       clear h41 h52
       go_simp
       exact hK.out _ _ (Below.refl _ _) (rfl) trivial
      exact AS.StepsOk.nil
     ·intro u W9 hJ9 hF
      have h53 : u 53 = .bool q := AS.facts_get hF 53 (by simp [rvFb, AS.temps])
      have hB9 : Below wr.heap.size wr W9 := hJ9
      clear hF hJ9
      simp only [h53]
      clear h53
      cases q
      ·have HR2 : Hid (rowsTo L g (k + 1) = true) := Lib.hid (by rw [rowsTo, HR.out, HQ.out]; rfl)
       go_wp2_with fail
       go_roundg (n - (k + 1))
       case measure => omega
       case rel => exact ⟨k + 1, by go_num, by omega, by omega, HR2, hB.trans (hB9.mono hB.size)⟩
      ·have E : Hid (rvB L g = false) := Lib.hid (rvB_no (k := k) (by rw [HN.out]; exact hlt) HQ.out)
       go_wp2_with fail
       go_ret
       exact ⟨by rw [E.out]; rfl, hB.trans (hB9.mono hB.size)⟩
    ·obtain ⟨j, hj⟩ : ∃ j, k = j + 1 := ⟨k - 1, by omega⟩
     have hjn : j < n := by omega
     have hjz : (j : Int) < (n : Int) := by omega
     have hj1 : (k : Int) - 1 = (j : Int) := by omega
     have hj2 : IntKind.i64.wrap (j : Int) = (j : Int) := IntWalk.i64_in _ (by omega)
     have e2 : decide (0 < k) = true := decide_eq_true (by omega)
     obtain ⟨y, hy⟩ : ∃ y, L.getD j acc0 = y := ⟨_, rfl⟩
     have hy4 := HCS.out j (by rw [HN.out]; omega)
     rw [hy] at hy4
     have HY4 := Lib.hid hy4
     have HY := Lib.hid hy
     have HJ := Lib.hid hj
     clear hy4 hy hj hk0
     rcases Int.lt_or_le y.code x.code with h8 | h8
     ·have HQ : Hid (rowB L g k = !q) := Lib.hid (by
       have h1 := HX.out
       rw [HJ.out] at h1 ⊢
       rw [rowB_up (by rw [h1]; exact HP.out) (by rw [h1, HY.out]; exact h8), h1]; exact HTQ.out)
      have e3 : decide (x.code ≤ y.code) = false := decide_eq_false (by omega)
      clear h8
      refine AS.region_facts (rvFd b off n k j cp g x y C cl q) (HNo wr) [[], [], [], [16, 17], [18], [], [15, 19, 20], [21], [22], [23], [24, 23], [25, 23], [26], [26], [27, 28, 26], [29, 26], [30, 26], [26], [26], [33, 26], [32, 34, 26], [35, 26], [36, 26], [31, 37, 26], [26, 38, 23], [23, 39], [40], [41], [41], [41], [43, 44, 41], [45, 41], [46, 41], [42, 47, 41], [48, 41], [41], [50, 41], [49, 51, 41], [41, 52]] [] [[]] [0, 0, 0, 0, 0, 0, 0, 0, 0, 0, 0, 0, 0, 0, 0, 0, 0, 0, 0, 0, 0, 0, 0, 0, 0, 0, 0, 0, 0, 0, 0, 0, 0, 0, 0, 0, 0, 0, 0] [] (fun u => by simp only [rvFd, AS.temps, List.map_cons, List.map_nil, fillL, List.setIfInBounds_toArray, List.set_cons_zero, List.set_cons_succ]; rfl) (by kernel_rfl) (by kernel_rfl) (HNo.st wr) (dc_drew (Below.refl _ _)) ?_ ?_
      ·refine AS.sc rfl rfl rfl ?_ ?_
       ·intro k_ u w_ hk_ hJ hF K hK
        clear hF
        go_simp
        exact hK.out _ _ (Below.refl _ _) (rfl) trivial
       refine AS.sc rfl rfl rfl ?_ ?_
       ·intro k_ u w_ hk_ hJ hF K hK
        clear hF
        go_simp
        exact hK.out _ _ (Below.refl _ _) (rfl) trivial
       refine AS.sc rfl rfl rfl ?_ ?_
       ·intro k_ u w_ hk_ hJ hF K hK
        clear hF
        go_simp
        exact hK.out _ _ (Below.refl _ _) (rfl) trivial
       refine AS.sc rfl rfl rfl ?_ ?_
       ·intro k_ u w_ hk_ hJ hF K hK
        have h16 : u 16 = .slice (some ⟨b, off, none⟩) (n : Nat) cp := AS.facts_get hF 16 (by simp)
        have h17 : u 17 = .int .i64 (k : Int) := AS.facts_get hF 17 (by simp)
        clear hF
        simp only [h16, h17] at hK ⊢
        clear h16 h17
        go_simp
        exact hK.out _ _ (Below.refl _ _) (rfl) trivial
       refine AS.sc rfl rfl rfl ?_ ?_
       ·intro k_ u w_ hk_ hJ hF K hK
        have h18 : u 18 = .pointer (some ⟨b, off + k * 4, none⟩) := AS.facts_get hF 18 (by simp)
        clear hF
        simp only [h18] at hK ⊢
        clear h18
        obtain ⟨c0, c1, c2, c3⟩ := HX4.out.up (hJ : Below wr.heap.size wr w_) hbW
        go_simp
        exact hK.out _ _ (Below.refl _ _) (rfl) trivial
       refine AS.sc rfl rfl rfl ?_ ?_
       ·intro k_ u w_ hk_ hJ hF K hK
        clear hF
        go_simp
        exact hK.out _ _ (Below.refl _ _) (rfl) trivial
       refine AS.sc rfl rfl rfl ?_ ?_
       ·intro k_ u w_ hk_ hJ hF K hK
        have h15 : u 15 = .slice (some ⟨b, off, none⟩) (n : Nat) cp := AS.facts_get hF 15 (by simp)
        have h19 : u 19 = accV x := AS.facts_get hF 19 (by simp)
        have h20 : u 20 = .bool g := AS.facts_get hF 20 (by simp)
        clear hF
        simp only [h15, h19, h20] at hK ⊢
        clear h15 h19 h20
        have hz9 := HZW.out.up (hJ : Below wr.heap.size wr w_)
        go_simp
        refine (HPr.out _ hz9).mono ?_
        rintro e w3 ⟨rfl, hb⟩
        exact hK.out _ _ hb (rfl) trivial
       refine AS.sc rfl rfl rfl ?_ ?_
       ·intro k_ u w_ hk_ hJ hF K hK
        have h21 : u 21 = .bool true := AS.facts_get hF 21 (by simp)
        clear hF
        simp only [h21] at hK ⊢
        clear h21
        go_simp
        exact hK.out _ _ (Below.refl _ _) (rfl) trivial
       refine AS.sc rfl rfl rfl ?_ ?_
       ·intro k_ u w_ hk_ hJ hF K hK
        have h22 : u 22 = .bool false := AS.facts_get hF 22 (by simp)
        clear hF
        simp only [h22] at hK ⊢
        clear h22
        go_simp
        exact hK.out _ _ (Below.refl _ _) (rfl) trivial
       refine AS.sc rfl rfl rfl ?_ ?_
       ·intro k_ u w_ hk_ hJ hF K hK
        have h23 : u 23 = .bool false := AS.facts_get hF 23 (by simp)
        clear hF
        simp only [h23] at hK ⊢
        clear h23
        go_simp
        exact hK.out _ _ (Below.refl _ _) (rfl) trivial
       refine AS.sc rfl rfl rfl ?_ ?_
       ·intro k_ u w_ hk_ hJ hF K hK
        have h24 : u 24 = .int .i64 (k : Int) := AS.facts_get hF 24 (by simp)
        have h23 : u 23 = .bool false := AS.facts_get hF 23 (by simp)
        clear hF
        simp only [h24, h23] at hK ⊢
        clear h24 h23
        go_simp
        exact hK.out _ _ (Below.refl _ _) (rfl) trivial
       refine AS.sc rfl rfl rfl ?_ ?_
       ·intro k_ u w_ hk_ hJ hF K hK
        have h25 : u 25 = .bool true := AS.facts_get hF 25 (by simp)
        have h23 : u 23 = .bool false := AS.facts_get hF 23 (by simp)
        clear hF
        simp only [h25, h23] at hK ⊢
        clear h25 h23
        go_simp
        exact hK.out _ _ (Below.refl _ _) (rfl) trivial
       refine AS.sc rfl rfl rfl ?_ ?_
       ·intro k_ u w_ hk_ hJ hF K hK
        have h26 : u 26 = .bool true := AS.facts_get hF 26 (by simp)
        clear hF
        simp only [h26] at hK ⊢
        clear h26
        go_simp
        exact hK.out _ _ (Below.refl _ _) (rfl) trivial
       refine AS.sc rfl rfl rfl ?_ ?_
       ·intro k_ u w_ hk_ hJ hF K hK
        have h26 : u 26 = .bool true := AS.facts_get hF 26 (by simp)
        clear hF
        simp only [h26] at hK ⊢
        clear h26
        go_simp
        exact hK.out _ _ (Below.refl _ _) (rfl) trivial
       refine AS.sc rfl rfl rfl ?_ ?_
       ·intro k_ u w_ hk_ hJ hF K hK
        have h27 : u 27 = .slice (some ⟨b, off, none⟩) (n : Nat) cp := AS.facts_get hF 27 (by simp)
        have h28 : u 28 = .int .i64 (k : Int) := AS.facts_get hF 28 (by simp)
        have h26 : u 26 = .bool true := AS.facts_get hF 26 (by simp)
        clear hF
        simp only [h27, h28, h26] at hK ⊢
        clear h27 h28 h26
        go_simp
        exact hK.out _ _ (Below.refl _ _) (rfl) trivial
       refine AS.sc rfl rfl rfl ?_ ?_
       ·intro k_ u w_ hk_ hJ hF K hK
        have h29 : u 29 = .pointer (some ⟨b, off + k * 4, none⟩) := AS.facts_get hF 29 (by simp)
        have h26 : u 26 = .bool true := AS.facts_get hF 26 (by simp)
        clear hF
        simp only [h29, h26] at hK ⊢
        clear h29 h26
        go_simp
        exact hK.out _ _ (Below.refl _ _) (rfl) trivial
       refine AS.sc rfl rfl rfl ?_ ?_
       ·intro k_ u w_ hk_ hJ hF K hK
        have h30 : u 30 = .pointer (some ⟨b, off + k * 4, none⟩) := AS.facts_get hF 30 (by simp)
        have h26 : u 26 = .bool true := AS.facts_get hF 26 (by simp)
        clear hF
        simp only [h30, h26] at hK ⊢
        clear h30 h26
        obtain ⟨c0, c1, c2, c3⟩ := HX4.out.up (hJ : Below wr.heap.size wr w_) hbW
        go_simp
        exact hK.out _ _ (Below.refl _ _) (rfl) trivial
       refine AS.sc rfl rfl rfl ?_ ?_
       ·intro k_ u w_ hk_ hJ hF K hK
        have h26 : u 26 = .bool true := AS.facts_get hF 26 (by simp)
        clear hF
        simp only [h26] at hK ⊢
        clear h26
        go_simp
        exact hK.out _ _ (Below.refl _ _) (rfl) trivial
       refine AS.sc rfl rfl rfl ?_ ?_
       ·intro k_ u w_ hk_ hJ hF K hK
        have h26 : u 26 = .bool true := AS.facts_get hF 26 (by simp)
        clear hF
        simp only [h26] at hK ⊢
        clear h26
        go_simp
        exact hK.out _ _ (Below.refl _ _) (rfl) trivial
       refine AS.sc rfl rfl rfl ?_ ?_
       ·intro k_ u w_ hk_ hJ hF K hK
        have h33 : u 33 = .int .i64 (k : Int) := AS.facts_get hF 33 (by simp)
        have h26 : u 26 = .bool true := AS.facts_get hF 26 (by simp)
        clear hF
        simp only [h33, h26] at hK ⊢
        clear h33 h26
        go_simp
        exact hK.out _ _ (Below.refl _ _) (rfl) trivial
       refine AS.sc rfl rfl rfl ?_ ?_
       ·intro k_ u w_ hk_ hJ hF K hK
        have h32 : u 32 = .slice (some ⟨b, off, none⟩) (n : Nat) cp := AS.facts_get hF 32 (by simp)
        have h34 : u 34 = .int .i64 (j : Int) := AS.facts_get hF 34 (by simp)
        have h26 : u 26 = .bool true := AS.facts_get hF 26 (by simp)
        clear hF
        simp only [h32, h34, h26] at hK ⊢
        clear h32 h34 h26
        go_simp
        exact hK.out _ _ (Below.refl _ _) (rfl) trivial
       refine AS.sc rfl rfl rfl ?_ ?_
       ·intro k_ u w_ hk_ hJ hF K hK
        have h35 : u 35 = .pointer (some ⟨b, off + j * 4, none⟩) := AS.facts_get hF 35 (by simp)
        have h26 : u 26 = .bool true := AS.facts_get hF 26 (by simp)
        clear hF
        simp only [h35, h26] at hK ⊢
        clear h35 h26
        go_simp
        exact hK.out _ _ (Below.refl _ _) (rfl) trivial
       refine AS.sc rfl rfl rfl ?_ ?_
       ·intro k_ u w_ hk_ hJ hF K hK
        have h36 : u 36 = .pointer (some ⟨b, off + j * 4, none⟩) := AS.facts_get hF 36 (by simp)
        have h26 : u 26 = .bool true := AS.facts_get hF 26 (by simp)
        clear hF
        simp only [h36, h26] at hK ⊢
        clear h36 h26
        obtain ⟨c0, c1, c2, c3⟩ := HY4.out.up (hJ : Below wr.heap.size wr w_) hbW
        go_simp
        exact hK.out _ _ (Below.refl _ _) (rfl) trivial
       refine AS.sc rfl rfl rfl ?_ ?_
       ·intro k_ u w_ hk_ hJ hF K hK
        have h31 : u 31 = .int .i64 x.code := AS.facts_get hF 31 (by simp)
        have h37 : u 37 = .int .i64 y.code := AS.facts_get hF 37 (by simp)
        have h26 : u 26 = .bool true := AS.facts_get hF 26 (by simp)
        clear hF
        simp only [h31, h37, h26] at hK ⊢
        clear h31 h37 h26
        go_simp
        exact hK.out _ _ (Below.refl _ _) (rfl) trivial
       refine AS.sc rfl rfl rfl ?_ ?_
       ·intro k_ u w_ hk_ hJ hF K hK
        have h26 : u 26 = .bool true := AS.facts_get hF 26 (by simp)
        have h38 : u 38 = .bool false := AS.facts_get hF 38 (by simp)
        have h23 : u 23 = .bool false := AS.facts_get hF 23 (by simp)
        clear hF
        simp only [h26, h38, h23] at hK ⊢
        clear h26 h38 h23
        go_simp
        exact hK.out _ _ (Below.refl _ _) (rfl) trivial
       refine AS.sc rfl rfl rfl ?_ ?_
       ·intro k_ u w_ hk_ hJ hF K hK
        have h23 : u 23 = .bool false := AS.facts_get hF 23 (by simp)
        have h39 : u 39 = .bool false := AS.facts_get hF 39 (by simp)
        clear hF
        simp only [h23, h39] at hK ⊢
        clear h23 h39
        go_simp
        exact hK.out _ _ (Below.refl _ _) (rfl) trivial
       refine AS.sc rfl rfl rfl ?_ ?_
       ·intro k_ u w_ hk_ hJ hF K hK
        have h40 : u 40 = .bool false := AS.facts_get hF 40 (by simp)
        clear hF
        simp only [h40] at hK ⊢
        clear h40
        go_simp
        exact hK.out _ _ (Below.refl _ _) (rfl) trivial
       refine AS.sc rfl rfl rfl ?_ ?_
       ·intro k_ u w_ hk_ hJ hF K hK
        have h41 : u 41 = .bool false := AS.facts_get hF 41 (by simp)
        clear hF
        simp only [h41] at hK ⊢
        clear h41
        go_simp
        exact hK.out _ _ (Below.refl _ _) (rfl) trivial
       refine AS.sc rfl rfl rfl ?_ ?_
       ·intro k_ u w_ hk_ hJ hF K hK
        have h41 : u 41 = .bool false := AS.facts_get hF 41 (by simp)
        clear hF
        simp only [h41] at hK ⊢
        clear h41
        go_simp
        exact hK.out _ _ (Below.refl _ _) (rfl) trivial
       refine AS.sc rfl rfl rfl ?_ ?_
       ·intro k_ u w_ hk_ hJ hF K hK
        have h41 : u 41 = .bool false := AS.facts_get hF 41 (by simp)
        clear hF
        simp only [h41] at hK ⊢
        clear h41
        go_simp
        exact hK.out _ _ (Below.refl _ _) (rfl) trivial
       refine AS.sc rfl rfl rfl ?_ ?_
       ·intro k_ u w_ hk_ hJ hF K hK
        have h43 : u 43 = .slice (some ⟨b, off, none⟩) (n : Nat) cp := AS.facts_get hF 43 (by simp)
        have h44 : u 44 = .int .i64 (k : Int) := AS.facts_get hF 44 (by simp)
        have h41 : u 41 = .bool false := AS.facts_get hF 41 (by simp)
        clear hF
        simp only [h43, h44, h41] at hK ⊢
        clear h43 h44 h41
        go_simp
        exact hK.out _ _ (Below.refl _ _) (rfl) trivial
       refine AS.sc rfl rfl rfl ?_ ?_
       ·intro k_ u w_ hk_ hJ hF K hK
        have h45 : u 45 = .pointer (some ⟨b, off + k * 4, none⟩) := AS.facts_get hF 45 (by simp)
        have h41 : u 41 = .bool false := AS.facts_get hF 41 (by simp)
        clear hF
        simp only [h45, h41] at hK ⊢
        clear h45 h41
        go_simp
        exact hK.out _ _ (Below.refl _ _) (rfl) trivial
       refine AS.sc rfl rfl rfl ?_ ?_
       ·intro k_ u w_ hk_ hJ hF K hK
        have h46 : u 46 = .pointer (some ⟨b, off + k * 4, none⟩) := AS.facts_get hF 46 (by simp)
        have h41 : u 41 = .bool false := AS.facts_get hF 41 (by simp)
        clear hF
        simp only [h46, h41] at hK ⊢
        clear h46 h41
        obtain ⟨c0, c1, c2, c3⟩ := HX4.out.up (hJ : Below wr.heap.size wr w_) hbW
        go_simp
        exact hK.out _ _ (Below.refl _ _) (rfl) trivial
       refine AS.sc rfl rfl rfl ?_ ?_
       ·intro k_ u w_ hk_ hJ hF K hK
        have h42 : u 42 = .slice (some ⟨b, off, none⟩) (n : Nat) cp := AS.facts_get hF 42 (by simp)
        have h47 : u 47 = .int .i64 x.code := AS.facts_get hF 47 (by simp)
        have h41 : u 41 = .bool false := AS.facts_get hF 41 (by simp)
        clear hF
        simp only [h42, h47, h41] at hK ⊢
        clear h42 h47 h41
        have hz9 := HZW.out.up (hJ : Below wr.heap.size wr w_)
        go_simp
        refine (HCb.out _ hz9).mono ?_
        rintro e w3 ⟨v, rfl, h9, hb⟩
        exact hK.out _ _ hb h9 trivial
       refine AS.sc rfl rfl rfl ?_ ?_
       ·intro k_ u w_ hk_ hJ hF K hK
        have h48 : SlI w_ (u 48) C := AS.facts_get hF 48 (by simp)
        have h41 : u 41 = .bool false := AS.facts_get hF 41 (by simp)
        clear hF
        obtain ⟨A8, d8, h48, -⟩ := h48
        rw [HCL.out] at h48
        simp only [h48, h41] at hK ⊢
        clear h48 h41
        go_simp
        exact hK.out _ _ (Below.refl _ _) (rfl) trivial
       refine AS.sc rfl rfl rfl ?_ ?_
       ·intro k_ u w_ hk_ hJ hF K hK
        have h41 : u 41 = .bool false := AS.facts_get hF 41 (by simp)
        clear hF
        simp only [h41] at hK ⊢
        clear h41
        go_simp
        exact hK.out _ _ (Below.refl _ _) (rfl) trivial
       refine AS.sc rfl rfl rfl ?_ ?_
       ·intro k_ u w_ hk_ hJ hF K hK
        have h50 : u 50 = .slice (some ⟨b, off, none⟩) (n : Nat) cp := AS.facts_get hF 50 (by simp)
        have h41 : u 41 = .bool false := AS.facts_get hF 41 (by simp)
        clear hF
        simp only [h50, h41] at hK ⊢
        clear h50 h41
        go_simp
        exact hK.out _ _ (Below.refl _ _) (rfl) trivial
       refine AS.sc rfl rfl rfl ?_ ?_
       ·intro k_ u w_ hk_ hJ hF K hK
        have h49 : u 49 = .int .i64 (cl : Int) := AS.facts_get hF 49 (by simp)
        have h51 : u 51 = .int .i64 (n : Int) := AS.facts_get hF 51 (by simp)
        have h41 : u 41 = .bool false := AS.facts_get hF 41 (by simp)
        clear hF
        simp only [h49, h51, h41] at hK ⊢
        clear h49 h51 h41
        go_simp
        exact hK.out _ _ (Below.refl _ _) (rfl) trivial
       refine AS.sc rfl rfl rfl ?_ ?_
       ·intro k_ u w_ hk_ hJ hF K hK
        have h41 : u 41 = .bool false := AS.facts_get hF 41 (by simp)
        have h52 : u 52 = .bool q := AS.facts_get hF 52 (by simp)
        clear hF
        simp only [h41, h52] at hK ⊢
        clear h41 h52
        go_simp
        exact hK.out _ _ (Below.refl _ _) (rfl) trivial
       exact AS.StepsOk.nil
      ·intro u W9 hJ9 hF
       have h53 : u 53 = .bool q := AS.facts_get hF 53 (by simp [rvFd, AS.temps])
       have hB9 : Below wr.heap.size wr W9 := hJ9
       clear hF hJ9
       simp only [h53]
       clear h53
       cases q
       ·have HR2 : Hid (rowsTo L g (k + 1) = true) := Lib.hid (by rw [rowsTo, HR.out, HQ.out]; rfl)
        go_wp2_with fail
        go_roundg (n - (k + 1))
        case measure => omega
        case rel => exact ⟨k + 1, by go_num, by omega, by omega, HR2, hB.trans (hB9.mono hB.size)⟩
       ·have E : Hid (rvB L g = false) := Lib.hid (rvB_no (k := k) (by rw [HN.out]; exact hlt) HQ.out)
        go_wp2_with fail
        go_ret
        exact ⟨by rw [E.out]; rfl, hB.trans (hB9.mono hB.size)⟩
     ·have E : Hid (rvB L g = false) := Lib.hid (rvB_no (k := k) (by rw [HN.out]; exact hlt) (by
       have h1 := HX.out
       rw [HJ.out] at h1 ⊢
       exact rowB_down (by rw [h1, HY.out]; exact h8)))
      have e3 : decide (x.code ≤ y.code) = true := decide_eq_true h8
      clear h8 hq
      refine AS.region_facts (rvFc b off n k j cp g x y) (HNo wr) [[], [], [], [16, 17], [18], [], [15, 19, 20], [21], [22], [23], [24, 23], [25, 23], [26], [26], [27, 28, 26], [29, 26], [30, 26], [26], [26], [33, 26], [32, 34, 26], [35, 26], [36, 26], [31, 37, 26], [26, 38, 23], [23, 39], [40], [41], [41], [41], [41], [41], [41], [41], [41], [41], [41], [41], [41, 52]] [] [[]] [0, 0, 0, 0, 0, 0, 0, 0, 0, 0, 0, 0, 0, 0, 0, 0, 0, 0, 0, 0, 0, 0, 0, 0, 0, 0, 0, 0, 0, 0, 0, 0, 0, 0, 0, 0, 0, 0, 0] [] (fun u => by simp only [rvFc, AS.temps, List.map_cons, List.map_nil, fillL, List.setIfInBounds_toArray, List.set_cons_zero, List.set_cons_succ]; rfl) (by kernel_rfl) (by kernel_rfl) (HNo.st wr) (dc_drew (Below.refl _ _)) ?_ ?_
      ·refine AS.sc rfl rfl rfl ?_ ?_
       ·intro k_ u w_ hk_ hJ hF K hK
        clear hF
        go_simp
        exact hK.out _ _ (Below.refl _ _) (rfl) trivial
       refine AS.sc rfl rfl rfl ?_ ?_
       ·intro k_ u w_ hk_ hJ hF K hK
        clear hF
        go_simp
        exact hK.out _ _ (Below.refl _ _) (rfl) trivial
       refine AS.sc rfl rfl rfl ?_ ?_
       ·intro k_ u w_ hk_ hJ hF K hK
        clear hF
        go_simp
        exact hK.out _ _ (Below.refl _ _) (rfl) trivial
       refine AS.sc rfl rfl rfl ?_ ?_
       ·intro k_ u w_ hk_ hJ hF K hK
        have h16 : u 16 = .slice (some ⟨b, off, none⟩) (n : Nat) cp := AS.facts_get hF 16 (by simp)
        have h17 : u 17 = .int .i64 (k : Int) := AS.facts_get hF 17 (by simp)
        clear hF
        simp only [h16, h17] at hK ⊢
        clear h16 h17
        go_simp
        exact hK.out _ _ (Below.refl _ _) (rfl) trivial
       refine AS.sc rfl rfl rfl ?_ ?_
       ·intro k_ u w_ hk_ hJ hF K hK
        have h18 : u 18 = .pointer (some ⟨b, off + k * 4, none⟩) := AS.facts_get hF 18 (by simp)
        clear hF
        simp only [h18] at hK ⊢
        clear h18
        obtain ⟨c0, c1, c2, c3⟩ := HX4.out.up (hJ : Below wr.heap.size wr w_) hbW
        go_simp
        exact hK.out _ _ (Below.refl _ _) (rfl) trivial
       refine AS.sc rfl rfl rfl ?_ ?_
       ·intro k_ u w_ hk_ hJ hF K hK
        clear hF
        go_simp
        exact hK.out _ _ (Below.refl _ _) (rfl) trivial
       refine AS.sc rfl rfl rfl ?_ ?_
       ·intro k_ u w_ hk_ hJ hF K hK
        have h15 : u 15 = .slice (some ⟨b, off, none⟩) (n : Nat) cp := AS.facts_get hF 15 (by simp)
        have h19 : u 19 = accV x := AS.facts_get hF 19 (by simp)
        have h20 : u 20 = .bool g := AS.facts_get hF 20 (by simp)
        clear hF
        simp only [h15, h19, h20] at hK ⊢
        clear h15 h19 h20
        have hz9 := HZW.out.up (hJ : Below wr.heap.size wr w_)
        go_simp
        refine (HPr.out _ hz9).mono ?_
        rintro e w3 ⟨rfl, hb⟩
        exact hK.out _ _ hb (rfl) trivial
       refine AS.sc rfl rfl rfl ?_ ?_
       ·intro k_ u w_ hk_ hJ hF K hK
        have h21 : u 21 = .bool true := AS.facts_get hF 21 (by simp)
        clear hF
        simp only [h21] at hK ⊢
        clear h21
        go_simp
        exact hK.out _ _ (Below.refl _ _) (rfl) trivial
       refine AS.sc rfl rfl rfl ?_ ?_
       ·intro k_ u w_ hk_ hJ hF K hK
        have h22 : u 22 = .bool false := AS.facts_get hF 22 (by simp)
        clear hF
        simp only [h22] at hK ⊢
        clear h22
        go_simp
        exact hK.out _ _ (Below.refl _ _) (rfl) trivial
       refine AS.sc rfl rfl rfl ?_ ?_
       ·intro k_ u w_ hk_ hJ hF K hK
        have h23 : u 23 = .bool false := AS.facts_get hF 23 (by simp)
        clear hF
        simp only [h23] at hK ⊢
        clear h23
        go_simp
        exact hK.out _ _ (Below.refl _ _) (rfl) trivial
       refine AS.sc rfl rfl rfl ?_ ?_
       ·intro k_ u w_ hk_ hJ hF K hK
        have h24 : u 24 = .int .i64 (k : Int) := AS.facts_get hF 24 (by simp)
        have h23 : u 23 = .bool false := AS.facts_get hF 23 (by simp)
        clear hF
        simp only [h24, h23] at hK ⊢
        clear h24 h23
        go_simp
        exact hK.out _ _ (Below.refl _ _) (rfl) trivial
       refine AS.sc rfl rfl rfl ?_ ?_
       ·intro k_ u w_ hk_ hJ hF K hK
        have h25 : u 25 = .bool true := AS.facts_get hF 25 (by simp)
        have h23 : u 23 = .bool false := AS.facts_get hF 23 (by simp)
        clear hF
        simp only [h25, h23] at hK ⊢
        clear h25 h23
        go_simp
        exact hK.out _ _ (Below.refl _ _) (rfl) trivial
       refine AS.sc rfl rfl rfl ?_ ?_
       ·intro k_ u w_ hk_ hJ hF K hK
        have h26 : u 26 = .bool true := AS.facts_get hF 26 (by simp)
        clear hF
        simp only [h26] at hK ⊢
        clear h26
        go_simp
        exact hK.out _ _ (Below.refl _ _) (rfl) trivial
       refine AS.sc rfl rfl rfl ?_ ?_
       ·intro k_ u w_ hk_ hJ hF K hK
        have h26 : u 26 = .bool true := AS.facts_get hF 26 (by simp)
        clear hF
        simp only [h26] at hK ⊢
        clear h26
        go_simp
        exact hK.out _ _ (Below.refl _ _) (rfl) trivial
       refine AS.sc rfl rfl rfl ?_ ?_
       ·intro k_ u w_ hk_ hJ hF K hK
        have h27 : u 27 = .slice (some ⟨b, off, none⟩) (n : Nat) cp := AS.facts_get hF 27 (by simp)
        have h28 : u 28 = .int .i64 (k : Int) := AS.facts_get hF 28 (by simp)
        have h26 : u 26 = .bool true := AS.facts_get hF 26 (by simp)
        clear hF
        simp only [h27, h28, h26] at hK ⊢
        clear h27 h28 h26
        go_simp
        exact hK.out _ _ (Below.refl _ _) (rfl) trivial
       refine AS.sc rfl rfl rfl ?_ ?_
       ·intro k_ u w_ hk_ hJ hF K hK
        have h29 : u 29 = .pointer (some ⟨b, off + k * 4, none⟩) := AS.facts_get hF 29 (by simp)
        have h26 : u 26 = .bool true := AS.facts_get hF 26 (by simp)
        clear hF
        simp only [h29, h26] at hK ⊢
        clear h29 h26
        go_simp
        exact hK.out _ _ (Below.refl _ _) (rfl) trivial
       refine AS.sc rfl rfl rfl ?_ ?_
       ·intro k_ u w_ hk_ hJ hF K hK
        have h30 : u 30 = .pointer (some ⟨b, off + k * 4, none⟩) := AS.facts_get hF 30 (by simp)
        have h26 : u 26 = .bool true := AS.facts_get hF 26 (by simp)
        clear hF
        simp only [h30, h26] at hK ⊢
        clear h30 h26
        obtain ⟨c0, c1, c2, c3⟩ := HX4.out.up (hJ : Below wr.heap.size wr w_) hbW
        go_simp
        exact hK.out _ _ (Below.refl _ _) (rfl) trivial
       refine AS.sc rfl rfl rfl ?_ ?_
       ·intro k_ u w_ hk_ hJ hF K hK
        have h26 : u 26 = .bool true := AS.facts_get hF 26 (by simp)
        clear hF
        simp only [h26] at hK ⊢
        clear h26
        go_simp
        exact hK.out _ _ (Below.refl _ _) (rfl) trivial
       refine AS.sc rfl rfl rfl ?_ ?_
       ·intro k_ u w_ hk_ hJ hF K hK
        have h26 : u 26 = .bool true := AS.facts_get hF 26 (by simp)
        clear hF
        simp only [h26] at hK ⊢
        clear h26
        go_simp
        exact hK.out _ _ (Below.refl _ _) (rfl) trivial
       refine AS.sc rfl rfl rfl ?_ ?_
       ·intro k_ u w_ hk_ hJ hF K hK
        have h33 : u 33 = .int .i64 (k : Int) := AS.facts_get hF 33 (by simp)
        have h26 : u 26 = .bool true := AS.facts_get hF 26 (by simp)
        clear hF
        simp only [h33, h26] at hK ⊢
        clear h33 h26
        go_simp
        exact hK.out _ _ (Below.refl _ _) (rfl) trivial
       refine AS.sc rfl rfl rfl ?_ ?_
       ·intro k_ u w_ hk_ hJ hF K hK
        have h32 : u 32 = .slice (some ⟨b, off, none⟩) (n : Nat) cp := AS.facts_get hF 32 (by simp)
        have h34 : u 34 = .int .i64 (j : Int) := AS.facts_get hF 34 (by simp)
        have h26 : u 26 = .bool true := AS.facts_get hF 26 (by simp)
        clear hF
        simp only [h32, h34, h26] at hK ⊢
        clear h32 h34 h26
        go_simp
        exact hK.out _ _ (Below.refl _ _) (rfl) trivial
       refine AS.sc rfl rfl rfl ?_ ?_
       ·intro k_ u w_ hk_ hJ hF K hK
        have h35 : u 35 = .pointer (some ⟨b, off + j * 4, none⟩) := AS.facts_get hF 35 (by simp)
        have h26 : u 26 = .bool true := AS.facts_get hF 26 (by simp)
        clear hF
        simp only [h35, h26] at hK ⊢
        clear h35 h26
        go_simp
        exact hK.out _ _ (Below.refl _ _) (rfl) trivial
       refine AS.sc rfl rfl rfl ?_ ?_
       ·intro k_ u w_ hk_ hJ hF K hK
        have h36 : u 36 = .pointer (some ⟨b, off + j * 4, none⟩) := AS.facts_get hF 36 (by simp)
        have h26 : u 26 = .bool true := AS.facts_get hF 26 (by simp)
        clear hF
        simp only [h36, h26] at hK ⊢
        clear h36 h26
        obtain ⟨c0, c1, c2, c3⟩ := HY4.out.up (hJ : Below wr.heap.size wr w_) hbW
        go_simp
        exact hK.out _ _ (Below.refl _ _) (rfl) trivial
       refine AS.sc rfl rfl rfl ?_ ?_
       ·intro k_ u w_ hk_ hJ hF K hK
        have h31 : u 31 = .int .i64 x.code := AS.facts_get hF 31 (by simp)
        have h37 : u 37 = .int .i64 y.code := AS.facts_get hF 37 (by simp)
        have h26 : u 26 = .bool true := AS.facts_get hF 26 (by simp)
        clear hF
        simp only [h31, h37, h26] at hK ⊢
        clear h31 h37 h26
        go_simp
        exact hK.out _ _ (Below.refl _ _) (rfl) trivial
       refine AS.sc rfl rfl rfl ?_ ?_
       ·intro k_ u w_ hk_ hJ hF K hK
        have h26 : u 26 = .bool true := AS.facts_get hF 26 (by simp)
        have h38 : u 38 = .bool true := AS.facts_get hF 38 (by simp)
        have h23 : u 23 = .bool false := AS.facts_get hF 23 (by simp)
        clear hF
        simp only [h26, h38, h23] at hK ⊢
        clear h26 h38 h23
        go_simp
        exact hK.out _ _ (Below.refl _ _) (rfl) trivial
       refine AS.sc rfl rfl rfl ?_ ?_
       ·intro k_ u w_ hk_ hJ hF K hK
        have h23 : u 23 = .bool false := AS.facts_get hF 23 (by simp)
        have h39 : u 39 = .bool true := AS.facts_get hF 39 (by simp)
        clear hF
        simp only [h23, h39] at hK ⊢
        clear h23 h39
        go_simp
        exact hK.out _ _ (Below.refl _ _) (rfl) trivial
       refine AS.sc rfl rfl rfl ?_ ?_
       ·intro k_ u w_ hk_ hJ hF K hK
        have h40 : u 40 = .bool true := AS.facts_get hF 40 (by simp)
        clear hF
        simp only [h40] at hK ⊢
        clear h40
        go_simp
        exact hK.out _ _ (Below.refl _ _) (rfl) trivial
       refine AS.sc rfl rfl rfl ?_ ?_
       ·intro k_ u w_ hk_ hJ hF K hK
        have h41 : u 41 = .bool true := AS.facts_get hF 41 (by simp)
        clear hF
        simp only [h41] at hK ⊢
        clear h41
        go_simp
        exact hK.out _ _ (Below.refl _ _) (rfl) trivial
       refine AS.sc rfl rfl rfl ?_ ?_
       ·intro k_ u w_ hk_ hJ hF K hK
        have h41 : u 41 = .bool true := AS.facts_get hF 41 (by simp)
        clear hF
        simp only [h41] at hK ⊢
        clear h41
        go_simp
        exact hK.out _ _ (Below.refl _ _) (rfl) trivial
       refine AS.sc rfl rfl rfl ?_ ?_
       ·intro k_ u w_ hk_ hJ hF K hK
        have h41 : u 41 = .bool true := AS.facts_get hF 41 (by simp)
        clear hF
        simp only [h41] at hK ⊢
        clear h41
        go_simp
        exact hK.out _ _ (Below.refl _ _) (rfl) trivial
       refine AS.sc rfl rfl rfl ?_ ?_
       ·intro k_ u w_ hk_ hJ hF K hK
        have h41 : u 41 = .bool true := AS.facts_get hF 41 (by simp)
        clear hF
        simp only [h41] at hK ⊢
        clear h41
        go_simp
        exact hK.out _ _ (Below.refl _ _) (rfl) trivial
       refine AS.sc rfl rfl rfl ?_ ?_
       ·intro k_ u w_ hk_ hJ hF K hK
        have h41 : u 41 = .bool true := AS.facts_get hF 41 (by simp)
        clear hF
        simp only [h41] at hK ⊢
        clear h41
        go_simp
        exact hK.out _ _ (Below.refl _ _) (rfl) trivial
       refine AS.sc rfl rfl rfl ?_ ?_
       ·intro k_ u w_ hk_ hJ hF K hK
        have h41 : u 41 = .bool true := AS.facts_get hF 41 (by simp)
        clear hF
        simp only [h41] at hK ⊢
        clear h41
        go_simp
        exact hK.out _ _ (Below.refl _ _) (rfl) trivial
       refine AS.sc rfl rfl rfl ?_ ?_
       ·intro k_ u w_ hk_ hJ hF K hK
        have h41 : u 41 = .bool true := AS.facts_get hF 41 (by simp)
        clear hF
        simp only [h41] at hK ⊢
        clear h41
        go_simp
        exact hK.out _ _ (Below.refl _ _) (rfl) trivial
       refine AS.sc rfl rfl rfl ?_ ?_
       ·intro k_ u w_ hk_ hJ hF K hK
        have h41 : u 41 = .bool true := AS.facts_get hF 41 (by simp)
        clear hF
        simp only [h41] at hK ⊢
        clear h41
        go_simp
        exact hK.out _ _ (Below.refl _ _) (rfl) trivial
       refine AS.sc rfl rfl rfl ?_ ?_
       ·intro k_ u w_ hk_ hJ hF K hK
        have h41 : u 41 = .bool true := AS.facts_get hF 41 (by simp)
        clear hF
        simp only [h41] at hK ⊢
        clear h41
        go_simp
        exact hK.out _ _ (Below.refl _ _) (rfl) trivial
       refine AS.sc rfl rfl rfl ?_ ?_
       ·intro k_ u w_ hk_ hJ hF K hK
        have h41 : u 41 = .bool true := AS.facts_get hF 41 (by simp)
        clear hF
        simp only [h41] at hK ⊢
        clear h41
        go_simp
        exact hK.out _ _ (Below.refl _ _) (rfl) trivial
       refine AS.sc rfl rfl rfl ?_ ?_
       ·intro k_ u w_ hk_ hJ hF K hK
        have h41 : u 41 = .bool true := AS.facts_get hF 41 (by simp)
        clear hF
        simp only [h41] at hK ⊢
        clear h41
        go_simp
        exact hK.out _ _ (Below.refl _ _) (rfl) trivial
       refine AS.sc rfl rfl rfl ?_ ?_
       ·intro k_ u w_ hk_ hJ hF K hK
        have h41 : u 41 = .bool true := AS.facts_get hF 41 (by simp)
        have h52 : u 52 = undef := AS.facts_get hF 52 (by simp)
        clear hF
        simp only [h41, h52] at hK ⊢
        clear h41 h52
        go_simp
        exact hK.out _ _ (Below.refl _ _) (rfl) trivial
       exact AS.StepsOk.nil
      ·intro u W9 hJ9 hF
       have h53 : u 53 = .bool true := AS.facts_get hF 53 (by simp [rvFc, AS.temps])
       have hB9 : Below wr.heap.size wr W9 := hJ9
       clear hF hJ9
       simp only [h53]
       clear h53
       go_wp2_with fail
       go_ret
       exact ⟨by rw [E.out]; rfl, hB.trans (hB9.mono hB.size)⟩
  ·obtain rfl : k = n := by omega
   have hltz : ¬ (k : Int) < (k : Int) := by omega
   have E : Hid (rvB L g = true) := Lib.hid (by rw [HV.out]; exact HR.out)
   go_wp2_with fail
   go_ret
   exact ⟨by rw [E.out]; rfl, hB⟩
theorem amtB_is {n : Int} : amtB n = true ↔ -1000000000000 ≤ n ∧ n ≤ 1000000000000 := by unfold amtB; simp
def pick0 (l : List Bal) : List Bal := l.filter fun x => decide (x.amt ≠ 0)
def ascP (b : List Bal) (k : Nat) : Bool := (decide (k = 0) || decide ((b.getD (k - 1) bal0).acct < (b.getD k bal0).acct)) && amtB (b.getD k bal0).amt
def ascB (b : List Bal) : Bool := allTo (ascP b) b.length
def sumI {α : Type} (l : List α) (f : α → Int) : Int := (l.map f).sum
theorem sumI_nil {α : Type} {f : α → Int} : sumI [] f = 0 := rfl
theorem sumI_cons {α : Type} {a : α} {l : List α} {f : α → Int} : sumI (a :: l) f = f a + sumI l f := by simp [sumI]
theorem sumI_app {α : Type} {l m : List α} {f : α → Int} : sumI (l ++ m) f = sumI l f + sumI m f := by simp [sumI]
def ofS (b : List Bal) (c : Int) : Int := sumI b (fun y => if y.acct = c then y.amt else 0)
theorem ofS_app {l m : List Bal} {c : Int} : ofS (l ++ m) c = ofS l c + ofS m c := sumI_app
def insD (d : Int) : List Int → List Int
 | [] => [d]
 | x :: l => if x < d then x :: insD d l else if x = d then x :: l else d :: x :: l
def Asc (l : List Int) : Prop := l.Pairwise (· < ·)
theorem mem_insD {d x : Int} : ∀ {l : List Int}, x ∈ insD d l ↔ x = d ∨ x ∈ l
 | [] => by simp [insD]
 | y :: l => by
  unfold insD
  split
  ·rw [List.mem_cons, mem_insD, List.mem_cons]; exact ⟨fun h => by rcases h with h | h | h <;> simp [h], fun h => by rcases h with h | h | h <;> simp [h]⟩
  ·split
   ·rename_i _ h; subst h; simp
   ·simp
theorem insD_asc {d : Int} : ∀ {l : List Int}, Asc l → Asc (insD d l)
 | [], _ => by simp [insD, Asc]
 | y :: l, h => by
  have h' := h
  unfold Asc at h'
  rw [List.pairwise_cons] at h'
  unfold insD
  split
  ·rename_i hy
   unfold Asc
   rw [List.pairwise_cons]
   exact ⟨fun z hz => by rcases mem_insD.1 hz with rfl | hz; exact hy; exact h'.1 z hz, insD_asc h'.2⟩
  ·split
   ·exact h
   ·rename_i h1 h2
    unfold Asc
    rw [List.pairwise_cons]
    refine ⟨fun z hz => ?_, h⟩
    rcases List.mem_cons.1 hz with rfl | hz
    ·omega
    ·have := h'.1 z hz; omega
theorem Asc.nodup {l : List Int} (h : Asc l) : l.Nodup := List.Pairwise.imp (fun h => by omega) h
theorem Asc.ext {l m : List Int} (h : Asc l) (h2 : Asc m) (hx : ∀ x, x ∈ l ↔ x ∈ m) : l = m :=
 List.Perm.eq_of_pairwise (le := (· < ·)) (fun a b _ _ h1 h2 => by omega) h h2 ((List.perm_ext_iff_of_nodup h.nodup h2.nodup).2 hx)
def keysL (l : List Int) : List Int := l.foldl (fun m d => insD d m) []
theorem keysL_is {l : List Int} : Asc (keysL l) ∧ ∀ x, x ∈ keysL l ↔ x ∈ l := by
 suffices h : ∀ (l m : List Int), Asc m → Asc (l.foldl (fun m d => insD d m) m) ∧ ∀ x, x ∈ l.foldl (fun m d => insD d m) m ↔ x ∈ l ∨ x ∈ m by
  have := h l [] List.Pairwise.nil
  exact ⟨this.1, fun x => by rw [keysL, this.2 x]; simp⟩
 intro l
 induction l with
 | nil => intro m hm; exact ⟨hm, fun x => by simp⟩
 | cons d l ih =>
  intro m hm
  obtain ⟨h1, h2⟩ := ih (insD d m) (insD_asc hm)
  exact ⟨h1, fun x => by rw [List.foldl_cons, h2 x, mem_insD, List.mem_cons]; exact ⟨fun h => by rcases h with h | h | h <;> simp [h], fun h => by rcases h with (h | h) | h <;> simp [h]⟩⟩
theorem keysL_ext {l m : List Int} (h : Asc m) (hx : ∀ x, x ∈ m ↔ x ∈ l) : m = keysL l := h.ext keysL_is.1 (fun x => by rw [keysL_is.2, hx])
theorem sort_asc {l : List Int} (h : l.Nodup) : Asc (l.mergeSort (fun x y => decide (x ≤ y))) := by
 have h1 := List.pairwise_mergeSort (le := fun x y : Int => decide (x ≤ y)) (fun a b c h1 h2 => by simp at *; omega) (fun a b => by simp; omega) l
 have h2 : (l.mergeSort (fun x y => decide (x ≤ y))).Nodup := (List.mergeSort_perm l _).nodup_iff.2 h
 unfold Asc
 rw [List.pairwise_iff_getElem] at h1 ⊢
 intro i j hi hj hij
 have h3 := h1 i j hi hj hij
 have h4 := (List.pairwise_iff_getElem.1 h2) i j hi hj hij
 simp at h3
 omega
theorem keysL_len {l : List Int} : (keysL l).length ≤ l.length := by
 have h := nodup_subset_len (keysL_is (l := l)).1.nodup (m := l) fun x hx => (keysL_is.2 x).1 hx
 exact h
def sumsL (P : List Bal) : List Bal := (keysL (P.map (·.acct))).map fun t => ⟨t, ofS P t⟩
theorem sumsL_len {P : List Bal} : (sumsL P).length ≤ P.length := by
 unfold sumsL
 rw [List.length_map]
 have := keysL_len (l := P.map (·.acct))
 simpa using this
theorem ofS_snoc {P : List Bal} {x : Bal} {t : Int} : ofS (P ++ [x]) t = ofS P t + if x.acct = t then x.amt else 0 := by
 rw [ofS_app]; unfold ofS; rw [sumI_cons, sumI_nil]; omega
def tosL (L : List Acc) (K : List Lnk) (day : Int) (b : List Bal) : List Bal := b.map fun x => ⟨atV L K x.acct day, x.amt⟩
def feE (L : List Acc) (K : List Lnk) (day : Int) : List Bal → Int
 | [] => 0
 | x :: l => if atE L K x.acct day = 0 then feE L K day l else atE L K x.acct day
theorem feE_take {L : List Acc} {K : List Lnk} {day : Int} : ∀ {b : List Bal} {k : Nat}, k < b.length → (∀ i, i < k → atE L K (b.getD i bal0).acct day = 0) → atE L K (b.getD k bal0).acct day ≠ 0 → feE L K day b = atE L K (b.getD k bal0).acct day
 | [], k, hk, _, _ => by simp at hk
 | x :: l, 0, _, _, h => by unfold feE; rw [if_neg (by simpa using h)]; rfl
 | x :: l, k + 1, hk, h1, h => by
  unfold feE
  rw [if_pos (by simpa using h1 0 (by omega)), List.getD_cons_succ]
  exact feE_take (by simpa using hk) (fun i hi => by simpa using h1 (i + 1) (by omega)) (by simpa using h)
theorem feE_zero {L : List Acc} {K : List Lnk} {day : Int} : ∀ {b : List Bal}, (∀ i, i < b.length → atE L K (b.getD i bal0).acct day = 0) → feE L K day b = 0
 | [], _ => rfl
 | x :: l, h => by
  unfold feE
  rw [if_pos (by simpa using h 0 (by simp))]
  exact feE_zero fun i hi => by simpa using h (i + 1) (by simpa using hi)
def amtsB (l : List Bal) : Bool := l.all fun x => amtB x.amt
def moveE (L : List Acc) (K : List Lnk) (day : Int) (b : List Bal) : Int := if ascB b = true then if feE L K day b = 0 then if amtsB (sumsL (tosL L K day b)) = true then 0 else 2 else feE L K day b else 1
def moveL (L : List Acc) (K : List Lnk) (day : Int) (b : List Bal) : List Bal := if moveE L K day b = 0 then pick0 (sumsL (tosL L K day b)) else []
theorem moveE_asc {L : List Acc} {K : List Lnk} {day : Int} {b : List Bal} (h : ascB b = false) : moveE L K day b = 1 := by unfold moveE; rw [h]; rfl
theorem moveE_at {L : List Acc} {K : List Lnk} {day : Int} {b : List Bal} (h : ascB b = true) (h2 : feE L K day b ≠ 0) : moveE L K day b = feE L K day b := by unfold moveE; rw [if_pos h, if_neg h2]
theorem moveE_no {L : List Acc} {K : List Lnk} {day : Int} {b : List Bal} (h : ascB b = true) (h2 : feE L K day b = 0) (h3 : amtsB (sumsL (tosL L K day b)) = false) : moveE L K day b = 2 := by unfold moveE; rw [if_pos h, if_pos h2, h3]; rfl
theorem moveE_ok {L : List Acc} {K : List Lnk} {day : Int} {b : List Bal} (h : ascB b = true) (h2 : feE L K day b = 0) (h3 : amtsB (sumsL (tosL L K day b)) = true) : moveE L K day b = 0 := by unfold moveE; rw [if_pos h, if_pos h2, if_pos h3]
theorem moveL_ok {L : List Acc} {K : List Lnk} {day : Int} {b : List Bal} (h : moveE L K day b = 0) : moveL L K day b = pick0 (sumsL (tosL L K day b)) := by unfold moveL; rw [if_pos h]
theorem moveL_bad {L : List Acc} {K : List Lnk} {day : Int} {b : List Bal} (h : moveE L K day b ≠ 0) : moveL L K day b = [] := by unfold moveL; rw [if_neg h]
theorem moveL_len {L : List Acc} {K : List Lnk} {day : Int} {b : List Bal} : (moveL L K day b).length ≤ b.length := by
 unfold moveL
 split
 ·unfold pick0
  have h1 := List.length_filter_le (fun x : Bal => decide (x.amt ≠ 0)) (sumsL (tosL L K day b))
  have h2 := sumsL_len (P := tosL L K day b)
  have h3 : (tosL L K day b).length = b.length := by unfold tosL; rw [List.length_map]
  omega
 ·simp
def lnkB (L c : List Acc) (l : Lnk) : Bool := (fnd L l.frm).isSome && ((fnd c l.tgt).isSome && (decide ((fndA L l.frm).kind = (fndA c l.tgt).kind) && vdB l.since))
def smB (K : List Lnk) (i k : Nat) : Bool := decide ((K.getD k lnk0).frm = (K.getD i lnk0).frm) && decide ((K.getD k lnk0).since = (K.getD i lnk0).since)
def dfB (K : List Lnk) (i : Nat) : Bool := allTo (fun k => !smB K i k) i
def mvB (L : List Acc) (K : List Lnk) (c : List Acc) : Bool := vB c true && (vB L false && (decide (K.length ≤ 400) && (allTo (fun i => lnkB L c (K.getD i lnk0)) K.length && allTo (dfB K) K.length)))
open Go.RowKit Go.Maps
def MapV (w : World) (b n : Nat) (f : Int → Option Value) : Prop := ∃ D : DataW Value, w.ownsMap Try.prog 3 heldE b n D ∧ ∀ c, Maps.has D (.int .i64 c) = (f c).isSome ∧ ∀ z, D.atKey (.int .i64 c) z = (match f c with | some v => .held v | none => z)
section
variable {w w' : World} {b n m : Nat} {f : Int → Option Value}
theorem MapV.blk (h : MapV w b n f) (hk : w'.heap[b]? = w.heap[b]?) : MapV w' b n f := by
 obtain ⟨D, ⟨es, clock, hb, rest⟩, h2⟩ := h
 exact ⟨D, ⟨es, clock, hk.trans hb, rest⟩, h2⟩
theorem MapV.lt (h : MapV w b n f) : b < w.heap.size := by
 obtain ⟨D, h1, _⟩ := h
 exact h1.lt
theorem MapV.up (h : MapV w b n f) (hb : Below w.heap.size w w') : MapV w' b n f := h.blk (hb.block b h.lt)
theorem MapV.made (w : World) : MapV (w.alloc (.map #[] 0)) w.heap.size 0 (fun _ => none) :=
 ⟨.map [], World.ownsMap_made _ _ _ _, fun _ => ⟨rfl, fun _ => rfl⟩⟩
end
theorem wpList_mapv_look {w : World} {ops : Array Oper} {rest : List Oper} {o : Oper} {a : Act} {Q : Exit → Act → World → Prop} (hg : o.guard = none) (m x : Operand) (t e : TypeId) (hop : o.op = Op.lookup t m x false)
  (ht : Try.prog.underlying t = some (.map 3 e)) {zv : Value} (hz : ∀ w : World, (zeroValue e).run Try.prog w = .ok zv w)
  (b n : Nat) (f : Int → Option Value) (hm : a.eval m = .map (some b)) (hs : MapV w b n f) (c : Int) (hx : a.eval x = .int .i64 c) (hw : (Lit.int .i64 c).wf = true)
  (hK : wpList Try.prog ops Q rest (a.put o.dst ((f c).getD zv)) w) : wpList Try.prog ops Q (o :: rest) a w := by
 obtain ⟨D, h1, h3⟩ := hs
 refine wpList_plain hg fun K' hK' => ?_
 obtain ⟨v, ps, hrun, hv⟩ := h1.lookup ti_keyed ht (hz w) (zd := .held zv) (zp := []) rfl (keyOf_int_mk Try.underlying3 hw)
 have he : v = (f c).getD zv := by
  rw [(h3 c).2] at hv
  simp only [heldE, Option.some.injEq, Prod.mk.injEq] at hv
  have h4 := hv.1
  cases hf : f c with
  | none => rw [hf] at h4; injection h4
  | some u => rw [hf] at h4; injection h4
 unfold Oper.wp
 simp [execOp, hop, hm, hx, hrun, Result.andThen]
 exact hK' _ _ (he ▸ hK)
theorem wpList_mapv_put {w : World} {ops : Array Oper} {rest : List Oper} {o : Oper} {a : Act} {Q : Exit → Act → World → Prop} (hg : o.guard = none) (m x y : Operand) (t e : TypeId) (hop : o.op = Op.mapUpdate t m x y)
  (ht : Try.prog.underlying t = some (.map 3 e))
  (b n : Nat) (f : Int → Option Value) (hm : a.eval m = .map (some b)) (hs : MapV w b n f) (c : Int) (hx : a.eval x = .int .i64 c) (v : Value) (hy : a.eval y = v) (hw : (Lit.int .i64 c).wf = true) (hn : n ≤ 1000000)
  (hK : ∀ w', Hid (MapV w' b (n + 1) (fun x => if x = c then some v else f x)) → Hid (w.grownBy w' (some b)) → wpList Try.prog ops Q rest (a.put o.dst undef) w') : wpList Try.prog ops Q (o :: rest) a w := by
 obtain ⟨D, h1, h3⟩ := hs
 have h2 := h1.isMap
 refine wpList_mapUpdate_own w hg m x y t hop 3 e ti_keyed ht heldE b n D hm h1 (by unfold maxLen; omega) _ _ _ hx hy (keyOf_int_mk Try.underlying3 hw) (.held v) [] rfl ?_
 intro w' h4 h5
 refine hK w' (Lib.hid ⟨_, h4, fun x => ?_⟩) (Lib.hid h5)
 have hkl : ∀ z : Int, WideAt.IsKeyLit (Lit.int .i64 z) := fun z => by simp [WideAt.IsKeyLit]
 by_cases hxc : x = c
 ·subst hxc
  simp only [if_true]
  exact ⟨by rw [has_put_same h2 (hkl _)]; rfl, fun z => atKey_put_same h2 (hkl _) _ _⟩
 ·simp only [if_neg hxc]
  have hne : Lit.int .i64 x ≠ Lit.int .i64 c := fun e => hxc (by injection e)
  refine ⟨by rw [has_put_other hne]; exact (h3 x).1, fun z => ?_⟩
  rw [atKey_put_other hne]
  exact (h3 x).2 z
theorem ts_keyed : Keyed Try.prog 80 := Keyed.of_law (deep_law_gate laid_out (by decide +kernel) (by decide +kernel) (by kernel_rfl) (by kernel_rfl))
theorem start_key {a b : Int} (ha : (Lit.int .i64 a).wf = true) (hb : (Lit.int .i64 b).wf = true) : ∃ l, keyOf Try.prog 80 (.agg #[.int .i64 a, .int .i64 b]) = some l := by
 have key : ∀ d, Try.prog.keyLits (d + 2) 80 [.int .i64 a, .int .i64 b] = some [.int .i64 a, .int .i64 b] := by
  intro d
  have hc : Try.prog.cellsOf 80 = 2 := by kernel_rfl
  have hc3 : Try.prog.cellsOf 3 = 1 := by kernel_rfl
  simp [Program.keyLits, Try.underlying80, Try.underlying3, hc, hc3, ha, hb]
 have hf : Value.formed Try.prog 80 (.agg #[.int .i64 a, .int .i64 b]) = true := by
  have hc : Try.prog.cellsOf 80 = 2 := by kernel_rfl
  simp [Value.formed, Try.underlying80, hc]
 have hk : Try.prog.keyType 80 = true := by kernel_rfl
 have h1 : 1 ≤ Try.prog.types.size := by decide +kernel
 obtain ⟨n, hn⟩ : ∃ n, Try.prog.types.size + 1 = n + 2 := ⟨Try.prog.types.size - 1, by omega⟩
 refine ⟨.string (keyBytes [.int .i64 a, .int .i64 b]), ?_⟩
 unfold keyOf
 rw [Try.underlying80]
 simp only [hk, hf, Bool.and_self, if_true]
 rw [hn]
 show Option.map _ (Try.prog.keyLits (n + 2) 80 [.int .i64 a, .int .i64 b]) = _
 rw [key n]; rfl
def SetP (w : World) (b m : Nat) (S : Int → Int → Bool) : Prop := ∃ D : DataW Value, w.ownsMap Try.prog 80 heldE b m D ∧ Maps.size D = m ∧ ∀ x y l, keyOf Try.prog 80 (.agg #[.int .i64 x, .int .i64 y]) = some l → Maps.has D l = S x y
theorem SetP.lt {w : World} {b m : Nat} {S : Int → Int → Bool} (h : SetP w b m S) : b < w.heap.size := by
 obtain ⟨D, h1, _⟩ := h
 exact h1.lt
theorem SetP.blk {w w' : World} {b m : Nat} {S : Int → Int → Bool} (h : SetP w b m S) (hk : w'.heap[b]? = w.heap[b]?) : SetP w' b m S := by
 obtain ⟨D, ⟨es, clock, hb, rest⟩, h2⟩ := h
 exact ⟨D, ⟨es, clock, hk.trans hb, rest⟩, h2⟩
theorem SetP.up {w w' : World} {b m : Nat} {S : Int → Int → Bool} (h : SetP w b m S) (hb : Below w.heap.size w w') : SetP w' b m S := h.blk (hb.block b h.lt)
theorem SetP.made (w : World) : SetP (w.alloc (.map #[] 0)) w.heap.size 0 (fun _ _ => false) :=
 ⟨.map [], World.ownsMap_made _ _ _ _, rfl, fun _ _ _ _ => rfl⟩
theorem wpList_setp_put {w : World} {ops : Array Oper} {rest : List Oper} {o : Oper} {a : Act} {Q : Exit → Act → World → Prop} (hg : o.guard = none) (m x y : Operand) (t e : TypeId) (hop : o.op = Op.mapUpdate t m x y)
  (ht : Try.prog.underlying t = some (.map 80 e))
  (b n : Nat) (S : Int → Int → Bool) (hm : a.eval m = .map (some b)) (hs : SetP w b n S) (c d : Int) (hx : a.eval x = .agg #[.int .i64 c, .int .i64 d]) (v : Value) (hy : a.eval y = v) (hw : (Lit.int .i64 c).wf = true) (hw2 : (Lit.int .i64 d).wf = true) (hn : n ≤ 1000000)
  (hK : ∀ w', Hid (SetP w' b (if S c d = true then n else n + 1) (fun x y => decide (x = c ∧ y = d) || S x y)) → Hid (w.grownBy w' (some b)) → wpList Try.prog ops Q rest (a.put o.dst undef) w') : wpList Try.prog ops Q (o :: rest) a w := by
 obtain ⟨D, h1, hsz, h3⟩ := hs
 have h2 := h1.isMap
 have ht2 := h1.tidy ts_keyed
 obtain ⟨l, hl⟩ := start_key hw hw2
 refine wpList_mapUpdate_own w hg m x y t hop 80 e ts_keyed ht heldE b n D hm h1 (by unfold maxLen; omega) _ _ _ hx hy hl (.held v) [] rfl ?_
 intro w' h4 h5
 have hsz2 : Maps.size (D.put l (.held v)) = if S c d = true then n else n + 1 := by
  rw [size_put ht2, h3 c d l hl, hsz]
 refine hK w' (Lib.hid ⟨_, ?_, hsz2, fun x y l2 hl2 => ?_⟩) (Lib.hid h5)
 ·obtain ⟨es, clock, hb, F, hes, hD⟩ := h4
  refine ⟨es, clock, hb, F, ?_, hD⟩
  have : es.size = Maps.size (D.put l (.held v)) := by rw [hD, size_eq, length_sorted]; simp
  omega
 ·by_cases hxc : x = c ∧ y = d
  ·obtain ⟨rfl, rfl⟩ := hxc
   rw [hl] at hl2
   obtain rfl := Option.some.inj hl2
   rw [has_put_same h2 (ts_keyed.key hl)]
   simp
  ·have hne : l2 ≠ l := by
    rintro rfl
    have := ts_keyed.inj hl2 hl
    simp at this
    exact hxc this
   rw [has_put_other hne, h3 x y l2 hl2]
   show S x y = (decide (x = c ∧ y = d) || S x y)
   rw [decide_eq_false hxc]; rfl
open Go.RowKit
theorem rvd_any (n : Int) (w : World) : Calls Try.prog 27 #[.int .i64 n] w fun e w' => e = .returned (.bool (vdB n)) ∧ w = w' := by
 unfold vdB
 by_cases h1 : (-25567 : Int) ≤ n
 ·rw [decide_eq_true h1]
  go_enter Try.func27, Try.ntmps27
  go_wp2
  go_ret
  exact ⟨rfl, rfl⟩
 ·rw [decide_eq_false h1]
  have h3 : decide ((-25567 : Int) ≤ n) = false := decide_eq_false h1
  clear h1
  go_enter Try.func27, Try.ntmps27
  go_wp2
  go_ret
  exact ⟨rfl, rfl⟩
open Go.RowKit Go.Maps
set_option maxRecDepth 20000 in
set_option maxHeartbeats 3200000 in
theorem clnk_any (l : Lnk) (A C : Option Addr) (cp d : Nat) (L c : List Acc) (w : World) (hz : AccAt w A L) (hy : AccAt w C c) (hl : L.length ≤ 1000) (hm : c.length ≤ 1000) :
  Calls Try.prog 23 #[lnkV l, .slice A L.length cp, .slice C c.length d] w fun e w' => e = .returned (.bool (lnkB L c l)) ∧ Below w.heap.size w w' := by
 have hB := below_alloc_new (w := w) (.cells #[.int .i64 l.frm, .int .i64 l.tgt, .int .i64 l.since] 46)
 have HL := Lib.hid (lb_new w 46 l)
 have HZ := Lib.hid (hz.up hB)
 have HY := Lib.hid (hy.up hB)
 have hf := fun w h => cfind_any A cp L l.frm w h hl
 have hg := fun w h => cfind_any C d c l.tgt w h hm
 have hv := fun w => vd_any l.since w
 have hE : lnkB L c l = ((fnd L l.frm).isSome && ((fnd c l.tgt).isSome && (decide ((fndA L l.frm).kind = (fndA c l.tgt).kind) && vdB l.since))) := rfl
 generalize lnkB L c l = r at *
 generalize (fnd L l.frm).isSome = q1 at *
 generalize (fnd c l.tgt).isSome = q2 at *
 generalize fndA L l.frm = fa at *
 generalize fndA c l.tgt = fb at *
 generalize vdB l.since = q4 at *
 obtain ⟨q3, hq3⟩ : ∃ q3, decide (fa.kind = fb.kind) = q3 := ⟨_, rfl⟩
 have e3 : (fa.kind == fb.kind) = q3 := by rw [← hq3, Bool.eq_iff_iff]; simp
 rw [hq3] at hE
 generalize L.length = n at *
 generalize c.length = m at *
 obtain ⟨⟨v0, v1, v2⟩, vlt⟩ := HL.out
 simp only [Nat.zero_add] at v1 v2
 have HF := Lib.hid hf
 have HG := Lib.hid hg
 have HV := Lib.hid hv
 have HE := Lib.hid hE
 clear hf hg hv hE hq3 hz hy
 cases q1 <;> cases q2 <;> cases q3
 all_goals
  go_enter Try.func23, Try.ntmps23
  go_wp2_with (first
   | (go_at_call 29; first
    | ((with_reducible refine (HF.out _ HZ.out).mono ?_); rintro e w2 ⟨rfl, hb⟩; have HA := Lib.hid (ab_new w2 50 fa); replace HL := Lib.hid ((HL.out.up hb).up (below_alloc_new (.cells #[.int .i64 fa.code, .int .i64 fa.kind, .int .i64 fa.basis, .int .i64 fa.par] 50))); replace HY := Lib.hid ((HY.out.up hb).up (below_alloc_new (.cells #[.int .i64 fa.code, .int .i64 fa.kind, .int .i64 fa.basis, .int .i64 fa.par] 50))); replace hB := below_new (below_more hB hb) (.cells #[.int .i64 fa.code, .int .i64 fa.kind, .int .i64 fa.basis, .int .i64 fa.par] 50); clear hb v0 v1 v2 vlt; obtain ⟨⟨v0, v1, v2⟩, vlt⟩ := HL.out; simp only [Nat.zero_add] at v1 v2)
    | ((with_reducible refine (HG.out _ HY.out).mono ?_); rintro e w3 ⟨rfl, hb⟩; have HA3 := Lib.hid (ab_new w3 50 fb); replace HA := Lib.hid ((HA.out.up hb).up (below_alloc_new (.cells #[.int .i64 fb.code, .int .i64 fb.kind, .int .i64 fb.basis, .int .i64 fb.par] 50))); replace HL := Lib.hid ((HL.out.up hb).up (below_alloc_new (.cells #[.int .i64 fb.code, .int .i64 fb.kind, .int .i64 fb.basis, .int .i64 fb.par] 50))); replace hB := below_new (below_more hB hb) (.cells #[.int .i64 fb.code, .int .i64 fb.kind, .int .i64 fb.basis, .int .i64 fb.par] 50); clear hb v0 v1 v2 vlt; obtain ⟨⟨v0, v1, v2⟩, vlt⟩ := HL.out; simp only [Nat.zero_add] at v1 v2; obtain ⟨⟨x0, x1, x2, x3⟩, xlt, -⟩ := HA.out; obtain ⟨⟨y0, y1, y2, y3⟩, ylt, -⟩ := HA3.out; simp only [Nat.zero_add] at x1 x2 x3 y1 y2 y3))
   | (go_at_call 28; refine (HV.out _).mono ?_; rintro e w4 ⟨rfl, rfl⟩))
  go_ret
  exact ⟨by rw [HE.out]; rfl, hB⟩
theorem wpList_setp_len {w : World} {ops : Array Oper} {rest : List Oper} {o : Oper} {a : Act} {Q : Exit → Act → World → Prop} (hg : o.guard = none) (m : Operand) (t e : TypeId) (hop : o.op = Op.call { callee := Callee.builtin Builtin.len, args := #[m], argTypes := #[t] })
  (ht : Try.prog.underlying t = some (.map 80 e)) (b n : Nat) (S : Int → Int → Bool) (hm : a.eval m = .map (some b)) (hs : SetP w b n S)
  (hK : wpList Try.prog ops Q rest (a.put o.dst (.int .i64 (n : Int))) w) : wpList Try.prog ops Q (o :: rest) a w := by
 obtain ⟨D, h1, hsz, h3⟩ := hs
 refine wpList_len_own w hg m t hop 80 e ht heldE b n D hm h1 ?_
 rw [hsz]; exact hK
structure DI (K : List Lnk) (k m : Nat) (S : Int → Int → Bool) : Prop where
 mem : ∀ x y, S x y = true ↔ ∃ i, i < k ∧ (K.getD i lnk0).frm = x ∧ (K.getD i lnk0).since = y
 le : m ≤ k
 iff : m = k ↔ allTo (dfB K) k = true
theorem DI.start {K : List Lnk} : DI K 0 0 (fun _ _ => false) := ⟨fun x y => by simp, Nat.le_refl _, by simp [allTo]⟩
theorem dfB_is {K : List Lnk} {i : Nat} : dfB K i = true ↔ ∀ k, k < i → ¬ ((K.getD k lnk0).frm = (K.getD i lnk0).frm ∧ (K.getD k lnk0).since = (K.getD i lnk0).since) := by
 unfold dfB
 rw [allTo_is]
 have e : ∀ k, (!smB K i k) = true ↔ ¬ ((K.getD k lnk0).frm = (K.getD i lnk0).frm ∧ (K.getD k lnk0).since = (K.getD i lnk0).since) := by
  intro k
  unfold smB
  rw [Bool.not_eq_true', Bool.and_eq_false_iff, decide_eq_false_iff_not, decide_eq_false_iff_not]
  exact ⟨fun h h2 => h.elim (fun h3 => h3 h2.1) (fun h3 => h3 h2.2), fun h => by
   by_cases h1 : (K.getD k lnk0).frm = (K.getD i lnk0).frm
   ·exact .inr fun h2 => h ⟨h1, h2⟩
   ·exact .inl h1⟩
 exact ⟨fun h k hk => (e k).1 (h k hk), fun h k hk => (e k).2 (h k hk)⟩
theorem DI.step {K : List Lnk} {k m : Nat} {S : Int → Int → Bool} {x : Lnk} (h : DI K k m S) (hx : K.getD k lnk0 = x) :
  DI K (k + 1) (if S x.frm x.since = true then m else m + 1) (fun a b => decide (a = x.frm ∧ b = x.since) || S a b) := by
 have hd : dfB K k = !S x.frm x.since := by
  cases hS : S x.frm x.since with
  | true =>
   obtain ⟨i, hi, h1, h2⟩ := (h.mem _ _).1 hS
   cases hq : dfB K k with
   | false => rfl
   | true => exact absurd ⟨by rw [hx]; exact h1, by rw [hx]; exact h2⟩ (dfB_is.1 hq i hi)
  | false =>
   show dfB K k = true
   rw [dfB_is]
   rintro i hi ⟨h1, h2⟩
   have := (h.mem x.frm x.since).2 ⟨i, hi, by rw [h1, hx], by rw [h2, hx]⟩
   rw [hS] at this; cases this
 refine ⟨fun a b => ?_, ?_, ?_⟩
 ·simp only [Bool.or_eq_true, decide_eq_true_eq, h.mem]
  constructor
  ·rintro (⟨rfl, rfl⟩ | ⟨i, hi, h1, h2⟩)
   ·exact ⟨k, by omega, by rw [hx], by rw [hx]⟩
   ·exact ⟨i, by omega, h1, h2⟩
  ·rintro ⟨i, hi, h1, h2⟩
   rcases Nat.lt_or_ge i k with h3 | h3
   ·exact .inr ⟨i, h3, h1, h2⟩
   ·obtain rfl : i = k := by omega
    rw [hx] at h1 h2
    exact .inl ⟨h1.symm, h2.symm⟩
 ·have := h.le; split <;> omega
 ·have h1 := h.le
  have h2 := h.iff
  simp only [allTo, Bool.and_eq_true, hd]
  cases hS : S x.frm x.since
  ·simp only [Bool.not_false, and_true, if_neg (show ¬ (false = true) by simp)]
   rw [← h2]; omega
  ·simp only [Bool.not_true, if_true]
   constructor
   ·intro h3; omega
   ·rintro ⟨_, h3⟩; cases h3
set_option maxRecDepth 20000 in
set_option maxHeartbeats 3200000 in
theorem cdist_any (A : Option Addr) (cp : Nat) (K : List Lnk) (w : World) (hz : LnkAt w A K) (hl : K.length ≤ 1000) (hw : ∀ l ∈ K, WfL l) :
  Calls Try.prog 24 #[.slice A K.length cp] w fun e w' => e = .returned (.bool (allTo (dfB K) K.length)) ∧ Below w.heap.size w w' := by
 have hB := below_alloc_new (w := w) (.map #[] 0)
 have hM := SetP.made w
 obtain ⟨q, hq⟩ : ∃ q, allTo (dfB K) K.length = q := ⟨_, rfl⟩
 rw [hq]
 obtain ⟨n, hn⟩ : ∃ n, K.length = n := ⟨_, rfl⟩
 obtain ⟨s0, hs0⟩ : ∃ s0, w.heap.size = s0 := ⟨_, rfl⟩
 rw [hn] at hl hq ⊢
 rw [hs0] at hB hM ⊢
 have HN := Lib.hid hn
 have HZ := Lib.hid hz
 have HW := Lib.hid hw
 have HS0 := Lib.hid hs0
 have HM := Lib.hid hM
 have HQ := Lib.hid hq
 have hmm := @run_makeMap Try.prog
 clear hn hz hw hM hq
 go_enter Try.func24, Try.ntmps24
 go_wp2_with fail
 clear hs0
 go_loopg [9] n (fun kx s9 wr => ∃ (k m : Nat) (S : Int → Int → Bool), s9 = .int .i64 k ∧ k ≤ n ∧ n - k ≤ kx ∧ Hid (DI K k m S) ∧ Hid (SetP wr s0 m S) ∧ Below s0 w wr)
 case atStart => exact ⟨0, 0, _, rfl, by omega, by omega, Lib.hid DI.start, HM, hB⟩
 case round =>
  clear hB HM
  obtain ⟨k, m, S, rfl, hk, hkx, HD, HM, hB⟩ := hrel
  by_cases hlt : k < n
  ·have hltz : (k : Int) < (n : Int) := by omega
   have hsz : s0 ≤ wr.heap.size := by have := hB.size; have := HS0.out; omega
   obtain ⟨b, off, rfl, hbw, hcs⟩ := HZ.out (by rw [HN.out]; omega)
   obtain ⟨c0, c1, c2⟩ := (hcs k (by rw [HN.out]; exact hlt)).up hB (by have := HS0.out; omega)
   obtain ⟨x, hx⟩ : ∃ x, K.getD k lnk0 = x := ⟨_, rfl⟩
   rw [hx] at c0 c1 c2
   have HWX := Lib.hid (HW.out x (by rw [← hx]; exact getD_mem_acc (by rw [HN.out]; exact hlt)))
   have HDS := Lib.hid (HD.out.step hx)
   have hm1 : m ≤ 1000 := by have := HD.out.le; omega
   have HM1 := Lib.hid (HM.out.up (below_alloc_new (.cells #[.int .i64 x.frm, .int .i64 x.tgt, .int .i64 x.since] 46)))
   have hB1 : Below s0 w (wr.alloc (.cells #[.int .i64 x.frm, .int .i64 x.tgt, .int .i64 x.since] 46)) := hB.alloc hsz _
   have hsm := HM.out.lt
   clear hx hcs
   go_wp2_with (at_mapUpdate; refine wpList_setp_put rfl _ _ _ _ 4 rfl Try.underlying78 s0 m S rfl HM1.out x.frm x.since rfl _ rfl HWX.out.frm HWX.out.since (by omega) ?_; intro w2 hm2 hg2; have hb2 := grown_below hB1 hg2.out (Nat.le_refl _) (by simp; omega); clear hg2)
   go_roundg (n - (k + 1))
   case measure => omega
   case rel => exact ⟨k + 1, _, _, by go_num, by omega, by omega, HDS, hm2, hb2⟩
  ·obtain rfl : k = n := by omega
   have hltz : ¬ (k : Int) < (k : Int) := by omega
   have e9 : ((m : Int) == (k : Int)) = q := by
    rw [← HQ.out]
    have h1 := HD.out.iff
    cases h2 : allTo (dfB K) k with
    | true => rw [h2] at h1; have := h1.2 rfl; subst this; simp
    | false => rw [h2] at h1; simp; intro h3; have := h1.1 (by omega); cases this
   go_wp2_with (at_len; refine wpList_setp_len rfl _ _ 4 rfl Try.underlying78 s0 m S rfl HM.out ?_)
   go_ret
   exact ⟨rfl, hB⟩
theorem atO_mem {K : List Lnk} {code day : Int} {l : Lnk} (h : atO K code day = some l) : l ∈ K ∧ l.frm = code ∧ l.since ≤ day := by
 have key : ∀ (K : List Lnk) (o : Option Lnk), K.foldl (atStep code day) o = some l → (l ∈ K ∧ l.frm = code ∧ l.since ≤ day) ∨ o = some l := by
  intro K
  induction K with
  | nil => intro o h; exact .inr h
  | cons x K ih =>
   intro o h
   rw [List.foldl_cons] at h
   rcases ih _ h with ⟨h1, h2⟩ | h1
   ·exact .inl ⟨List.mem_cons_of_mem _ h1, h2⟩
   ·unfold atStep at h1
    split at h1
    ·rename_i hh
     cases h1
     unfold atHit at hh
     simp only [Bool.and_eq_true, decide_eq_true_eq] at hh
     exact .inl ⟨List.mem_cons_self .., hh.1, hh.2.1⟩
    ·exact .inr h1
 rcases key K none h with h | h
 ·exact h
 ·cases h
theorem atE_zero {L : List Acc} {K : List Lnk} {code day : Int} (h : atE L K code day = 0) : ∃ a l, fnd L code = some a ∧ atO K code day = some l ∧ atV L K code day = l.tgt := by
 unfold atE at h
 unfold atV
 split at h
 ·rename_i hv
  split at h
  ·rename_i hs
   obtain ⟨a, ha⟩ := Option.isSome_iff_exists.1 hs
   split at h
   ·cases h
   ·rename_i l hl
    exact ⟨a, l, ha, hl, by rw [if_pos hv, if_pos hs]⟩
  ·cases h
 ·cases h
structure Mapped (L : List Acc) (K : List Lnk) (c : List Acc) : Prop where
 chart : vB c true = true
 own : vB L false = true
 few : K.length ≤ 400
 lnk : ∀ l ∈ K, lnkB L c l = true
 dst : K.Pairwise fun x y => ¬ (x.frm = y.frm ∧ x.since = y.since)
theorem mvB_is {L : List Acc} {K : List Lnk} {c : List Acc} : mvB L K c = true ↔ Mapped L K c := by
 unfold mvB
 simp only [Bool.and_eq_true, decide_eq_true_eq]
 constructor
 ·rintro ⟨h1, h2, h3, h4, h5⟩
  refine ⟨h1, h2, h3, fun l hl => ?_, ?_⟩
  ·obtain ⟨i, hi, rfl⟩ := mem_getD_acc (d := lnk0) hl
   exact allTo_is.1 h4 i hi
  ·rw [List.pairwise_iff_getElem]
   intro i j hi hj hij
   have h6 := allTo_is.1 h5 j hj
   unfold dfB at h6
   have h7 := allTo_is.1 h6 i hij
   unfold smB at h7
   rw [List.getD_eq_getElem?_getD, List.getElem?_eq_getElem hi, List.getD_eq_getElem?_getD, List.getElem?_eq_getElem hj] at h7
   rintro ⟨e1, e2⟩
   simp [e1, e2] at h7
 ·rintro ⟨h1, h2, h3, h4, h5⟩
  refine ⟨h1, h2, h3, allTo_is.2 fun i hi => h4 _ (getD_mem_acc hi), allTo_is.2 fun j hj => ?_⟩
  unfold dfB
  refine allTo_is.2 fun i hij => ?_
  have h6 := (List.pairwise_iff_getElem.1 h5) i j (by omega) hj hij
  unfold smB
  rw [List.getD_eq_getElem?_getD, List.getElem?_eq_getElem (by omega : i < K.length), List.getD_eq_getElem?_getD, List.getElem?_eq_getElem hj]
  rcases Decidable.not_and_iff_or_not.1 h6 with e | e
  ·simp [e]
  ·simp [e]
theorem atO_same {K M : List Lnk} {code d1 d2 : Int} (h : fltL code d1 K = fltL code d2 M) : atO K code d1 = atO M code d2 := by rw [atO_flt, atO_flt, h]
theorem at_same {L : List Acc} {K M : List Lnk} {code d1 d2 : Int} (h : atO K code d1 = atO M code d2) (hd : vdB d1 = vdB d2) : atV L K code d1 = atV L M code d2 ∧ atE L K code d1 = atE L M code d2 := by
 unfold atV atE
 rw [h, hd]
 exact ⟨rfl, rfl⟩
theorem mxL_is : ∀ {K : List Lnk}, 0 < K.length → mxL K ∈ K ∧ ∀ x ∈ K, x.since ≤ (mxL K).since
 | [], h => by simp at h
 | a :: K, _ => by
  have key : ∀ (K : List Lnk) (m : Lnk), (K.foldl mxS m = m ∨ K.foldl mxS m ∈ K) ∧ m.since ≤ (K.foldl mxS m).since ∧ ∀ x ∈ K, x.since ≤ (K.foldl mxS m).since := by
   intro K
   induction K with
   | nil => intro m; exact ⟨.inl rfl, Int.le_refl _, fun x hx => by cases hx⟩
   | cons y K ih =>
    intro m
    obtain ⟨h1, h2, h3⟩ := ih (mxS m y)
    rw [List.foldl_cons]
    have h4 : m.since ≤ (mxS m y).since ∧ y.since ≤ (mxS m y).since ∧ (mxS m y = m ∨ mxS m y = y) := by
     unfold mxS
     split
     ·exact ⟨by omega, Int.le_refl _, .inr rfl⟩
     ·exact ⟨Int.le_refl _, by omega, .inl rfl⟩
    refine ⟨?_, by omega, fun x hx => ?_⟩
    ·rcases h1 with h1 | h1
     ·rw [h1]
      rcases h4.2.2 with h5 | h5
      ·exact .inl h5
      ·rw [h5]; exact .inr (List.mem_cons_self ..)
     ·exact .inr (List.mem_cons_of_mem _ h1)
    ·rcases List.mem_cons.1 hx with rfl | hx
     ·omega
     ·exact h3 x hx
  obtain ⟨h1, h2, h3⟩ := key K a
  have e : mxL (a :: K) = K.foldl mxS a := rfl
  rw [e]
  refine ⟨?_, fun x hx => ?_⟩
  ·rcases h1 with h1 | h1
   ·rw [h1]; exact List.mem_cons_self ..
   ·exact List.mem_cons_of_mem _ h1
  ·rcases List.mem_cons.1 hx with rfl | hx
   ·exact h2
   ·exact h3 x hx
theorem pair_eq {K : List Lnk} (h : K.Pairwise fun x y => ¬ (x.frm = y.frm ∧ x.since = y.since)) {x y : Lnk} (hx : x ∈ K) (hy : y ∈ K) (h1 : x.frm = y.frm) (h2 : x.since = y.since) : x = y := by
 obtain ⟨i, hi, rfl⟩ := List.mem_iff_getElem.1 hx
 obtain ⟨j, hj, rfl⟩ := List.mem_iff_getElem.1 hy
 rcases Nat.lt_trichotomy i j with h3 | h3 | h3
 ·exact absurd ⟨h1, h2⟩ ((List.pairwise_iff_getElem.1 h) i j hi hj h3)
 ·subst h3; rfl
 ·exact absurd ⟨h1.symm, h2.symm⟩ ((List.pairwise_iff_getElem.1 h) j i hj hi h3)
theorem atO_reverse {K : List Lnk} (h : K.Pairwise fun x y => ¬ (x.frm = y.frm ∧ x.since = y.since)) {code day : Int} : atO K.reverse code day = atO K code day := by
 rw [atO_flt, atO_flt]
 have e : fltL code day K.reverse = (fltL code day K).reverse := by unfold fltL; rw [List.filter_reverse]
 rw [e, List.length_reverse]
 by_cases h0 : (fltL code day K).length = 0
 ·rw [if_pos h0, if_pos h0]
 ·rw [if_neg h0, if_neg h0]
  obtain ⟨h1, h2⟩ := mxL_is (K := (fltL code day K).reverse) (by rw [List.length_reverse]; omega)
  obtain ⟨h3, h4⟩ := mxL_is (K := fltL code day K) (by omega)
  rw [List.mem_reverse] at h1
  have m1 := List.mem_filter.1 h1
  have m3 := List.mem_filter.1 h3
  simp only [Bool.and_eq_true, decide_eq_true_eq] at m1 m3
  refine congrArg some (pair_eq h m1.1 m3.1 (by rw [m1.2.1, m3.2.1]) ?_)
  have := h2 _ (List.mem_reverse.2 h3)
  have := h4 _ h1
  omega
theorem Mapped.reverse {L : List Acc} {K : List Lnk} {c : List Acc} (h : Mapped L K c) : Mapped L K.reverse c :=
 ⟨h.chart, h.own, by rw [List.length_reverse]; exact h.few, fun l hl => h.lnk l (List.mem_reverse.1 hl), by rw [List.pairwise_reverse]; exact h.dst.imp fun h e => h ⟨e.1.symm, e.2.symm⟩⟩
theorem at_reverse {L : List Acc} {K : List Lnk} {c : List Acc} (h : Mapped L K c) {code day : Int} : atV L K.reverse code day = atV L K code day ∧ atE L K.reverse code day = atE L K code day := at_same (atO_reverse h.dst) rfl
theorem feE_congr {L : List Acc} {K M : List Lnk} {day : Int} (h : ∀ code, atE L M code day = atE L K code day) : ∀ {b : List Bal}, feE L M day b = feE L K day b
 | [] => rfl
 | x :: l => by unfold feE; rw [h, feE_congr h]
theorem move_reverse {L : List Acc} {K : List Lnk} {c : List Acc} (h : Mapped L K c) {day : Int} {b : List Bal} : moveE L K.reverse day b = moveE L K day b ∧ moveL L K.reverse day b = moveL L K day b := by
 have e1 : feE L K.reverse day b = feE L K day b := feE_congr fun code => (at_reverse h).2
 have e2 : tosL L K.reverse day b = tosL L K day b := by
  unfold tosL
  refine List.map_congr_left fun x _ => ?_
  rw [(at_reverse h).1]
 have e3 : moveE L K.reverse day b = moveE L K day b := by unfold moveE; rw [e1, e2]
 exact ⟨e3, by unfold moveL; rw [e3, e2]⟩
theorem fnd_part {L : List Acc} {c : Int} : fnd (L.filter fun a => decide (a.code = c)) c = fnd L c := by
 unfold fnd
 rw [List.find?_filter]
 congr 1
 funext a
 simp
theorem flt_part {K : List Lnk} {c day : Int} : fltL c day (K.filter fun l => decide (l.frm = c)) = fltL c day K := by
 unfold fltL
 rw [List.filter_filter]
 congr 1
 funext l
 by_cases h : l.frm = c <;> simp [h]
theorem at_part {L : List Acc} {K : List Lnk} {c day : Int} : atV (L.filter fun a => decide (a.code = c)) (K.filter fun l => decide (l.frm = c)) c day = atV L K c day ∧ atE (L.filter fun a => decide (a.code = c)) (K.filter fun l => decide (l.frm = c)) c day = atE L K c day := by
 unfold atV atE
 rw [fnd_part, atO_same flt_part]
 exact ⟨rfl, rfl⟩
abbrev nilV : Value := .slice none 0 0
abbrev entP (va vb : Value) : Value := .agg #[.string ⟨#[]⟩, .string ⟨#[]⟩, va, vb, .bool false]
def accC (L : List Acc) (c : Int) : List Acc := L.filter fun a => decide (a.code = c)
def lnkC (K : List Lnk) (c : Int) : List Lnk := K.filter fun l => decide (l.frm = c)
theorem accC_same {L : List Acc} {x : Acc} : accC (L ++ [x]) x.code = accC L x.code ++ [x] := by unfold accC; rw [List.filter_append]; simp
theorem accC_other {L : List Acc} {x : Acc} {c : Int} (h : ¬ c = x.code) : accC (L ++ [x]) c = accC L c := by unfold accC; rw [List.filter_append]; simp; omega
theorem lnkC_same {L : List Lnk} {x : Lnk} : lnkC (L ++ [x]) x.frm = lnkC L x.frm ++ [x] := by unfold lnkC; rw [List.filter_append]; simp
theorem lnkC_other {L : List Lnk} {x : Lnk} {c : Int} (h : ¬ c = x.frm) : lnkC (L ++ [x]) c = lnkC L c := by unfold lnkC; rw [List.filter_append]; simp; omega
theorem accC_len {L : List Acc} {c : Int} : (accC L c).length ≤ L.length := List.length_filter_le _ _
theorem lnkC_len {L : List Lnk} {c : Int} : (lnkC L c).length ≤ L.length := List.length_filter_le _ _
theorem nil_block {g : Nat} : nilV.ownBlock = some g → False := fun h => by cases h
structure Fam (w : World) (base : Nat) (GA GB : Int → Value) (L : List Acc) (K : List Lnk) : Prop where
 a : ∀ c, OwnA 50 w base (GA c) (accC L c)
 b : ∀ c, OwnL 46 w base (GB c) (lnkC K c)
 aa : ∀ c c' g, (GA c).ownBlock = some g → (GA c').ownBlock = some g → c = c'
 bb : ∀ c c' g, (GB c).ownBlock = some g → (GB c').ownBlock = some g → c = c'
 ab : ∀ c c' g, (GA c).ownBlock = some g → (GB c').ownBlock = some g → False
section
variable {w wb w2 w4 : World} {base mb : Nat} {GA GB : Int → Value} {L : List Acc} {K : List Lnk} {v : Value}
theorem Fam.none : Fam w base (fun _ => nilV) (fun _ => nilV) [] [] :=
 ⟨fun _ => OwnA.nil, fun _ => OwnL.nil, fun _ _ _ h => (nil_block h).elim, fun _ _ _ h => (nil_block h).elim, fun _ _ _ h => (nil_block h).elim⟩
theorem Fam.up (h : Fam w base GA GB L K) (hb : Below w.heap.size w w2) : Fam w2 base GA GB L K :=
 ⟨fun c => (h.a c).up hb, fun c => (h.b c).up hb, h.aa, h.bb, h.ab⟩
theorem Fam.roundA {x : Acc} (h : Fam w base GA GB L K) (h1 : Below w.heap.size w wb) (hsz : wb.heap.size = w.heap.size + 2) (hg : wb.grownBy w2 (GA x.code).ownBlock)
  (hown : OwnA 50 w2 base v (accC L x.code ++ [x])) (hl : v.ownBlock = (GA x.code).ownBlock ∨ v.ownBlock = some (wb.heap.size + 1))
  (h4 : ∀ g, g < w2.heap.size → g ≠ w.heap.size + 1 → g ≠ mb → w4.heap[g]? = w2.heap[g]?) (hmb : mb < base) : Fam w4 base (fun c => if c = x.code then v else GA c) GB (L ++ [x]) K := by
 have hv : ∀ g, v.ownBlock = some g → ((GA x.code).ownBlock = some g ∧ g < w.heap.size) ∨ g = w.heap.size + 3 := fun g hgv => by
  rcases hl with e | e
  ·rw [hgv] at e; exact .inl ⟨e.symm, ((h.a x.code).lt e.symm).2⟩
  ·rw [hgv] at e; injection e with e; exact .inr (by omega)
 have old : ∀ g, base ≤ g → g < w.heap.size → (GA x.code).ownBlock ≠ some g → w4.heap[g]? = w.heap[g]? := fun g hb hlt hne => by
  rw [h4 g (by have := hg.size; omega) (by omega) (by omega), hg.block g (by omega) (fun e => hne e.symm), h1.block g hlt]
 refine ⟨fun c => ?_, fun c => ?_, fun c c' g => ?_, h.bb, fun c c' g => ?_⟩
 ·by_cases hc : c = x.code
  ·subst hc
   simp only [if_true]
   rw [accC_same]
   refine hown.blk fun g hgv => ?_
   have h6 := hown.lt hgv
   exact h4 g h6.2 (by rcases hv g hgv with h7 | h7 <;> omega) (by omega)
  ·simp only [if_neg hc]
   rw [accC_other hc]
   refine (h.a c).blk fun g hgv => ?_
   have h6 := (h.a c).lt hgv
   exact old g h6.1 h6.2 fun e => hc (h.aa c x.code g hgv e)
 ·refine (h.b c).blk fun g hgv => ?_
  have h6 := (h.b c).lt hgv
  exact old g h6.1 h6.2 fun e => h.ab x.code c g e hgv
 ·by_cases hc : c = x.code
  ·by_cases hc' : c' = x.code
   ·intro _ _; rw [hc, hc']
   ·simp only [if_pos hc, if_neg hc']
    intro e1 e2
    rcases hv g e1 with h7 | h7
    ·exact absurd (h.aa _ _ _ e2 h7.1) hc'
    ·have := (h.a c').lt e2; omega
  ·by_cases hc' : c' = x.code
   ·simp only [if_neg hc, if_pos hc']
    intro e1 e2
    rcases hv g e2 with h7 | h7
    ·exact absurd (h.aa _ _ _ e1 h7.1) hc
    ·have := (h.a c).lt e1; omega
   ·simp only [if_neg hc, if_neg hc']
    exact h.aa c c' g
 ·by_cases hc : c = x.code
  ·simp only [if_pos hc]
   intro e1 e2
   rcases hv g e1 with h7 | h7
   ·exact h.ab _ _ _ h7.1 e2
   ·have := (h.b c').lt e2; omega
  ·simp only [if_neg hc]
   exact h.ab c c' g
theorem Fam.roundB {x : Lnk} (h : Fam w base GA GB L K) (h1 : Below w.heap.size w wb) (hsz : wb.heap.size = w.heap.size + 2) (hg : wb.grownBy w2 (GB x.frm).ownBlock)
  (hown : OwnL 46 w2 base v (lnkC K x.frm ++ [x])) (hl : v.ownBlock = (GB x.frm).ownBlock ∨ v.ownBlock = some (wb.heap.size + 1))
  (h4 : ∀ g, g < w2.heap.size → g ≠ w.heap.size + 1 → g ≠ mb → w4.heap[g]? = w2.heap[g]?) (hmb : mb < base) : Fam w4 base GA (fun c => if c = x.frm then v else GB c) L (K ++ [x]) := by
 have hv : ∀ g, v.ownBlock = some g → ((GB x.frm).ownBlock = some g ∧ g < w.heap.size) ∨ g = w.heap.size + 3 := fun g hgv => by
  rcases hl with e | e
  ·rw [hgv] at e; exact .inl ⟨e.symm, ((h.b x.frm).lt e.symm).2⟩
  ·rw [hgv] at e; injection e with e; exact .inr (by omega)
 have old : ∀ g, base ≤ g → g < w.heap.size → (GB x.frm).ownBlock ≠ some g → w4.heap[g]? = w.heap[g]? := fun g hb hlt hne => by
  rw [h4 g (by have := hg.size; omega) (by omega) (by omega), hg.block g (by omega) (fun e => hne e.symm), h1.block g hlt]
 refine ⟨fun c => ?_, fun c => ?_, h.aa, fun c c' g => ?_, fun c c' g => ?_⟩
 ·refine (h.a c).blk fun g hgv => ?_
  have h6 := (h.a c).lt hgv
  exact old g h6.1 h6.2 fun e => h.ab c x.frm g hgv e
 ·by_cases hc : c = x.frm
  ·subst hc
   simp only [if_true]
   rw [lnkC_same]
   refine hown.blk fun g hgv => ?_
   have h6 := hown.lt hgv
   exact h4 g h6.2 (by rcases hv g hgv with h7 | h7 <;> omega) (by omega)
  ·simp only [if_neg hc]
   rw [lnkC_other hc]
   refine (h.b c).blk fun g hgv => ?_
   have h6 := (h.b c).lt hgv
   exact old g h6.1 h6.2 fun e => hc (h.bb c x.frm g hgv e)
 ·by_cases hc : c = x.frm
  ·by_cases hc' : c' = x.frm
   ·intro _ _; rw [hc, hc']
   ·simp only [if_pos hc, if_neg hc']
    intro e1 e2
    rcases hv g e1 with h7 | h7
    ·exact absurd (h.bb _ _ _ e2 h7.1) hc'
    ·have := (h.b c').lt e2; omega
  ·by_cases hc' : c' = x.frm
   ·simp only [if_neg hc, if_pos hc']
    intro e1 e2
    rcases hv g e2 with h7 | h7
    ·exact absurd (h.bb _ _ _ e1 h7.1) hc
    ·have := (h.b c).lt e1; omega
   ·simp only [if_neg hc, if_neg hc']
    exact h.bb c c' g
 ·by_cases hc : c' = x.frm
  ·simp only [if_pos hc]
   intro e1 e2
   rcases hv g e2 with h7 | h7
   ·exact h.ab _ _ _ e1 h7.1
   ·have := (h.a c).lt e1; omega
  ·simp only [if_neg hc]
   exact h.ab c c' g
end
structure PI (w : World) (mb base n : Nat) (f : Int → Option Value) (GA GB : Int → Value) (L : List Acc) (K : List Lnk) : Prop where
 map : MapV w mb n f
 fam : Fam w base GA GB L K
 val : ∀ c, (f c).getD (entP nilV nilV) = entP (GA c) (GB c)
theorem PI.up {w w2 : World} {mb base n : Nat} {f : Int → Option Value} {GA GB : Int → Value} {L : List Acc} {K : List Lnk} (h : PI w mb base n f GA GB L K) (hb : Below w.heap.size w w2) : PI w2 mb base n f GA GB L K :=
 ⟨h.map.up hb, h.fam.up hb, h.val⟩
theorem ent_zero (w : World) : (zeroValue 25).run Try.prog w = .ok (entP nilV nilV) w := by kernel_rfl
theorem sum_zero (w : World) : (zeroValue 73).run Try.prog w = .ok (.agg #[.int .i64 0, .int .i64 0]) w := by kernel_rfl
structure EF (w : World) (g : Nat) (nm cur : ByteArray) (A : Option Addr) (n c : Nat) (B : Option Addr) (m d : Nat) (jt : Bool) : Prop where
 cells : EB w g nm cur A n c B m d jt
 fz : ∀ i, w.frozen? ⟨g, i, none⟩ = false
theorem ef_new (w : World) (t : TypeId) (nm cur : ByteArray) (A : Option Addr) (n c : Nat) (B : Option Addr) (m d : Nat) (jt : Bool) :
  EF (w.alloc (.cells #[.string nm, .string cur, .slice A n c, .slice B m d, .bool jt] t)) w.heap.size nm cur A n c B m d jt :=
 ⟨eb_new w t nm cur A n c B m d jt, fun i => by simp only [World.frozen?]; rw [heap_alloc_new]; simp⟩
theorem EB.blk {w w' : World} {g : Nat} {nm cur : ByteArray} {A : Option Addr} {n c : Nat} {B : Option Addr} {m d : Nat} {jt : Bool} (h : EB w g nm cur A n c B m d jt) (hk : w'.heap[g]? = w.heap[g]?) : EB w' g nm cur A n c B m d jt := by
 refine ⟨(World.cell?_of_block hk).trans h.c0, (World.cell?_of_block hk).trans h.c1, (World.cell?_of_block hk).trans h.c2, (World.cell?_of_block hk).trans h.c3, (World.cell?_of_block hk).trans h.c4, ?_⟩
 have hlt := h.lt
 rcases Nat.lt_or_ge g w'.heap.size with h1 | h1
 ·exact h1
 ·rw [Array.getElem?_eq_none h1, Array.getElem?_eq_getElem hlt] at hk; cases hk
theorem EF.blk {w w' : World} {g : Nat} {nm cur : ByteArray} {A : Option Addr} {n c : Nat} {B : Option Addr} {m d : Nat} {jt : Bool} (h : EF w g nm cur A n c B m d jt) (hk : w'.heap[g]? = w.heap[g]?) : EF w' g nm cur A n c B m d jt :=
 ⟨h.cells.blk hk, fun i => (World.frozen?_of_block (a := ⟨g, i, none⟩) hk).trans (h.fz i)⟩
theorem LB.blk {w w' : World} {g : Nat} {l : Lnk} (h : LB w g l) (hk : w'.heap[g]? = w.heap[g]?) : LB w' g l := by
 refine ⟨⟨(World.cell?_of_block hk).trans h.cells.c0, (World.cell?_of_block hk).trans h.cells.c1, (World.cell?_of_block hk).trans h.cells.c2⟩, ?_⟩
 have hlt := h.lt
 rcases Nat.lt_or_ge g w'.heap.size with h1 | h1
 ·exact h1
 ·rw [Array.getElem?_eq_none h1, Array.getElem?_eq_getElem hlt] at hk; cases hk
open Go.ChangeShapes Go.WideShapes Go.ChangeAt Go.WideMaps Go.WideElems Go.RowKit Go.Deep Go.Joins
section
variable {H : Type} {enc : TypeId × Value → H} {P : Program} {W : World}
theorem open_wbals {T E I : TypeId} {f0 f1 : Field} {fuel : Nat} {cs : List Value} {x : DataW H × List MemPlace} (hT : P.underlying T = some (.slice E)) (hE : P.underlying E = some (.struct #[f0, f1]))
  (hone : oneCellFields P #[f0, f1] = true) (hC : P.cellsOf E = 2) (hty : ([f0, f1].all fun f => f.type == I) = true) (hI : P.underlying I = some (.int .i64))
  (hf : DataW.trod enc P W 0 (fun _ => true) true fuel T cs = some x) :
  ∃ A len cap b, cs = [.slice A len cap] ∧ b.length = len ∧ len ≤ 9223372036854775807 ∧ BalAt W A b ∧ ∀ y ∈ b, (Lit.int .i64 y.acct).wf = true := by
 obtain ⟨A, len, cap, rfl, hmax, X, hX⟩ := open_wrows hT hE hone hC hty hI (by simp) hf
 have hg : ∀ i, i < len → ((List.range len).map fun k => (⟨X k 0, X k 1⟩ : Bal)).getD i bal0 = ⟨X i 0, X i 1⟩ := fun i hi2 => by
  rw [List.getD_eq_getElem?_getD, List.getElem?_map, List.getElem?_range hi2]; rfl
 refine ⟨A, len, cap, (List.range len).map fun k => ⟨X k 0, X k 1⟩, rfl, by simp, hmax, fun h0 => ?_, fun a ha => ?_⟩
 ·obtain ⟨b, off, e, hlt, hc⟩ := hX (by simpa using h0)
  refine ⟨b, off, e, hlt, fun i hi => ?_⟩
  have hi2 : i < len := by simpa using hi
  rw [hg i hi2]
  exact ⟨(hc i hi2 0 (by simp)).1, (hc i hi2 1 (by simp)).1⟩
 ·obtain ⟨k, hk, rfl⟩ := List.mem_map.1 ha
  have hk2 : k < len := by simpa using hk
  obtain ⟨b, off, e, hlt, hc⟩ := hX (by omega)
  exact (hc k hk2 0 (by simp)).2
end
theorem cells7 {cs : List Value} (h : cs.length = 7) : ∃ c0 c1 c2 c3 c4 c5 c6, cs = [c0, c1, c2, c3, c4, c5, c6] := by
 match cs, h with
 | [c0, c1, c2, c3, c4, c5, c6], _ => exact ⟨c0, c1, c2, c3, c4, c5, c6, rfl⟩
section
variable {H : Type} {enc : TypeId × Value → H} {W : World}
abbrev caseV (nm cur : ByteArray) (A : Option Addr) (n c : Nat) (B : Option Addr) (m d : Nat) (jt : Bool) (code day : Int) : Value := .agg #[.string nm, .string cur, .slice A n c, .slice B m d, .bool jt, .int .i64 code, .int .i64 day]
set_option maxRecDepth 100000 in
theorem open_icase {b0 : Nat} {v : Value} {d : DataW H} {p : List MemPlace} (hval : Value.okWide Try.prog W .any b0 44 v) (h : DataW.Trod enc Try.prog W 0 (fun _ => true) true 44 v d p) :
  ∃ nm cur A n c L B m d K jt code day, v = caseV nm cur A n c B m d jt code day ∧ EntK W A n L B m K := by
 obtain ⟨cs, rfl, hsz⟩ := okWide_struct Try.underlying44 hval
 obtain ⟨fuel, hf⟩ := h
 have hcs : (Value.agg cs).cells.toList = cs.toList := by simp [Value.cells]
 rw [hcs] at hf
 obtain ⟨xs, n', -, -, hlen, hxl, hff⟩ := DataW.trod_struct Try.underlying44 hf
 have hC : Try.prog.cellsOf 44 = 7 := by kernel_rfl
 rw [hC] at hlen
 obtain ⟨c0, c1, c2, c3, c4, c5, c6, e7⟩ := cells7 hlen
 have k25 : Try.prog.cellsOf 25 = 5 := by kernel_rfl
 have k3 : Try.prog.cellsOf 3 = 1 := by kernel_rfl
 have hxl' : xs.length = 3 := hxl
 have hget : ∀ i, i < 3 → ∃ y, xs[i]? = some y := fun i hi => ⟨_, List.getElem?_eq_getElem (by omega)⟩
 have h0 : DataW.trod enc Try.prog W 0 (fun _ => true) true n' 25 ((cs.toList.drop 0).take (Try.prog.cellsOf 25)) = xs[0]? := hff 0 _ rfl
 have h1 : DataW.trod enc Try.prog W 0 (fun _ => true) true n' 3 ((cs.toList.drop 5).take (Try.prog.cellsOf 3)) = xs[1]? := hff 1 _ rfl
 have h2 : DataW.trod enc Try.prog W 0 (fun _ => true) true n' 3 ((cs.toList.drop 6).take (Try.prog.cellsOf 3)) = xs[2]? := hff 2 _ rfl
 obtain ⟨y0, e0⟩ := hget 0 (by omega)
 obtain ⟨y1, e1⟩ := hget 1 (by omega)
 obtain ⟨y2, e2⟩ := hget 2 (by omega)
 rw [e0, e7] at h0
 rw [e1, e7] at h1
 rw [e2, e7] at h2
 rw [k25] at h0
 rw [k3] at h1 h2
 obtain ⟨nm, cur, A, n, c, L, B, m, d, K, jt, q0, hk⟩ := open_entC h0
 obtain ⟨code, q1, -⟩ := DataW.trod_int Try.underlying3 h1
 obtain ⟨day, q2, -⟩ := DataW.trod_int Try.underlying3 h2
 simp at q0 q1 q2
 obtain ⟨rfl, rfl, rfl, rfl, rfl⟩ := q0
 subst q1 q2
 exact ⟨nm, cur, A, n, c, L, B, m, d, K, jt, code, day, by rw [caseV, ← Array.toArray_toList (xs := cs), e7], hk⟩
set_option maxRecDepth 100000 in
theorem open_waccV {b0 : Nat} {v : Value} {d : DataW H} {p : List MemPlace} (hval : Value.okWide Try.prog W .any b0 22 v) (h : DataW.Trod enc Try.prog W 0 (fun _ => true) true 22 v d p) :
  ∃ A len cap L, v = .slice A len cap ∧ L.length = len ∧ AccAt W A L ∧ WfC L := by
 obtain ⟨a0, len0, cap0, rfl⟩ := okWide_slice Try.underlying22 hval
 obtain ⟨fuel, hf⟩ := h
 obtain ⟨A, n, c, L, q2, ln, -, hz, wa⟩ := open_waccs Try.underlying22 Try.underlying50 (by kernel_rfl) (by kernel_rfl) (by kernel_rfl) Try.underlying3 hf
 simp [Value.cells] at q2
 obtain ⟨rfl, rfl, rfl⟩ := q2
 exact ⟨_, _, _, L, rfl, ln, hz, wa⟩
set_option maxRecDepth 100000 in
theorem open_wbalV {b0 : Nat} {v : Value} {d : DataW H} {p : List MemPlace} (hval : Value.okWide Try.prog W .any b0 36 v) (h : DataW.Trod enc Try.prog W 0 (fun _ => true) true 36 v d p) :
  ∃ A len cap b, v = .slice A len cap ∧ b.length = len ∧ BalAt W A b ∧ ∀ y ∈ b, (Lit.int .i64 y.acct).wf = true := by
 obtain ⟨a0, len0, cap0, rfl⟩ := okWide_slice Try.underlying36 hval
 obtain ⟨fuel, hf⟩ := h
 obtain ⟨A, n, c, b, q2, ln, -, hz, wb⟩ := open_wbals Try.underlying36 Try.underlying71 (by kernel_rfl) (by kernel_rfl) (by kernel_rfl) Try.underlying3 hf
 simp [Value.cells] at q2
 obtain ⟨rfl, rfl, rfl⟩ := q2
 exact ⟨_, _, _, b, rfl, ln, hz, wb⟩
end
end Go.Proofs.Ytmahnpbjjadipaa
namespace Go.Proofs
open Go.Shelf
def Try.keys35_ren : Go.Shelf.Ren := ⟨fun | 7 => 35 | 10 => 52 | n => n, fun | 23 => 61 | 26 => 3 | 3 => 4 | 28 => 64 | 0 => 0 | 27 => 63 | 33 => 56 | 4 => 4 | n => n, fun | n => n⟩
def Try.keys54_ren : Go.Shelf.Ren := ⟨fun | 7 => 54 | 10 => 60 | n => n, fun | 23 => 69 | 26 => 3 | 3 => 73 | 28 => 64 | 0 => 0 | 27 => 63 | 33 => 56 | 4 => 4 | n => n, fun | n => n⟩
theorem Try.keys54 : Go.Proofs.SlLaysZI.n7 Try.prog Try.keys54_ren := {
 mixed := by kernel_rfl
 f7 := ⟨Try.f54.name, by decide, Try.func54.trans (congrArg some (by kernel_rfl))⟩
 f10 := ⟨Try.f60.name, by decide, Try.func60.trans (congrArg some (by kernel_rfl))⟩
 t0 := Try.underlying0
 a0 := Try.isAgg0
 z0 := Try.sizeOf0
 v0 := Try.zeroValue0
 t4 := Try.underlying4
 a4 := Try.isAgg4
 z4 := Try.sizeOf4
 v4 := Try.zeroValue4
 t23 := Try.underlying69
 a23 := Try.isAgg69
 z23 := Try.sizeOf69
 v23 := Try.zeroValue69
 t26 := Try.underlying3
 a26 := Try.isAgg3
 z26 := Try.sizeOf3
 v26 := Try.zeroValue3
 t27 := Try.underlying63
 a27 := Try.isAgg63
 z27 := Try.sizeOf63
 v27 := Try.zeroValue63
 t28 := Try.underlying64
 a28 := Try.isAgg64
 z28 := Try.sizeOf64
 v28 := Try.zeroValue64
 t33 := Try.underlying56
 a33 := Try.isAgg56
 z33 := Try.sizeOf56
 v33 := Try.zeroValue56 }
def Try.sorted34_ren : Go.Shelf.Ren := ⟨fun | 6 => 34 | 8 => 50 | 9 => 51 | 11 => 57 | 13 => 59 | 12 => 58 | 23 => 72 | 24 => 73 | 14 => 63 | 15 => 64 | 16 => 65 | 17 => 66 | 18 => 67 | 19 => 68 | 20 => 69 | 21 => 70 | 22 => 71 | 25 => 74 | 26 => 75 | 27 => 76 | 28 => 77 | 29 => 78 | 30 => 49 | 31 => 79 | n => n, fun | 26 => 3 | 28 => 64 | 24 => 33 | 0 => 0 | 3 => 3 | 37 => 92 | 48 => 104 | 50 => 106 | 4 => 4 | 40 => 97 | 39 => 96 | 45 => 85 | 5 => 5 | 9 => 9 | 51 => 107 | 55 => 111 | 57 => 113 | 58 => 114 | 33 => 56 | n => n, fun | n => n⟩
theorem Try.sorted34 : Go.Proofs.SlLaysZI.n6 Try.prog Try.sorted34_ren := {
 mixed := by kernel_rfl
 f6 := ⟨Try.f34.name, by decide, Try.func34.trans (congrArg some (by kernel_rfl))⟩
 f8 := ⟨Try.f50.name, by decide, Try.func50.trans (congrArg some (by kernel_rfl))⟩
 f11 := ⟨Try.f57.name, by decide, Try.func57.trans (congrArg some (by kernel_rfl))⟩
 t0 := Try.underlying0
 a0 := Try.isAgg0
 z0 := Try.sizeOf0
 v0 := Try.zeroValue0
 t24 := Try.underlying33
 a24 := Try.isAgg33
 z24 := Try.sizeOf33
 v24 := Try.zeroValue33
 t26 := Try.underlying3
 a26 := Try.isAgg3
 z26 := Try.sizeOf3
 v26 := Try.zeroValue3
 t28 := Try.underlying64
 a28 := Try.isAgg64
 z28 := Try.sizeOf64
 v28 := Try.zeroValue64
 i26 := by kernel_rfl }
def Try.sort51_ren : Go.Shelf.Ren := ⟨fun | 5 => 51 | 8 => 59 | 7 => 58 | 19 => 72 | 20 => 73 | 10 => 63 | 11 => 64 | 12 => 65 | 13 => 66 | 14 => 67 | 15 => 68 | 16 => 69 | 17 => 70 | 18 => 71 | 30 => 74 | 31 => 75 | 32 => 76 | 33 => 77 | 34 => 78 | 35 => 49 | 40 => 79 | n => n, fun | 23 => 33 | 25 => 3 | 3 => 3 | 32 => 92 | 22 => 33 | 0 => 0 | 44 => 104 | 46 => 106 | 4 => 4 | 36 => 97 | 35 => 96 | 41 => 85 | 5 => 5 | 9 => 9 | 53 => 107 | 57 => 111 | 63 => 113 | 64 => 114 | n => n, fun | n => n⟩
theorem Try.sort51 : Go.Proofs.SlLaysM.n5 Try.prog Try.sort51_ren := {
 mixed := by kernel_rfl
 f5 := ⟨Try.f51.name, by decide, Try.func51.trans (congrArg some (by kernel_rfl))⟩
 f7 := ⟨Try.f58.name, by decide, Try.func58.trans (congrArg some (by kernel_rfl))⟩
 f8 := Try.func59.trans (congrArg some (by kernel_rfl))
 f10 := ⟨Try.f63.name, by decide, Try.func63.trans (congrArg some (by kernel_rfl))⟩
 f11 := ⟨Try.f64.name, by decide, Try.func64.trans (congrArg some (by kernel_rfl))⟩
 f12 := ⟨Try.f65.name, by decide, Try.func65.trans (congrArg some (by kernel_rfl))⟩
 f13 := ⟨Try.f66.name, by decide, Try.func66.trans (congrArg some (by kernel_rfl))⟩
 f14 := ⟨Try.f67.name, by decide, Try.func67.trans (congrArg some (by kernel_rfl))⟩
 f15 := ⟨Try.f68.name, by decide, Try.func68.trans (congrArg some (by kernel_rfl))⟩
 f16 := ⟨Try.f69.name, by decide, Try.func69.trans (congrArg some (by kernel_rfl))⟩
 f17 := ⟨Try.f70.name, by decide, Try.func70.trans (congrArg some (by kernel_rfl))⟩
 f18 := ⟨Try.f71.name, by decide, Try.func71.trans (congrArg some (by kernel_rfl))⟩
 f19 := Try.func72.trans (congrArg some (by kernel_rfl))
 f20 := Try.func73.trans (congrArg some (by kernel_rfl))
 f30 := ⟨Try.f74.name, by decide, Try.func74.trans (congrArg some (by kernel_rfl))⟩
 f31 := Try.func75.trans (congrArg some (by kernel_rfl))
 f32 := Try.func76.trans (congrArg some (by kernel_rfl))
 f33 := ⟨Try.f77.name, by decide, Try.func77.trans (congrArg some (by kernel_rfl))⟩
 f34 := ⟨Try.f78.name, by decide, Try.func78.trans (congrArg some (by kernel_rfl))⟩
 f35 := ⟨Try.f49.name, by decide, Try.func49.trans (congrArg some (by kernel_rfl))⟩
 f40 := ⟨Try.f79.name, by decide, Try.func79.trans (congrArg some (by kernel_rfl))⟩
 t0 := Try.underlying0
 a0 := Try.isAgg0
 z0 := Try.sizeOf0
 v0 := Try.zeroValue0
 t3 := Try.underlying3
 a3 := Try.isAgg3
 z3 := Try.sizeOf3
 v3 := Try.zeroValue3
 t4 := Try.underlying4
 a4 := Try.isAgg4
 z4 := Try.sizeOf4
 v4 := Try.zeroValue4
 t5 := Try.underlying5
 a5 := Try.isAgg5
 z5 := Try.sizeOf5
 v5 := Try.zeroValue5
 t9 := Try.underlying9
 a9 := Try.isAgg9
 z9 := Try.sizeOf9
 v9 := Try.zeroValue9
 t22 := Try.underlying33
 a22 := Try.isAgg33
 z22 := Try.sizeOf33
 v22 := Try.zeroValue33
 t23 := Try.underlying33
 a23 := Try.isAgg33
 z23 := Try.sizeOf33
 v23 := Try.zeroValue33
 t25 := Try.underlying3
 a25 := Try.isAgg3
 z25 := Try.sizeOf3
 v25 := Try.zeroValue3
 t32 := Try.underlying92
 a32 := Try.isAgg92
 z32 := Try.sizeOf92
 v32 := Try.zeroValue92
 t35 := Try.underlying96
 a35 := Try.isAgg96
 z35 := Try.sizeOf96
 v35 := Try.zeroValue96
 t36 := Try.underlying97
 a36 := Try.isAgg97
 z36 := Try.sizeOf97
 v36 := Try.zeroValue97
 t41 := Try.underlying85
 a41 := Try.isAgg85
 z41 := Try.sizeOf85
 v41 := Try.zeroValue85
 t44 := Try.underlying104
 a44 := Try.isAgg104
 z44 := Try.sizeOf104
 v44 := Try.zeroValue104
 t46 := Try.underlying106
 a46 := Try.isAgg106
 z46 := Try.sizeOf106
 v46 := Try.zeroValue106
 t53 := Try.underlying107
 a53 := Try.isAgg107
 z53 := Try.sizeOf107
 v53 := Try.zeroValue107
 t57 := Try.underlying111
 a57 := Try.isAgg111
 z57 := Try.sizeOf111
 v57 := Try.zeroValue111
 t63 := Try.underlying113
 a63 := Try.isAgg113
 z63 := Try.sizeOf113
 v63 := Try.zeroValue113
 t64 := Try.underlying114
 a64 := Try.isAgg114
 z64 := Try.sizeOf114
 v64 := Try.zeroValue114 }
end Go.Proofs
namespace Go.Proofs.Ytmahnpbjjadipaa
open Go.RowKit Go.Maps Go.Sort Go.Shelf
theorem sorts_any (m : Nat) : AnyZI.SortsIn Try.prog Try.sorted34_ren Fence.wide m :=
  ⟨fun blk off cap ss W hH hblk hsz => callsIn_wide.2 (AnyM.slices_Sort_int Try.sort51 blk off cap ss W hH hblk hsz),
   fun p cap W => callsIn_wide.2 (AnyM.slices_Sort_int_none Try.sort51 p cap W)⟩
theorem intKeys_is {w : World} {b n : Nat} {D : DataW Value} (hown : w.ownsMap Try.prog 3 heldE b n D) : (intKeys D).Nodup ∧ ∀ x, x ∈ intKeys D ↔ Maps.has D (.int .i64 x) = true := by
 obtain ⟨es, hD, hpw, _⟩ := hown.entries ti_keyed
 obtain ⟨es', hD', hko⟩ := hown.keysOf
 obtain rfl : es = es' := by rw [hD] at hD'; simpa using hD'
 subst hD
 have hk : ∀ p ∈ es, ∃ x, p.1 = Lit.int .i64 x := fun p hp => by obtain ⟨v, hv⟩ := hko p hp; obtain ⟨x, _, hx, _⟩ := Maps.keyOf_i64 Try.underlying3 hv; exact ⟨x, hx⟩
 refine ⟨?_, fun x => ?_⟩
 ·show (es.map fun p => Go.intOf p.1).Nodup
  refine List.pairwise_map.2 (hpw.imp_of_mem fun {p q} hp' hq' hne e => hne ?_)
  obtain ⟨a, ha⟩ := hk p hp'
  obtain ⟨b, hb⟩ := hk q hq'
  rw [ha, hb] at e ⊢
  exact congrArg _ e
 ·rw [has_eq, List.any_eq_true]
  show x ∈ es.map (fun p => Go.intOf p.1) ↔ _
  rw [List.mem_map]
  constructor
  ·rintro ⟨p, hp', rfl⟩
   obtain ⟨a, ha⟩ := hk p hp'
   exact ⟨p, hp', by rw [ha]; simp [Lit.sameKey, Go.intOf]⟩
  ·rintro ⟨p, hp', hs⟩
   obtain ⟨a, ha⟩ := hk p hp'
   rw [ha] at hs
   exact ⟨p, hp', by rw [ha]; simpa [Lit.sameKey, Go.intOf] using hs⟩
set_option maxHeartbeats 1000000 in
theorem sortedb_any (b n : Nat) (f : Int → Option Value) (w : World) (h : MapV w b n f) (hn : n ≤ 1000000) :
  Calls Try.prog 34 #[.func (.func 52) #[] #[.pointer (some ⟨w.heap.size, 0, none⟩)]] (w.alloc (.cells #[.map (some b)] 61)) fun e w' => ∃ (v : Value) (L : List Int), e = .returned v ∧ SlI w' v L ∧ Asc L ∧ (∀ x, x ∈ L ↔ (f x).isSome = true) ∧ Below w.heap.size w w' := by
 obtain ⟨D, hown, hD⟩ := h
 obtain ⟨hnd, hmem⟩ := intKeys_is hown
 have hbl := hown.lt
 have hsz := hown.size_le
 have hseq : SeqGives Fence.wide 2 Try.prog 52 #[.pointer (some ⟨w.heap.size, 0, none⟩)] encZ (fun ss => ss.Perm (intKeys D)) (Maps.size D) (w.alloc (.cells #[.map (some b)] 61)) :=
  AnyZI.keys_gives (ρ := Try.keys35_ren) { Try.keys35 with } Fence.wide _ trivial rfl (by omega) w.heap.size b n D _ (by simp) (by simp) (by
   obtain ⟨es, clock, hb, Ft, hs, hD⟩ := hown
   exact ⟨es, clock, (Below.heap_alloc _ _ b hbl).trans hb, Ft, hs, hD⟩)
 have cS := AnyZI.sorted_in Try.sorted34 Fence.wide 5 trivial trivial trivial trivial rfl (by omega) (sorts_any _) (enters_of Try.func51 (by kernel_rfl) rfl) 52 #[.pointer (some ⟨w.heap.size, 0, none⟩)] trivial (enters_of Try.func52 (by kernel_rfl) rfl) _ _ (by unfold maxLen; omega) (by omega) _ hseq
 refine ((callsIn_wide (n := 5)).1 cS).mono ?_
 rintro e w' ⟨v, ss, rfl, hp, hrow, _, hb⟩
 have hnd2 : ss.Nodup := hp.nodup_iff.2 hnd
 have hpm := List.mergeSort_perm ss (fun x y => decide (x ≤ y))
 refine ⟨v, ss.mergeSort (fun x y => decide (x ≤ y)), rfl, ?_, sort_asc hnd2, fun x => ?_, ?_⟩
 ·refine OwnI.sli (e := 3) (base := (w.alloc (.cells #[.map (some b)] 61)).heap.size) ?_
  unfold OwnI
  rw [List.length_mergeSort]
  exact hrow
 ·rw [hpm.mem_iff, hp.mem_iff, hmem, (hD x).1]
 ·exact ((Below.refl _ w).alloc (Nat.le_refl _) _).trans (hb.mono (by simp))
theorem keyss_any (b : Nat) (w : World) : Calls Try.prog 54 #[.map (some b)] w fun e w' => e = .returned (.func (.func 60) #[] #[.pointer (some ⟨w.heap.size, 0, none⟩)]) ∧ w' = w.alloc (.cells #[.map (some b)] 69) :=
 (callsIn_wide (n := 5)).1 (AnyZI.keys_in Try.keys54 Fence.wide 5 trivial rfl (some b) w)
set_option maxHeartbeats 1000000 in
theorem sorteds_any (b n : Nat) (f : Int → Option Value) (w : World) (h : MapV w b n f) (hn : n ≤ 1000000) :
  Calls Try.prog 34 #[.func (.func 60) #[] #[.pointer (some ⟨w.heap.size, 0, none⟩)]] (w.alloc (.cells #[.map (some b)] 69)) fun e w' => ∃ (v : Value) (L : List Int), e = .returned v ∧ SlI w' v L ∧ Asc L ∧ (∀ x, x ∈ L ↔ (f x).isSome = true) ∧ Below w.heap.size w w' := by
 obtain ⟨D, hown, hD⟩ := h
 obtain ⟨hnd, hmem⟩ := intKeys_is hown
 have hbl := hown.lt
 have hsz := hown.size_le
 have hseq : SeqGives Fence.wide 2 Try.prog 60 #[.pointer (some ⟨w.heap.size, 0, none⟩)] encZ (fun ss => ss.Perm (intKeys D)) (Maps.size D) (w.alloc (.cells #[.map (some b)] 69)) :=
  AnyZI.keys_gives (ρ := Try.keys54_ren) { Try.keys54 with } Fence.wide _ trivial rfl (by omega) w.heap.size b n D _ (by simp) (by simp) (by
   obtain ⟨es, clock, hb, Ft, hs, hD⟩ := hown
   exact ⟨es, clock, (Below.heap_alloc _ _ b hbl).trans hb, Ft, hs, hD⟩)
 have cS := AnyZI.sorted_in Try.sorted34 Fence.wide 5 trivial trivial trivial trivial rfl (by omega) (sorts_any _) (enters_of Try.func51 (by kernel_rfl) rfl) 60 #[.pointer (some ⟨w.heap.size, 0, none⟩)] trivial (enters_of Try.func60 (by kernel_rfl) rfl) _ _ (by unfold maxLen; omega) (by omega) _ hseq
 refine ((callsIn_wide (n := 5)).1 cS).mono ?_
 rintro e w' ⟨v, ss, rfl, hp, hrow, _, hb⟩
 have hnd2 : ss.Nodup := hp.nodup_iff.2 hnd
 have hpm := List.mergeSort_perm ss (fun x y => decide (x ≤ y))
 refine ⟨v, ss.mergeSort (fun x y => decide (x ≤ y)), rfl, ?_, sort_asc hnd2, fun x => ?_, ?_⟩
 ·refine OwnI.sli (e := 3) (base := (w.alloc (.cells #[.map (some b)] 69)).heap.size) ?_
  unfold OwnI
  rw [List.length_mergeSort]
  exact hrow
 ·rw [hpm.mem_iff, hp.mem_iff, hmem, (hD x).1]
 ·exact ((Below.refl _ w).alloc (Nat.le_refl _) _).trans (hb.mono (by simp))
end Go.Proofs.Ytmahnpbjjadipaa
