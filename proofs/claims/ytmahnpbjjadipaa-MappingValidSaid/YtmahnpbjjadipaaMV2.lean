/- Contracts and the law of MappingValid, part 2: what was proved of each, callees first. -/
import Derived.DeepKeys5
import Derived.WalkKit
import Derived.WalkSpells
import Derived.Lib.Hide
import Derived.Deep.QuietTactic
import Derived.BigQuiet
import Derived.LoopTactic
import Derived.Lib.SmallJoins
import Derived.Test.YtmahnpbjjadipaaMV1
namespace Go.Proofs.Ytmahnpbjjadipaa
open Go.RowKit
theorem rowB_prop {L : List Acc} {g : Bool} {k : Nat} (h : properB L g (L.getD k acc0) = false) : rowB L g k = false := by unfold rowB; rw [h]; rfl
theorem rowB_zero {L : List Acc} {g : Bool} (h : properB L g (L.getD 0 acc0) = true) : rowB L g 0 = topB L (L.getD 0 acc0) := by unfold rowB; rw [h]; simp
theorem rowB_down {L : List Acc} {g : Bool} {j : Nat} (h : (L.getD (j + 1) acc0).code ≤ (L.getD j acc0).code) : rowB L g (j + 1) = false := by
 unfold rowB
 rw [show decide (j + 1 = 0) = false from decide_eq_false (by omega), show decide ((L.getD (j + 1 - 1) acc0).code < (L.getD (j + 1) acc0).code) = false from decide_eq_false (by rw [Nat.add_sub_cancel]; omega)]
 simp
theorem rowB_up {L : List Acc} {g : Bool} {j : Nat} (h : properB L g (L.getD (j + 1) acc0) = true) (h2 : (L.getD j acc0).code < (L.getD (j + 1) acc0).code) : rowB L g (j + 1) = topB L (L.getD (j + 1) acc0) := by
 unfold rowB
 rw [h, show decide ((L.getD (j + 1 - 1) acc0).code < (L.getD (j + 1) acc0).code) = true from decide_eq_true (by rw [Nat.add_sub_cancel]; omega)]
 simp
def rvFa (b off n k : Nat) (cp : Nat) (g : Bool) (x : Acc) : List (Nat × AS.Fact) := [(15, AS.Fact.is (.slice (some ⟨b, off, none⟩) (n : Nat) cp)), (16, AS.Fact.is (.slice (some ⟨b, off, none⟩) (n : Nat) cp)), (17, AS.Fact.is (.int .i64 (k : Int))), (18, AS.Fact.is (.pointer (some ⟨b, off + k * 4, none⟩))), (19, AS.Fact.is (accV x)), (20, AS.Fact.is (.bool g)), (21, AS.Fact.is (.bool false)), (22, AS.Fact.is (.bool true)), (23, AS.Fact.is (.bool true)), (24, AS.Fact.is (undef)), (25, AS.Fact.is (undef)), (26, AS.Fact.is (undef)), (27, AS.Fact.is (undef)), (28, AS.Fact.is (undef)), (29, AS.Fact.is (undef)), (30, AS.Fact.is (undef)), (31, AS.Fact.is (undef)), (32, AS.Fact.is (undef)), (33, AS.Fact.is (undef)), (34, AS.Fact.is (undef)), (35, AS.Fact.is (undef)), (36, AS.Fact.is (undef)), (37, AS.Fact.is (undef)), (38, AS.Fact.is (undef)), (39, AS.Fact.is (undef)), (40, AS.Fact.is (.bool true)), (41, AS.Fact.is (.bool true)), (42, AS.Fact.is (undef)), (43, AS.Fact.is (undef)), (44, AS.Fact.is (undef)), (45, AS.Fact.is (undef)), (46, AS.Fact.is (undef)), (47, AS.Fact.is (undef)), (48, AS.Fact.is (undef)), (49, AS.Fact.is (undef)), (50, AS.Fact.is (undef)), (51, AS.Fact.is (undef)), (52, AS.Fact.is (undef)), (53, AS.Fact.is (.bool true))]
def rvFb (b off n k : Nat) (cp : Nat) (g : Bool) (x : Acc) (C : List Int) (cl : Nat) (q : Bool) : List (Nat × AS.Fact) := [(15, AS.Fact.is (.slice (some ⟨b, off, none⟩) (n : Nat) cp)), (16, AS.Fact.is (.slice (some ⟨b, off, none⟩) (n : Nat) cp)), (17, AS.Fact.is (.int .i64 (k : Int))), (18, AS.Fact.is (.pointer (some ⟨b, off + k * 4, none⟩))), (19, AS.Fact.is (accV x)), (20, AS.Fact.is (.bool g)), (21, AS.Fact.is (.bool true)), (22, AS.Fact.is (.bool false)), (23, AS.Fact.is (.bool false)), (24, AS.Fact.is (.int .i64 (k : Int))), (25, AS.Fact.is (.bool false)), (26, AS.Fact.is (.bool false)), (27, AS.Fact.is (undef)), (28, AS.Fact.is (undef)), (29, AS.Fact.is (undef)), (30, AS.Fact.is (undef)), (31, AS.Fact.is (undef)), (32, AS.Fact.is (undef)), (33, AS.Fact.is (undef)), (34, AS.Fact.is (undef)), (35, AS.Fact.is (undef)), (36, AS.Fact.is (undef)), (37, AS.Fact.is (undef)), (38, AS.Fact.is (undef)), (39, AS.Fact.is (.bool false)), (40, AS.Fact.is (.bool false)), (41, AS.Fact.is (.bool false)), (42, AS.Fact.is (.slice (some ⟨b, off, none⟩) (n : Nat) cp)), (43, AS.Fact.is (.slice (some ⟨b, off, none⟩) (n : Nat) cp)), (44, AS.Fact.is (.int .i64 (k : Int))), (45, AS.Fact.is (.pointer (some ⟨b, off + k * 4, none⟩))), (46, AS.Fact.is (.pointer (some ⟨b, off + k * 4, none⟩))), (47, AS.Fact.is (.int .i64 x.code)), (48, HSl C), (49, AS.Fact.is (.int .i64 (cl : Int))), (50, AS.Fact.is (.slice (some ⟨b, off, none⟩) (n : Nat) cp)), (51, AS.Fact.is (.int .i64 (n : Int))), (52, AS.Fact.is (.bool q)), (53, AS.Fact.is (.bool q))]
def rvFc (b off n k j : Nat) (cp : Nat) (g : Bool) (x y : Acc) : List (Nat × AS.Fact) := [(15, AS.Fact.is (.slice (some ⟨b, off, none⟩) (n : Nat) cp)), (16, AS.Fact.is (.slice (some ⟨b, off, none⟩) (n : Nat) cp)), (17, AS.Fact.is (.int .i64 (k : Int))), (18, AS.Fact.is (.pointer (some ⟨b, off + k * 4, none⟩))), (19, AS.Fact.is (accV x)), (20, AS.Fact.is (.bool g)), (21, AS.Fact.is (.bool true)), (22, AS.Fact.is (.bool false)), (23, AS.Fact.is (.bool false)), (24, AS.Fact.is (.int .i64 (k : Int))), (25, AS.Fact.is (.bool true)), (26, AS.Fact.is (.bool true)), (27, AS.Fact.is (.slice (some ⟨b, off, none⟩) (n : Nat) cp)), (28, AS.Fact.is (.int .i64 (k : Int))), (29, AS.Fact.is (.pointer (some ⟨b, off + k * 4, none⟩))), (30, AS.Fact.is (.pointer (some ⟨b, off + k * 4, none⟩))), (31, AS.Fact.is (.int .i64 x.code)), (32, AS.Fact.is (.slice (some ⟨b, off, none⟩) (n : Nat) cp)), (33, AS.Fact.is (.int .i64 (k : Int))), (34, AS.Fact.is (.int .i64 (j : Int))), (35, AS.Fact.is (.pointer (some ⟨b, off + j * 4, none⟩))), (36, AS.Fact.is (.pointer (some ⟨b, off + j * 4, none⟩))), (37, AS.Fact.is (.int .i64 y.code)), (38, AS.Fact.is (.bool true)), (39, AS.Fact.is (.bool true)), (40, AS.Fact.is (.bool true)), (41, AS.Fact.is (.bool true)), (42, AS.Fact.is (undef)), (43, AS.Fact.is (undef)), (44, AS.Fact.is (undef)), (45, AS.Fact.is (undef)), (46, AS.Fact.is (undef)), (47, AS.Fact.is (undef)), (48, AS.Fact.is (undef)), (49, AS.Fact.is (undef)), (50, AS.Fact.is (undef)), (51, AS.Fact.is (undef)), (52, AS.Fact.is (undef)), (53, AS.Fact.is (.bool true))]
def rvFd (b off n k j : Nat) (cp : Nat) (g : Bool) (x y : Acc) (C : List Int) (cl : Nat) (q : Bool) : List (Nat × AS.Fact) := [(15, AS.Fact.is (.slice (some ⟨b, off, none⟩) (n : Nat) cp)), (16, AS.Fact.is (.slice (some ⟨b, off, none⟩) (n : Nat) cp)), (17, AS.Fact.is (.int .i64 (k : Int))), (18, AS.Fact.is (.pointer (some ⟨b, off + k * 4, none⟩))), (19, AS.Fact.is (accV x)), (20, AS.Fact.is (.bool g)), (21, AS.Fact.is (.bool true)), (22, AS.Fact.is (.bool false)), (23, AS.Fact.is (.bool false)), (24, AS.Fact.is (.int .i64 (k : Int))), (25, AS.Fact.is (.bool true)), (26, AS.Fact.is (.bool true)), (27, AS.Fact.is (.slice (some ⟨b, off, none⟩) (n : Nat) cp)), (28, AS.Fact.is (.int .i64 (k : Int))), (29, AS.Fact.is (.pointer (some ⟨b, off + k * 4, none⟩))), (30, AS.Fact.is (.pointer (some ⟨b, off + k * 4, none⟩))), (31, AS.Fact.is (.int .i64 x.code)), (32, AS.Fact.is (.slice (some ⟨b, off, none⟩) (n : Nat) cp)), (33, AS.Fact.is (.int .i64 (k : Int))), (34, AS.Fact.is (.int .i64 (j : Int))), (35, AS.Fact.is (.pointer (some ⟨b, off + j * 4, none⟩))), (36, AS.Fact.is (.pointer (some ⟨b, off + j * 4, none⟩))), (37, AS.Fact.is (.int .i64 y.code)), (38, AS.Fact.is (.bool false)), (39, AS.Fact.is (.bool false)), (40, AS.Fact.is (.bool false)), (41, AS.Fact.is (.bool false)), (42, AS.Fact.is (.slice (some ⟨b, off, none⟩) (n : Nat) cp)), (43, AS.Fact.is (.slice (some ⟨b, off, none⟩) (n : Nat) cp)), (44, AS.Fact.is (.int .i64 (k : Int))), (45, AS.Fact.is (.pointer (some ⟨b, off + k * 4, none⟩))), (46, AS.Fact.is (.pointer (some ⟨b, off + k * 4, none⟩))), (47, AS.Fact.is (.int .i64 x.code)), (48, HSl C), (49, AS.Fact.is (.int .i64 (cl : Int))), (50, AS.Fact.is (.slice (some ⟨b, off, none⟩) (n : Nat) cp)), (51, AS.Fact.is (.int .i64 (n : Int))), (52, AS.Fact.is (.bool q)), (53, AS.Fact.is (.bool q))]
set_option maxRecDepth 20000 in
set_option maxHeartbeats 3200000 in
theorem rvalid8_any (A : Option Addr) (cp : Nat) (L : List Acc) (g : Bool) (w : World) (hz : AccAt w A L) (hl : L.length ≤ 1000) :
  Calls Try.prog 25 #[.slice A L.length cp, .bool g] w fun e w' => e = .returned (.bool (rvB L g)) ∧ Below w.heap.size w w' := by
 have hB := Below.refl w.heap.size w
 have hPr := fun x w h => rproper_any A cp L x g w h hl
 have hCb := fun c w h => rclimb_any A cp L c w h hl
 obtain ⟨n, hn⟩ : ∃ n, L.length = n := ⟨_, rfl⟩
 have hn0 := hn
 rw [hn] at hl hPr hCb ⊢
 have HN := Lib.hid hn
 have HZ := Lib.hid hz
 have HPr := Lib.hid hPr
 have HCb := Lib.hid hCb
 clear hn hz hPr hCb
 by_cases hbig : 200 < n
 ·have E : Hid (rvB L g = false) := Lib.hid (by unfold rvB; rw [decide_eq_false (by omega)]; rfl)
  have e1 : decide ((200 : Int) < (n : Int)) = true := decide_eq_true (by omega)
  clear hn0
  go_enter Try.func25, Try.ntmps25
  go_wp2_with fail
  go_ret
  exact ⟨by rw [E.out]; rfl, hB⟩
 have HV : Hid (rvB L g = rowsTo L g n) := Lib.hid (by unfold rvB; rw [decide_eq_true (by omega), hn0]; rfl)
 have e1 : decide ((200 : Int) < (n : Int)) = false := decide_eq_false (by omega)
 clear hn0
 go_enter Try.func25, Try.ntmps25
 go_wp2_with fail
 go_loopg [5] n (fun kx s5 wr => ∃ k : Nat, s5 = .int .i64 k ∧ k ≤ n ∧ n - k ≤ kx ∧ Hid (rowsTo L g k = true) ∧ Below w.heap.size w wr)
 case atStart => exact ⟨0, rfl, by omega, by omega, Lib.hid rfl, hB⟩
 case round =>
  clear hB
  obtain ⟨k, rfl, hk, hkx, HR, hB⟩ := hrel
  by_cases hlt : k < n
  ·have hltz : (k : Int) < (n : Int) := by omega
   have HZW := Lib.hid (HZ.out.up hB)
   obtain ⟨b, off, rfl, hbw, hcs⟩ := HZW.out (by rw [HN.out]; omega)
   have hbW : b < wr.heap.size := hbw
   obtain ⟨x, hx⟩ : ∃ x, L.getD k acc0 = x := ⟨_, rfl⟩
   have hx4 := hcs k (by rw [HN.out]; exact hlt)
   rw [hx] at hx4
   have HX := Lib.hid hx
   have HX4 := Lib.hid hx4
   have HCS := Lib.hid hcs
   have hpr := HPr.out x
   have hcb := HCb.out x.code
   clear hcs hx hx4 hbw
   go_wp2_with fail
   cases hp : properB L g x
   ·have E : Hid (rvB L g = false) := Lib.hid (rvB_no (k := k) (by rw [HN.out]; exact hlt) (rowB_prop (by rw [HX.out]; exact hp)))
    rw [hp] at hpr
    replace HPr := Lib.hid hpr
    clear hpr hcb HCb hp
    refine AS.region_facts (rvFa b off n k cp g x) (HNo wr) [[], [], [], [16, 17], [18], [], [15, 19, 20], [21], [22], [23], [23], [23], [26], [26], [26], [26], [26], [26], [26], [26], [26], [26], [26], [26], [23], [23, 39], [40], [41], [41], [41], [41], [41], [41], [41], [41], [41], [41], [41], [41, 52]] [] [[]] [0, 0, 0, 0, 0, 0, 0, 0, 0, 0, 0, 0, 0, 0, 0, 0, 0, 0, 0, 0, 0, 0, 0, 0, 0, 0, 0, 0, 0, 0, 0, 0, 0, 0, 0, 0, 0, 0, 0] [] (fun u => by simp only [rvFa, AS.temps, List.map_cons, List.map_nil, fillL, List.setIfInBounds_toArray, List.set_cons_zero, List.set_cons_succ]; rfl) (by kernel_rfl) (by kernel_rfl) (HNo.st wr) (dc_drew (Below.refl _ _)) ?_ ?_
    ·refine AS.sc rfl rfl rfl ?_ ?_
     ·intro k_ u w_ hk_ hJ hF K hK
      clear hF
      go_simp
      exact hK.out _ _ (Below.refl _ _) (rfl) trivial
     refine AS.sc rfl rfl rfl ?_ ?_
     ·intro k_ u w_ hk_ hJ hF K hK
      clear hF
      go_simp
      exact hK.out _ _ (Below.refl _ _) (rfl) trivial
     refine AS.sc rfl rfl rfl ?_ ?_
     ·intro k_ u w_ hk_ hJ hF K hK
      clear hF
      go_simp
      exact hK.out _ _ (Below.refl _ _) (rfl) trivial
     refine AS.sc rfl rfl rfl ?_ ?_
     ·intro k_ u w_ hk_ hJ hF K hK
      have h16 : u 16 = .slice (some ⟨b, off, none⟩) (n : Nat) cp := AS.facts_get hF 16 (by simp)
      have h17 : u 17 = .int .i64 (k : Int) := AS.facts_get hF 17 (by simp)
      clear hF
      simp only [h16, h17] at hK ⊢
      clear h16 h17
      go_simp
      exact hK.out _ _ (Below.refl _ _) (rfl) trivial
     refine AS.sc rfl rfl rfl ?_ ?_
     ·intro k_ u w_ hk_ hJ hF K hK
      have h18 : u 18 = .pointer (some ⟨b, off + k * 4, none⟩) := AS.facts_get hF 18 (by simp)
      clear hF
      simp only [h18] at hK ⊢
      clear h18
      obtain ⟨c0, c1, c2, c3⟩ := HX4.out.up (hJ : Below wr.heap.size wr w_) hbW
      go_simp
      exact hK.out _ _ (Below.refl _ _) (rfl) trivial
     refine AS.sc rfl rfl rfl ?_ ?_
     ·intro k_ u w_ hk_ hJ hF K hK
      clear hF
      go_simp
      exact hK.out _ _ (Below.refl _ _) (rfl) trivial
     refine AS.sc rfl rfl rfl ?_ ?_
     ·intro k_ u w_ hk_ hJ hF K hK
      have h15 : u 15 = .slice (some ⟨b, off, none⟩) (n : Nat) cp := AS.facts_get hF 15 (by simp)
      have h19 : u 19 = accV x := AS.facts_get hF 19 (by simp)
      have h20 : u 20 = .bool g := AS.facts_get hF 20 (by simp)
      clear hF
      simp only [h15, h19, h20] at hK ⊢
      clear h15 h19 h20
      have hz9 := HZW.out.up (hJ : Below wr.heap.size wr w_)
      go_simp
      refine (HPr.out _ hz9).mono ?_
      rintro e w3 ⟨rfl, hb⟩
      exact hK.out _ _ hb (rfl) trivial
     refine AS.sc rfl rfl rfl ?_ ?_
     ·intro k_ u w_ hk_ hJ hF K hK
      have h21 : u 21 = .bool false := AS.facts_get hF 21 (by simp)
      clear hF
      simp only [h21] at hK ⊢
      clear h21
      go_simp
      exact hK.out _ _ (Below.refl _ _) (rfl) trivial
     refine AS.sc rfl rfl rfl ?_ ?_
     ·intro k_ u w_ hk_ hJ hF K hK
      have h22 : u 22 = .bool true := AS.facts_get hF 22 (by simp)
      clear hF
      simp only [h22] at hK ⊢
      clear h22
      go_simp
      exact hK.out _ _ (Below.refl _ _) (rfl) trivial
     refine AS.sc rfl rfl rfl ?_ ?_
     ·intro k_ u w_ hk_ hJ hF K hK
      have h23 : u 23 = .bool true := AS.facts_get hF 23 (by simp)
      clear hF
      simp only [h23] at hK ⊢
      clear h23
      go_simp
      exact hK.out _ _ (Below.refl _ _) (rfl) trivial
     refine AS.sc rfl rfl rfl ?_ ?_
     ·intro k_ u w_ hk_ hJ hF K hK
      have h23 : u 23 = .bool true := AS.facts_get hF 23 (by simp)
      clear hF
      simp only [h23] at hK ⊢
      clear h23
      go_simp
      exact hK.out _ _ (Below.refl _ _) (rfl) trivial
     refine AS.sc rfl rfl rfl ?_ ?_
     ·intro k_ u w_ hk_ hJ hF K hK
      have h23 : u 23 = .bool true := AS.facts_get hF 23 (by simp)
      clear hF
      simp only [h23] at hK ⊢
      clear h23
      go_simp
      exact hK.out _ _ (Below.refl _ _) (rfl) trivial
     refine AS.sc rfl rfl rfl ?_ ?_
     ·intro k_ u w_ hk_ hJ hF K hK
      have h26 : u 26 = undef := AS.facts_get hF 26 (by simp)
      clear hF
      simp only [h26] at hK ⊢
      clear h26
      go_simp
      exact hK.out _ _ (Below.refl _ _) (rfl) trivial
     refine AS.sc rfl rfl rfl ?_ ?_
     ·intro k_ u w_ hk_ hJ hF K hK
      have h26 : u 26 = undef := AS.facts_get hF 26 (by simp)
      clear hF
      simp only [h26] at hK ⊢
      clear h26
      go_simp
      exact hK.out _ _ (Below.refl _ _) (rfl) trivial
     refine AS.sc rfl rfl rfl ?_ ?_
     ·intro k_ u w_ hk_ hJ hF K hK
      have h26 : u 26 = undef := AS.facts_get hF 26 (by simp)
      clear hF
      simp only [h26] at hK ⊢
      clear h26
      go_simp
      exact hK.out _ _ (Below.refl _ _) (rfl) trivial
     refine AS.sc rfl rfl rfl ?_ ?_
     ·intro k_ u w_ hk_ hJ hF K hK
      have h26 : u 26 = undef := AS.facts_get hF 26 (by simp)
      clear hF
      simp only [h26] at hK ⊢
      clear h26
      go_simp
      exact hK.out _ _ (Below.refl _ _) (rfl) trivial
     refine AS.sc rfl rfl rfl ?_ ?_
     ·intro k_ u w_ hk_ hJ hF K hK
      have h26 : u 26 = undef := AS.facts_get hF 26 (by simp)
      clear hF
      simp only [h26] at hK ⊢
      clear h26
      go_simp
      exact hK.out _ _ (Below.refl _ _) (rfl) trivial
     refine AS.sc rfl rfl rfl ?_ ?_
     ·intro k_ u w_ hk_ hJ hF K hK
      have h26 : u 26 = undef := AS.facts_get hF 26 (by simp)
      clear hF
      simp only [h26] at hK ⊢
      clear h26
      go_simp
      exact hK.out _ _ (Below.refl _ _) (rfl) trivial
     refine AS.sc rfl rfl rfl ?_ ?_
     ·intro k_ u w_ hk_ hJ hF K hK
      have h26 : u 26 = undef := AS.facts_get hF 26 (by simp)
      clear hF
      simp only [h26] at hK ⊢
      clear h26
      go_simp
      exact hK.out _ _ (Below.refl _ _) (rfl) trivial
     refine AS.sc rfl rfl rfl ?_ ?_
     ·intro k_ u w_ hk_ hJ hF K hK
      have h26 : u 26 = undef := AS.facts_get hF 26 (by simp)
      clear hF
      simp only [h26] at hK ⊢
      clear h26
      go_simp
      exact hK.out _ _ (Below.refl _ _) (rfl) trivial
     refine AS.sc rfl rfl rfl ?_ ?_
     ·intro k_ u w_ hk_ hJ hF K hK
      have h26 : u 26 = undef := AS.facts_get hF 26 (by simp)
      clear hF
      simp only [h26] at hK ⊢
      clear h26
      go_simp
      exact hK.out _ _ (Below.refl _ _) (rfl) trivial
     refine AS.sc rfl rfl rfl ?_ ?_
     ·intro k_ u w_ hk_ hJ hF K hK
      have h26 : u 26 = undef := AS.facts_get hF 26 (by simp)
      clear hF
      simp only [h26] at hK ⊢
      clear h26
      go_simp
      exact hK.out _ _ (Below.refl _ _) (rfl) trivial
     refine AS.sc rfl rfl rfl ?_ ?_
     ·intro k_ u w_ hk_ hJ hF K hK
      have h26 : u 26 = undef := AS.facts_get hF 26 (by simp)
      clear hF
      simp only [h26] at hK ⊢
      clear h26
      go_simp
      exact hK.out _ _ (Below.refl _ _) (rfl) trivial
     refine AS.sc rfl rfl rfl ?_ ?_
     ·intro k_ u w_ hk_ hJ hF K hK
      have h26 : u 26 = undef := AS.facts_get hF 26 (by simp)
      clear hF
      simp only [h26] at hK ⊢
      clear h26
      go_simp
      exact hK.out _ _ (Below.refl _ _) (rfl) trivial
     refine AS.sc rfl rfl rfl ?_ ?_
     ·intro k_ u w_ hk_ hJ hF K hK
      have h23 : u 23 = .bool true := AS.facts_get hF 23 (by simp)
      clear hF
      simp only [h23] at hK ⊢
      clear h23
      go_simp
      exact hK.out _ _ (Below.refl _ _) (rfl) trivial
     refine AS.sc rfl rfl rfl ?_ ?_
     ·intro k_ u w_ hk_ hJ hF K hK
      have h23 : u 23 = .bool true := AS.facts_get hF 23 (by simp)
      have h39 : u 39 = undef := AS.facts_get hF 39 (by simp)
      clear hF
      simp only [h23, h39] at hK ⊢
      clear h23 h39
      go_simp
      exact hK.out _ _ (Below.refl _ _) (rfl) trivial
     refine AS.sc rfl rfl rfl ?_ ?_
     ·intro k_ u w_ hk_ hJ hF K hK
      have h40 : u 40 = .bool true := AS.facts_get hF 40 (by simp)
      clear hF
      simp only [h40] at hK ⊢
      clear h40
      go_simp
      exact hK.out _ _ (Below.refl _ _) (rfl) trivial
     refine AS.sc rfl rfl rfl ?_ ?_
     ·intro k_ u w_ hk_ hJ hF K hK
      have h41 : u 41 = .bool true := AS.facts_get hF 41 (by simp)
      clear hF
      simp only [h41] at hK ⊢
      clear h41
      go_simp
      exact hK.out _ _ (Below.refl _ _) (rfl) trivial
     refine AS.sc rfl rfl rfl ?_ ?_
     ·intro k_ u w_ hk_ hJ hF K hK
      have h41 : u 41 = .bool true := AS.facts_get hF 41 (by simp)
      clear hF
      simp only [h41] at hK ⊢
      clear h41
      go_simp
      exact hK.out _ _ (Below.refl _ _) (rfl) trivial
     refine AS.sc rfl rfl rfl ?_ ?_
     ·intro k_ u w_ hk_ hJ hF K hK
      have h41 : u 41 = .bool true := AS.facts_get hF 41 (by simp)
      clear hF
      simp only [h41] at hK ⊢
      clear h41
      go_simp
      exact hK.out _ _ (Below.refl _ _) (rfl) trivial
     refine AS.sc rfl rfl rfl ?_ ?_
     ·intro k_ u w_ hk_ hJ hF K hK
      have h41 : u 41 = .bool true := AS.facts_get hF 41 (by simp)
      clear hF
      simp only [h41] at hK ⊢
      clear h41
      go_simp
      exact hK.out _ _ (Below.refl _ _) (rfl) trivial
     refine AS.sc rfl rfl rfl ?_ ?_
     ·intro k_ u w_ hk_ hJ hF K hK
      have h41 : u 41 = .bool true := AS.facts_get hF 41 (by simp)
      clear hF
      simp only [h41] at hK ⊢
      clear h41
      go_simp
      exact hK.out _ _ (Below.refl _ _) (rfl) trivial
     refine AS.sc rfl rfl rfl ?_ ?_
     ·intro k_ u w_ hk_ hJ hF K hK
      have h41 : u 41 = .bool true := AS.facts_get hF 41 (by simp)
      clear hF
      simp only [h41] at hK ⊢
      clear h41
      go_simp
      exact hK.out _ _ (Below.refl _ _) (rfl) trivial
     refine AS.sc rfl rfl rfl ?_ ?_
     ·intro k_ u w_ hk_ hJ hF K hK
      have h41 : u 41 = .bool true := AS.facts_get hF 41 (by simp)
      clear hF
      simp only [h41] at hK ⊢
      clear h41
      go_simp
      exact hK.out _ _ (Below.refl _ _) (rfl) trivial
     refine AS.sc rfl rfl rfl ?_ ?_
     ·intro k_ u w_ hk_ hJ hF K hK
      have h41 : u 41 = .bool true := AS.facts_get hF 41 (by simp)
      clear hF
      simp only [h41] at hK ⊢
      clear h41
      go_simp
      exact hK.out _ _ (Below.refl _ _) (rfl) trivial
     refine AS.sc rfl rfl rfl ?_ ?_
     ·intro k_ u w_ hk_ hJ hF K hK
      have h41 : u 41 = .bool true := AS.facts_get hF 41 (by simp)
      clear hF
      simp only [h41] at hK ⊢
      clear h41
      go_simp
      exact hK.out _ _ (Below.refl _ _) (rfl) trivial
     refine AS.sc rfl rfl rfl ?_ ?_
     ·intro k_ u w_ hk_ hJ hF K hK
      have h41 : u 41 = .bool true := AS.facts_get hF 41 (by simp)
      clear hF
      simp only [h41] at hK ⊢
      clear h41
      go_simp
      exact hK.out _ _ (Below.refl _ _) (rfl) trivial
     refine AS.sc rfl rfl rfl ?_ ?_
     ·intro k_ u w_ hk_ hJ hF K hK
      have h41 : u 41 = .bool true := AS.facts_get hF 41 (by simp)
      clear hF
      simp only [h41] at hK ⊢
      clear h41
      go_simp
      exact hK.out _ _ (Below.refl _ _) (rfl) trivial
     refine AS.sc rfl rfl rfl ?_ ?_
     ·intro k_ u w_ hk_ hJ hF K hK
      have h41 : u 41 = .bool true := AS.facts_get hF 41 (by simp)
      have h52 : u 52 = undef := AS.facts_get hF 52 (by simp)
      clear hF
      simp only [h41, h52] at hK ⊢
      clear h41 h52
      go_simp
      exact hK.out _ _ (Below.refl _ _) (rfl) trivial
     exact AS.StepsOk.nil
    ·intro u W9 hJ9 hF
     have h53 : u 53 = .bool true := AS.facts_get hF 53 (by simp [rvFa, AS.temps])
     have hB9 : Below wr.heap.size wr W9 := hJ9
     clear hF hJ9
     simp only [h53]
     clear h53
     go_wp2_with fail
     go_ret
     exact ⟨by rw [E.out]; rfl, hB.trans (hB9.mono hB.size)⟩
   ·rw [hp] at hpr
    replace HPr := Lib.hid hpr
    have htb : topB L x = decide ((climb L x.code).length ≤ L.length) := rfl
    obtain ⟨C, hC⟩ : ∃ C, climb L x.code = C := ⟨_, rfl⟩
    obtain ⟨cl, hcl⟩ : ∃ cl, C.length = cl := ⟨_, rfl⟩
    rw [hC] at hcb
    rw [hC, hcl, HN.out] at htb
    replace HCb := Lib.hid hcb
    have HCL := Lib.hid hcl
    have HTB := Lib.hid htb
    have hcl2 : cl ≤ 2000 := by have := climb_le (L := L) (c := x.code); rw [hC, hcl, HN.out] at this; omega
    have HP := Lib.hid hp
    clear hpr hcb hp hC hcl htb
    obtain ⟨q, hq⟩ : ∃ q, decide (n < cl) = q := ⟨_, rfl⟩
    have HTQ : Hid (topB L x = !q) := Lib.hid (by
     rw [HTB.out, ← hq]
     rcases Nat.lt_or_ge n cl with h1 | h1
     ·rw [decide_eq_false (show ¬ cl ≤ n by omega), decide_eq_true (show n < cl by omega)]; rfl
     ·rw [decide_eq_true (show cl ≤ n by omega), decide_eq_false (show ¬ n < cl by omega)]; rfl)
    rcases Nat.eq_zero_or_pos k with hk0 | hk0
    ·have HQ : Hid (rowB L g k = !q) := Lib.hid (by subst hk0; rw [rowB_zero (by rw [HX.out]; exact HP.out), HX.out]; exact HTQ.out)
     have e2 : decide (0 < k) = false := decide_eq_false (by omega)
     clear hk0
     refine AS.region_facts (rvFb b off n k cp g x C cl q) (HNo wr) [[], [], [], [16, 17], [18], [], [15, 19, 20], [21], [22], [23], [24, 23], [25, 23], [26], [26], [26], [26], [26], [26], [26], [26], [26], [26], [26], [26], [26, 38, 23], [23, 39], [40], [41], [41], [41], [43, 44, 41], [45, 41], [46, 41], [42, 47, 41], [48, 41], [41], [50, 41], [49, 51, 41], [41, 52]] [] [[]] [0, 0, 0, 0, 0, 0, 0, 0, 0, 0, 0, 0, 0, 0, 0, 0, 0, 0, 0, 0, 0, 0, 0, 0, 0, 0, 0, 0, 0, 0, 0, 0, 0, 0, 0, 0, 0, 0, 0] [] (fun u => by simp only [rvFb, AS.temps, List.map_cons, List.map_nil, fillL, List.setIfInBounds_toArray, List.set_cons_zero, List.set_cons_succ]; rfl) (by kernel_rfl) (by kernel_rfl) (HNo.st wr) (dc_drew (Below.refl _ _)) ?_ ?_
     ·refine AS.sc rfl rfl rfl ?_ ?_
      ·intro k_ u w_ hk_ hJ hF K hK
       clear hF
       go_simp
       exact hK.out _ _ (Below.refl _ _) (rfl) trivial
      refine AS.sc rfl rfl rfl ?_ ?_
      ·intro k_ u w_ hk_ hJ hF K hK
       clear hF
       go_simp
       exact hK.out _ _ (Below.refl _ _) (rfl) trivial
      refine AS.sc rfl rfl rfl ?_ ?_
      ·intro k_ u w_ hk_ hJ hF K hK
       clear hF
       go_simp
       exact hK.out _ _ (Below.refl _ _) (rfl) trivial
      refine AS.sc rfl rfl rfl ?_ ?_
      ·intro k_ u w_ hk_ hJ hF K hK
       have h16 : u 16 = .slice (some ⟨b, off, none⟩) (n : Nat) cp := AS.facts_get hF 16 (by simp)
       have h17 : u 17 = .int .i64 (k : Int) := AS.facts_get hF 17 (by simp)
       clear hF
       simp only [h16, h17] at hK ⊢
       clear h16 h17
       go_simp
       exact hK.out _ _ (Below.refl _ _) (rfl) trivial
      refine AS.sc rfl rfl rfl ?_ ?_
      ·intro k_ u w_ hk_ hJ hF K hK
       have h18 : u 18 = .pointer (some ⟨b, off + k * 4, none⟩) := AS.facts_get hF 18 (by simp)
       clear hF
       simp only [h18] at hK ⊢
       clear h18
       obtain ⟨c0, c1, c2, c3⟩ := HX4.out.up (hJ : Below wr.heap.size wr w_) hbW
       go_simp
       exact hK.out _ _ (Below.refl _ _) (rfl) trivial
      refine AS.sc rfl rfl rfl ?_ ?_
      ·intro k_ u w_ hk_ hJ hF K hK
       clear hF
       go_simp
       exact hK.out _ _ (Below.refl _ _) (rfl) trivial
      refine AS.sc rfl rfl rfl ?_ ?_
      ·intro k_ u w_ hk_ hJ hF K hK
       have h15 : u 15 = .slice (some ⟨b, off, none⟩) (n : Nat) cp := AS.facts_get hF 15 (by simp)
       have h19 : u 19 = accV x := AS.facts_get hF 19 (by simp)
       have h20 : u 20 = .bool g := AS.facts_get hF 20 (by simp)
       clear hF
       simp only [h15, h19, h20] at hK ⊢
       clear h15 h19 h20
       have hz9 := HZW.out.up (hJ : Below wr.heap.size wr w_)
       go_simp
       refine (HPr.out _ hz9).mono ?_
       rintro e w3 ⟨rfl, hb⟩
       exact hK.out _ _ hb (rfl) trivial
      refine AS.sc rfl rfl rfl ?_ ?_
      ·intro k_ u w_ hk_ hJ hF K hK
       have h21 : u 21 = .bool true := AS.facts_get hF 21 (by simp)
       clear hF
       simp only [h21] at hK ⊢
       clear h21
       go_simp
       exact hK.out _ _ (Below.refl _ _) (rfl) trivial
      refine AS.sc rfl rfl rfl ?_ ?_
      ·intro k_ u w_ hk_ hJ hF K hK
       have h22 : u 22 = .bool false := AS.facts_get hF 22 (by simp)
       clear hF
       simp only [h22] at hK ⊢
       clear h22
       go_simp
       exact hK.out _ _ (Below.refl _ _) (rfl) trivial
      refine AS.sc rfl rfl rfl ?_ ?_
      ·intro k_ u w_ hk_ hJ hF K hK
       have h23 : u 23 = .bool false := AS.facts_get hF 23 (by simp)
       clear hF
       simp only [h23] at hK ⊢
       clear h23
       go_simp
       exact hK.out _ _ (Below.refl _ _) (rfl) trivial
      refine AS.sc rfl rfl rfl ?_ ?_
      ·intro k_ u w_ hk_ hJ hF K hK
       have h24 : u 24 = .int .i64 (k : Int) := AS.facts_get hF 24 (by simp)
       have h23 : u 23 = .bool false := AS.facts_get hF 23 (by simp)
       clear hF
       simp only [h24, h23] at hK ⊢
       clear h24 h23
       go_simp
       exact hK.out _ _ (Below.refl _ _) (rfl) trivial
      refine AS.sc rfl rfl rfl ?_ ?_
      ·intro k_ u w_ hk_ hJ hF K hK
       have h25 : u 25 = .bool false := AS.facts_get hF 25 (by simp)
       have h23 : u 23 = .bool false := AS.facts_get hF 23 (by simp)
       clear hF
       simp only [h25, h23] at hK ⊢
       clear h25 h23
       go_simp
       exact hK.out _ _ (Below.refl _ _) (rfl) trivial
      refine AS.sc rfl rfl rfl ?_ ?_
      ·intro k_ u w_ hk_ hJ hF K hK
       have h26 : u 26 = .bool false := AS.facts_get hF 26 (by simp)
       clear hF
       simp only [h26] at hK ⊢
       clear h26
       go_simp
       exact hK.out _ _ (Below.refl _ _) (rfl) trivial
      refine AS.sc rfl rfl rfl ?_ ?_
      ·intro k_ u w_ hk_ hJ hF K hK
       have h26 : u 26 = .bool false := AS.facts_get hF 26 (by simp)
       clear hF
       simp only [h26] at hK ⊢
       clear h26
       go_simp
       exact hK.out _ _ (Below.refl _ _) (rfl) trivial
      refine AS.sc rfl rfl rfl ?_ ?_
      ·intro k_ u w_ hk_ hJ hF K hK
       have h26 : u 26 = .bool false := AS.facts_get hF 26 (by simp)
       clear hF
       simp only [h26] at hK ⊢
       clear h26
       go_simp
       exact hK.out _ _ (Below.refl _ _) (rfl) trivial
      refine AS.sc rfl rfl rfl ?_ ?_
      ·intro k_ u w_ hk_ hJ hF K hK
       have h26 : u 26 = .bool false := AS.facts_get hF 26 (by simp)
       clear hF
       simp only [h26] at hK ⊢
       clear h26
       go_simp
       exact hK.out _ _ (Below.refl _ _) (rfl) trivial
      refine AS.sc rfl rfl rfl ?_ ?_
      ·intro k_ u w_ hk_ hJ hF K hK
       have h26 : u 26 = .bool false := AS.facts_get hF 26 (by simp)
       clear hF
       simp only [h26] at hK ⊢
       clear h26
       go_simp
       exact hK.out _ _ (Below.refl _ _) (rfl) trivial
      refine AS.sc rfl rfl rfl ?_ ?_
      ·intro k_ u w_ hk_ hJ hF K hK
       have h26 : u 26 = .bool false := AS.facts_get hF 26 (by simp)
       clear hF
       simp only [h26] at hK ⊢
       clear h26
       go_simp
       exact hK.out _ _ (Below.refl _ _) (rfl) trivial
      refine AS.sc rfl rfl rfl ?_ ?_
      ·intro k_ u w_ hk_ hJ hF K hK
       have h26 : u 26 = .bool false := AS.facts_get hF 26 (by simp)
       clear hF
       simp only [h26] at hK ⊢
       clear h26
       go_simp
       exact hK.out _ _ (Below.refl _ _) (rfl) trivial
      refine AS.sc rfl rfl rfl ?_ ?_
      ·intro k_ u w_ hk_ hJ hF K hK
       have h26 : u 26 = .bool false := AS.facts_get hF 26 (by simp)
       clear hF
       simp only [h26] at hK ⊢
       clear h26
       go_simp
       exact hK.out _ _ (Below.refl _ _) (rfl) trivial
      refine AS.sc rfl rfl rfl ?_ ?_
      ·intro k_ u w_ hk_ hJ hF K hK
       have h26 : u 26 = .bool false := AS.facts_get hF 26 (by simp)
       clear hF
       simp only [h26] at hK ⊢
       clear h26
       go_simp
       exact hK.out _ _ (Below.refl _ _) (rfl) trivial
      refine AS.sc rfl rfl rfl ?_ ?_
      ·intro k_ u w_ hk_ hJ hF K hK
       have h26 : u 26 = .bool false := AS.facts_get hF 26 (by simp)
       clear hF
       simp only [h26] at hK ⊢
       clear h26
       go_simp
       exact hK.out _ _ (Below.refl _ _) (rfl) trivial
      refine AS.sc rfl rfl rfl ?_ ?_
      ·intro k_ u w_ hk_ hJ hF K hK
       have h26 : u 26 = .bool false := AS.facts_get hF 26 (by simp)
       clear hF
       simp only [h26] at hK ⊢
       clear h26
       go_simp
       exact hK.out _ _ (Below.refl _ _) (rfl) trivial
      refine AS.sc rfl rfl rfl ?_ ?_
      ·intro k_ u w_ hk_ hJ hF K hK
       have h26 : u 26 = .bool false := AS.facts_get hF 26 (by simp)
       clear hF
       simp only [h26] at hK ⊢
       clear h26
       go_simp
       exact hK.out _ _ (Below.refl _ _) (rfl) trivial
      refine AS.sc rfl rfl rfl ?_ ?_
      ·intro k_ u w_ hk_ hJ hF K hK
       have h26 : u 26 = .bool false := AS.facts_get hF 26 (by simp)
       have h38 : u 38 = undef := AS.facts_get hF 38 (by simp)
       have h23 : u 23 = .bool false := AS.facts_get hF 23 (by simp)
       clear hF
       simp only [h26, h38, h23] at hK ⊢
       clear h26 h38 h23
       go_simp
       exact hK.out _ _ (Below.refl _ _) (rfl) trivial
      refine AS.sc rfl rfl rfl ?_ ?_
      ·intro k_ u w_ hk_ hJ hF K hK
       have h23 : u 23 = .bool false := AS.facts_get hF 23 (by simp)
       have h39 : u 39 = .bool false := AS.facts_get hF 39 (by simp)
       clear hF
       simp only [h23, h39] at hK ⊢
       clear h23 h39
       go_simp
       exact hK.out _ _ (Below.refl _ _) (rfl) trivial
      refine AS.sc rfl rfl rfl ?_ ?_
      ·intro k_ u w_ hk_ hJ hF K hK
       have h40 : u 40 = .bool false := AS.facts_get hF 40 (by simp)
       clear hF
       simp only [h40] at hK ⊢
       clear h40
       go_simp
       exact hK.out _ _ (Below.refl _ _) (rfl) trivial
      refine AS.sc rfl rfl rfl ?_ ?_
      ·intro k_ u w_ hk_ hJ hF K hK
       have h41 : u 41 = .bool false := AS.facts_get hF 41 (by simp)
       clear hF
       simp only [h41] at hK ⊢
       clear h41
       go_simp
       exact hK.out _ _ (Below.refl _ _) (rfl) trivial
      refine AS.sc rfl rfl rfl ?_ ?_
      ·intro k_ u w_ hk_ hJ hF K hK
       have h41 : u 41 = .bool false := AS.facts_get hF 41 (by simp)
       clear hF
       simp only [h41] at hK ⊢
       clear h41
       go_simp
       exact hK.out _ _ (Below.refl _ _) (rfl) trivial
      refine AS.sc rfl rfl rfl ?_ ?_
      ·intro k_ u w_ hk_ hJ hF K hK
       have h41 : u 41 = .bool false := AS.facts_get hF 41 (by simp)
       clear hF
       simp only [h41] at hK ⊢
       clear h41
       go_simp
       exact hK.out _ _ (Below.refl _ _) (rfl) trivial
      refine AS.sc rfl rfl rfl ?_ ?_
      ·intro k_ u w_ hk_ hJ hF K hK
       have h43 : u 43 = .slice (some ⟨b, off, none⟩) (n : Nat) cp := AS.facts_get hF 43 (by simp)
       have h44 : u 44 = .int .i64 (k : Int) := AS.facts_get hF 44 (by simp)
       have h41 : u 41 = .bool false := AS.facts_get hF 41 (by simp)
       clear hF
       simp only [h43, h44, h41] at hK ⊢
       clear h43 h44 h41
       go_simp
       exact hK.out _ _ (Below.refl _ _) (rfl) trivial
      refine AS.sc rfl rfl rfl ?_ ?_
      ·intro k_ u w_ hk_ hJ hF K hK
       have h45 : u 45 = .pointer (some ⟨b, off + k * 4, none⟩) := AS.facts_get hF 45 (by simp)
       have h41 : u 41 = .bool false := AS.facts_get hF 41 (by simp)
       clear hF
       simp only [h45, h41] at hK ⊢
       clear h45 h41
       go_simp
       exact hK.out _ _ (Below.refl _ _) (rfl) trivial
      refine AS.sc rfl rfl rfl ?_ ?_
      ·intro k_ u w_ hk_ hJ hF K hK
       have h46 : u 46 = .pointer (some ⟨b, off + k * 4, none⟩) := AS.facts_get hF 46 (by simp)
       have h41 : u 41 = .bool false := AS.facts_get hF 41 (by simp)
       clear hF
       simp only [h46, h41] at hK ⊢
       clear h46 h41
       obtain ⟨c0, c1, c2, c3⟩ := HX4.out.up (hJ : Below wr.heap.size wr w_) hbW
       go_simp
       exact hK.out _ _ (Below.refl _ _) (rfl) trivial
      refine AS.sc rfl rfl rfl ?_ ?_
      ·intro k_ u w_ hk_ hJ hF K hK
       have h42 : u 42 = .slice (some ⟨b, off, none⟩) (n : Nat) cp := AS.facts_get hF 42 (by simp)
       have h47 : u 47 = .int .i64 x.code := AS.facts_get hF 47 (by simp)
       have h41 : u 41 = .bool false := AS.facts_get hF 41 (by simp)
       clear hF
       simp only [h42, h47, h41] at hK ⊢
       clear h42 h47 h41
       have hz9 := HZW.out.up (hJ : Below wr.heap.size wr w_)
       go_simp
       refine (HCb.out _ hz9).mono ?_
       rintro e w3 ⟨v, rfl, h9, hb⟩
       exact hK.out _ _ hb h9 trivial
      refine AS.sc rfl rfl rfl ?_ ?_
      ·intro k_ u w_ hk_ hJ hF K hK
       have h48 : SlI w_ (u 48) C := AS.facts_get hF 48 (by simp)
       have h41 : u 41 = .bool false := AS.facts_get hF 41 (by simp)
       clear hF
       obtain ⟨A8, d8, h48, -⟩ := h48
       rw [HCL.out] at h48
       simp only [h48, h41] at hK ⊢
       clear h48 h41
       go_simp
       exact hK.out _ _ (Below.refl _ _) (rfl) trivial
      refine AS.sc rfl rfl rfl ?_ ?_
      ·intro k_ u w_ hk_ hJ hF K hK
       have h41 : u 41 = .bool false := AS.facts_get hF 41 (by simp)
       clear hF
       simp only [h41] at hK ⊢
       clear h41
       go_simp
       exact hK.out _ _ (Below.refl _ _) (rfl) trivial
      refine AS.sc rfl rfl rfl ?_ ?_
      ·intro k_ u w_ hk_ hJ hF K hK
       have h50 : u 50 = .slice (some ⟨b, off, none⟩) (n : Nat) cp := AS.facts_get hF 50 (by simp)
       have h41 : u 41 = .bool false := AS.facts_get hF 41 (by simp)
       clear hF
       simp only [h50, h41] at hK ⊢
       clear h50 h41
       go_simp
       exact hK.out _ _ (Below.refl _ _) (rfl) trivial
      refine AS.sc rfl rfl rfl ?_ ?_
      ·intro k_ u w_ hk_ hJ hF K hK
       have h49 : u 49 = .int .i64 (cl : Int) := AS.facts_get hF 49 (by simp)
       have h51 : u 51 = .int .i64 (n : Int) := AS.facts_get hF 51 (by simp)
       have h41 : u 41 = .bool false := AS.facts_get hF 41 (by simp)
       clear hF
       simp only [h49, h51, h41] at hK ⊢
       clear h49 h51 h41
       go_simp
       exact hK.out _ _ (Below.refl _ _) (rfl) trivial
      refine AS.sc rfl rfl rfl ?_ ?_
      ·intro k_ u w_ hk_ hJ hF K hK
       have h41 : u 41 = .bool false := AS.facts_get hF 41 (by simp)
       have h52 : u 52 = .bool q := AS.facts_get hF 52 (by simp)
       clear hF
       simp only [h41, h52] at hK ⊢
       clear h41 h52
       go_simp
       exact hK.out _ _ (Below.refl _ _) (rfl) trivial
      exact AS.StepsOk.nil
     ·intro u W9 hJ9 hF
      have h53 : u 53 = .bool q := AS.facts_get hF 53 (by simp [rvFb, AS.temps])
      have hB9 : Below wr.heap.size wr W9 := hJ9
      clear hF hJ9
      simp only [h53]
      clear h53
      cases q
      ·have HR2 : Hid (rowsTo L g (k + 1) = true) := Lib.hid (by rw [rowsTo, HR.out, HQ.out]; rfl)
       go_wp2_with fail
       go_roundg (n - (k + 1))
       case measure => omega
       case rel => exact ⟨k + 1, by go_num, by omega, by omega, HR2, hB.trans (hB9.mono hB.size)⟩
      ·have E : Hid (rvB L g = false) := Lib.hid (rvB_no (k := k) (by rw [HN.out]; exact hlt) HQ.out)
       go_wp2_with fail
       go_ret
       exact ⟨by rw [E.out]; rfl, hB.trans (hB9.mono hB.size)⟩
    ·obtain ⟨j, hj⟩ : ∃ j, k = j + 1 := ⟨k - 1, by omega⟩
     have hjn : j < n := by omega
     have hjz : (j : Int) < (n : Int) := by omega
     have hj1 : (k : Int) - 1 = (j : Int) := by omega
     have hj2 : IntKind.i64.wrap (j : Int) = (j : Int) := IntWalk.i64_in _ (by omega)
     have e2 : decide (0 < k) = true := decide_eq_true (by omega)
     obtain ⟨y, hy⟩ : ∃ y, L.getD j acc0 = y := ⟨_, rfl⟩
     have hy4 := HCS.out j (by rw [HN.out]; omega)
     rw [hy] at hy4
     have HY4 := Lib.hid hy4
     have HY := Lib.hid hy
     have HJ := Lib.hid hj
     clear hy4 hy hj hk0
     rcases Int.lt_or_le y.code x.code with h8 | h8
     ·have HQ : Hid (rowB L g k = !q) := Lib.hid (by
       have h1 := HX.out
       rw [HJ.out] at h1 ⊢
       rw [rowB_up (by rw [h1]; exact HP.out) (by rw [h1, HY.out]; exact h8), h1]; exact HTQ.out)
      have e3 : decide (x.code ≤ y.code) = false := decide_eq_false (by omega)
      clear h8
      refine AS.region_facts (rvFd b off n k j cp g x y C cl q) (HNo wr) [[], [], [], [16, 17], [18], [], [15, 19, 20], [21], [22], [23], [24, 23], [25, 23], [26], [26], [27, 28, 26], [29, 26], [30, 26], [26], [26], [33, 26], [32, 34, 26], [35, 26], [36, 26], [31, 37, 26], [26, 38, 23], [23, 39], [40], [41], [41], [41], [43, 44, 41], [45, 41], [46, 41], [42, 47, 41], [48, 41], [41], [50, 41], [49, 51, 41], [41, 52]] [] [[]] [0, 0, 0, 0, 0, 0, 0, 0, 0, 0, 0, 0, 0, 0, 0, 0, 0, 0, 0, 0, 0, 0, 0, 0, 0, 0, 0, 0, 0, 0, 0, 0, 0, 0, 0, 0, 0, 0, 0] [] (fun u => by simp only [rvFd, AS.temps, List.map_cons, List.map_nil, fillL, List.setIfInBounds_toArray, List.set_cons_zero, List.set_cons_succ]; rfl) (by kernel_rfl) (by kernel_rfl) (HNo.st wr) (dc_drew (Below.refl _ _)) ?_ ?_
      ·refine AS.sc rfl rfl rfl ?_ ?_
       ·intro k_ u w_ hk_ hJ hF K hK
        clear hF
        go_simp
        exact hK.out _ _ (Below.refl _ _) (rfl) trivial
       refine AS.sc rfl rfl rfl ?_ ?_
       ·intro k_ u w_ hk_ hJ hF K hK
        clear hF
        go_simp
        exact hK.out _ _ (Below.refl _ _) (rfl) trivial
       refine AS.sc rfl rfl rfl ?_ ?_
       ·intro k_ u w_ hk_ hJ hF K hK
        clear hF
        go_simp
        exact hK.out _ _ (Below.refl _ _) (rfl) trivial
       refine AS.sc rfl rfl rfl ?_ ?_
       ·intro k_ u w_ hk_ hJ hF K hK
        have h16 : u 16 = .slice (some ⟨b, off, none⟩) (n : Nat) cp := AS.facts_get hF 16 (by simp)
        have h17 : u 17 = .int .i64 (k : Int) := AS.facts_get hF 17 (by simp)
        clear hF
        simp only [h16, h17] at hK ⊢
        clear h16 h17
        go_simp
        exact hK.out _ _ (Below.refl _ _) (rfl) trivial
       refine AS.sc rfl rfl rfl ?_ ?_
       ·intro k_ u w_ hk_ hJ hF K hK
        have h18 : u 18 = .pointer (some ⟨b, off + k * 4, none⟩) := AS.facts_get hF 18 (by simp)
        clear hF
        simp only [h18] at hK ⊢
        clear h18
        obtain ⟨c0, c1, c2, c3⟩ := HX4.out.up (hJ : Below wr.heap.size wr w_) hbW
        go_simp
        exact hK.out _ _ (Below.refl _ _) (rfl) trivial
       refine AS.sc rfl rfl rfl ?_ ?_
       ·intro k_ u w_ hk_ hJ hF K hK
        clear hF
        go_simp
        exact hK.out _ _ (Below.refl _ _) (rfl) trivial
       refine AS.sc rfl rfl rfl ?_ ?_
       ·intro k_ u w_ hk_ hJ hF K hK
        have h15 : u 15 = .slice (some ⟨b, off, none⟩) (n : Nat) cp := AS.facts_get hF 15 (by simp)
        have h19 : u 19 = accV x := AS.facts_get hF 19 (by simp)
        have h20 : u 20 = .bool g := AS.facts_get hF 20 (by simp)
        clear hF
        simp only [h15, h19, h20] at hK ⊢
        clear h15 h19 h20
        have hz9 := HZW.out.up (hJ : Below wr.heap.size wr w_)
        go_simp
        refine (HPr.out _ hz9).mono ?_
        rintro e w3 ⟨rfl, hb⟩
        exact hK.out _ _ hb (rfl) trivial
       refine AS.sc rfl rfl rfl ?_ ?_
       ·intro k_ u w_ hk_ hJ hF K hK
        have h21 : u 21 = .bool true := AS.facts_get hF 21 (by simp)
        clear hF
        simp only [h21] at hK ⊢
        clear h21
        go_simp
        exact hK.out _ _ (Below.refl _ _) (rfl) trivial
       refine AS.sc rfl rfl rfl ?_ ?_
       ·intro k_ u w_ hk_ hJ hF K hK
        have h22 : u 22 = .bool false := AS.facts_get hF 22 (by simp)
        clear hF
        simp only [h22] at hK ⊢
        clear h22
        go_simp
        exact hK.out _ _ (Below.refl _ _) (rfl) trivial
       refine AS.sc rfl rfl rfl ?_ ?_
       ·intro k_ u w_ hk_ hJ hF K hK
        have h23 : u 23 = .bool false := AS.facts_get hF 23 (by simp)
        clear hF
        simp only [h23] at hK ⊢
        clear h23
        go_simp
        exact hK.out _ _ (Below.refl _ _) (rfl) trivial
       refine AS.sc rfl rfl rfl ?_ ?_
       ·intro k_ u w_ hk_ hJ hF K hK
        have h24 : u 24 = .int .i64 (k : Int) := AS.facts_get hF 24 (by simp)
        have h23 : u 23 = .bool false := AS.facts_get hF 23 (by simp)
        clear hF
        simp only [h24, h23] at hK ⊢
        clear h24 h23
        go_simp
        exact hK.out _ _ (Below.refl _ _) (rfl) trivial
       refine AS.sc rfl rfl rfl ?_ ?_
       ·intro k_ u w_ hk_ hJ hF K hK
        have h25 : u 25 = .bool true := AS.facts_get hF 25 (by simp)
        have h23 : u 23 = .bool false := AS.facts_get hF 23 (by simp)
        clear hF
        simp only [h25, h23] at hK ⊢
        clear h25 h23
        go_simp
        exact hK.out _ _ (Below.refl _ _) (rfl) trivial
       refine AS.sc rfl rfl rfl ?_ ?_
       ·intro k_ u w_ hk_ hJ hF K hK
        have h26 : u 26 = .bool true := AS.facts_get hF 26 (by simp)
        clear hF
        simp only [h26] at hK ⊢
        clear h26
        go_simp
        exact hK.out _ _ (Below.refl _ _) (rfl) trivial
       refine AS.sc rfl rfl rfl ?_ ?_
       ·intro k_ u w_ hk_ hJ hF K hK
        have h26 : u 26 = .bool true := AS.facts_get hF 26 (by simp)
        clear hF
        simp only [h26] at hK ⊢
        clear h26
        go_simp
        exact hK.out _ _ (Below.refl _ _) (rfl) trivial
       refine AS.sc rfl rfl rfl ?_ ?_
       ·intro k_ u w_ hk_ hJ hF K hK
        have h27 : u 27 = .slice (some ⟨b, off, none⟩) (n : Nat) cp := AS.facts_get hF 27 (by simp)
        have h28 : u 28 = .int .i64 (k : Int) := AS.facts_get hF 28 (by simp)
        have h26 : u 26 = .bool true := AS.facts_get hF 26 (by simp)
        clear hF
        simp only [h27, h28, h26] at hK ⊢
        clear h27 h28 h26
        go_simp
        exact hK.out _ _ (Below.refl _ _) (rfl) trivial
       refine AS.sc rfl rfl rfl ?_ ?_
       ·intro k_ u w_ hk_ hJ hF K hK
        have h29 : u 29 = .pointer (some ⟨b, off + k * 4, none⟩) := AS.facts_get hF 29 (by simp)
        have h26 : u 26 = .bool true := AS.facts_get hF 26 (by simp)
        clear hF
        simp only [h29, h26] at hK ⊢
        clear h29 h26
        go_simp
        exact hK.out _ _ (Below.refl _ _) (rfl) trivial
       refine AS.sc rfl rfl rfl ?_ ?_
       ·intro k_ u w_ hk_ hJ hF K hK
        have h30 : u 30 = .pointer (some ⟨b, off + k * 4, none⟩) := AS.facts_get hF 30 (by simp)
        have h26 : u 26 = .bool true := AS.facts_get hF 26 (by simp)
        clear hF
        simp only [h30, h26] at hK ⊢
        clear h30 h26
        obtain ⟨c0, c1, c2, c3⟩ := HX4.out.up (hJ : Below wr.heap.size wr w_) hbW
        go_simp
        exact hK.out _ _ (Below.refl _ _) (rfl) trivial
       refine AS.sc rfl rfl rfl ?_ ?_
       ·intro k_ u w_ hk_ hJ hF K hK
        have h26 : u 26 = .bool true := AS.facts_get hF 26 (by simp)
        clear hF
        simp only [h26] at hK ⊢
        clear h26
        go_simp
        exact hK.out _ _ (Below.refl _ _) (rfl) trivial
       refine AS.sc rfl rfl rfl ?_ ?_
       ·intro k_ u w_ hk_ hJ hF K hK
        have h26 : u 26 = .bool true := AS.facts_get hF 26 (by simp)
        clear hF
        simp only [h26] at hK ⊢
        clear h26
        go_simp
        exact hK.out _ _ (Below.refl _ _) (rfl) trivial
       refine AS.sc rfl rfl rfl ?_ ?_
       ·intro k_ u w_ hk_ hJ hF K hK
        have h33 : u 33 = .int .i64 (k : Int) := AS.facts_get hF 33 (by simp)
        have h26 : u 26 = .bool true := AS.facts_get hF 26 (by simp)
        clear hF
        simp only [h33, h26] at hK ⊢
        clear h33 h26
        go_simp
        exact hK.out _ _ (Below.refl _ _) (rfl) trivial
       refine AS.sc rfl rfl rfl ?_ ?_
       ·intro k_ u w_ hk_ hJ hF K hK
        have h32 : u 32 = .slice (some ⟨b, off, none⟩) (n : Nat) cp := AS.facts_get hF 32 (by simp)
        have h34 : u 34 = .int .i64 (j : Int) := AS.facts_get hF 34 (by simp)
        have h26 : u 26 = .bool true := AS.facts_get hF 26 (by simp)
        clear hF
        simp only [h32, h34, h26] at hK ⊢
        clear h32 h34 h26
        go_simp
        exact hK.out _ _ (Below.refl _ _) (rfl) trivial
       refine AS.sc rfl rfl rfl ?_ ?_
       ·intro k_ u w_ hk_ hJ hF K hK
        have h35 : u 35 = .pointer (some ⟨b, off + j * 4, none⟩) := AS.facts_get hF 35 (by simp)
        have h26 : u 26 = .bool true := AS.facts_get hF 26 (by simp)
        clear hF
        simp only [h35, h26] at hK ⊢
        clear h35 h26
        go_simp
        exact hK.out _ _ (Below.refl _ _) (rfl) trivial
       refine AS.sc rfl rfl rfl ?_ ?_
       ·intro k_ u w_ hk_ hJ hF K hK
        have h36 : u 36 = .pointer (some ⟨b, off + j * 4, none⟩) := AS.facts_get hF 36 (by simp)
        have h26 : u 26 = .bool true := AS.facts_get hF 26 (by simp)
        clear hF
        simp only [h36, h26] at hK ⊢
        clear h36 h26
        obtain ⟨c0, c1, c2, c3⟩ := HY4.out.up (hJ : Below wr.heap.size wr w_) hbW
        go_simp
        exact hK.out _ _ (Below.refl _ _) (rfl) trivial
       refine AS.sc rfl rfl rfl ?_ ?_
       ·intro k_ u w_ hk_ hJ hF K hK
        have h31 : u 31 = .int .i64 x.code := AS.facts_get hF 31 (by simp)
        have h37 : u 37 = .int .i64 y.code := AS.facts_get hF 37 (by simp)
        have h26 : u 26 = .bool true := AS.facts_get hF 26 (by simp)
        clear hF
        simp only [h31, h37, h26] at hK ⊢
        clear h31 h37 h26
        go_simp
        exact hK.out _ _ (Below.refl _ _) (rfl) trivial
       refine AS.sc rfl rfl rfl ?_ ?_
       ·intro k_ u w_ hk_ hJ hF K hK
        have h26 : u 26 = .bool true := AS.facts_get hF 26 (by simp)
        have h38 : u 38 = .bool false := AS.facts_get hF 38 (by simp)
        have h23 : u 23 = .bool false := AS.facts_get hF 23 (by simp)
        clear hF
        simp only [h26, h38, h23] at hK ⊢
        clear h26 h38 h23
        go_simp
        exact hK.out _ _ (Below.refl _ _) (rfl) trivial
       refine AS.sc rfl rfl rfl ?_ ?_
       ·intro k_ u w_ hk_ hJ hF K hK
        have h23 : u 23 = .bool false := AS.facts_get hF 23 (by simp)
        have h39 : u 39 = .bool false := AS.facts_get hF 39 (by simp)
        clear hF
        simp only [h23, h39] at hK ⊢
        clear h23 h39
        go_simp
        exact hK.out _ _ (Below.refl _ _) (rfl) trivial
       refine AS.sc rfl rfl rfl ?_ ?_
       ·intro k_ u w_ hk_ hJ hF K hK
        have h40 : u 40 = .bool false := AS.facts_get hF 40 (by simp)
        clear hF
        simp only [h40] at hK ⊢
        clear h40
        go_simp
        exact hK.out _ _ (Below.refl _ _) (rfl) trivial
       refine AS.sc rfl rfl rfl ?_ ?_
       ·intro k_ u w_ hk_ hJ hF K hK
        have h41 : u 41 = .bool false := AS.facts_get hF 41 (by simp)
        clear hF
        simp only [h41] at hK ⊢
        clear h41
        go_simp
        exact hK.out _ _ (Below.refl _ _) (rfl) trivial
       refine AS.sc rfl rfl rfl ?_ ?_
       ·intro k_ u w_ hk_ hJ hF K hK
        have h41 : u 41 = .bool false := AS.facts_get hF 41 (by simp)
        clear hF
        simp only [h41] at hK ⊢
        clear h41
        go_simp
        exact hK.out _ _ (Below.refl _ _) (rfl) trivial
       refine AS.sc rfl rfl rfl ?_ ?_
       ·intro k_ u w_ hk_ hJ hF K hK
        have h41 : u 41 = .bool false := AS.facts_get hF 41 (by simp)
        clear hF
        simp only [h41] at hK ⊢
        clear h41
        go_simp
        exact hK.out _ _ (Below.refl _ _) (rfl) trivial
       refine AS.sc rfl rfl rfl ?_ ?_
       ·intro k_ u w_ hk_ hJ hF K hK
        have h43 : u 43 = .slice (some ⟨b, off, none⟩) (n : Nat) cp := AS.facts_get hF 43 (by simp)
        have h44 : u 44 = .int .i64 (k : Int) := AS.facts_get hF 44 (by simp)
        have h41 : u 41 = .bool false := AS.facts_get hF 41 (by simp)
        clear hF
        simp only [h43, h44, h41] at hK ⊢
        clear h43 h44 h41
        go_simp
        exact hK.out _ _ (Below.refl _ _) (rfl) trivial
       refine AS.sc rfl rfl rfl ?_ ?_
       ·intro k_ u w_ hk_ hJ hF K hK
        have h45 : u 45 = .pointer (some ⟨b, off + k * 4, none⟩) := AS.facts_get hF 45 (by simp)
        have h41 : u 41 = .bool false := AS.facts_get hF 41 (by simp)
        clear hF
        simp only [h45, h41] at hK ⊢
        clear h45 h41
        go_simp
        exact hK.out _ _ (Below.refl _ _) (rfl) trivial
       refine AS.sc rfl rfl rfl ?_ ?_
       ·intro k_ u w_ hk_ hJ hF K hK
        have h46 : u 46 = .pointer (some ⟨b, off + k * 4, none⟩) := AS.facts_get hF 46 (by simp)
        have h41 : u 41 = .bool false := AS.facts_get hF 41 (by simp)
        clear hF
        simp only [h46, h41] at hK ⊢
        clear h46 h41
        obtain ⟨c0, c1, c2, c3⟩ := HX4.out.up (hJ : Below wr.heap.size wr w_) hbW
        go_simp
        exact hK.out _ _ (Below.refl _ _) (rfl) trivial
       refine AS.sc rfl rfl rfl ?_ ?_
       ·intro k_ u w_ hk_ hJ hF K hK
        have h42 : u 42 = .slice (some ⟨b, off, none⟩) (n : Nat) cp := AS.facts_get hF 42 (by simp)
        have h47 : u 47 = .int .i64 x.code := AS.facts_get hF 47 (by simp)
        have h41 : u 41 = .bool false := AS.facts_get hF 41 (by simp)
        clear hF
        simp only [h42, h47, h41] at hK ⊢
        clear h42 h47 h41
        have hz9 := HZW.out.up (hJ : Below wr.heap.size wr w_)
        go_simp
        refine (HCb.out _ hz9).mono ?_
        rintro e w3 ⟨v, rfl, h9, hb⟩
        exact hK.out _ _ hb h9 trivial
       refine AS.sc rfl rfl rfl ?_ ?_
       ·intro k_ u w_ hk_ hJ hF K hK
        have h48 : SlI w_ (u 48) C := AS.facts_get hF 48 (by simp)
        have h41 : u 41 = .bool false := AS.facts_get hF 41 (by simp)
        clear hF
        obtain ⟨A8, d8, h48, -⟩ := h48
        rw [HCL.out] at h48
        simp only [h48, h41] at hK ⊢
        clear h48 h41
        go_simp
        exact hK.out _ _ (Below.refl _ _) (rfl) trivial
       refine AS.sc rfl rfl rfl ?_ ?_
       ·intro k_ u w_ hk_ hJ hF K hK
        have h41 : u 41 = .bool false := AS.facts_get hF 41 (by simp)
        clear hF
        simp only [h41] at hK ⊢
        clear h41
        go_simp
        exact hK.out _ _ (Below.refl _ _) (rfl) trivial
       refine AS.sc rfl rfl rfl ?_ ?_
       ·intro k_ u w_ hk_ hJ hF K hK
        have h50 : u 50 = .slice (some ⟨b, off, none⟩) (n : Nat) cp := AS.facts_get hF 50 (by simp)
        have h41 : u 41 = .bool false := AS.facts_get hF 41 (by simp)
        clear hF
        simp only [h50, h41] at hK ⊢
        clear h50 h41
        go_simp
        exact hK.out _ _ (Below.refl _ _) (rfl) trivial
       refine AS.sc rfl rfl rfl ?_ ?_
       ·intro k_ u w_ hk_ hJ hF K hK
        have h49 : u 49 = .int .i64 (cl : Int) := AS.facts_get hF 49 (by simp)
        have h51 : u 51 = .int .i64 (n : Int) := AS.facts_get hF 51 (by simp)
        have h41 : u 41 = .bool false := AS.facts_get hF 41 (by simp)
        clear hF
        simp only [h49, h51, h41] at hK ⊢
        clear h49 h51 h41
        go_simp
        exact hK.out _ _ (Below.refl _ _) (rfl) trivial
       refine AS.sc rfl rfl rfl ?_ ?_
       ·intro k_ u w_ hk_ hJ hF K hK
        have h41 : u 41 = .bool false := AS.facts_get hF 41 (by simp)
        have h52 : u 52 = .bool q := AS.facts_get hF 52 (by simp)
        clear hF
        simp only [h41, h52] at hK ⊢
        clear h41 h52
        go_simp
        exact hK.out _ _ (Below.refl _ _) (rfl) trivial
       exact AS.StepsOk.nil
      ·intro u W9 hJ9 hF
       have h53 : u 53 = .bool q := AS.facts_get hF 53 (by simp [rvFd, AS.temps])
       have hB9 : Below wr.heap.size wr W9 := hJ9
       clear hF hJ9
       simp only [h53]
       clear h53
       cases q
       ·have HR2 : Hid (rowsTo L g (k + 1) = true) := Lib.hid (by rw [rowsTo, HR.out, HQ.out]; rfl)
        go_wp2_with fail
        go_roundg (n - (k + 1))
        case measure => omega
        case rel => exact ⟨k + 1, by go_num, by omega, by omega, HR2, hB.trans (hB9.mono hB.size)⟩
       ·have E : Hid (rvB L g = false) := Lib.hid (rvB_no (k := k) (by rw [HN.out]; exact hlt) HQ.out)
        go_wp2_with fail
        go_ret
        exact ⟨by rw [E.out]; rfl, hB.trans (hB9.mono hB.size)⟩
     ·have E : Hid (rvB L g = false) := Lib.hid (rvB_no (k := k) (by rw [HN.out]; exact hlt) (by
       have h1 := HX.out
       rw [HJ.out] at h1 ⊢
       exact rowB_down (by rw [h1, HY.out]; exact h8)))
      have e3 : decide (x.code ≤ y.code) = true := decide_eq_true h8
      clear h8 hq
      refine AS.region_facts (rvFc b off n k j cp g x y) (HNo wr) [[], [], [], [16, 17], [18], [], [15, 19, 20], [21], [22], [23], [24, 23], [25, 23], [26], [26], [27, 28, 26], [29, 26], [30, 26], [26], [26], [33, 26], [32, 34, 26], [35, 26], [36, 26], [31, 37, 26], [26, 38, 23], [23, 39], [40], [41], [41], [41], [41], [41], [41], [41], [41], [41], [41], [41], [41, 52]] [] [[]] [0, 0, 0, 0, 0, 0, 0, 0, 0, 0, 0, 0, 0, 0, 0, 0, 0, 0, 0, 0, 0, 0, 0, 0, 0, 0, 0, 0, 0, 0, 0, 0, 0, 0, 0, 0, 0, 0, 0] [] (fun u => by simp only [rvFc, AS.temps, List.map_cons, List.map_nil, fillL, List.setIfInBounds_toArray, List.set_cons_zero, List.set_cons_succ]; rfl) (by kernel_rfl) (by kernel_rfl) (HNo.st wr) (dc_drew (Below.refl _ _)) ?_ ?_
      ·refine AS.sc rfl rfl rfl ?_ ?_
       ·intro k_ u w_ hk_ hJ hF K hK
        clear hF
        go_simp
        exact hK.out _ _ (Below.refl _ _) (rfl) trivial
       refine AS.sc rfl rfl rfl ?_ ?_
       ·intro k_ u w_ hk_ hJ hF K hK
        clear hF
        go_simp
        exact hK.out _ _ (Below.refl _ _) (rfl) trivial
       refine AS.sc rfl rfl rfl ?_ ?_
       ·intro k_ u w_ hk_ hJ hF K hK
        clear hF
        go_simp
        exact hK.out _ _ (Below.refl _ _) (rfl) trivial
       refine AS.sc rfl rfl rfl ?_ ?_
       ·intro k_ u w_ hk_ hJ hF K hK
        have h16 : u 16 = .slice (some ⟨b, off, none⟩) (n : Nat) cp := AS.facts_get hF 16 (by simp)
        have h17 : u 17 = .int .i64 (k : Int) := AS.facts_get hF 17 (by simp)
        clear hF
        simp only [h16, h17] at hK ⊢
        clear h16 h17
        go_simp
        exact hK.out _ _ (Below.refl _ _) (rfl) trivial
       refine AS.sc rfl rfl rfl ?_ ?_
       ·intro k_ u w_ hk_ hJ hF K hK
        have h18 : u 18 = .pointer (some ⟨b, off + k * 4, none⟩) := AS.facts_get hF 18 (by simp)
        clear hF
        simp only [h18] at hK ⊢
        clear h18
        obtain ⟨c0, c1, c2, c3⟩ := HX4.out.up (hJ : Below wr.heap.size wr w_) hbW
        go_simp
        exact hK.out _ _ (Below.refl _ _) (rfl) trivial
       refine AS.sc rfl rfl rfl ?_ ?_
       ·intro k_ u w_ hk_ hJ hF K hK
        clear hF
        go_simp
        exact hK.out _ _ (Below.refl _ _) (rfl) trivial
       refine AS.sc rfl rfl rfl ?_ ?_
       ·intro k_ u w_ hk_ hJ hF K hK
        have h15 : u 15 = .slice (some ⟨b, off, none⟩) (n : Nat) cp := AS.facts_get hF 15 (by simp)
        have h19 : u 19 = accV x := AS.facts_get hF 19 (by simp)
        have h20 : u 20 = .bool g := AS.facts_get hF 20 (by simp)
        clear hF
        simp only [h15, h19, h20] at hK ⊢
        clear h15 h19 h20
        have hz9 := HZW.out.up (hJ : Below wr.heap.size wr w_)
        go_simp
        refine (HPr.out _ hz9).mono ?_
        rintro e w3 ⟨rfl, hb⟩
        exact hK.out _ _ hb (rfl) trivial
       refine AS.sc rfl rfl rfl ?_ ?_
       ·intro k_ u w_ hk_ hJ hF K hK
        have h21 : u 21 = .bool true := AS.facts_get hF 21 (by simp)
        clear hF
        simp only [h21] at hK ⊢
        clear h21
        go_simp
        exact hK.out _ _ (Below.refl _ _) (rfl) trivial
       refine AS.sc rfl rfl rfl ?_ ?_
       ·intro k_ u w_ hk_ hJ hF K hK
        have h22 : u 22 = .bool false := AS.facts_get hF 22 (by simp)
        clear hF
        simp only [h22] at hK ⊢
        clear h22
        go_simp
        exact hK.out _ _ (Below.refl _ _) (rfl) trivial
       refine AS.sc rfl rfl rfl ?_ ?_
       ·intro k_ u w_ hk_ hJ hF K hK
        have h23 : u 23 = .bool false := AS.facts_get hF 23 (by simp)
        clear hF
        simp only [h23] at hK ⊢
        clear h23
        go_simp
        exact hK.out _ _ (Below.refl _ _) (rfl) trivial
       refine AS.sc rfl rfl rfl ?_ ?_
       ·intro k_ u w_ hk_ hJ hF K hK
        have h24 : u 24 = .int .i64 (k : Int) := AS.facts_get hF 24 (by simp)
        have h23 : u 23 = .bool false := AS.facts_get hF 23 (by simp)
        clear hF
        simp only [h24, h23] at hK ⊢
        clear h24 h23
        go_simp
        exact hK.out _ _ (Below.refl _ _) (rfl) trivial
       refine AS.sc rfl rfl rfl ?_ ?_
       ·intro k_ u w_ hk_ hJ hF K hK
        have h25 : u 25 = .bool true := AS.facts_get hF 25 (by simp)
        have h23 : u 23 = .bool false := AS.facts_get hF 23 (by simp)
        clear hF
        simp only [h25, h23] at hK ⊢
        clear h25 h23
        go_simp
        exact hK.out _ _ (Below.refl _ _) (rfl) trivial
       refine AS.sc rfl rfl rfl ?_ ?_
       ·intro k_ u w_ hk_ hJ hF K hK
        have h26 : u 26 = .bool true := AS.facts_get hF 26 (by simp)
        clear hF
        simp only [h26] at hK ⊢
        clear h26
        go_simp
        exact hK.out _ _ (Below.refl _ _) (rfl) trivial
       refine AS.sc rfl rfl rfl ?_ ?_
       ·intro k_ u w_ hk_ hJ hF K hK
        have h26 : u 26 = .bool true := AS.facts_get hF 26 (by simp)
        clear hF
        simp only [h26] at hK ⊢
        clear h26
        go_simp
        exact hK.out _ _ (Below.refl _ _) (rfl) trivial
       refine AS.sc rfl rfl rfl ?_ ?_
       ·intro k_ u w_ hk_ hJ hF K hK
        have h27 : u 27 = .slice (some ⟨b, off, none⟩) (n : Nat) cp := AS.facts_get hF 27 (by simp)
        have h28 : u 28 = .int .i64 (k : Int) := AS.facts_get hF 28 (by simp)
        have h26 : u 26 = .bool true := AS.facts_get hF 26 (by simp)
        clear hF
        simp only [h27, h28, h26] at hK ⊢
        clear h27 h28 h26
        go_simp
        exact hK.out _ _ (Below.refl _ _) (rfl) trivial
       refine AS.sc rfl rfl rfl ?_ ?_
       ·intro k_ u w_ hk_ hJ hF K hK
        have h29 : u 29 = .pointer (some ⟨b, off + k * 4, none⟩) := AS.facts_get hF 29 (by simp)
        have h26 : u 26 = .bool true := AS.facts_get hF 26 (by simp)
        clear hF
        simp only [h29, h26] at hK ⊢
        clear h29 h26
        go_simp
        exact hK.out _ _ (Below.refl _ _) (rfl) trivial
       refine AS.sc rfl rfl rfl ?_ ?_
       ·intro k_ u w_ hk_ hJ hF K hK
        have h30 : u 30 = .pointer (some ⟨b, off + k * 4, none⟩) := AS.facts_get hF 30 (by simp)
        have h26 : u 26 = .bool true := AS.facts_get hF 26 (by simp)
        clear hF
        simp only [h30, h26] at hK ⊢
        clear h30 h26
        obtain ⟨c0, c1, c2, c3⟩ := HX4.out.up (hJ : Below wr.heap.size wr w_) hbW
        go_simp
        exact hK.out _ _ (Below.refl _ _) (rfl) trivial
       refine AS.sc rfl rfl rfl ?_ ?_
       ·intro k_ u w_ hk_ hJ hF K hK
        have h26 : u 26 = .bool true := AS.facts_get hF 26 (by simp)
        clear hF
        simp only [h26] at hK ⊢
        clear h26
        go_simp
        exact hK.out _ _ (Below.refl _ _) (rfl) trivial
       refine AS.sc rfl rfl rfl ?_ ?_
       ·intro k_ u w_ hk_ hJ hF K hK
        have h26 : u 26 = .bool true := AS.facts_get hF 26 (by simp)
        clear hF
        simp only [h26] at hK ⊢
        clear h26
        go_simp
        exact hK.out _ _ (Below.refl _ _) (rfl) trivial
       refine AS.sc rfl rfl rfl ?_ ?_
       ·intro k_ u w_ hk_ hJ hF K hK
        have h33 : u 33 = .int .i64 (k : Int) := AS.facts_get hF 33 (by simp)
        have h26 : u 26 = .bool true := AS.facts_get hF 26 (by simp)
        clear hF
        simp only [h33, h26] at hK ⊢
        clear h33 h26
        go_simp
        exact hK.out _ _ (Below.refl _ _) (rfl) trivial
       refine AS.sc rfl rfl rfl ?_ ?_
       ·intro k_ u w_ hk_ hJ hF K hK
        have h32 : u 32 = .slice (some ⟨b, off, none⟩) (n : Nat) cp := AS.facts_get hF 32 (by simp)
        have h34 : u 34 = .int .i64 (j : Int) := AS.facts_get hF 34 (by simp)
        have h26 : u 26 = .bool true := AS.facts_get hF 26 (by simp)
        clear hF
        simp only [h32, h34, h26] at hK ⊢
        clear h32 h34 h26
        go_simp
        exact hK.out _ _ (Below.refl _ _) (rfl) trivial
       refine AS.sc rfl rfl rfl ?_ ?_
       ·intro k_ u w_ hk_ hJ hF K hK
        have h35 : u 35 = .pointer (some ⟨b, off + j * 4, none⟩) := AS.facts_get hF 35 (by simp)
        have h26 : u 26 = .bool true := AS.facts_get hF 26 (by simp)
        clear hF
        simp only [h35, h26] at hK ⊢
        clear h35 h26
        go_simp
        exact hK.out _ _ (Below.refl _ _) (rfl) trivial
       refine AS.sc rfl rfl rfl ?_ ?_
       ·intro k_ u w_ hk_ hJ hF K hK
        have h36 : u 36 = .pointer (some ⟨b, off + j * 4, none⟩) := AS.facts_get hF 36 (by simp)
        have h26 : u 26 = .bool true := AS.facts_get hF 26 (by simp)
        clear hF
        simp only [h36, h26] at hK ⊢
        clear h36 h26
        obtain ⟨c0, c1, c2, c3⟩ := HY4.out.up (hJ : Below wr.heap.size wr w_) hbW
        go_simp
        exact hK.out _ _ (Below.refl _ _) (rfl) trivial
       refine AS.sc rfl rfl rfl ?_ ?_
       ·intro k_ u w_ hk_ hJ hF K hK
        have h31 : u 31 = .int .i64 x.code := AS.facts_get hF 31 (by simp)
        have h37 : u 37 = .int .i64 y.code := AS.facts_get hF 37 (by simp)
        have h26 : u 26 = .bool true := AS.facts_get hF 26 (by simp)
        clear hF
        simp only [h31, h37, h26] at hK ⊢
        clear h31 h37 h26
        go_simp
        exact hK.out _ _ (Below.refl _ _) (rfl) trivial
       refine AS.sc rfl rfl rfl ?_ ?_
       ·intro k_ u w_ hk_ hJ hF K hK
        have h26 : u 26 = .bool true := AS.facts_get hF 26 (by simp)
        have h38 : u 38 = .bool true := AS.facts_get hF 38 (by simp)
        have h23 : u 23 = .bool false := AS.facts_get hF 23 (by simp)
        clear hF
        simp only [h26, h38, h23] at hK ⊢
        clear h26 h38 h23
        go_simp
        exact hK.out _ _ (Below.refl _ _) (rfl) trivial
       refine AS.sc rfl rfl rfl ?_ ?_
       ·intro k_ u w_ hk_ hJ hF K hK
        have h23 : u 23 = .bool false := AS.facts_get hF 23 (by simp)
        have h39 : u 39 = .bool true := AS.facts_get hF 39 (by simp)
        clear hF
        simp only [h23, h39] at hK ⊢
        clear h23 h39
        go_simp
        exact hK.out _ _ (Below.refl _ _) (rfl) trivial
       refine AS.sc rfl rfl rfl ?_ ?_
       ·intro k_ u w_ hk_ hJ hF K hK
        have h40 : u 40 = .bool true := AS.facts_get hF 40 (by simp)
        clear hF
        simp only [h40] at hK ⊢
        clear h40
        go_simp
        exact hK.out _ _ (Below.refl _ _) (rfl) trivial
       refine AS.sc rfl rfl rfl ?_ ?_
       ·intro k_ u w_ hk_ hJ hF K hK
        have h41 : u 41 = .bool true := AS.facts_get hF 41 (by simp)
        clear hF
        simp only [h41] at hK ⊢
        clear h41
        go_simp
        exact hK.out _ _ (Below.refl _ _) (rfl) trivial
       refine AS.sc rfl rfl rfl ?_ ?_
       ·intro k_ u w_ hk_ hJ hF K hK
        have h41 : u 41 = .bool true := AS.facts_get hF 41 (by simp)
        clear hF
        simp only [h41] at hK ⊢
        clear h41
        go_simp
        exact hK.out _ _ (Below.refl _ _) (rfl) trivial
       refine AS.sc rfl rfl rfl ?_ ?_
       ·intro k_ u w_ hk_ hJ hF K hK
        have h41 : u 41 = .bool true := AS.facts_get hF 41 (by simp)
        clear hF
        simp only [h41] at hK ⊢
        clear h41
        go_simp
        exact hK.out _ _ (Below.refl _ _) (rfl) trivial
       refine AS.sc rfl rfl rfl ?_ ?_
       ·intro k_ u w_ hk_ hJ hF K hK
        have h41 : u 41 = .bool true := AS.facts_get hF 41 (by simp)
        clear hF
        simp only [h41] at hK ⊢
        clear h41
        go_simp
        exact hK.out _ _ (Below.refl _ _) (rfl) trivial
       refine AS.sc rfl rfl rfl ?_ ?_
       ·intro k_ u w_ hk_ hJ hF K hK
        have h41 : u 41 = .bool true := AS.facts_get hF 41 (by simp)
        clear hF
        simp only [h41] at hK ⊢
        clear h41
        go_simp
        exact hK.out _ _ (Below.refl _ _) (rfl) trivial
       refine AS.sc rfl rfl rfl ?_ ?_
       ·intro k_ u w_ hk_ hJ hF K hK
        have h41 : u 41 = .bool true := AS.facts_get hF 41 (by simp)
        clear hF
        simp only [h41] at hK ⊢
        clear h41
        go_simp
        exact hK.out _ _ (Below.refl _ _) (rfl) trivial
       refine AS.sc rfl rfl rfl ?_ ?_
       ·intro k_ u w_ hk_ hJ hF K hK
        have h41 : u 41 = .bool true := AS.facts_get hF 41 (by simp)
        clear hF
        simp only [h41] at hK ⊢
        clear h41
        go_simp
        exact hK.out _ _ (Below.refl _ _) (rfl) trivial
       refine AS.sc rfl rfl rfl ?_ ?_
       ·intro k_ u w_ hk_ hJ hF K hK
        have h41 : u 41 = .bool true := AS.facts_get hF 41 (by simp)
        clear hF
        simp only [h41] at hK ⊢
        clear h41
        go_simp
        exact hK.out _ _ (Below.refl _ _) (rfl) trivial
       refine AS.sc rfl rfl rfl ?_ ?_
       ·intro k_ u w_ hk_ hJ hF K hK
        have h41 : u 41 = .bool true := AS.facts_get hF 41 (by simp)
        clear hF
        simp only [h41] at hK ⊢
        clear h41
        go_simp
        exact hK.out _ _ (Below.refl _ _) (rfl) trivial
       refine AS.sc rfl rfl rfl ?_ ?_
       ·intro k_ u w_ hk_ hJ hF K hK
        have h41 : u 41 = .bool true := AS.facts_get hF 41 (by simp)
        clear hF
        simp only [h41] at hK ⊢
        clear h41
        go_simp
        exact hK.out _ _ (Below.refl _ _) (rfl) trivial
       refine AS.sc rfl rfl rfl ?_ ?_
       ·intro k_ u w_ hk_ hJ hF K hK
        have h41 : u 41 = .bool true := AS.facts_get hF 41 (by simp)
        clear hF
        simp only [h41] at hK ⊢
        clear h41
        go_simp
        exact hK.out _ _ (Below.refl _ _) (rfl) trivial
       refine AS.sc rfl rfl rfl ?_ ?_
       ·intro k_ u w_ hk_ hJ hF K hK
        have h41 : u 41 = .bool true := AS.facts_get hF 41 (by simp)
        have h52 : u 52 = undef := AS.facts_get hF 52 (by simp)
        clear hF
        simp only [h41, h52] at hK ⊢
        clear h41 h52
        go_simp
        exact hK.out _ _ (Below.refl _ _) (rfl) trivial
       exact AS.StepsOk.nil
      ·intro u W9 hJ9 hF
       have h53 : u 53 = .bool true := AS.facts_get hF 53 (by simp [rvFc, AS.temps])
       have hB9 : Below wr.heap.size wr W9 := hJ9
       clear hF hJ9
       simp only [h53]
       clear h53
       go_wp2_with fail
       go_ret
       exact ⟨by rw [E.out]; rfl, hB.trans (hB9.mono hB.size)⟩
  ·obtain rfl : k = n := by omega
   have hltz : ¬ (k : Int) < (k : Int) := by omega
   have E : Hid (rvB L g = true) := Lib.hid (by rw [HV.out]; exact HR.out)
   go_wp2_with fail
   go_ret
   exact ⟨by rw [E.out]; rfl, hB⟩
def lnkB (L c : List Acc) (l : Lnk) : Bool := (fnd L l.frm).isSome && ((fnd c l.tgt).isSome && (decide ((fndA L l.frm).kind = (fndA c l.tgt).kind) && vdB l.since))
def smB (K : List Lnk) (i k : Nat) : Bool := decide ((K.getD k lnk0).frm = (K.getD i lnk0).frm) && decide ((K.getD k lnk0).since = (K.getD i lnk0).since)
def dfB (K : List Lnk) (i : Nat) : Bool := allTo (fun k => !smB K i k) i
def mvB (L : List Acc) (K : List Lnk) (c : List Acc) : Bool := vB c true && (vB L false && (decide (K.length ≤ 400) && (allTo (fun i => lnkB L c (K.getD i lnk0)) K.length && allTo (dfB K) K.length)))
open Go.RowKit Go.Maps
section
variable {w w' : World} {b n m : Nat} {f : Int → Option Value}
end
theorem ts_keyed : Keyed Try.prog 80 := Keyed.of_law (deep_law_gate laid_out (by decide +kernel) (by decide +kernel) (by kernel_rfl) (by kernel_rfl))
theorem start_key {a b : Int} (ha : (Lit.int .i64 a).wf = true) (hb : (Lit.int .i64 b).wf = true) : ∃ l, keyOf Try.prog 80 (.agg #[.int .i64 a, .int .i64 b]) = some l := by
 have key : ∀ d, Try.prog.keyLits (d + 2) 80 [.int .i64 a, .int .i64 b] = some [.int .i64 a, .int .i64 b] := by
  intro d
  have hc : Try.prog.cellsOf 80 = 2 := by kernel_rfl
  have hc3 : Try.prog.cellsOf 3 = 1 := by kernel_rfl
  simp [Program.keyLits, Try.underlying80, Try.underlying3, hc, hc3, ha, hb]
 have hf : Value.formed Try.prog 80 (.agg #[.int .i64 a, .int .i64 b]) = true := by
  have hc : Try.prog.cellsOf 80 = 2 := by kernel_rfl
  simp [Value.formed, Try.underlying80, hc]
 have hk : Try.prog.keyType 80 = true := by kernel_rfl
 have h1 : 1 ≤ Try.prog.types.size := by decide +kernel
 obtain ⟨n, hn⟩ : ∃ n, Try.prog.types.size + 1 = n + 2 := ⟨Try.prog.types.size - 1, by omega⟩
 refine ⟨.string (keyBytes [.int .i64 a, .int .i64 b]), ?_⟩
 unfold keyOf
 rw [Try.underlying80]
 simp only [hk, hf, Bool.and_self, if_true]
 rw [hn]
 show Option.map _ (Try.prog.keyLits (n + 2) 80 [.int .i64 a, .int .i64 b]) = _
 rw [key n]; rfl
def SetP (w : World) (b m : Nat) (S : Int → Int → Bool) : Prop := ∃ D : DataW Value, w.ownsMap Try.prog 80 heldE b m D ∧ Maps.size D = m ∧ ∀ x y l, keyOf Try.prog 80 (.agg #[.int .i64 x, .int .i64 y]) = some l → Maps.has D l = S x y
theorem SetP.lt {w : World} {b m : Nat} {S : Int → Int → Bool} (h : SetP w b m S) : b < w.heap.size := by
 obtain ⟨D, h1, _⟩ := h
 exact h1.lt
theorem SetP.blk {w w' : World} {b m : Nat} {S : Int → Int → Bool} (h : SetP w b m S) (hk : w'.heap[b]? = w.heap[b]?) : SetP w' b m S := by
 obtain ⟨D, ⟨es, clock, hb, rest⟩, h2⟩ := h
 exact ⟨D, ⟨es, clock, hk.trans hb, rest⟩, h2⟩
theorem SetP.up {w w' : World} {b m : Nat} {S : Int → Int → Bool} (h : SetP w b m S) (hb : Below w.heap.size w w') : SetP w' b m S := h.blk (hb.block b h.lt)
theorem SetP.made (w : World) : SetP (w.alloc (.map #[] 0)) w.heap.size 0 (fun _ _ => false) :=
 ⟨.map [], World.ownsMap_made _ _ _ _, rfl, fun _ _ _ _ => rfl⟩
theorem wpList_setp_put {w : World} {ops : Array Oper} {rest : List Oper} {o : Oper} {a : Act} {Q : Exit → Act → World → Prop} (hg : o.guard = none) (m x y : Operand) (t e : TypeId) (hop : o.op = Op.mapUpdate t m x y)
  (ht : Try.prog.underlying t = some (.map 80 e))
  (b n : Nat) (S : Int → Int → Bool) (hm : a.eval m = .map (some b)) (hs : SetP w b n S) (c d : Int) (hx : a.eval x = .agg #[.int .i64 c, .int .i64 d]) (v : Value) (hy : a.eval y = v) (hw : (Lit.int .i64 c).wf = true) (hw2 : (Lit.int .i64 d).wf = true) (hn : n ≤ 1000000)
  (hK : ∀ w', Hid (SetP w' b (if S c d = true then n else n + 1) (fun x y => decide (x = c ∧ y = d) || S x y)) → Hid (w.grownBy w' (some b)) → wpList Try.prog ops Q rest (a.put o.dst undef) w') : wpList Try.prog ops Q (o :: rest) a w := by
 obtain ⟨D, h1, hsz, h3⟩ := hs
 have h2 := h1.isMap
 have ht2 := h1.tidy ts_keyed
 obtain ⟨l, hl⟩ := start_key hw hw2
 refine wpList_mapUpdate_own w hg m x y t hop 80 e ts_keyed ht heldE b n D hm h1 (by unfold maxLen; omega) _ _ _ hx hy hl (.held v) [] rfl ?_
 intro w' h4 h5
 have hsz2 : Maps.size (D.put l (.held v)) = if S c d = true then n else n + 1 := by
  rw [size_put ht2, h3 c d l hl, hsz]
 refine hK w' (Lib.hid ⟨_, ?_, hsz2, fun x y l2 hl2 => ?_⟩) (Lib.hid h5)
 ·obtain ⟨es, clock, hb, F, hes, hD⟩ := h4
  refine ⟨es, clock, hb, F, ?_, hD⟩
  have : es.size = Maps.size (D.put l (.held v)) := by rw [hD, size_eq, length_sorted]; simp
  omega
 ·by_cases hxc : x = c ∧ y = d
  ·obtain ⟨rfl, rfl⟩ := hxc
   rw [hl] at hl2
   obtain rfl := Option.some.inj hl2
   rw [has_put_same h2 (ts_keyed.key hl)]
   simp
  ·have hne : l2 ≠ l := by
    rintro rfl
    have := ts_keyed.inj hl2 hl
    simp at this
    exact hxc this
   rw [has_put_other hne, h3 x y l2 hl2]
   show S x y = (decide (x = c ∧ y = d) || S x y)
   rw [decide_eq_false hxc]; rfl
open Go.RowKit
theorem rvd_any (n : Int) (w : World) : Calls Try.prog 27 #[.int .i64 n] w fun e w' => e = .returned (.bool (vdB n)) ∧ w = w' := by
 unfold vdB
 by_cases h1 : (-25567 : Int) ≤ n
 ·rw [decide_eq_true h1]
  go_enter Try.func27, Try.ntmps27
  go_wp2
  go_ret
  exact ⟨rfl, rfl⟩
 ·rw [decide_eq_false h1]
  have h3 : decide ((-25567 : Int) ≤ n) = false := decide_eq_false h1
  clear h1
  go_enter Try.func27, Try.ntmps27
  go_wp2
  go_ret
  exact ⟨rfl, rfl⟩
open Go.RowKit Go.Maps
set_option maxRecDepth 20000 in
set_option maxHeartbeats 3200000 in
theorem clnk_any (l : Lnk) (A C : Option Addr) (cp d : Nat) (L c : List Acc) (w : World) (hz : AccAt w A L) (hy : AccAt w C c) (hl : L.length ≤ 1000) (hm : c.length ≤ 1000) :
  Calls Try.prog 23 #[lnkV l, .slice A L.length cp, .slice C c.length d] w fun e w' => e = .returned (.bool (lnkB L c l)) ∧ Below w.heap.size w w' := by
 have hB := below_alloc_new (w := w) (.cells #[.int .i64 l.frm, .int .i64 l.tgt, .int .i64 l.since] 46)
 have HL := Lib.hid (lb_new w 46 l)
 have HZ := Lib.hid (hz.up hB)
 have HY := Lib.hid (hy.up hB)
 have hf := fun w h => cfind_any A cp L l.frm w h hl
 have hg := fun w h => cfind_any C d c l.tgt w h hm
 have hv := fun w => vd_any l.since w
 have hE : lnkB L c l = ((fnd L l.frm).isSome && ((fnd c l.tgt).isSome && (decide ((fndA L l.frm).kind = (fndA c l.tgt).kind) && vdB l.since))) := rfl
 generalize lnkB L c l = r at *
 generalize (fnd L l.frm).isSome = q1 at *
 generalize (fnd c l.tgt).isSome = q2 at *
 generalize fndA L l.frm = fa at *
 generalize fndA c l.tgt = fb at *
 generalize vdB l.since = q4 at *
 obtain ⟨q3, hq3⟩ : ∃ q3, decide (fa.kind = fb.kind) = q3 := ⟨_, rfl⟩
 have e3 : (fa.kind == fb.kind) = q3 := by rw [← hq3, Bool.eq_iff_iff]; simp
 rw [hq3] at hE
 generalize L.length = n at *
 generalize c.length = m at *
 obtain ⟨⟨v0, v1, v2⟩, vlt⟩ := HL.out
 simp only [Nat.zero_add] at v1 v2
 have HF := Lib.hid hf
 have HG := Lib.hid hg
 have HV := Lib.hid hv
 have HE := Lib.hid hE
 clear hf hg hv hE hq3 hz hy
 cases q1 <;> cases q2 <;> cases q3
 all_goals
  go_enter Try.func23, Try.ntmps23
  go_wp2_with (first
   | (go_at_call 29; first
    | ((with_reducible refine (HF.out _ HZ.out).mono ?_); rintro e w2 ⟨rfl, hb⟩; have HA := Lib.hid (ab_new w2 50 fa); replace HL := Lib.hid ((HL.out.up hb).up (below_alloc_new (.cells #[.int .i64 fa.code, .int .i64 fa.kind, .int .i64 fa.basis, .int .i64 fa.par] 50))); replace HY := Lib.hid ((HY.out.up hb).up (below_alloc_new (.cells #[.int .i64 fa.code, .int .i64 fa.kind, .int .i64 fa.basis, .int .i64 fa.par] 50))); replace hB := below_new (below_more hB hb) (.cells #[.int .i64 fa.code, .int .i64 fa.kind, .int .i64 fa.basis, .int .i64 fa.par] 50); clear hb v0 v1 v2 vlt; obtain ⟨⟨v0, v1, v2⟩, vlt⟩ := HL.out; simp only [Nat.zero_add] at v1 v2)
    | ((with_reducible refine (HG.out _ HY.out).mono ?_); rintro e w3 ⟨rfl, hb⟩; have HA3 := Lib.hid (ab_new w3 50 fb); replace HA := Lib.hid ((HA.out.up hb).up (below_alloc_new (.cells #[.int .i64 fb.code, .int .i64 fb.kind, .int .i64 fb.basis, .int .i64 fb.par] 50))); replace HL := Lib.hid ((HL.out.up hb).up (below_alloc_new (.cells #[.int .i64 fb.code, .int .i64 fb.kind, .int .i64 fb.basis, .int .i64 fb.par] 50))); replace hB := below_new (below_more hB hb) (.cells #[.int .i64 fb.code, .int .i64 fb.kind, .int .i64 fb.basis, .int .i64 fb.par] 50); clear hb v0 v1 v2 vlt; obtain ⟨⟨v0, v1, v2⟩, vlt⟩ := HL.out; simp only [Nat.zero_add] at v1 v2; obtain ⟨⟨x0, x1, x2, x3⟩, xlt, -⟩ := HA.out; obtain ⟨⟨y0, y1, y2, y3⟩, ylt, -⟩ := HA3.out; simp only [Nat.zero_add] at x1 x2 x3 y1 y2 y3))
   | (go_at_call 28; refine (HV.out _).mono ?_; rintro e w4 ⟨rfl, rfl⟩))
  go_ret
  exact ⟨by rw [HE.out]; rfl, hB⟩
theorem wpList_setp_len {w : World} {ops : Array Oper} {rest : List Oper} {o : Oper} {a : Act} {Q : Exit → Act → World → Prop} (hg : o.guard = none) (m : Operand) (t e : TypeId) (hop : o.op = Op.call { callee := Callee.builtin Builtin.len, args := #[m], argTypes := #[t] })
  (ht : Try.prog.underlying t = some (.map 80 e)) (b n : Nat) (S : Int → Int → Bool) (hm : a.eval m = .map (some b)) (hs : SetP w b n S)
  (hK : wpList Try.prog ops Q rest (a.put o.dst (.int .i64 (n : Int))) w) : wpList Try.prog ops Q (o :: rest) a w := by
 obtain ⟨D, h1, hsz, h3⟩ := hs
 refine wpList_len_own w hg m t hop 80 e ht heldE b n D hm h1 ?_
 rw [hsz]; exact hK
structure DI (K : List Lnk) (k m : Nat) (S : Int → Int → Bool) : Prop where
 mem : ∀ x y, S x y = true ↔ ∃ i, i < k ∧ (K.getD i lnk0).frm = x ∧ (K.getD i lnk0).since = y
 le : m ≤ k
 iff : m = k ↔ allTo (dfB K) k = true
theorem DI.start {K : List Lnk} : DI K 0 0 (fun _ _ => false) := ⟨fun x y => by simp, Nat.le_refl _, by simp [allTo]⟩
theorem dfB_is {K : List Lnk} {i : Nat} : dfB K i = true ↔ ∀ k, k < i → ¬ ((K.getD k lnk0).frm = (K.getD i lnk0).frm ∧ (K.getD k lnk0).since = (K.getD i lnk0).since) := by
 unfold dfB
 rw [allTo_is]
 have e : ∀ k, (!smB K i k) = true ↔ ¬ ((K.getD k lnk0).frm = (K.getD i lnk0).frm ∧ (K.getD k lnk0).since = (K.getD i lnk0).since) := by
  intro k
  unfold smB
  rw [Bool.not_eq_true', Bool.and_eq_false_iff, decide_eq_false_iff_not, decide_eq_false_iff_not]
  exact ⟨fun h h2 => h.elim (fun h3 => h3 h2.1) (fun h3 => h3 h2.2), fun h => by
   by_cases h1 : (K.getD k lnk0).frm = (K.getD i lnk0).frm
   ·exact .inr fun h2 => h ⟨h1, h2⟩
   ·exact .inl h1⟩
 exact ⟨fun h k hk => (e k).1 (h k hk), fun h k hk => (e k).2 (h k hk)⟩
theorem DI.step {K : List Lnk} {k m : Nat} {S : Int → Int → Bool} {x : Lnk} (h : DI K k m S) (hx : K.getD k lnk0 = x) :
  DI K (k + 1) (if S x.frm x.since = true then m else m + 1) (fun a b => decide (a = x.frm ∧ b = x.since) || S a b) := by
 have hd : dfB K k = !S x.frm x.since := by
  cases hS : S x.frm x.since with
  | true =>
   obtain ⟨i, hi, h1, h2⟩ := (h.mem _ _).1 hS
   cases hq : dfB K k with
   | false => rfl
   | true => exact absurd ⟨by rw [hx]; exact h1, by rw [hx]; exact h2⟩ (dfB_is.1 hq i hi)
  | false =>
   show dfB K k = true
   rw [dfB_is]
   rintro i hi ⟨h1, h2⟩
   have := (h.mem x.frm x.since).2 ⟨i, hi, by rw [h1, hx], by rw [h2, hx]⟩
   rw [hS] at this; cases this
 refine ⟨fun a b => ?_, ?_, ?_⟩
 ·simp only [Bool.or_eq_true, decide_eq_true_eq, h.mem]
  constructor
  ·rintro (⟨rfl, rfl⟩ | ⟨i, hi, h1, h2⟩)
   ·exact ⟨k, by omega, by rw [hx], by rw [hx]⟩
   ·exact ⟨i, by omega, h1, h2⟩
  ·rintro ⟨i, hi, h1, h2⟩
   rcases Nat.lt_or_ge i k with h3 | h3
   ·exact .inr ⟨i, h3, h1, h2⟩
   ·obtain rfl : i = k := by omega
    rw [hx] at h1 h2
    exact .inl ⟨h1.symm, h2.symm⟩
 ·have := h.le; split <;> omega
 ·have h1 := h.le
  have h2 := h.iff
  simp only [allTo, Bool.and_eq_true, hd]
  cases hS : S x.frm x.since
  ·simp only [Bool.not_false, and_true, if_neg (show ¬ (false = true) by simp)]
   rw [← h2]; omega
  ·simp only [Bool.not_true, if_true]
   constructor
   ·intro h3; omega
   ·rintro ⟨_, h3⟩; cases h3
set_option maxRecDepth 20000 in
set_option maxHeartbeats 3200000 in
theorem cdist_any (A : Option Addr) (cp : Nat) (K : List Lnk) (w : World) (hz : LnkAt w A K) (hl : K.length ≤ 1000) (hw : ∀ l ∈ K, WfL l) :
  Calls Try.prog 24 #[.slice A K.length cp] w fun e w' => e = .returned (.bool (allTo (dfB K) K.length)) ∧ Below w.heap.size w w' := by
 have hB := below_alloc_new (w := w) (.map #[] 0)
 have hM := SetP.made w
 obtain ⟨q, hq⟩ : ∃ q, allTo (dfB K) K.length = q := ⟨_, rfl⟩
 rw [hq]
 obtain ⟨n, hn⟩ : ∃ n, K.length = n := ⟨_, rfl⟩
 obtain ⟨s0, hs0⟩ : ∃ s0, w.heap.size = s0 := ⟨_, rfl⟩
 rw [hn] at hl hq ⊢
 rw [hs0] at hB hM ⊢
 have HN := Lib.hid hn
 have HZ := Lib.hid hz
 have HW := Lib.hid hw
 have HS0 := Lib.hid hs0
 have HM := Lib.hid hM
 have HQ := Lib.hid hq
 have hmm := @run_makeMap Try.prog
 clear hn hz hw hM hq
 go_enter Try.func24, Try.ntmps24
 go_wp2_with fail
 clear hs0
 go_loopg [9] n (fun kx s9 wr => ∃ (k m : Nat) (S : Int → Int → Bool), s9 = .int .i64 k ∧ k ≤ n ∧ n - k ≤ kx ∧ Hid (DI K k m S) ∧ Hid (SetP wr s0 m S) ∧ Below s0 w wr)
 case atStart => exact ⟨0, 0, _, rfl, by omega, by omega, Lib.hid DI.start, HM, hB⟩
 case round =>
  clear hB HM
  obtain ⟨k, m, S, rfl, hk, hkx, HD, HM, hB⟩ := hrel
  by_cases hlt : k < n
  ·have hltz : (k : Int) < (n : Int) := by omega
   have hsz : s0 ≤ wr.heap.size := by have := hB.size; have := HS0.out; omega
   obtain ⟨b, off, rfl, hbw, hcs⟩ := HZ.out (by rw [HN.out]; omega)
   obtain ⟨c0, c1, c2⟩ := (hcs k (by rw [HN.out]; exact hlt)).up hB (by have := HS0.out; omega)
   obtain ⟨x, hx⟩ : ∃ x, K.getD k lnk0 = x := ⟨_, rfl⟩
   rw [hx] at c0 c1 c2
   have HWX := Lib.hid (HW.out x (by rw [← hx]; exact getD_mem_acc (by rw [HN.out]; exact hlt)))
   have HDS := Lib.hid (HD.out.step hx)
   have hm1 : m ≤ 1000 := by have := HD.out.le; omega
   have HM1 := Lib.hid (HM.out.up (below_alloc_new (.cells #[.int .i64 x.frm, .int .i64 x.tgt, .int .i64 x.since] 46)))
   have hB1 : Below s0 w (wr.alloc (.cells #[.int .i64 x.frm, .int .i64 x.tgt, .int .i64 x.since] 46)) := hB.alloc hsz _
   have hsm := HM.out.lt
   clear hx hcs
   go_wp2_with (at_mapUpdate; refine wpList_setp_put rfl _ _ _ _ 4 rfl Try.underlying78 s0 m S rfl HM1.out x.frm x.since rfl _ rfl HWX.out.frm HWX.out.since (by omega) ?_; intro w2 hm2 hg2; have hb2 := grown_below hB1 hg2.out (Nat.le_refl _) (by simp; omega); clear hg2)
   go_roundg (n - (k + 1))
   case measure => omega
   case rel => exact ⟨k + 1, _, _, by go_num, by omega, by omega, HDS, hm2, hb2⟩
  ·obtain rfl : k = n := by omega
   have hltz : ¬ (k : Int) < (k : Int) := by omega
   have e9 : ((m : Int) == (k : Int)) = q := by
    rw [← HQ.out]
    have h1 := HD.out.iff
    cases h2 : allTo (dfB K) k with
    | true => rw [h2] at h1; have := h1.2 rfl; subst this; simp
    | false => rw [h2] at h1; simp; intro h3; have := h1.1 (by omega); cases this
   go_wp2_with (at_len; refine wpList_setp_len rfl _ _ 4 rfl Try.underlying78 s0 m S rfl HM.out ?_)
   go_ret
   exact ⟨rfl, hB⟩
open Go.ChangeShapes Go.WideShapes Go.ChangeAt Go.WideMaps Go.WideElems Go.RowKit Go.Deep Go.Joins
section
variable {H : Type} {enc : TypeId × Value → H} {P : Program} {W : World}
end
section
variable {H : Type} {enc : TypeId × Value → H} {W : World}
set_option maxRecDepth 100000 in
theorem open_ient {b0 : Nat} {v : Value} {d : DataW H} {p : List MemPlace} (hval : Value.okWide Try.prog W .any b0 25 v) (h : DataW.Trod enc Try.prog W 0 (fun _ => true) true 25 v d p) :
  ∃ nm cur A n c L B m d K jt, v = entV nm cur A n c B m d jt ∧ EntK W A n L B m K := by
 obtain ⟨cs, rfl, hsz⟩ := okWide_struct Try.underlying25 hval
 obtain ⟨fuel, hf⟩ := h
 obtain ⟨nm, cur, A, n, c, L, B, m, d, K, jt, hcs, hk⟩ := open_entC hf
 refine ⟨nm, cur, A, n, c, L, B, m, d, K, jt, ?_, hk⟩
 have h2 : cs.toList = [.string nm, .string cur, .slice A n c, .slice B m d, .bool jt] := by simpa [Value.cells] using hcs
 rw [entV, ← Array.toArray_toList (xs := cs), h2]
set_option maxRecDepth 100000 in
theorem open_waccV {b0 : Nat} {v : Value} {d : DataW H} {p : List MemPlace} (hval : Value.okWide Try.prog W .any b0 22 v) (h : DataW.Trod enc Try.prog W 0 (fun _ => true) true 22 v d p) :
  ∃ A len cap L, v = .slice A len cap ∧ L.length = len ∧ AccAt W A L ∧ WfC L := by
 obtain ⟨a0, len0, cap0, rfl⟩ := okWide_slice Try.underlying22 hval
 obtain ⟨fuel, hf⟩ := h
 obtain ⟨A, n, c, L, q2, ln, -, hz, wa⟩ := open_waccs Try.underlying22 Try.underlying50 (by kernel_rfl) (by kernel_rfl) (by kernel_rfl) Try.underlying3 hf
 simp [Value.cells] at q2
 obtain ⟨rfl, rfl, rfl⟩ := q2
 exact ⟨_, _, _, L, rfl, ln, hz, wa⟩
end
open Go.RowKit Go.Maps
theorem mvB_no1 {L : List Acc} {K : List Lnk} {c : List Acc} (h : vB c true = false) : mvB L K c = false := by unfold mvB; rw [h]; rfl
theorem mvB_no2 {L : List Acc} {K : List Lnk} {c : List Acc} (h : vB L false = false) : mvB L K c = false := by unfold mvB; rw [h]; simp
theorem mvB_no3 {L : List Acc} {K : List Lnk} {c : List Acc} (h : 400 < K.length) : mvB L K c = false := by unfold mvB; rw [decide_eq_false (show ¬ K.length ≤ 400 by omega)]; simp
theorem mvB_no4 {L : List Acc} {K : List Lnk} {c : List Acc} {k : Nat} (hk : k < K.length) (h : lnkB L c (K.getD k lnk0) = false) : mvB L K c = false := by
 unfold mvB; rw [allTo_no (p := fun i => lnkB L c (K.getD i lnk0)) hk h]; simp
theorem mvB_end {L : List Acc} {K : List Lnk} {c : List Acc} (h1 : vB c true = true) (h2 : vB L false = true) (h3 : K.length ≤ 400) (h4 : allTo (fun i => lnkB L c (K.getD i lnk0)) K.length = true) : mvB L K c = allTo (dfB K) K.length := by
 unfold mvB; rw [h1, h2, decide_eq_true h3, h4]; rfl
set_option maxRecDepth 20000 in
set_option maxHeartbeats 3200000 in
theorem cval9_any (nm cur : ByteArray) (A : Option Addr) (cp : Nat) (L : List Acc) (B : Option Addr) (d : Nat) (K : List Lnk) (jt : Bool) (C : Option Addr) (cc : Nat) (c : List Acc) (w : World) (hz : AccAt w A L) (hy : LnkAt w B K) (hx : AccAt w C c) (hl : L.length ≤ 1000) (hm : K.length ≤ 1000) (hc : c.length ≤ 1000) (hw : ∀ l ∈ K, WfL l) :
  Calls Try.prog 11 #[entV nm cur A L.length cp B K.length d jt, .slice C c.length cc] w fun e w' => e = .returned (.bool (mvB L K c)) ∧ Below w.heap.size w w' := by
 have hn := eb_new w 25 nm cur A L.length cp B K.length d jt
 have hB := below_alloc_new (w := w) (.cells #[.string nm, .string cur, .slice A L.length cp, .slice B K.length d, .bool jt] 25)
 have HEB := Lib.hid hn
 have HZ := Lib.hid (hz.up hB)
 have HY := Lib.hid (hy.up hB)
 have HX := Lib.hid (hx.up hB)
 have h1 := fun w h => cvalid8_any C cc c true w h hc
 have h2 := fun w h => cvalid8_any A cp L false w h hl
 have h3 := fun l w h h' => clnk_any l A C cp cc L c w h h' hl hc
 have h4 := fun w h => cdist_any B d K w h hm hw
 have N1 := mvB_no1 (L := L) (K := K) (c := c)
 have N2 := mvB_no2 (L := L) (K := K) (c := c)
 have N3 := mvB_no3 (L := L) (K := K) (c := c)
 have N4 := fun k => mvB_no4 (L := L) (K := K) (c := c) (k := k)
 have NE := mvB_end (L := L) (K := K) (c := c)
 obtain ⟨r, hr⟩ : ∃ r, mvB L K c = r := ⟨_, rfl⟩
 rw [hr] at N1 N2 N3 NE ⊢
 simp only [hr] at N4
 obtain ⟨P, hP⟩ : ∃ P : Nat → Bool, (fun i => lnkB L c (K.getD i lnk0)) = P := ⟨_, rfl⟩
 have hPk : ∀ k, lnkB L c (K.getD k lnk0) = P k := fun k => by rw [← hP]
 rw [hP] at NE
 simp only [hPk] at N4
 obtain ⟨q, hq⟩ : ∃ q, allTo (dfB K) K.length = q := ⟨_, rfl⟩
 rw [hq] at h4 NE
 obtain ⟨b1, hb1⟩ : ∃ b, vB c true = b := ⟨_, rfl⟩
 rw [hb1] at h1 N1 NE
 obtain ⟨b2, hb2⟩ : ∃ b, vB L false = b := ⟨_, rfl⟩
 rw [hb2] at h2 N2 NE
 obtain ⟨n, hn2⟩ : ∃ n, L.length = n := ⟨_, rfl⟩
 obtain ⟨k0, hk0⟩ : ∃ k0, c.length = k0 := ⟨_, rfl⟩
 obtain ⟨m, hm2⟩ : ∃ m, K.length = m := ⟨_, rfl⟩
 obtain ⟨s0, hs0⟩ : ∃ s0, w.heap.size = s0 := ⟨_, rfl⟩
 rw [hn2, hm2] at HEB HZ HY HX hB
 rw [hn2] at h2 h3
 rw [hk0] at h1 h3
 rw [hm2] at h4 N3 N4 NE hm
 rw [hn2, hm2, hk0]
 have HN1 := Lib.hid N1
 have HN2 := Lib.hid N2
 have HN3 := Lib.hid N3
 have HN4 := Lib.hid N4
 have HNE := Lib.hid NE
 have HP := Lib.hid hPk
 have HM := Lib.hid hm2
 have H1 := Lib.hid h1
 have H2 := Lib.hid h2
 have H3 := Lib.hid h3
 have H4 := Lib.hid h4
 have HS0 := Lib.hid hs0
 have HE0 := HEB
 rw [hs0] at hB HEB
 obtain ⟨c0, c1, c2, c3, c4, lt⟩ := HE0.out
 clear hn hz hy hx h1 h2 h3 h4 N1 N2 N3 N4 NE hr hP hPk hq hb1 hb2 hn2 hk0 hm2 hs0 hw hl hc HE0
 cases b1
 ·have HR := Lib.hid (HN1.out rfl)
  clear HN1 HN2 HN3 HN4 HNE
  go_enter Try.func11, Try.ntmps11
  go_wp2_with (go_at_call 22; first
   | ((with_reducible refine (H1.out _ HX.out).mono ?_); rintro e w1 ⟨rfl, hb⟩; replace hB := hB.trans (hb.mono (by have := hB.size; have := HS0.out; omega)); clear hb))
  go_ret
  exact ⟨by rw [HR.out]; rfl, by rw [HS0.out]; exact hB⟩
 have hv1 : ∀ (w1 : World), Below (w.alloc (.cells #[.string nm, .string cur, .slice A n cp, .slice B m d, .bool jt] 25)).heap.size (w.alloc (.cells #[.string nm, .string cur, .slice A n cp, .slice B m d, .bool jt] 25)) w1 → Hid (EB w1 s0 nm cur A n cp B m d jt) ∧ Hid (AccAt w1 A L) ∧ Hid (LnkAt w1 B K) ∧ Hid (AccAt w1 C c) ∧ Below s0 w w1 := fun w1 hb =>
  ⟨Lib.hid (HEB.out.up hb), Lib.hid (HZ.out.up hb), Lib.hid (HY.out.up hb), Lib.hid (HX.out.up hb), hB.trans (hb.mono (by have := hB.size; have := HS0.out; omega))⟩
 have HV1 := Lib.hid hv1
 clear hv1
 cases b2
 ·have HR := Lib.hid (HN2.out rfl)
  clear HN1 HN2 HN3 HN4 HNE
  go_enter Try.func11, Try.ntmps11
  go_wp2_with (go_at_call 22; first
   | ((with_reducible refine (H1.out _ HX.out).mono ?_); rintro e w1 ⟨rfl, hb⟩; obtain ⟨HEB, HZ, HY, HX, hB⟩ := HV1.out w1 hb; clear hb HV1 c0 c1 c2 c3 c4 lt; obtain ⟨c0, c1, c2, c3, c4, lt⟩ := HEB.out; rw [← HS0.out] at c0 c1 c2 c3 c4 lt)
   | ((with_reducible refine (H2.out _ HZ.out).mono ?_); rintro e w2 ⟨rfl, hb⟩; replace hB := hB.trans (hb.mono (by have := hB.size; have := HS0.out; omega)); clear hb))
  go_ret
  exact ⟨by rw [HR.out]; rfl, by rw [HS0.out]; exact hB⟩
 rcases Nat.lt_or_ge 400 m with hm4 | hm4
 ·have HR := Lib.hid (HN3.out hm4)
  have e4 : decide ((400 : Int) < (m : Int)) = true := decide_eq_true (by omega)
  clear HN1 HN2 HN3 HN4 HNE hm4
  go_enter Try.func11, Try.ntmps11
  go_wp2_with (go_at_call 22; first
   | ((with_reducible refine (H1.out _ HX.out).mono ?_); rintro e w1 ⟨rfl, hb⟩; obtain ⟨HEB, HZ, HY, HX, hB⟩ := HV1.out w1 hb; clear hb HV1 c0 c1 c2 c3 c4 lt; obtain ⟨c0, c1, c2, c3, c4, lt⟩ := HEB.out; rw [← HS0.out] at c0 c1 c2 c3 c4 lt)
   | ((with_reducible refine (H2.out _ HZ.out).mono ?_); rintro e w2 ⟨rfl, hb⟩; replace HEB := Lib.hid (HEB.out.up hb); replace hB := hB.trans (hb.mono (by have := hB.size; have := HS0.out; omega)); clear hb c0 c1 c2 c3 c4 lt; obtain ⟨c0, c1, c2, c3, c4, lt⟩ := HEB.out; rw [← HS0.out] at c0 c1 c2 c3 c4 lt))
  go_ret
  exact ⟨by rw [HR.out]; rfl, by rw [HS0.out]; exact hB⟩
 have e4 : decide ((400 : Int) < (m : Int)) = false := decide_eq_false (by omega)
 have HNE2 := Lib.hid (HNE.out rfl rfl hm4)
 clear HN1 HN2 HN3 HNE hm4
 go_enter Try.func11, Try.ntmps11
 go_wp2_with (go_at_call 22; first
  | ((with_reducible refine (H1.out _ HX.out).mono ?_); rintro e w1 ⟨rfl, hb⟩; obtain ⟨HEB, HZ, HY, HX, hB⟩ := HV1.out w1 hb; clear hb HV1 c0 c1 c2 c3 c4 lt; obtain ⟨c0, c1, c2, c3, c4, lt⟩ := HEB.out; rw [← HS0.out] at c0 c1 c2 c3 c4 lt)
  | ((with_reducible refine (H2.out _ HZ.out).mono ?_); rintro e w2 ⟨rfl, hb⟩; replace HEB := Lib.hid (HEB.out.up hb); replace HZ := Lib.hid (HZ.out.up hb); replace HY := Lib.hid (HY.out.up hb); replace HX := Lib.hid (HX.out.up hb); replace hB := hB.trans (hb.mono (by have := hB.size; have := HS0.out; omega)); clear hb c0 c1 c2 c3 c4 lt; obtain ⟨c0, c1, c2, c3, c4, lt⟩ := HEB.out; rw [← HS0.out] at c0 c1 c2 c3 c4 lt))
 clear c0 c1 c2 c3 c4 lt
 go_loopg [25] m (fun kx s25 wr => ∃ k : Nat, s25 = .int .i64 k ∧ k ≤ m ∧ m - k ≤ kx ∧ Hid (allTo P k = true) ∧ Hid (EB wr s0 nm cur A n cp B m d jt) ∧ Hid (AccAt wr A L) ∧ Hid (LnkAt wr B K) ∧ Hid (AccAt wr C c) ∧ Below s0 w wr)
 case atStart => exact ⟨0, rfl, by omega, by omega, Lib.hid rfl, HEB, HZ, HY, HX, hB⟩
 case round =>
  clear HEB HZ HY HX hB
  clear HEB HZ HY HX hB
  obtain ⟨k, rfl, hk, hkx, HA, HEB, HZ, HY, HX, hB⟩ := hrel
  have hsz : s0 ≤ wr.heap.size := by have := hB.size; have := HS0.out; omega
  by_cases hlt : k < m
  ·have hltz : (k : Int) < (m : Int) := by omega
   obtain ⟨b, off, rfl, hbw, hcs⟩ := HY.out (by rw [HM.out]; omega)
   obtain ⟨d0, d1, d2⟩ := hcs k (by rw [HM.out]; exact hlt)
   have hpk := HP.out k
   obtain ⟨x, hx⟩ : ∃ x, K.getD k lnk0 = x := ⟨_, rfl⟩
   rw [hx] at d0 d1 d2 hpk
   have hno := HN4.out k hlt
   have h3 := H3.out x
   rw [hpk] at h3
   have hW := below_alloc_new (w := wr) (.cells #[.int .i64 x.frm, .int .i64 x.tgt, .int .i64 x.since] 46)
   have HEB1 := Lib.hid (HEB.out.up hW)
   have HZ1 := Lib.hid (HZ.out.up hW)
   have HY1 := Lib.hid (HY.out.up hW)
   have HX1 := Lib.hid (HX.out.up hW)
   have hB1 : Below s0 w (wr.alloc (.cells #[.int .i64 x.frm, .int .i64 x.tgt, .int .i64 x.since] 46)) := hB.alloc hsz _
   have hs1 : s0 ≤ (wr.alloc (.cells #[.int .i64 x.frm, .int .i64 x.tgt, .int .i64 x.since] 46)).heap.size := by simp; omega
   obtain ⟨⟨v0, v1, v2⟩, vlt⟩ := lb_new wr 46 x
   simp only [Nat.zero_add] at v1 v2
   obtain ⟨c0, c1, c2, c3, c4, lt⟩ := HEB1.out
   rw [← HS0.out] at c0 c1 c2 c3 c4 lt
   have HS1 := Lib.hid hs1
   cases hpq : P k
   ·rw [hpq] at h3
    have HR := Lib.hid (hno hpq)
    have H3x := Lib.hid h3
    clear hpk hno h3 hpq hx hcs hW hs1
    go_wp2_with (go_at_call 23; (with_reducible refine (H3x.out _ HZ1.out HX1.out).mono ?_); rintro e w3 ⟨rfl, hb⟩; replace hB := hB1.trans (hb.mono HS1.out); clear hb)
    go_ret
    exact ⟨by rw [HR.out]; rfl, by rw [HS0.out]; exact hB⟩
   ·rw [hpq] at h3
    have HA2 : Hid (allTo P (k + 1) = true) := Lib.hid (by show (allTo P k && P k) = true; rw [HA.out, hpq]; rfl)
    have H3x := Lib.hid h3
    clear hpk hno h3 hpq hx hcs hW hs1
    go_wp2_with (go_at_call 23; (with_reducible refine (H3x.out _ HZ1.out HX1.out).mono ?_); rintro e w3 ⟨rfl, hb⟩; replace hB := hB1.trans (hb.mono HS1.out); replace HEB := Lib.hid (HEB1.out.up hb); replace HZ := Lib.hid (HZ1.out.up hb); replace HY := Lib.hid (HY1.out.up hb); replace HX := Lib.hid (HX1.out.up hb); clear hb)
    go_roundg (m - (k + 1))
    case measure => omega
    case rel => exact ⟨k + 1, by go_num, by omega, by omega, HA2, HEB, HZ, HY, HX, hB⟩
  ·obtain rfl : k = m := by omega
   have hltz : ¬ (k : Int) < (k : Int) := by omega
   have HR := Lib.hid (HNE2.out HA.out)
   obtain ⟨c0, c1, c2, c3, c4, lt⟩ := HEB.out
   rw [← HS0.out] at c0 c1 c2 c3 c4 lt
   go_wp2_with (go_at_call 24; (with_reducible refine (H4.out _ HY.out).mono ?_); rintro e w3 ⟨rfl, hb⟩; replace hB := hB.trans (hb.mono hsz); clear hb)
   go_ret
   exact ⟨by rw [HR.out]; rfl, by rw [HS0.out]; exact hB⟩
open Go.RowKit
structure V9 (w : World) (s0 : Nat) (nm cur : ByteArray) (A : Option Addr) (n cp : Nat) (B : Option Addr) (m d : Nat) (jt : Bool) (L : List Acc) (K : List Lnk) (C : Option Addr) (c : List Acc) : Prop where
 eb : EB w s0 nm cur A n cp B m d jt
 hz : AccAt w A L
 hy : LnkAt w B K
 hx : AccAt w C c
theorem V9.up {w w2 : World} {s0 : Nat} {nm cur : ByteArray} {A : Option Addr} {n cp : Nat} {B : Option Addr} {m d : Nat} {jt : Bool} {L : List Acc} {K : List Lnk} {C : Option Addr} {c : List Acc} (h : V9 w s0 nm cur A n cp B m d jt L K C c) (hb : Below w.heap.size w w2) : V9 w2 s0 nm cur A n cp B m d jt L K C c :=
 ⟨h.eb.up hb, h.hz.up hb, h.hy.up hb, h.hx.up hb⟩
theorem mvB_no5 {L : List Acc} {K : List Lnk} {c : List Acc} {k : Nat} (hk : k < K.length) (h : dfB K k = false) : mvB L K c = false := by
 unfold mvB
 rw [allTo_no (p := dfB K) hk h]; simp
theorem dfB_no {K : List Lnk} {k j : Nat} (hj : j < k) (h : smB K k j = true) : dfB K k = false := by
 unfold dfB
 exact allTo_no (k := j) hj (by rw [h]; rfl)
set_option maxRecDepth 20000 in
set_option maxHeartbeats 6400000 in
theorem rval9_any (nm cur : ByteArray) (A : Option Addr) (cp : Nat) (L : List Acc) (B : Option Addr) (d : Nat) (K : List Lnk) (jt : Bool) (C : Option Addr) (cc : Nat) (c : List Acc) (w : World) (hz : AccAt w A L) (hy : LnkAt w B K) (hx : AccAt w C c) (hl : L.length ≤ 1000) (hm : K.length ≤ 1000) (hc : c.length ≤ 1000) :
  Calls Try.prog 12 #[entV nm cur A L.length cp B K.length d jt, .slice C c.length cc] w fun e w' => e = .returned (.bool (mvB L K c)) ∧ Below w.heap.size w w' := by
 have hB := below_alloc_new (w := w) (.cells #[.string nm, .string cur, .slice A L.length cp, .slice B K.length d, .bool jt] 25)
 have hV9 : V9 (w.alloc (.cells #[.string nm, .string cur, .slice A L.length cp, .slice B K.length d, .bool jt] 25)) w.heap.size nm cur A L.length cp B K.length d jt L K C c := ⟨eb_new _ _ _ _ _ _ _ _ _ _ _, hz.up hB, hy.up hB, hx.up hB⟩
 have h1 : ∀ w, AccAt w C c → Calls Try.prog 25 #[.slice C c.length cc, .bool true] w fun e w' => e = .returned (.bool (vB c true)) ∧ Below w.heap.size w w' := fun w h => by rw [vB_eq]; exact rvalid8_any C cc c true w h hc
 have h2 : ∀ w, AccAt w A L → Calls Try.prog 25 #[.slice A L.length cp, .bool false] w fun e w' => e = .returned (.bool (vB L false)) ∧ Below w.heap.size w w' := fun w h => by rw [vB_eq]; exact rvalid8_any A cp L false w h hl
 have h3 := fun x w h => rfind_any A cp L x w h hl
 have h4 := fun x w h => rfind_any C cc c x w h hc
 have h5 := fun x w => rvd_any x w
 have N1 := mvB_no1 (L := L) (K := K) (c := c)
 have N2 := mvB_no2 (L := L) (K := K) (c := c)
 have N3 := mvB_no3 (L := L) (K := K) (c := c)
 have N4 := fun k => mvB_no4 (L := L) (K := K) (c := c) (k := k)
 have N5 := fun k j (hk : k < K.length) (hj : j < k) h => mvB_no5 (L := L) (c := c) hk (dfB_no (K := K) hj h)
 have NE := fun h1 h2 h3 h4 (h5 : allTo (dfB K) K.length = true) => (mvB_end (L := L) (K := K) (c := c) h1 h2 h3 h4).trans h5
 have hD : ∀ i, dfB K i = allTo (fun k => !smB K i k) i := fun _ => rfl
 have hS : ∀ i k, smB K i k = (decide ((K.getD k lnk0).frm = (K.getD i lnk0).frm) && decide ((K.getD k lnk0).since = (K.getD i lnk0).since)) := fun _ _ => rfl
 have hP : ∀ k, lnkB L c (K.getD k lnk0) = ((fnd L (K.getD k lnk0).frm).isSome && ((fnd c (K.getD k lnk0).tgt).isSome && (decide ((fndA L (K.getD k lnk0).frm).kind = (fndA c (K.getD k lnk0).tgt).kind) && vdB (K.getD k lnk0).since))) := fun _ => rfl
 generalize mvB L K c = r at *
 obtain ⟨P, hPe⟩ : ∃ P : Nat → Bool, (fun i => lnkB L c (K.getD i lnk0)) = P := ⟨_, rfl⟩
 have hPk : ∀ k, lnkB L c (K.getD k lnk0) = P k := fun k => by rw [← hPe]
 rw [hPe] at NE
 simp only [hPk] at N4 hP
 obtain ⟨D9, hD9⟩ : ∃ D9 : Nat → Bool, dfB K = D9 := ⟨_, rfl⟩
 rw [hD9] at NE
 simp only [hD9] at hD
 obtain ⟨S9, hS9⟩ : ∃ S9 : Nat → Nat → Bool, smB K = S9 := ⟨_, rfl⟩
 simp only [hS9] at hD hS N5
 obtain ⟨b1, hb1⟩ : ∃ b, vB c true = b := ⟨_, rfl⟩
 rw [hb1] at h1 N1 NE
 obtain ⟨b2, hb2⟩ : ∃ b, vB L false = b := ⟨_, rfl⟩
 rw [hb2] at h2 N2 NE
 obtain ⟨n, hn2⟩ : ∃ n, L.length = n := ⟨_, rfl⟩
 obtain ⟨k0, hk0⟩ : ∃ k0, c.length = k0 := ⟨_, rfl⟩
 obtain ⟨m, hm2⟩ : ∃ m, K.length = m := ⟨_, rfl⟩
 obtain ⟨s0, hs0⟩ : ∃ s0, w.heap.size = s0 := ⟨_, rfl⟩
 rw [hn2, hm2] at hV9 hB
 rw [hs0] at hV9 hB
 rw [hn2] at h2 h3
 rw [hk0] at h1 h4
 rw [hm2] at N3 N4 N5 NE hm
 rw [hn2, hm2, hk0]
 have HN1 := Lib.hid N1
 have HN2 := Lib.hid N2
 have HN3 := Lib.hid N3
 have HN4 := Lib.hid N4
 have HN5 := Lib.hid N5
 have HNE := Lib.hid NE
 have HD := Lib.hid hD
 have HS := Lib.hid hS
 have HP := Lib.hid hP
 have HM := Lib.hid hm2
 have H1 := Lib.hid h1
 have H2 := Lib.hid h2
 have H3 := Lib.hid h3
 have H4 := Lib.hid h4
 have H5 := Lib.hid h5
 have HS0 := Lib.hid hs0
 have HV := Lib.hid hV9
 obtain ⟨c0, c1, c2, c3, c4, lt⟩ := HV.out.eb
 rw [← HS0.out] at c0 c1 c2 c3 c4 lt
 clear hz hy hx h1 h2 h3 h4 h5 N1 N2 N3 N4 N5 NE hD hS hP hPe hPk hD9 hS9 hb1 hb2 hn2 hk0 hm2 hs0 hl hc hV9
 cases b1
 ·have HR := Lib.hid (HN1.out rfl)
  clear HN1 HN2 HN3 HN4 HN5 HNE
  go_enter Try.func12, Try.ntmps12
  go_wp2_with (go_at_call 25; first
   | ((with_reducible refine (H1.out _ HV.out.hx).mono ?_); rintro e w1 ⟨rfl, hb⟩; have hsq := hB.size; rw [HS0.out] at hsq; replace HV := Lib.hid (HV.out.up hb); replace hB := hB.trans (hb.mono hsq); clear hb hsq c0 c1 c2 c3 c4 lt; obtain ⟨c0, c1, c2, c3, c4, lt⟩ := HV.out.eb; rw [← HS0.out] at c0 c1 c2 c3 c4 lt))
  go_ret
  exact ⟨by rw [HR.out]; rfl, by first | exact hB | (rw [HS0.out]; exact hB)⟩
 cases b2
 ·have HR := Lib.hid (HN2.out rfl)
  clear HN1 HN2 HN3 HN4 HN5 HNE
  go_enter Try.func12, Try.ntmps12
  go_wp2_with (go_at_call 25; first
   | ((with_reducible refine (H1.out _ HV.out.hx).mono ?_); rintro e w1 ⟨rfl, hb⟩; have hsq := hB.size; rw [HS0.out] at hsq; replace HV := Lib.hid (HV.out.up hb); replace hB := hB.trans (hb.mono hsq); clear hb hsq c0 c1 c2 c3 c4 lt; obtain ⟨c0, c1, c2, c3, c4, lt⟩ := HV.out.eb; rw [← HS0.out] at c0 c1 c2 c3 c4 lt)
   | ((with_reducible refine (H2.out _ HV.out.hz).mono ?_); rintro e w2 ⟨rfl, hb⟩; have hsq := hB.size; rw [HS0.out] at hsq; replace HV := Lib.hid (HV.out.up hb); replace hB := hB.trans (hb.mono hsq); clear hb hsq c0 c1 c2 c3 c4 lt; obtain ⟨c0, c1, c2, c3, c4, lt⟩ := HV.out.eb; rw [← HS0.out] at c0 c1 c2 c3 c4 lt))
  go_ret
  exact ⟨by rw [HR.out]; rfl, by first | exact hB | (rw [HS0.out]; exact hB)⟩
 rcases Nat.lt_or_ge 400 m with hm4 | hm4
 ·have HR := Lib.hid (HN3.out hm4)
  have e4 : decide ((400 : Int) < (m : Int)) = true := decide_eq_true (by omega)
  clear HN1 HN2 HN3 HN4 HN5 HNE hm4
  go_enter Try.func12, Try.ntmps12
  go_wp2_with (go_at_call 25; first
   | ((with_reducible refine (H1.out _ HV.out.hx).mono ?_); rintro e w1 ⟨rfl, hb⟩; have hsq := hB.size; rw [HS0.out] at hsq; replace HV := Lib.hid (HV.out.up hb); replace hB := hB.trans (hb.mono hsq); clear hb hsq c0 c1 c2 c3 c4 lt; obtain ⟨c0, c1, c2, c3, c4, lt⟩ := HV.out.eb; rw [← HS0.out] at c0 c1 c2 c3 c4 lt)
   | ((with_reducible refine (H2.out _ HV.out.hz).mono ?_); rintro e w2 ⟨rfl, hb⟩; have hsq := hB.size; rw [HS0.out] at hsq; replace HV := Lib.hid (HV.out.up hb); replace hB := hB.trans (hb.mono hsq); clear hb hsq c0 c1 c2 c3 c4 lt; obtain ⟨c0, c1, c2, c3, c4, lt⟩ := HV.out.eb; rw [← HS0.out] at c0 c1 c2 c3 c4 lt))
  go_ret
  exact ⟨by rw [HR.out]; rfl, by first | exact hB | (rw [HS0.out]; exact hB)⟩
 have e4 : decide ((400 : Int) < (m : Int)) = false := decide_eq_false (by omega)
 have HNE2 := Lib.hid (HNE.out rfl rfl hm4)
 clear HN1 HN2 HN3 HNE hm4
 go_enter Try.func12, Try.ntmps12
 go_wp2_with (go_at_call 25; first
  | ((with_reducible refine (H1.out _ HV.out.hx).mono ?_); rintro e w1 ⟨rfl, hb⟩; have hsq := hB.size; rw [HS0.out] at hsq; replace HV := Lib.hid (HV.out.up hb); replace hB := hB.trans (hb.mono hsq); clear hb hsq c0 c1 c2 c3 c4 lt; obtain ⟨c0, c1, c2, c3, c4, lt⟩ := HV.out.eb; rw [← HS0.out] at c0 c1 c2 c3 c4 lt)
  | ((with_reducible refine (H2.out _ HV.out.hz).mono ?_); rintro e w2 ⟨rfl, hb⟩; have hsq := hB.size; rw [HS0.out] at hsq; replace HV := Lib.hid (HV.out.up hb); replace hB := hB.trans (hb.mono hsq); clear hb hsq c0 c1 c2 c3 c4 lt; obtain ⟨c0, c1, c2, c3, c4, lt⟩ := HV.out.eb; rw [← HS0.out] at c0 c1 c2 c3 c4 lt))
 clear c0 c1 c2 c3 c4 lt
 rw [HS0.out]
 go_loopg [5] m (fun kx s5 wr => ∃ k : Nat, s5 = .int .i64 k ∧ k ≤ m ∧ m - k ≤ kx ∧ Hid (allTo P k = true) ∧ Hid (allTo D9 k = true) ∧ Hid (V9 wr s0 nm cur A n cp B m d jt L K C c) ∧ Below s0 w wr)
 case atStart => exact ⟨0, rfl, by omega, by omega, Lib.hid rfl, Lib.hid rfl, HV, hB⟩
 case round =>
  clear HV hB
  try clear HV
  try clear hB
  obtain ⟨k, rfl, hk, hkx, HA, HA9, HV, hB⟩ := hrel
  have hsz : s0 ≤ wr.heap.size := by have := hB.size; have := HS0.out; omega
  obtain ⟨c0, c1, c2, c3, c4, lt⟩ := HV.out.eb
  by_cases hlt : k < m
  ·have hltz : (k : Int) < (m : Int) := by omega
   obtain ⟨b, off, eB, hbw, hcs⟩ := HV.out.hy (by rw [HM.out]; omega)
   subst eB
   have l3 := hcs k (by rw [HM.out]; exact hlt)
   have hp := HP.out k
   have hno := HN4.out k hlt
   have hs9 := fun j => HS.out k j
   obtain ⟨x, hx⟩ : ∃ x, K.getD k lnk0 = x := ⟨_, rfl⟩
   rw [hx] at l3 hp
   simp only [hx] at hs9
   have hb6 := below_alloc_new (w := wr) (.cells #[.int .i64 x.frm, .int .i64 x.tgt, .int .i64 x.since] 46)
   have HV1 := Lib.hid (HV.out.up hb6)
   have HL1 := Lib.hid (lb_new wr 46 x)
   have HB1 : Hid (Below s0 w (wr.alloc (.cells #[.int .i64 x.frm, .int .i64 x.tgt, .int .i64 x.since] 46))) := Lib.hid (hB.alloc hsz _)
   have HSZ1 : Hid (s0 ≤ (wr.alloc (.cells #[.int .i64 x.frm, .int .i64 x.tgt, .int .i64 x.since] 46)).heap.size) := Lib.hid (by simp; omega)
   have h3 := fun w h => H3.out x.frm w h
   have h4 := fun w h => H4.out x.tgt w h
   have h5 := fun w => H5.out x.since w
   generalize (fnd L x.frm).isSome = q1 at *
   generalize (fnd c x.tgt).isSome = q2 at *
   generalize fndA L x.frm = fa at *
   generalize fndA c x.tgt = fb at *
   generalize vdB x.since = q4 at *
   obtain ⟨q3, hq3⟩ : ∃ q3, decide (fa.kind = fb.kind) = q3 := ⟨_, rfl⟩
   have e3 : (fa.kind != fb.kind) = !q3 := by rw [← hq3]; by_cases h : fa.kind = fb.kind <;> simp [h]
   rw [hq3] at hp
   obtain ⟨d0, d1, d2⟩ := l3
   obtain ⟨⟨v0, v1, v2⟩, vlt⟩ := HL1.out
   simp only [Nat.zero_add] at v1 v2
   obtain ⟨y0, y1, y2, y3, y4, ylt⟩ := HV1.out.eb
   have H3x := Lib.hid h3
   have H4x := Lib.hid h4
   have H5x := Lib.hid h5
   have HS9 := Lib.hid hs9
   have HNo := Lib.hid hno
   have HPx := Lib.hid hp
   have HXE := Lib.hid hx
   clear hcs hx hb6 h3 h4 h5 hq3 hp hno hs9
   rcases (show q1 = false ∨ (q1 = true ∧ q2 = false) ∨ (q1 = true ∧ q2 = true ∧ q3 = false) ∨ (q1 = true ∧ q2 = true ∧ q3 = true ∧ q4 = false) ∨ (q1 = true ∧ q2 = true ∧ q3 = true ∧ q4 = true) from by cases q1 <;> cases q2 <;> cases q3 <;> cases q4 <;> simp) with rfl | ⟨rfl, rfl⟩ | ⟨rfl, rfl, rfl⟩ | ⟨rfl, rfl, rfl, rfl⟩ | ⟨rfl, rfl, rfl, rfl⟩
   ·have HR := Lib.hid (HNo.out (by rw [HPx.out]; rfl))
    clear HNo HPx
    go_wp2_with (first
     | (go_at_call 26; first
     | ((with_reducible refine (H3x.out _ HV1.out.hz).mono ?_); rintro e w2 ⟨rfl, hb⟩; have HA3 := Lib.hid (ab_new w2 50 fa); have HV2 := Lib.hid ((HV1.out.up hb).up (below_alloc_new (.cells #[.int .i64 fa.code, .int .i64 fa.kind, .int .i64 fa.basis, .int .i64 fa.par] 50))); have HL2 := Lib.hid ((HL1.out.up hb).up (below_alloc_new (.cells #[.int .i64 fa.code, .int .i64 fa.kind, .int .i64 fa.basis, .int .i64 fa.par] 50))); have HB2 := Lib.hid ((HB1.out.trans (hb.mono HSZ1.out)).alloc (Nat.le_trans HSZ1.out hb.size) (.cells #[.int .i64 fa.code, .int .i64 fa.kind, .int .i64 fa.basis, .int .i64 fa.par] 50)); have HSZ2 : Hid (s0 ≤ (w2.alloc (.cells #[.int .i64 fa.code, .int .i64 fa.kind, .int .i64 fa.basis, .int .i64 fa.par] 50)).heap.size) := Lib.hid (Nat.le_trans (Nat.le_trans HSZ1.out hb.size) (by (simp))); clear hb v0 v1 v2 vlt y0 y1 y2 y3 y4 ylt; obtain ⟨⟨v0, v1, v2⟩, vlt⟩ := HL2.out; simp only [Nat.zero_add] at v1 v2; obtain ⟨y0, y1, y2, y3, y4, ylt⟩ := HV2.out.eb)
     | ((with_reducible refine (H4x.out _ HV2.out.hx).mono ?_); rintro e w3 ⟨rfl, hb⟩; have HA4 := Lib.hid ((HA3.out.up hb).up (below_alloc_new (.cells #[.int .i64 fb.code, .int .i64 fb.kind, .int .i64 fb.basis, .int .i64 fb.par] 50))); have HA5 := Lib.hid (ab_new w3 50 fb); have HV3 := Lib.hid ((HV2.out.up hb).up (below_alloc_new (.cells #[.int .i64 fb.code, .int .i64 fb.kind, .int .i64 fb.basis, .int .i64 fb.par] 50))); have HL3 := Lib.hid ((HL2.out.up hb).up (below_alloc_new (.cells #[.int .i64 fb.code, .int .i64 fb.kind, .int .i64 fb.basis, .int .i64 fb.par] 50))); have HB3 := Lib.hid ((HB2.out.trans (hb.mono HSZ2.out)).alloc (Nat.le_trans HSZ2.out hb.size) (.cells #[.int .i64 fb.code, .int .i64 fb.kind, .int .i64 fb.basis, .int .i64 fb.par] 50)); clear hb v0 v1 v2 vlt y0 y1 y2 y3 y4 ylt; obtain ⟨⟨v0, v1, v2⟩, vlt⟩ := HL3.out; simp only [Nat.zero_add] at v1 v2; obtain ⟨y0, y1, y2, y3, y4, ylt⟩ := HV3.out.eb; obtain ⟨⟨x0, x1, x2, x3⟩, xlt⟩ := HA4.out; obtain ⟨⟨z0, z1, z2, z3⟩, zlt⟩ := HA5.out; simp only [Nat.zero_add] at x1 x2 x3 z1 z2 z3))
     | (go_at_call 27; (with_reducible refine (H5x.out _).mono ?_); rintro e w4 ⟨rfl, rfl⟩))
    go_ret
    exact ⟨by rw [HR.out]; rfl, by first | exact HB3.out | (rw [HS0.out]; exact HB3.out)⟩
   ·have HR := Lib.hid (HNo.out (by rw [HPx.out]; rfl))
    clear HNo HPx
    go_wp2_with (first
     | (go_at_call 26; first
     | ((with_reducible refine (H3x.out _ HV1.out.hz).mono ?_); rintro e w2 ⟨rfl, hb⟩; have HA3 := Lib.hid (ab_new w2 50 fa); have HV2 := Lib.hid ((HV1.out.up hb).up (below_alloc_new (.cells #[.int .i64 fa.code, .int .i64 fa.kind, .int .i64 fa.basis, .int .i64 fa.par] 50))); have HL2 := Lib.hid ((HL1.out.up hb).up (below_alloc_new (.cells #[.int .i64 fa.code, .int .i64 fa.kind, .int .i64 fa.basis, .int .i64 fa.par] 50))); have HB2 := Lib.hid ((HB1.out.trans (hb.mono HSZ1.out)).alloc (Nat.le_trans HSZ1.out hb.size) (.cells #[.int .i64 fa.code, .int .i64 fa.kind, .int .i64 fa.basis, .int .i64 fa.par] 50)); have HSZ2 : Hid (s0 ≤ (w2.alloc (.cells #[.int .i64 fa.code, .int .i64 fa.kind, .int .i64 fa.basis, .int .i64 fa.par] 50)).heap.size) := Lib.hid (Nat.le_trans (Nat.le_trans HSZ1.out hb.size) (by (simp))); clear hb v0 v1 v2 vlt y0 y1 y2 y3 y4 ylt; obtain ⟨⟨v0, v1, v2⟩, vlt⟩ := HL2.out; simp only [Nat.zero_add] at v1 v2; obtain ⟨y0, y1, y2, y3, y4, ylt⟩ := HV2.out.eb)
     | ((with_reducible refine (H4x.out _ HV2.out.hx).mono ?_); rintro e w3 ⟨rfl, hb⟩; have HA4 := Lib.hid ((HA3.out.up hb).up (below_alloc_new (.cells #[.int .i64 fb.code, .int .i64 fb.kind, .int .i64 fb.basis, .int .i64 fb.par] 50))); have HA5 := Lib.hid (ab_new w3 50 fb); have HV3 := Lib.hid ((HV2.out.up hb).up (below_alloc_new (.cells #[.int .i64 fb.code, .int .i64 fb.kind, .int .i64 fb.basis, .int .i64 fb.par] 50))); have HL3 := Lib.hid ((HL2.out.up hb).up (below_alloc_new (.cells #[.int .i64 fb.code, .int .i64 fb.kind, .int .i64 fb.basis, .int .i64 fb.par] 50))); have HB3 := Lib.hid ((HB2.out.trans (hb.mono HSZ2.out)).alloc (Nat.le_trans HSZ2.out hb.size) (.cells #[.int .i64 fb.code, .int .i64 fb.kind, .int .i64 fb.basis, .int .i64 fb.par] 50)); clear hb v0 v1 v2 vlt y0 y1 y2 y3 y4 ylt; obtain ⟨⟨v0, v1, v2⟩, vlt⟩ := HL3.out; simp only [Nat.zero_add] at v1 v2; obtain ⟨y0, y1, y2, y3, y4, ylt⟩ := HV3.out.eb; obtain ⟨⟨x0, x1, x2, x3⟩, xlt⟩ := HA4.out; obtain ⟨⟨z0, z1, z2, z3⟩, zlt⟩ := HA5.out; simp only [Nat.zero_add] at x1 x2 x3 z1 z2 z3))
     | (go_at_call 27; (with_reducible refine (H5x.out _).mono ?_); rintro e w4 ⟨rfl, rfl⟩))
    go_ret
    exact ⟨by rw [HR.out]; rfl, by first | exact HB3.out | (rw [HS0.out]; exact HB3.out)⟩
   ·have HR := Lib.hid (HNo.out (by rw [HPx.out]; rfl))
    clear HNo HPx
    go_wp2_with (first
     | (go_at_call 26; first
     | ((with_reducible refine (H3x.out _ HV1.out.hz).mono ?_); rintro e w2 ⟨rfl, hb⟩; have HA3 := Lib.hid (ab_new w2 50 fa); have HV2 := Lib.hid ((HV1.out.up hb).up (below_alloc_new (.cells #[.int .i64 fa.code, .int .i64 fa.kind, .int .i64 fa.basis, .int .i64 fa.par] 50))); have HL2 := Lib.hid ((HL1.out.up hb).up (below_alloc_new (.cells #[.int .i64 fa.code, .int .i64 fa.kind, .int .i64 fa.basis, .int .i64 fa.par] 50))); have HB2 := Lib.hid ((HB1.out.trans (hb.mono HSZ1.out)).alloc (Nat.le_trans HSZ1.out hb.size) (.cells #[.int .i64 fa.code, .int .i64 fa.kind, .int .i64 fa.basis, .int .i64 fa.par] 50)); have HSZ2 : Hid (s0 ≤ (w2.alloc (.cells #[.int .i64 fa.code, .int .i64 fa.kind, .int .i64 fa.basis, .int .i64 fa.par] 50)).heap.size) := Lib.hid (Nat.le_trans (Nat.le_trans HSZ1.out hb.size) (by (simp))); clear hb v0 v1 v2 vlt y0 y1 y2 y3 y4 ylt; obtain ⟨⟨v0, v1, v2⟩, vlt⟩ := HL2.out; simp only [Nat.zero_add] at v1 v2; obtain ⟨y0, y1, y2, y3, y4, ylt⟩ := HV2.out.eb)
     | ((with_reducible refine (H4x.out _ HV2.out.hx).mono ?_); rintro e w3 ⟨rfl, hb⟩; have HA4 := Lib.hid ((HA3.out.up hb).up (below_alloc_new (.cells #[.int .i64 fb.code, .int .i64 fb.kind, .int .i64 fb.basis, .int .i64 fb.par] 50))); have HA5 := Lib.hid (ab_new w3 50 fb); have HV3 := Lib.hid ((HV2.out.up hb).up (below_alloc_new (.cells #[.int .i64 fb.code, .int .i64 fb.kind, .int .i64 fb.basis, .int .i64 fb.par] 50))); have HL3 := Lib.hid ((HL2.out.up hb).up (below_alloc_new (.cells #[.int .i64 fb.code, .int .i64 fb.kind, .int .i64 fb.basis, .int .i64 fb.par] 50))); have HB3 := Lib.hid ((HB2.out.trans (hb.mono HSZ2.out)).alloc (Nat.le_trans HSZ2.out hb.size) (.cells #[.int .i64 fb.code, .int .i64 fb.kind, .int .i64 fb.basis, .int .i64 fb.par] 50)); clear hb v0 v1 v2 vlt y0 y1 y2 y3 y4 ylt; obtain ⟨⟨v0, v1, v2⟩, vlt⟩ := HL3.out; simp only [Nat.zero_add] at v1 v2; obtain ⟨y0, y1, y2, y3, y4, ylt⟩ := HV3.out.eb; obtain ⟨⟨x0, x1, x2, x3⟩, xlt⟩ := HA4.out; obtain ⟨⟨z0, z1, z2, z3⟩, zlt⟩ := HA5.out; simp only [Nat.zero_add] at x1 x2 x3 z1 z2 z3))
     | (go_at_call 27; (with_reducible refine (H5x.out _).mono ?_); rintro e w4 ⟨rfl, rfl⟩))
    go_ret
    exact ⟨by rw [HR.out]; rfl, by first | exact HB3.out | (rw [HS0.out]; exact HB3.out)⟩
   ·have HR := Lib.hid (HNo.out (by rw [HPx.out]; rfl))
    clear HNo HPx
    go_wp2_with (first
     | (go_at_call 26; first
     | ((with_reducible refine (H3x.out _ HV1.out.hz).mono ?_); rintro e w2 ⟨rfl, hb⟩; have HA3 := Lib.hid (ab_new w2 50 fa); have HV2 := Lib.hid ((HV1.out.up hb).up (below_alloc_new (.cells #[.int .i64 fa.code, .int .i64 fa.kind, .int .i64 fa.basis, .int .i64 fa.par] 50))); have HL2 := Lib.hid ((HL1.out.up hb).up (below_alloc_new (.cells #[.int .i64 fa.code, .int .i64 fa.kind, .int .i64 fa.basis, .int .i64 fa.par] 50))); have HB2 := Lib.hid ((HB1.out.trans (hb.mono HSZ1.out)).alloc (Nat.le_trans HSZ1.out hb.size) (.cells #[.int .i64 fa.code, .int .i64 fa.kind, .int .i64 fa.basis, .int .i64 fa.par] 50)); have HSZ2 : Hid (s0 ≤ (w2.alloc (.cells #[.int .i64 fa.code, .int .i64 fa.kind, .int .i64 fa.basis, .int .i64 fa.par] 50)).heap.size) := Lib.hid (Nat.le_trans (Nat.le_trans HSZ1.out hb.size) (by (simp))); clear hb v0 v1 v2 vlt y0 y1 y2 y3 y4 ylt; obtain ⟨⟨v0, v1, v2⟩, vlt⟩ := HL2.out; simp only [Nat.zero_add] at v1 v2; obtain ⟨y0, y1, y2, y3, y4, ylt⟩ := HV2.out.eb)
     | ((with_reducible refine (H4x.out _ HV2.out.hx).mono ?_); rintro e w3 ⟨rfl, hb⟩; have HA4 := Lib.hid ((HA3.out.up hb).up (below_alloc_new (.cells #[.int .i64 fb.code, .int .i64 fb.kind, .int .i64 fb.basis, .int .i64 fb.par] 50))); have HA5 := Lib.hid (ab_new w3 50 fb); have HV3 := Lib.hid ((HV2.out.up hb).up (below_alloc_new (.cells #[.int .i64 fb.code, .int .i64 fb.kind, .int .i64 fb.basis, .int .i64 fb.par] 50))); have HL3 := Lib.hid ((HL2.out.up hb).up (below_alloc_new (.cells #[.int .i64 fb.code, .int .i64 fb.kind, .int .i64 fb.basis, .int .i64 fb.par] 50))); have HB3 := Lib.hid ((HB2.out.trans (hb.mono HSZ2.out)).alloc (Nat.le_trans HSZ2.out hb.size) (.cells #[.int .i64 fb.code, .int .i64 fb.kind, .int .i64 fb.basis, .int .i64 fb.par] 50)); clear hb v0 v1 v2 vlt y0 y1 y2 y3 y4 ylt; obtain ⟨⟨v0, v1, v2⟩, vlt⟩ := HL3.out; simp only [Nat.zero_add] at v1 v2; obtain ⟨y0, y1, y2, y3, y4, ylt⟩ := HV3.out.eb; obtain ⟨⟨x0, x1, x2, x3⟩, xlt⟩ := HA4.out; obtain ⟨⟨z0, z1, z2, z3⟩, zlt⟩ := HA5.out; simp only [Nat.zero_add] at x1 x2 x3 z1 z2 z3))
     | (go_at_call 27; (with_reducible refine (H5x.out _).mono ?_); rintro e w4 ⟨rfl, rfl⟩))
    go_ret
    exact ⟨by rw [HR.out]; rfl, by first | exact HB3.out | (rw [HS0.out]; exact HB3.out)⟩
   ·have HP2 : Hid (allTo P (k + 1) = true) := Lib.hid (by show (allTo P k && P k) = true; rw [HA.out, HPx.out]; rfl)
    clear HNo HPx
    go_wp2_with (first
     | (go_at_call 26; first
     | ((with_reducible refine (H3x.out _ HV1.out.hz).mono ?_); rintro e w2 ⟨rfl, hb⟩; have HA3 := Lib.hid (ab_new w2 50 fa); have HV2 := Lib.hid ((HV1.out.up hb).up (below_alloc_new (.cells #[.int .i64 fa.code, .int .i64 fa.kind, .int .i64 fa.basis, .int .i64 fa.par] 50))); have HL2 := Lib.hid ((HL1.out.up hb).up (below_alloc_new (.cells #[.int .i64 fa.code, .int .i64 fa.kind, .int .i64 fa.basis, .int .i64 fa.par] 50))); have HB2 := Lib.hid ((HB1.out.trans (hb.mono HSZ1.out)).alloc (Nat.le_trans HSZ1.out hb.size) (.cells #[.int .i64 fa.code, .int .i64 fa.kind, .int .i64 fa.basis, .int .i64 fa.par] 50)); have HSZ2 : Hid (s0 ≤ (w2.alloc (.cells #[.int .i64 fa.code, .int .i64 fa.kind, .int .i64 fa.basis, .int .i64 fa.par] 50)).heap.size) := Lib.hid (Nat.le_trans (Nat.le_trans HSZ1.out hb.size) (by (simp))); clear hb v0 v1 v2 vlt y0 y1 y2 y3 y4 ylt; obtain ⟨⟨v0, v1, v2⟩, vlt⟩ := HL2.out; simp only [Nat.zero_add] at v1 v2; obtain ⟨y0, y1, y2, y3, y4, ylt⟩ := HV2.out.eb)
     | ((with_reducible refine (H4x.out _ HV2.out.hx).mono ?_); rintro e w3 ⟨rfl, hb⟩; have HA4 := Lib.hid ((HA3.out.up hb).up (below_alloc_new (.cells #[.int .i64 fb.code, .int .i64 fb.kind, .int .i64 fb.basis, .int .i64 fb.par] 50))); have HA5 := Lib.hid (ab_new w3 50 fb); have HV3 := Lib.hid ((HV2.out.up hb).up (below_alloc_new (.cells #[.int .i64 fb.code, .int .i64 fb.kind, .int .i64 fb.basis, .int .i64 fb.par] 50))); have HL3 := Lib.hid ((HL2.out.up hb).up (below_alloc_new (.cells #[.int .i64 fb.code, .int .i64 fb.kind, .int .i64 fb.basis, .int .i64 fb.par] 50))); have HB3 := Lib.hid ((HB2.out.trans (hb.mono HSZ2.out)).alloc (Nat.le_trans HSZ2.out hb.size) (.cells #[.int .i64 fb.code, .int .i64 fb.kind, .int .i64 fb.basis, .int .i64 fb.par] 50)); clear hb v0 v1 v2 vlt y0 y1 y2 y3 y4 ylt; obtain ⟨⟨v0, v1, v2⟩, vlt⟩ := HL3.out; simp only [Nat.zero_add] at v1 v2; obtain ⟨y0, y1, y2, y3, y4, ylt⟩ := HV3.out.eb; obtain ⟨⟨x0, x1, x2, x3⟩, xlt⟩ := HA4.out; obtain ⟨⟨z0, z1, z2, z3⟩, zlt⟩ := HA5.out; simp only [Nat.zero_add] at x1 x2 x3 z1 z2 z3))
     | (go_at_call 27; (with_reducible refine (H5x.out _).mono ?_); rintro e w4 ⟨rfl, rfl⟩))
    obtain ⟨g6, hg6⟩ : ∃ g6, wr.heap.size = g6 := ⟨_, rfl⟩
    rw [hg6] at HL3 ⊢
    obtain ⟨W3, hW3⟩ : ∃ W3, w3.alloc (.cells #[.int .i64 fb.code, .int .i64 fb.kind, .int .i64 fb.basis, .int .i64 fb.par] 50) = W3 := ⟨_, rfl⟩
    rw [hW3] at HV3 HL3 HB3 ⊢
    clear v0 v1 v2 vlt y0 y1 y2 y3 y4 ylt x0 x1 x2 x3 xlt z0 z1 z2 z3 zlt HV1 HV2 HL1 HL2 HB1 HB2 HA3 HA4 HA5 c0 c1 c2 c3 c4 lt d0 d1 d2 hW3 hg6 HV
    go_loopg [11] k (fun jx s11 W => ∃ j : Nat, s11 = .int .i64 j ∧ j ≤ k ∧ k - j ≤ jx ∧ Hid (allTo (fun t => !S9 k t) j = true) ∧ Hid (V9 W s0 nm cur A n cp (some ⟨b, off, none⟩) m d jt L K C c) ∧ Hid (LB W g6 x) ∧ Below s0 w W)
    case atStart => exact ⟨0, rfl, by omega, by omega, Lib.hid rfl, HV3, HL3, HB3.out⟩
    case round =>
     clear HV3 HL3 HB3
     rename World => W
     obtain ⟨j, rfl, hj, hjx, HJ, HV, HL, hB⟩ := hrel
     obtain ⟨c0, c1, c2, c3, c4, lt⟩ := HV.out.eb
     obtain ⟨⟨v0, v1, v2⟩, vlt⟩ := HL.out
     simp only [Nat.zero_add] at v1 v2
     by_cases hjl : j < k
     ·have hjz : (j : Int) < (k : Int) := by omega
      have hjm : j < m := by omega
      have hjmz : (j : Int) < (m : Int) := by omega
      obtain ⟨b9, off9, eB, hbw, hcs⟩ := HV.out.hy (by rw [HM.out]; omega)
      cases eB
      obtain ⟨d0, d1, d2⟩ := hcs j (by rw [HM.out]; omega)
      have hs9 := HS9.out j
      have hno := HN5.out k j hlt hjl
      obtain ⟨y, hy⟩ : ∃ y, K.getD j lnk0 = y := ⟨_, rfl⟩
      rw [hy] at d0 d1 d2 hs9
      have HBK := Lib.hid hB
      clear hcs hy
      by_cases h1 : y.frm = x.frm
      ·have e1 : (y.frm == x.frm) = true := by simp [h1]
       rw [decide_eq_true h1, Bool.true_and] at hs9
       by_cases h2 : y.since = x.since
       ·have e2 : (y.since == x.since) = true := by simp [h2]
        have HR := Lib.hid (hno (hs9.trans (decide_eq_true h2)))
        clear h1 h2 hs9 hno
        go_wp2_with fail
        go_quiet (fail)
        have hB4 := below_drewN HBK.out nq
        generalize World.drewN _ nq = W8 at *
        go_wp2_with fail
        go_ret
        exact ⟨by rw [HR.out]; rfl, by first | exact hB4 | (rw [HS0.out]; exact hB4)⟩
       ·have e2 : (y.since == x.since) = false := by simp [h2]
        have HJ2 : Hid (allTo (fun t => !S9 k t) (j + 1) = true) := Lib.hid (by show (allTo (fun t => !S9 k t) j && !S9 k j) = true; rw [HJ.out, hs9, decide_eq_false h2]; rfl)
        clear h1 h2 hs9 hno
        go_wp2_with fail
        go_quiet (fail)
        have hB4 := below_drewN HBK.out nq
        have HV4 := Lib.hid (HV.out.up (below_drewN (Below.refl _ _) nq))
        have HL4 := Lib.hid (HL.out.up (below_drewN (Below.refl _ _) nq))
        clear HV HL hB HBK c0 c1 c2 c3 c4 lt v0 v1 v2 vlt d0 d1 d2
        generalize World.drewN _ nq = W8 at *
        go_wp2_with fail
        go_roundg (k - (j + 1))
        case measure => omega
        case rel => exact ⟨j + 1, by go_num, by omega, by omega, HJ2, HV4, HL4, hB4⟩
      ·have e1 : (y.frm == x.frm) = false := by simp [h1]
       have HJ2 : Hid (allTo (fun t => !S9 k t) (j + 1) = true) := Lib.hid (by show (allTo (fun t => !S9 k t) j && !S9 k j) = true; rw [HJ.out, hs9, decide_eq_false h1]; rfl)
       clear h1 hs9 hno
       go_wp2_with fail
       go_quiet (fail)
       have hB4 := below_drewN HBK.out nq
       have HV4 := Lib.hid (HV.out.up (below_drewN (Below.refl _ _) nq))
       have HL4 := Lib.hid (HL.out.up (below_drewN (Below.refl _ _) nq))
       clear HV HL hB HBK c0 c1 c2 c3 c4 lt v0 v1 v2 vlt d0 d1 d2
       generalize World.drewN _ nq = W8 at *
       go_wp2_with fail
       go_roundg (k - (j + 1))
       case measure => omega
       case rel => exact ⟨j + 1, by go_num, by omega, by omega, HJ2, HV4, HL4, hB4⟩
     ·obtain rfl : j = k := by omega
      have hjz : ¬ (j : Int) < (j : Int) := by omega
      have HD2 : Hid (allTo D9 (j + 1) = true) := Lib.hid (by show (allTo D9 j && D9 j) = true; rw [HA9.out, HD.out j]; exact HJ.out)
      go_wp2_with fail
      go_roundg (m - (j + 1))
      case measure => omega
      case rel => exact ⟨j + 1, by go_num, by omega, by omega, HP2, HD2, HV, hB⟩
  ·obtain rfl : k = m := by omega
   have hltz : ¬ (k : Int) < (k : Int) := by omega
   have HR := Lib.hid (HNE2.out HA.out HA9.out)
   go_wp2_with fail
   go_ret
   exact ⟨by rw [HR.out]; rfl, by first | exact hB | (rw [HS0.out]; exact hB)⟩
end Go.Proofs.Ytmahnpbjjadipaa
